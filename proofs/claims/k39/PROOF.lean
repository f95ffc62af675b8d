import PyProof.Rows.All
import Wide.All
import OpenK.AllK
import Wide.FinOn
import Lean
import PyProof.EqAt
import PyProof.EqKinds
import PyProof.TupleCall
import PyProof.IsiNone
import PyProof.NeKinds
import PyProof.MaxThree
import PyProof.NsDelKeeps
import KE.KTryMore
import KE.KIsAll
import PyProof.ExcAttrAll.ValueError
import PyProof.Rows.SetFrom
import PyProof.WalksMore
import PyProof.CallStr
import PySem.Challenge.RW_mowfloor_k39_some_tree
set_option maxHeartbeats 4000000
set_option Elab.async false
set_option linter.all false
set_option maxRecDepth 100000
open List (range range')
open Nat (beq)
section
open PySem renaming wpAny_bind->aH,wpAny_pure->ba,wpAny_newObj_type->jG,wpAny_call_entry->kh,wpAny_callSpecial?_slot->o',wpAny_holding->ki,wpAny_mono->ip,wpAny_seqItems->mE,wpAny_setState_of->o_,wpAny_field->kQ,wpAny_truthy_bool->ru,wpAny_typeNameOfWhole_keyiter->Av,wpAny_rule->mF,wpAny_Call_Name_kw->uW,wpAny_setField_rec->uX,wpAny_passesOwn->sL,wpAny_setEntries_of->xq,wpAny_forIn_list->uY,wpAny_setField->sM,wpAny_execs_nil->uZ,codeAny_builtin->u0,wpAny_fieldsOf->u1,wpAny_isInstance->xr,wpAny_attempt->u2,wpAny_specialOf->xt,codeAny_mono->u3,wpAny_typeOf->u4,wpAny_dictEntries->Aw,isSubtype_type->xu,plainId_quiet->xv,wpAny_updateSeq_pair->Eg,wpAny_pyIter_slot->Eh,wpAny_onRaise->Ax,wpAny_newList->Ay,filterMap_getElem?_range->JS,noFill_tuple_add->Ei,wpAny_askSetting->Ej,wpAny_dictEpoch->Ek,wpAny_ite_split->El,wpAny_isOneOf_keyiter->JT,wpAny_setFlight_noneW->JU,builtinLookup_eq_fast->JV,sizeLine_eq->Az,wpAny_of_eq->AA,isSubtype_stop->Em,wpAny_letGo->AB,wpAny_Assign_stores->JW,wpAny_standAt->En,seq_tuple_add->Eo,wpAny_handled->Ep,call_meets->AD,eqIsQuiet_byValue->JX,wpAny_assign_Name->JY,concat_meets->Er,wpAny_sequenceKey->JZ,seqIndex_neg->Es,slot_list_getitem->J0,list_append->J1,wpAny_pyIter_list->J2,wpAny_storeSet_of->J3,wpAny_setEpoch_of->J4,wpAny_pyHash_int->J5,wpAny_pyHash_str->J6,wpAny_execs_cons->J7,wpAny_pyIter_zip->J8,wpAny_Try_except->J9,seqIndex_of->Et,wpAny_throw->Eu,wpAny_ret_mkInt->J',codeAny_of_tree->J_,typeLookup_type->Ka,wpAny_updateSeq->Kb,wpAny_Name->Ew,wpAny_load->Ex,wpAny_call->Ey,wpAny_newTuple->Kc,entryFor_alias->Kd,wpAny_runValue->Ke,evalPart_none->Kf,call_list_seq->Kg,intBits_le_64->Kh,signature?_of->Ki
open Option renaming bind_eq_some_iff->cv,map_eq_some_iff->dK,getD_some->xw,bind_some->xx,isSome_iff_exists->Ez,isSome_map->AE,map_some->AF,getD_none->Kj
open List renaming append_assoc->bY,getD_eq_getElem?_getD->du,length_map->b3,mem_singleton->c2,append_nil->c5,mem_cons->cK,perm_append_comm->ek,getElem?_eq_getElem->fg,size_toArray->dY,nodup_append->eA,length_append->eZ,mem_append_left->fD,mem_append_right->fR,map_cons->dQ,length_cons->eS,mem_append->e3,pairwise_singleton->h4,getElem?_eq_some_iff->iJ,take_append_drop->hr,getElem?_map->gJ,mem_map->e0,mem_of_getElem?->iq,length_take->ir,length_drop->iu,pairwise_cons->kj,not_mem_nil->jH,mem_filter->jk,map_append->jl,mem_range->iK,getElem?_append_right->qh,getElem?_append_left->qi,drop_eq_getElem_cons->qj,nodup_cons->lO,lookup_cons->mG,all_eq_true->mH,mem_cons_of_mem->pa,mem_of_mem_drop->pb,length_singleton->qk,pairwise_iff_getElem->sN,length_range->pd,mem_cons_self->ql,getElem?_set_ne->rv,mem_of_mem_take->rx,find?_cons->n6,map_take->mI,map_map->lP,eq_nil_of_length_eq_zero->xy,getElem?_drop->ry,mem_iff_getElem->sO,map_drop->n7,drop_zero->pe,drop_of_length_le->u5,filterMap_cons->sP,foldl_cons->qm,nil_append->qn,getElem?_take->sQ,mem_flatMap->rz,nodup_nil->qo,getElem?_eq_none->xA,of_mem_zip->sR,take_sublist->u6,getElem_drop->u7,ext_getElem?->u9,map_congr_left->xB,drop_drop->sS,take_length->u',any_eq_true->u_,getElem?_set_self->AG,any_cons->sT,dropLast_eq_take->AH,length_filter_le->AI,flatMap_cons->xC,getElem?_of_mem->AJ,mem_nil_iff->xD,getElem?_zip_eq_some->EA,length_pos_iff->AK,getElem?_take_of_lt->EB,filterMap_cons_some->EC,length_set->xE,mem_filterMap->AL,getElem_take->AM,take_of_length_le->ED,drop_take->xF,drop_sublist->AN,getElem?_set->AO,pairwise_map->AP,eraseIdxIfInBounds_toArray->Kk,getElem?_toArray->EE,cons_append->AQ,nodup_range->AR,getElem_mem->AS,any_toArray->AU,countP_cons->AV,length_dropLast->EF,map_eq_cons_iff->EG,forIn_cons->AW,mem_map_of_mem->EH,filter_sublist->EI,take_take->AX,take_zero->AY,setIfInBounds_toArray->Kl,zip_cons_cons->EJ,perm_ext_iff_of_nodup->Km,length_eraseIdx_of_lt->Kn,getLast?_eq_getElem?->Ko,foldl_append->EK,length_erase_of_mem->Kp,getElem_inj->EL,drop_length->EM,zipIdx_cons->EN,ext_getElem->EO,set_set->AZ,length_pos_of_mem->Kq,length_zip->EP,pairwise_append->Kr,extract_toArray->Ks,mem_erase_of_ne->Kt,getElem?_range->Ku,set_comm->ER,map_filterMap->Kv,any_map->ES,countP_congr->Kw,map_toArray->Kx,getElem_map->Ky,filter_cons->Kz,flatMap_nil->KA,map_id->ET,length_nil->KC,zipIdx_nil->KD,zip_append->KG,forIn_nil->KH,all_map->KI,map_nil->KJ
open PySem.Heap renaming get?_push_of_some->dc,lt_size->c8,get?_push_size->fw,get?_update_other->qp,get?_update_self->sU,size_push->pf
open PySem.W renaming kasC_pure->bt,kasC_bind->bH,mg_none_of->kR,kasC_range->hJ,hideAll_none->rA,kasC_modify->lQ,hideAll_get->va,of_hideAll->xG,kasC_get->mJ,mg_of->sV,kasC_lift->sW,callWith_K->EU,cellsFrom_some->KL,kat_item->A0,kas_swaps_map->KN
open Bool renaming and_eq_true->dv,false_ne_true->e1,false_eq_true->jI,not_true->sX,eq_iff_iff->A1,not_eq_true'->EV,or_eq_true->EW,and_true->EX,and_false->KO,false_or->KP,true_bne->KQ,true_or->KR
open Nat renaming le_refl->cp,ne_of_lt->eB,lt_of_lt_of_le->hs,le_trans->hh,le_of_ble_eq_true->nu,lt_or_ge->kS,zero_le->lR,lt_irrefl->pg,le_add_right->sY,min_eq_left->vb,not_lt_zero->vc,le_of_lt_succ->xH,le_of_lt->sZ,ne_of_gt->s6,lt_succ_self->xI,lt_of_le_of_lt->A2,lt_trichotomy->A3,add_assoc->xJ,lt_trans->xK,succ_pos->xM,not_lt->vd,add_zero->A4,add_comm->A5,lt_of_succ_lt_succ->KS,eq_of_beq_eq_true->KU,eq_zero_or_pos->KV,mod_lt->A6,lt_succ_of_lt->KW,sub_self->EY,sub_zero->EZ,lt_succ_of_le->KY,min_eq_right->KZ,le_antisymm->K0,min_self->K1,le_succ->K2
open Array renaming length_toList->eT,getElem?_toList->gV,getElem?_eq_getElem->n8,getElem?_eq_some_iff->s7,ext'->ph,toList_push->xN,forIn_toList->A7,getElem?_eq_none->E0,toList_filterMap->E1,getD_eq_getD_getElem?->K3,append_assoc->E2,perm_iff_toList_perm->K4,getElem_toList->K5,size_map->E3,mem_toList_iff->K6
open List.Perm renaming append_left->fK,append_right->g8,map->A8,eq_of_pairwise->Sg,cons_inv->Sh
open PyProof.Rows renaming slot_tuple_getitem->ve,callWith_type1->A9,callWith_builtin1->K7,subscriptTail_builtinR->K8,entry_list_sort->E4,slot_list_sort->E5,args_list_sort->E6,entry_tuple_getitem->K9,assign_Tuple_tuple->K',args_tuple_getitem->K_,plain_sorted->E7,entry_sorted->E8,args_sorted1->E9,kind_sorted->E',get?_update_seq->La,slicePart_none->Lb,elem'_eq->A',tupleItemsOf_->Lc,listUpdate_at->Ld,lt_int->Si
open PySem.PassesOwn renaming never->nv
open PySem.Heap.SameBut renaming update->qq
open PySem.F renaming plainAttrs_list->s8,slot_dict_keyiterator_next->xO,called_set->rB,slot_tuple_iterator_next->A_,slot_tuple_hash->xP,args_tuple_add_2->E_,slot_list_append->Fb,type_list_append->Fc,slot_list_extend->Fd,type_list_extend->Fe,entry_tuple_add->Ff,slot_tuple_add->Fg,args_dict_keyiterator_next_1->Le,entry_dict_keyiterator_next->Lf,args_tuple_iterator_next_1->Lg,slot_zip_next->Ba,entry_tuple_iterator_next->Lh,excBase_ValueError->Li,plain_extend_loop->Lj,plain_list_iadd->Lk,plain_set_new->Ll,slot_set_iter->Lm,args_list_append_2->Ln,entry_list_append->Lo,slot_list_append->Lp,args_zip_next_1->Lq,slot_dict_iter->Lr,entry_zip_next->Ls,slot_dict_len->Lu
open Int renaming toNat_natCast->rC,emod_lt_of_pos->xQ,emod_nonneg->vf,le_refl->vg,le_trans->Fh,not_lt->Fi,mul_one->Lv
open Ne renaming symm->h5
open PyProof.Rows.F renaming plain_set_update_loop->Fj,entry_set_update_loop->Lw
open PySem.Obj renaming data_mapFields->vh,isFreed_of_fields->Fl,cls_mapFields->Fm
open PySem.Calls renaming call_function_entry->Bb,Name_function_global->Lx,callWith_builtin->Ly,evalArgs_plain->Lz,spliced_cons->LA,spliced_nil->LB
open Classical renaming byContradiction->Bc
open PySem.Around renaming under_plainId->xR
open Prod renaming ext->nx
open PySem.SetTable renaming toList_insertAt->LC
open List.Pairwise renaming sublist->LD,map->LF,imp_of_mem->Sj,filterMap->Sk,filter->Sl,imp₂->Sm
open PySem.SeqAt.EqAt renaming int_str->LG,str_int->LH,none_tuple->Sn,bool_tuple->So,tuple_none->Sp,tuple_bool->Sq,none_bool->Sr,bool_none->Ss,bool_bool->Su,int_tuple->Sv,str_tuple->Sw,tuple_int->Sx,tuple_str->Sy,none_int->Sz,none_str->SA,bool_int->SD,bool_str->SE,int_none->SF,int_bool->SG,str_none->SH,str_bool->SI,int_int->SJ,str_str->SK,of_refs->SM
open PySem.SeqAt.RcAt renaming tuples->LI,lists_lengths->SN,none_tuple->SO,bool_tuple->SP,tuple_none->SQ,tuple_bool->SR,none_none->SS,none_bool->SU,bool_none->SV,bool_bool->SW,int_tuple->SX,str_tuple->SY,tuple_int->S0,tuple_str->S1,none_int->S2,none_str->S3,bool_int->S4,bool_str->S5,int_none->S6,int_bool->S7,str_none->S8,str_bool->S9,int_int->S',int_str->S_,str_int->Ta,str_str->Tb,lists->Tc
open PySem.IsL renaming update->LJ
open PySem.W.Looks renaming ld->LK,of_pure->LL
open PySem.SeqAt.RcNeAt renaming lists_lengths->Td,none_tuple->Te,bool_tuple->Tf,tuple_none->Tg,tuple_bool->Th,none_none->Ti,none_bool->Tj,bool_none->Tn,bool_bool->To,int_tuple->Tp,str_tuple->Tq,tuple_int->Tr,tuple_str->Ts,none_int->Tt,none_str->Tu,bool_int->Tv,bool_str->Tw,int_none->Tx,int_bool->Tz,str_none->TA,str_bool->TB,int_int->TC,int_str->TF,str_int->TG,str_str->TH,tuples->TJ,lists->TK
open Prod.mk renaming injEq->LM
open PySem renaming Scope->iL,Str->aQ,Heap->br,Value->aj,CmpOp->vi,Sem->gK,Addr->ar,Stmt->cg,Expr->bM,Obj->bE,Pos->dk,Shared->aA,Around->cj,World->bN,Program->cc,Builtin->b8,cLine->c6,model->a',isInstance->Bd,Tok->lS,Paired->hi,sysModules->mK,mainGlobals->fm,builtinsNs->Fn,bootBuiltins->gL,Env->fL,Model->jJ,eval->de,isTrue->vj,backTo->ht,starEach->cx,swapsWith->s9,assign->lT,assignEach->jK,setItem->Be,swapsWithSole->Bf,swappedStores->Bg,PassesOwn->vk,pyNext->jL,letOwnedTupleGo->xS,pyIter->s_,rawInt->gv,Walks->qr,foldedSetIterable->rD,binaryOp->iM,compareOp->fM,behindInMarks->vl,lastMarks->Bh,recursionLimit->LN,Result->Bi,FuncData->iN,BindsTo->rE,bindArgs->vm,Keyword->xT,NameKind->e4,cellsFrom->Fo,IsPart->pj,getItem->rF,sliceBounds->ta,PlainAttrs->Bj,typeOf->tb,attributeBase->Bk,valueAt->tc,atKey->qs,Params->Bl,callerA->td,cellOf->Bm,compEnvC->Bn,comprehension->Fp,newList->vn,setField->Fq,newExc->vo,newTuple->Fs,firstArgMember->vp,seqItems?->xU,ZipApart->Bo,IsZip->ny,IsPair->lU,shortFactorBits->Bp,checkCount->Ft,PyData->xV,ExceptHandler->Fu,SetTable->a_,hashByValue->Bq,ofAClassStatement->Br,searchCouldBeSeen->LO,carriedByValue->LP,setSearchFrom->LQ,entryFor->Fv,argsOk->Bs,drawOrder->Fw,setNext->rG,setEntries->Bt,pickOrder->nz
open Bool renaming true->af,false->aD
open Option renaming some->J,none->aa
open PyProof.Rows renaming IsTup->pk,AllBare->pl,envOfC->mL,subscriptTail->LR,IntsAre->xW,bubble->xX,SortKind->jM,Keyed->cw,SortSt->cL,pendingOf->hL,failedOf->kT,mergeAt'->Bu,minRun'->Bv,seqObj->hu,keyKind'->Fx,tuples'->vq
open PySem.W renaming WData->xY,WShape->xZ,kas_rev->vr,kas_cmp->iO,kas_item->cy,kas_st->Bw
noncomputable abbrev aV:=@if_pos
noncomputable abbrev aZ:=@if_neg
noncomputable abbrev eL:=@decide_eq_true
noncomputable abbrev gg:=@of_decide_eq_true
noncomputable abbrev bi:=@decide_eq_false
noncomputable abbrev pn:=@decide_eq_true_iff
noncomputable abbrev pq:=@beq_self_eq_true
noncomputable abbrev hM:=@if_false
noncomputable abbrev lV:=@or_false
noncomputable abbrev pv:=@beq_iff_eq
noncomputable abbrev x1:=@decide_eq_true_eq
noncomputable abbrev lW:=@if_true
noncomputable abbrev Fy:=@decide_eq_false_iff_not
noncomputable abbrev Fz:=@decide_eq_decide
namespace L2
open PySem PySem.Spec PyProof.Rows
variable{scope:iL}{qual x:aQ}{base h:br}{mg:aQ->Option aj}{ps N:List aQ}{mM op:vi}{f:aj->aj->gK aj}{c9 ch:List ar}{body:List cg}{g:Int->Int->Int}{tg c e:bM}{n k i t':Nat}{es:List bM}{K:PySem.W.Frag}{pins:List (ar×bE)}{pos:dk}{s s':aA}{Q E:aj->aA->Prop}{A:cj}{it b a:ar}{d':Drawn}{g':Array GenState}{w:bN}{P:cc}{u:aj}{us:List aj}
inductive ah where
 | bu|aR (b:Bool)|int (i:Int)|str (x:aQ)|tup (ds:List ah)|fn (a:ar)|bf (ds:List ah)|fd
mutual
noncomputable def ah.beq:ah->ah->Bool
 |.bu,.bu=>af
 |.aR a,.aR b=>a==b
 |.int i,.int j=>decide (i=j)
 |.str x,.str y=>decide (x=y)
 |.tup a,.tup b=>ah.qt a b
 |.fn a,.fn b=>decide (a=b)
 |.bf a,.bf b=>ah.qt a b
 |.fd,.fd=>af
 |_,_=>aD
noncomputable def ah.qt:List ah->List ah->Bool
 |[],[]=>af
 |a::r,b::t=>ah.beq a b&&ah.qt r t
 |_,_=>aD
end
mutual
theorem ah.beq_iff:∀a b:ah,ah.beq a b=af↔a=b
 |.bu,b=>by cases b<;>simp[ah.beq]
 |.aR a,b=>by cases b<;>simp[ah.beq]
 |.int i,b=>by cases b<;>simp[ah.beq]
 |.str x,b=>by cases b<;>simp[ah.beq]
 |.tup x,b=>by
  cases b with
  |tup y=>rw[ah.beq,ah.FA x y];simp
  |_=>simp[ah.beq]
 |.fn a,b=>by cases b<;>simp[ah.beq]
 |.bf x,b=>by
  cases b with
  |bf y=>rw[ah.beq,ah.FA x y];simp
  |_=>simp[ah.beq]
 |.fd,b=>by cases b<;>simp[ah.beq]
theorem ah.FA:∀a b:List ah,ah.qt a b=af↔a=b
 |[],b=>by cases b<;>simp[ah.qt]
 |x::r,b=>by
  cases b with
  |nil=>simp[ah.qt]
  |cons y t=>rw[ah.qt,dv,ah.beq_iff x y,ah.FA r t];simp
end
noncomputable instance:DecidableEq ah:=λa b=>decidable_of_iff (ah.beq a b=af) (ah.beq_iff a b)
mutual
noncomputable def fN(h:br):ah->aj->Prop
 |.bu,v=>v=.none
 |.aR b,v=>v=.bool b
 |.int i,v=>∃t,v=.int i t
 |.str x,v=>∃t,v=.str x t
 |.fn a,v=>v=.ref a
 |.bf _,v=>∃a,v=.ref a
 |.fd,v=>∃a,v=.ref a
 |.tup ds,v=>∃a o items n,v=.ref a/\h.get? a=J o/\o.cls=.type "tuple" /\ o.data=.seq items n/\fh h ds items.toList
noncomputable def fh(h:br):List ah->List aj->Prop
 |[],vs=>vs=[]
 |d::ds,vs=>∃v r,vs=v::r/\fN h d v/\fh h ds r
end
mutual
noncomputable def ah.key:Nat->ah->Bool
 |_,.int _=>af
 |_,.str _=>af
 |n+1,.tup ds=>ah.keys n ds
 |_,_=>aD
noncomputable def ah.keys:Nat->List ah->Bool
 |_,[]=>af
 |n,d::ds=>ah.key n d&&ah.keys n ds
end
mutual
noncomputable def e5(w:bN):ah->Int
 |.int i=>hashInt i
 |.str x=>hashStr w x
 |.tup ds=>reduceHash (b8.Tuple.tupleHashOf<|db w ds)
 |_=>0
noncomputable def db(w:bN):List ah->List Int
 |[]=>[]
 |d::ds=>e5 w d::db w ds
end
mutual
noncomputable def Bx:ah->Nat
 |.tup ds=>n9 ds+1
 |_=>1
noncomputable def n9:List ah->Nat
 |[]=>0
 |d::ds=>Bx d+n9 ds
end
theorem FC(w:bN):∀a b:List ah,db w (a++b)=db w a++db w b
 |[],b=>rfl
 |d::a,b=>by rw[AQ,db,db,FC w a b,AQ]
theorem FD:∀a b:List ah,n9 (a++b)=n9 a+n9 b
 |[],b=>by simp[n9]
 |d::a,b=>by rw[AQ,n9,n9,FD a b];lia
theorem KB{n:Nat}:∀{a b:List ah},ah.keys n (a++b)=af->ah.keys n b=af
 |[],b,h=>h
 |d::a,b,h=>by rw[AQ,ah.keys,dv]at h;exact KB h.2
theorem fh.length{h:br}:∀{ds:List ah}{vs:List aj},fh h ds vs->ds.length=vs.length
 |[],vs,e=>by rw[show vs=[] from e];rfl
 |d::ds,vs,e=>by
  obtain⟨v,r,rfl,_,e⟩:=e;rw[eS,eS,fh.length e]
noncomputable def By(h h':br):Prop:=∀a o items n,h.get? a=J o->o.cls=.type "tuple" -> o.data=.seq items n->h'.get? a=J o
mutual
theorem fN.keep{h h':br}(k:By h h'):∀{d:ah}{v:aj},fN h d v->fN h' d v
 |.bu,_,e=>e
 |.aR _,_,e=>e
 |.int _,_,e=>e
 |.str _,_,e=>e
 |.fn _,_,e=>e
 |.bf _,_,e=>e
 |.fd,_,e=>e
 |.tup ds,_,e=>by
  obtain⟨a,o,items,n,rfl,O,U,aL,aU⟩:=e;exact⟨a,o,items,n,rfl,k a o items n O U aL,U,aL,fh.keep k aU⟩
theorem fh.keep{h h':br}(k:By h h'):∀{ds:List ah}{vs:List aj},fh h ds vs->fh h' ds vs
 |[],_,e=>e
 |d::ds,_,e=>by
  obtain⟨v,r,rfl,O,U⟩:=e;exact⟨v,r,rfl,fN.keep k O,fh.keep k U⟩
end
theorem KF{h:br}:∀(n:Nat) {x y:ah}{v:aj},ah.key n x=af->ah.key n y=af->fN h x v->fN h y v->x=y
 |n,.int i,y,v,_,bO,ag,aw=>by
  obtain⟨t,rfl⟩:=ag;cases y with
  |int j=>obtain⟨u,e⟩:=aw;injection e with e;rw[e]
  |str z=>obtain⟨u,e⟩:=aw;cases e
  |tup ds=>obtain⟨_,_,_,_,e,_⟩:=aw;cases e
  |_=>cases n<;>cases bO
 |n,.str z,y,v,_,bO,ag,aw=>by
  obtain⟨t,rfl⟩:=ag;cases y with
  |int j=>obtain⟨u,e⟩:=aw;cases e
  |str z=>obtain⟨u,e⟩:=aw;injection e with e;rw[e]
  |tup ds=>obtain⟨_,_,_,_,e,_⟩:=aw;cases e
  |_=>cases n<;>cases bO
 |n+1,.tup ds,y,v,gw,bO,ag,aw=>by
  obtain⟨a,o,items,m,rfl,O,U,aL,aU⟩:=ag;cases y with
  |int j=>obtain⟨u,e⟩:=aw;cases e
  |str z=>obtain⟨u,e⟩:=aw;cases e
  |tup es=>
   obtain⟨vt,cA,jN,e6,e,g1,g2,g3,eM⟩:=aw;cases e;rw[O]at g1;cases g1;rw[aL]at g3;injection g3 with g3 _;subst g3;have all:∀(ds es:List ah) (vs:List aj),ah.keys n ds=af->ah.keys n es=af->fh h ds vs->fh h es vs->ds=es:=by
    intro ds;induction ds with
    |nil=>
     intro es vs _ _ a b;cases es with
     |nil=>rfl
     |cons e es=>obtain⟨_,_,q,_⟩:=b;rw[show vs=[] from a]at q;cases q
    |cons d ds bS=>
     intro es vs k1 k2 a b;obtain⟨v,r,rfl,a1,a2⟩:=a;cases es with
     |nil=>cases (show v::r=[] from b)
     |cons e es=>
      obtain⟨jm,cG,q,cO,d1⟩:=b;cases q;rw[ah.keys,dv]at k1 k2;rw[KF n k1.1 k2.1 a1 cO,bS es r k1.2 k2.2 a2 d1]
   rw[all ds es _ gw bO aU eM]
  |_=>cases bO
 |_,.bu,_,_,k,_,_,_=>by cases ‹Nat›<;>cases k
 |_,.aR _,_,_,k,_,_,_=>by cases ‹Nat›<;>cases k
 |_,.fn _,_,_,k,_,_,_=>by cases ‹Nat›<;>cases k
 |_,.bf _,_,_,k,_,_,_=>by cases ‹Nat›<;>cases k
 |_,.fd,_,_,k,_,_,_=>by cases ‹Nat›<;>cases k
 |0,.tup _,_,_,k,_,_,_=>by cases k
section
variable{prog:cc}{w:bN}
theorem KK:∀(n:Nat) {A:cj}{E:aj->aA->Prop}{s:aA}{d:ah}{v:aj}{Q:Int->aA->Prop},ah.key n d=af->A.units+n<c6->fN s.heap d v->Q (e5 w d) {s with toks:=s.toks+Bx d}->
  wpAny (a' prog w) A (pyHash v) Q E s
 |n,A,E,s,.int i,v,Q,_,_,bb,h=>by
  obtain⟨t,rfl⟩:=bb;exact J5 h
 |n,A,E,s,.str i,v,Q,_,_,bb,h=>by
  obtain⟨t,rfl⟩:=bb;exact J6 h
 |n+1,A,E,s,.tup ds,v,Q,k,bZ,bb,h=>by
  obtain⟨a,o,items,m,rfl,aS,av,hd,ao⟩:=bb;have dM:s.TypeIs (.ref a) "tuple" := ⟨o,aS,av⟩;unfold pyHash;first|unfold pyHashByItsType|skip
  first|refine aH (wpAny_cRoomFor_or (.inr (by lia)) ?_)|skip
  refine aH (xt dM xP.lookup ?_);show wpAny _ _ (if (J (aj.builtin "tuple.__hash__")==J aj.none)=af then _ else _) Q E s;rw[aZ (by rw[beq_builtin_none];exact e1)];refine aH (xt dM xP.lookup ?_);show wpAny _ _ (callSpecialIfBoundUnlessNone? (.ref a) "__hash__" _ >>= _) Q E s;refine aH (wpAny_callSpecialIfBoundUnlessNone?_slot dM xP<|kh xP dM F.entry_tuple_hash ?_<|F.args_tuple_hash_1 _);show wpAny _ _ (b8.Tuple.tupleItemsOf (.ref a) >>= _) _ _ s;refine aH (wpAny_tupleItemsOf aS hd ?_);refine aH ?_;rw[<-A7];refine uY _
   (λrest (b:Array Int) s'=>∃done left,ds=done++left/\fh s.heap left rest/\b.toList=db w done/\s'={s with toks:=s.toks+n9 done})
   _ ?_ ?_ _ _ ⟨[],ds,rfl,ao,rfl,rfl⟩
  ·rintro x rest b s' ⟨done,left,rfl,aF,ae,rfl⟩;cases left with
   |nil=>cases (show x::rest=[] from aF)
   |cons d left=>
    obtain⟨v,r,e,O,hv⟩:=aF;cases e;have k2:=KB (a:=done) (show ah.keys n (done++d::left)=af from k);rw[ah.keys,dv]at k2;refine aH (KK n k2.1 (by show A.units+1+n<c6;lia) O ?_);first
     | exact ba ⟨done++[d],left,by simp,hv,by simp[ae,FC,db],by simp[FD,n9,xJ]⟩
     | exact aH (ba (ba ⟨done++[d],left,by simp,hv,by simp[ae,FC,db],by simp[FD,n9,xJ]⟩))
  ·rintro b s' ⟨done,left,rfl,aF,ae,rfl⟩;cases left with
   |cons d left=>obtain⟨_,_,e,_⟩:=aF;cases e
   |nil=>
   rw[c5]at h;show wpAny _ _ (retInt<|b8.Tuple.tupleHashOf b.toList) _ _ _;rw[ae];refine J' ?_;show wpAny _ _ (if (decide (-(2:Int)^63<=b8.Tuple.tupleHashOf (db w done))&&decide (b8.Tuple.tupleHashOf (db w done)<2^63))=af then _ else _) Q E _;rw[e5,Bx]at h;unfold reduceHash at h;by_cases aO:(decide (-(2:Int)^63<=b8.Tuple.tupleHashOf (db w done))&&decide (b8.Tuple.tupleHashOf (db w done)<2^63))=af
   ·rw[aV aO];rw[aV aO]at h;exact ba (by simpa [xJ] using h)
   ·rw[aZ aO];rw[aZ aO]at h;exact aH (mF (ba (by simpa [xJ] using h)))
 |_,_,_,_,.bu,_,_,k,_,_,_=>by cases ‹Nat›<;>cases k
 |_,_,_,_,.aR _,_,_,k,_,_,_=>by cases ‹Nat›<;>cases k
 |_,_,_,_,.fn _,_,_,k,_,_,_=>by cases ‹Nat›<;>cases k
 |_,_,_,_,.bf _,_,_,k,_,_,_=>by cases ‹Nat›<;>cases k
 |_,_,_,_,.fd,_,_,k,_,_,_=>by cases ‹Nat›<;>cases k
 |0,_,_,_,.tup _,_,_,k,_,_,_=>by cases k
mutual
noncomputable def dy:ah->ah->Bool
 |.bu,.bu=>af
 |.aR a,.aR b=>a==b
 |.aR a,.int j=>(if a then 1 else 0)==j
 |.int i,.aR b=>i==(if b then 1 else 0)
 |.int i,.int j=>i==j
 |.str x,.str y=>x==y
 |.tup a,.tup b=>hx a b
 |_,_=>aD
noncomputable def hx:List ah->List ah->Bool
 |[],[]=>af
 |a::r,b::t=>dy a b&&hx r t
 |_,_=>aD
end
mutual
noncomputable def ah.bW:Nat->ah->Bool
 |_,.bu=>af
 |_,.aR _=>af
 |_,.int _=>af
 |_,.str _=>af
 |n+1,.tup ds=>ah.eC n ds
 |_,_=>aD
noncomputable def ah.eC:Nat->List ah->Bool
 |_,[]=>af
 |n,d::ds=>ah.bW n d&&ah.eC n ds
end
theorem n'{n:Nat}:∀{ds:List ah}{j:Nat}{d:ah},ah.eC n ds=af->ds[j]?=J d->ah.bW n d=af
 |[],j,d,_,h=>by simp at h
 |e::ds,0,d,k,h=>by
  rw[ah.eC,dv]at k;simp at h;subst h;exact k.1
 |e::ds,j+1,d,k,h=>by
  rw[ah.eC,dv]at k;exact n' k.2 (by simpa using h)
theorem fh.get{h:br}:∀{ds:List ah}{vs:List aj}{j:Nat}{v:aj},fh h ds vs->vs[j]?=J v->∃d,ds[j]?=J d/\fN h d v
 |[],vs,j,v,a,e=>by rw[show vs=[] from a]at e;simp at e
 |d::ds,vs,0,v,a,e=>by
  obtain⟨u,r,rfl,a1,a2⟩:=a;simp at e;subst e;exact⟨d,rfl,a1⟩
 |d::ds,vs,j+1,v,a,e=>by
  obtain⟨u,r,rfl,a1,a2⟩:=a;obtain⟨d',O,U⟩:=fh.get (j:=j) a2 (by simpa using e);exact⟨d',by simpa using O,U⟩
theorem KM{h:br}:∀(n:Nat) {x y:ah}{v:aj},ah.bW n x=af->ah.bW n y=af->fN h x v->fN h y v->dy x y=af
 |n,.bu,y,v,_,bO,ag,aw=>by
  cases (show v=.none from ag);cases y with
  |bu=>rfl
  |aR b=>cases aw
  |int j=>obtain⟨u,e⟩:=aw;cases e
  |str z=>obtain⟨u,e⟩:=aw;cases e
  |tup ds=>obtain⟨_,_,_,_,e,_⟩:=aw;cases e
  |fn a=>cases n<;>cases bO
  |bf a=>cases n<;>cases bO
  |fd=>cases n<;>cases bO
 |n,.aR b,y,v,_,bO,ag,aw=>by
  cases (show v=.bool b from ag);cases y with
  |bu=>cases aw
  |aR c=>cases aw;simp[dy]
  |int j=>obtain⟨u,e⟩:=aw;cases e
  |str z=>obtain⟨u,e⟩:=aw;cases e
  |tup ds=>obtain⟨_,_,_,_,e,_⟩:=aw;cases e
  |fn a=>cases n<;>cases bO
  |bf a=>cases n<;>cases bO
  |fd=>cases n<;>cases bO
 |n,.int i,y,v,_,bO,ag,aw=>by
  obtain⟨t,rfl⟩:=ag;cases y with
  |bu=>cases aw
  |aR c=>cases aw
  |int j=>obtain⟨u,e⟩:=aw;cases e;simp[dy]
  |str z=>obtain⟨u,e⟩:=aw;cases e
  |tup ds=>obtain⟨_,_,_,_,e,_⟩:=aw;cases e
  |fn a=>cases n<;>cases bO
  |bf a=>cases n<;>cases bO
  |fd=>cases n<;>cases bO
 |n,.str i,y,v,_,bO,ag,aw=>by
  obtain⟨t,rfl⟩:=ag;cases y with
  |bu=>cases aw
  |aR c=>cases aw
  |int j=>obtain⟨u,e⟩:=aw;cases e
  |str z=>obtain⟨u,e⟩:=aw;cases e;simp[dy]
  |tup ds=>obtain⟨_,_,_,_,e,_⟩:=aw;cases e
  |fn a=>cases n<;>cases bO
  |bf a=>cases n<;>cases bO
  |fd=>cases n<;>cases bO
 |n+1,.tup ds,y,v,gw,bO,ag,aw=>by
  obtain⟨a,o,items,m,rfl,O,U,aL,aU⟩:=ag;cases y with
  |bu=>cases aw
  |aR c=>cases aw
  |int j=>obtain⟨u,e⟩:=aw;cases e
  |str z=>obtain⟨u,e⟩:=aw;cases e
  |fn a=>cases bO
  |bf a=>cases bO
  |fd=>cases bO
  |tup es=>
   obtain⟨vt,cA,jN,e6,e,g1,g2,g3,eM⟩:=aw;cases e;rw[O]at g1;cases g1;rw[aL]at g3;injection g3 with g3 _;subst g3;have all:∀(ds es:List ah) (vs:List aj),ah.eC n ds=af->ah.eC n es=af->fh h ds vs->fh h es vs->hx ds es=af:=by
    intro ds;induction ds with
    |nil=>
     intro es vs _ _ a b;cases es with
     |nil=>rfl
     |cons e es=>obtain⟨_,_,q,_⟩:=b;rw[show vs=[] from a]at q;cases q
    |cons d ds bS=>
     intro es vs k1 k2 a b;obtain⟨v,r,rfl,a1,a2⟩:=a;cases es with
     |nil=>cases (show v::r=[] from b)
     |cons e es=>
      obtain⟨jm,cG,q,cO,d1⟩:=b;cases q;rw[ah.eC,dv]at k1 k2;rw[hx,KM n k1.1 k2.1 a1 cO,bS es r k1.2 k2.2 a2 d1];rfl
   rw[dy];exact all ds es _ gw bO aU eM
 |n,.fn _,_,_,k,_,_,_=>by cases n<;>cases k
 |n,.bf _,_,_,k,_,_,_=>by cases n<;>cases k
 |n,.fd,_,_,k,_,_,_=>by cases n<;>cases k
 |0,.tup _,_,_,k,_,_,_=>by cases k
theorem x2{e:Nat->Bool}:∀{ds es:List ah},(∀(j:Nat) (x y:ah),ds[j]?=J x->es[j]?=J y->e j=dy x y)->((range<|min ds.length es.length).all e&&ds.length==es.length)=hx ds es:=by
 have key:∀(ds es:List ah) (f:Nat->Bool),(∀(j:Nat) (x y:ah),ds[j]?=J x->es[j]?=J y->f j=dy x y)->((range<|min ds.length es.length).all f&&ds.length==es.length)=hx ds es:=by
  intro ds;induction ds with
  |nil=>intro es f _;cases es<;>simp[hx]
  |cons d ds bS=>
   intro es f h;cases es with
   |nil=>simp[hx]
   |cons c es=>
    have:=bS es (λj=>f<|j+1) λj x y a b=>h (j+1) x y (by simpa using a) (by simpa using b);rw[hx,<-this,<-h 0 d c rfl rfl];rw[eS,eS,show min (ds.length+1) (es.length+1)=min ds.length es.length+1 by lia,List.range_succ_eq_map,List.all_cons,KI,Bool.and_assoc];congr 2;rw[A1];simp
 exact λ{ds es} h=>key ds es e h
theorem nA{s:aA}:∀(n:Nat) {A:cj}{x y:ah}{u v:aj},ah.bW n x=af->ah.bW n y=af->A.units+n+1<c6->fN s.heap x u->fN s.heap y v->SeqAt.EqAt A s u v (dy x y)
 |n,A,.bu,y,u,v,_,bO,bZ,ag,aw=>by
  cases (show u=.none from ag);cases y with
  |bu=>cases (show v=.none from aw);exact SeqAt.EqAt.same _
  |aR b=>cases (show v=.bool b from aw);exact Sr b
  |int j=>obtain⟨t,rfl⟩:=aw;exact Sz j t
  |str z=>obtain⟨t,rfl⟩:=aw;exact SA z t
  |tup ds=>obtain⟨a,o,items,m,rfl,O,U,aL,_⟩:=aw;exact Sn ⟨o,O,U,m,aL⟩ (by lia)
  |fn a=>cases n<;>cases bO
  |bf a=>cases n<;>cases bO
  |fd=>cases n<;>cases bO
 |n,A,.aR b,y,u,v,_,bO,bZ,ag,aw=>by
  cases (show u=.bool b from ag);cases y with
  |bu=>cases (show v=.none from aw);exact Ss b
  |aR c=>cases (show v=.bool c from aw);exact Su b c
  |int j=>obtain⟨t,rfl⟩:=aw;exact SD b j t
  |str z=>obtain⟨t,rfl⟩:=aw;exact SE b z t
  |tup ds=>obtain⟨a,o,items,m,rfl,O,U,aL,_⟩:=aw;exact So b ⟨o,O,U,m,aL⟩ (by lia)
  |fn a=>cases n<;>cases bO
  |bf a=>cases n<;>cases bO
  |fd=>cases n<;>cases bO
 |n,A,.int i,y,u,v,_,bO,bZ,ag,aw=>by
  obtain⟨t0,rfl⟩:=ag;cases y with
  |bu=>cases (show v=.none from aw);exact SF i t0
  |aR c=>cases (show v=.bool c from aw);exact SG i t0 c
  |int j=>obtain⟨t,rfl⟩:=aw;exact SJ i t0 j t
  |str z=>obtain⟨t,rfl⟩:=aw;exact LG i t0 z t
  |tup ds=>obtain⟨a,o,items,m,rfl,O,U,aL,_⟩:=aw;exact Sv i t0 ⟨o,O,U,m,aL⟩ (by lia)
  |fn a=>cases n<;>cases bO
  |bf a=>cases n<;>cases bO
  |fd=>cases n<;>cases bO
 |n,A,.str i,y,u,v,_,bO,bZ,ag,aw=>by
  obtain⟨t0,rfl⟩:=ag;cases y with
  |bu=>cases (show v=.none from aw);exact SH i t0
  |aR c=>cases (show v=.bool c from aw);exact SI i t0 c
  |int j=>obtain⟨t,rfl⟩:=aw;exact LH i t0 j t
  |str z=>obtain⟨t,rfl⟩:=aw;exact SK i t0 z t
  |tup ds=>obtain⟨a,o,items,m,rfl,O,U,aL,_⟩:=aw;exact Sw i t0 ⟨o,O,U,m,aL⟩ (by lia)
  |fn a=>cases n<;>cases bO
  |bf a=>cases n<;>cases bO
  |fd=>cases n<;>cases bO
 |n+1,A,.tup ds,y,u,v,gw,bO,bZ,ag,aw=>by
  have kk:=ag;obtain⟨a,o,items,m,rfl,O,U,aL,aU⟩:=ag;have cP:s.heap.IsTuple a items:=⟨o,O,U,m,aL⟩;cases y with
  |bu=>cases (show v=.none from aw);exact Sp cP (by lia)
  |aR c=>cases (show v=.bool c from aw);exact Sq c cP (by lia)
  |int j=>obtain⟨t,rfl⟩:=aw;exact Sx j t cP (by lia)
  |str z=>obtain⟨t,rfl⟩:=aw;exact Sy z t cP (by lia)
  |fn a=>cases bO
  |bf a=>cases bO
  |fd=>cases bO
  |tup es=>
   have FE:=aw;obtain⟨b,cA,jN,e6,rfl,g1,g2,g3,eM⟩:=aw;by_cases e:a=b
   ·subst e;rw[KM (n+1) gw bO kk FE];exact SeqAt.EqAt.same _
   ·have eU:s.heap.IsTuple b jN:=⟨cA,g1,g2,e6,g3⟩;have b':=aU.length;have ct:=eM.length;have nB:items.toList.length=items.size:=by simp
    have x3:jN.toList.length=jN.size:=by simp
    rw[nB]at b';rw[x3]at ct;have q:=SM (A:=A) e (LI (e:=λj=>dy (ds.getD j .bu)<|es.getD j .bu) cP eU (by lia) λj b6 dz=>by
     obtain⟨cS,ay,a9⟩:=aU.get (j:=j) (v:=items[j]) (by rw[gV];simp[b6]);obtain⟨cM,aG,bF⟩:=eM.get (j:=j) (v:=jN[j]) (by rw[gV];simp[dz]);rw[du,ay,du,aG];exact nA n (n' gw ay) (n' bO aG) (by show A.units+1+n+1<c6;lia) a9 bF)
    rw[<-b',<-ct,x2 (ds:=ds) (es:=es) (λj x y a b=>by rw[du,a,du,b];rfl)]at q;rw[dy];exact q
 |n,A,.fn _,_,_,_,k,_,_,_,_=>by cases n<;>cases k
 |n,A,.bf _,_,_,_,k,_,_,_,_=>by cases n<;>cases k
 |n,A,.fd,_,_,_,k,_,_,_,_=>by cases n<;>cases k
 |0,A,.tup _,_,_,_,k,_,_,_,_=>by cases k
mutual
theorem FF:∀{n:Nat}{d:ah},ah.key n d=af->ah.bW n d=af
 |n,.int _,_=>by cases n<;>rfl
 |n,.str _,_=>by cases n<;>rfl
 |n+1,.tup ds,h=>by rw[ah.key]at h;rw[ah.bW];exact LE h
 |0,.tup _,h=>by cases h
 |n,.bu,h=>by cases n<;>cases h
 |n,.aR _,h=>by cases n<;>cases h
 |n,.fn _,h=>by cases n<;>cases h
 |n,.bf _,h=>by cases n<;>cases h
 |n,.fd,h=>by cases n<;>cases h
theorem LE:∀{n:Nat}{ds:List ah},ah.keys n ds=af->ah.eC n ds=af
 |n,[],_=>by rw[ah.eC]
 |n,d::ds,h=>by rw[ah.keys,dv]at h;rw[ah.eC,FF h.1,LE h.2];rfl
end
mutual
theorem LS:∀{n:Nat}{x y:ah},ah.key n x=af->ah.key n y=af->dy x y=decide (x=y)
 |n,.int i,y,_,aw=>by
  cases y with
  |int j=>rw[dy];by_cases e:i=j<;>simp[e]
  |str z=>simp[dy]
  |tup z=>simp[dy]
  |_=>cases n<;>cases aw
 |n,.str i,y,_,aw=>by
  cases y with
  |int j=>simp[dy]
  |str z=>rw[dy];by_cases e:i=z<;>simp[e]
  |tup z=>simp[dy]
  |_=>cases n<;>cases aw
 |n+1,.tup ds,y,ag,aw=>by
  cases y with
  |int j=>simp[dy]
  |str z=>simp[dy]
  |tup es=>
   rw[ah.key]at ag aw;rw[dy,LU ag aw];simp
  |_=>cases aw
 |0,.tup _,_,h,_=>by cases h
 |n,.bu,_,h,_=>by cases n<;>cases h
 |n,.aR _,_,h,_=>by cases n<;>cases h
 |n,.fn _,_,h,_=>by cases n<;>cases h
 |n,.bf _,_,h,_=>by cases n<;>cases h
 |n,.fd,_,h,_=>by cases n<;>cases h
theorem LU:∀{n:Nat}{x y:List ah},ah.keys n x=af->ah.keys n y=af->hx x y=decide (x=y)
 |n,[],y,_,_=>by cases y<;>simp[hx]
 |n,d::ds,[],_,_=>by simp[hx]
 |n,d::ds,e::es,ag,aw=>by
  rw[ah.keys,dv]at ag aw;rw[hx,LS ag.1 aw.1,LU ag.2 aw.2];by_cases O:d=e<;>by_cases U:ds=es<;>simp[O,U]
end
theorem Bz:∀(n:Nat) {A:cj}{E:aj->aA->Prop}{s:aA}{d:ah}{v:aj}{Q:Bool->aA->Prop},ah.key n d=af->fN s.heap d v->Q af s->wpAny (a' prog w) A (eqIsQuiet n v) Q E s
 |n,A,E,s,.int i,v,Q,_,bb,h=>by
  obtain⟨t,rfl⟩:=bb;rw[JX n rfl];exact ba h
 |n,A,E,s,.str i,v,Q,_,bb,h=>by
  obtain⟨t,rfl⟩:=bb;rw[JX n rfl];exact ba h
 |n+1,A,E,s,.tup ds,v,Q,k,bb,h=>by
  obtain⟨a,o,items,m,rfl,aS,av,hd,ao⟩:=bb;have dM:s.TypeIs (.ref a) "tuple" := ⟨o,aS,av⟩;unfold eqIsQuiet;refine aH (xt dM F.slot_tuple_eq.lookup ?_);show wpAny _ _ (Bd (.ref a) (.type "tuple") >>= _) _ _ s;refine aH (xr dM isSubtype_tuple_tuple ?_);simp only[sX,jI,hM];refine aH (mE aS hd ?_);refine aH ?_;show wpAny _ _ (forIn items _ _) _ _ s;rw[<-A7];rw[ah.key]at k;refine uY _ (λrest r s'=>r.1=aa/\s'=s/\∃left,ah.keys n left=af/\fh s.heap left rest) _ ?_ ?_ _ _ ⟨rfl,rfl,ds,k,ao⟩
  ·rintro v rest r s' ⟨aO,rfl,left,aY,aF⟩;cases left with
   |nil=>cases (show v::rest=[] from aF)
   |cons d left=>
    obtain⟨jm,cG,e,O,hv⟩:=aF;cases e;rw[ah.keys,dv]at aY;refine aH (Bz n aY.1 O ?_);simp only[sX,jI,hM];exact ba ⟨rfl,rfl,left,aY.2,hv⟩
  ·rintro⟨a9,bF⟩ s' ⟨aO,rfl,_⟩;simp only at aO;subst aO;exact ba h
 |_,_,_,_,.bu,_,_,k,_,_=>by cases ‹Nat›<;>cases k
 |_,_,_,_,.aR _,_,_,k,_,_=>by cases ‹Nat›<;>cases k
 |_,_,_,_,.fn _,_,_,k,_,_=>by cases ‹Nat›<;>cases k
 |_,_,_,_,.bf _,_,_,k,_,_=>by cases ‹Nat›<;>cases k
 |_,_,_,_,.fd,_,_,k,_,_=>by cases ‹Nat›<;>cases k
 |0,_,_,_,.tup _,_,_,k,_,_=>by cases k
noncomputable def hN(prog:cc)(w:bN):HeapKind prog w (List ah) where
 is:=λh ds a=>ah.keys 7 ds=af/\fN h (.tup ds) (.ref a)
 hash:=λds=>e5 w (.tup ds)
 draws:=λds=>Bx (.tup ds)
 room:=λA=>A.units+10<c6
 inj:=λag aw=>by
  have:=KF 8 (x:=.tup _) (y:=.tup _) ag.1 aw.1 ag.2 aw.2;injection this
 keeps:=λ{h h' k a d o es ep} x aS hd aq=>⟨x.1,x.2.keep λb u items n ae av iP=>by
  have FG:b≠d:=by
   rintro rfl;rw[aS]at ae;cases ae;rw[hd]at iP;cases iP
  exact (aq.2 b FG).trans ae⟩
 pyHash:=λbZ aY h=>KK 8 (d:=.tup _) aY.1 (show _<_ by have:_+10<c6:=bZ;lia) aY.2 h
 eqBool:=λ{A E s x y a b Q} bZ ag aw h=>by
  have q:=nA (s:=s) 8 (A:=A) (x:=.tup x) (y:=.tup y) (FF (n:=8) (d:=.tup x) ag.1) (FF (n:=8) (d:=.tup y) aw.1) (show _<_ by have:A.units+10<c6:=bZ;lia) ag.2 aw.2;rw[LS (n:=8) (x:=.tup x) (y:=.tup y) ag.1 aw.1]at q;exact q _ _ E Q (by simpa using h)
 quiet:=λaY h=>Bz 8 (d:=.tup _) aY.1 aY.2 h
end
noncomputable abbrev Key:=Sum Int aQ
noncomputable def vu:Key->aj->Bool
 |.inl k,v=>aj.isInt k v
 |.inr x,v=>aj.isStrOf x v
noncomputable def SB(w:bN):Key->Int
 |.inl k=>hashInt k
 |.inr x=>hashStr w x
theorem qu:∀{k:Key}{v:aj},vu k v=af->(∃i t,k=Sum.inl i/\v=aj.int i t)\/(∃x t,k=Sum.inr x/\v=aj.str x t)
 |.inl i,v,h=>by
  obtain⟨t,e⟩:=aj.isInt_shape (k:=i) (v:=v) h;exact .inl ⟨i,t,rfl,e⟩
 |.inr x,v,h=>by
  obtain⟨t,e⟩:=aj.isStrOf_shape (x:=x) (v:=v) h;exact .inr ⟨x,t,rfl,e⟩
theorem SC(i:Int)(t:lS):vu (.inl i) (.int i t)=af:=by simp[vu,aj.isInt]
theorem SL(x:aQ)(t:lS):vu (.inr x) (.str x t)=af:=by simp[vu,aj.isStrOf]
theorem ST(a b:Int):decide ((Sum.inl a:Key)=Sum.inl b)=(a==b):=by
 by_cases e:a=b
 ·subst e;simp
 ·have h:¬ (Sum.inl a:Key)=Sum.inl b:=λq=>e (Sum.inl.inj q);rw[bi h];exact (beq_eq_false_iff_ne.mpr e).symm
theorem SZ(a b:aQ):decide ((Sum.inr a:Key)=Sum.inr b)=decide (a=b):=by
 by_cases e:a=b
 ·subst e;simp
 ·have h:¬ (Sum.inr a:Key)=Sum.inr b:=λq=>e (Sum.inr.inj q);rw[bi h,bi e]
theorem Tk(a:Int)(b:aQ):decide ((Sum.inl a:Key)=Sum.inr b)=aD:=bi (λq=>nomatch q)
theorem Tl(a:aQ)(b:Int):decide ((Sum.inr a:Key)=Sum.inl b)=aD:=bi (λq=>nomatch q)
noncomputable def rH(prog:cc)(w:bN):PySem.KeyKind prog w Key where
 is:=vu
 hash:=SB w
 inj:=λv a b az ae=>by
  rcases qu az with ⟨i,t,rfl,rfl⟩|⟨x,t,rfl,rfl⟩
  ·rcases qu ae with ⟨j,u,rfl,e⟩|⟨y,u,rfl,e⟩
   ·injection e with ay _;rw[ay]
   ·exact nomatch e
  ·rcases qu ae with ⟨j,u,rfl,e⟩|⟨y,u,rfl,e⟩
   ·exact nomatch e
   ·injection e with ay _;rw[ay]
 byValue:=λk v h=>by
  rcases qu h with ⟨i,t,rfl,rfl⟩|⟨x,t,rfl,rfl⟩<;>rfl
 pyHash:=λbb h=>by
  rcases qu bb with ⟨i,t,rfl,rfl⟩|⟨x,t,rfl,rfl⟩
  ·exact J5 h
  ·exact J6 h
 eqBool:=λbZ bb h=>by
  rcases qu bZ with ⟨i,t,rfl,rfl⟩|⟨x,t,rfl,rfl⟩
  ·rcases qu bb with ⟨j,u,rfl,rfl⟩|⟨y,u,rfl,rfl⟩
   ·rw[ST]at h;exact wpAny_eqBool_int h
   ·rw[Tk]at h;exact LG i t y u _ _ _ _ h
  ·rcases qu bb with ⟨j,u,rfl,rfl⟩|⟨y,u,rfl,rfl⟩
   ·rw[Tl]at h;exact LH x t j u _ _ _ _ h
   ·rw[SZ]at h;exact wpAny_eqBool_str h
 «strs»:=λk x t v h=>by
  rcases qu h with ⟨i,u,rfl,e⟩|⟨y,u,rfl,e⟩
  ·exact nomatch e
  ·injection e with ay _;subst ay;cases v<;>rfl
theorem xz(prog:cc)(w:bN)(i:Int)(t:lS):(rH prog w).is (.inl i) (.int i t)=af:=SC i t
theorem Tm(prog:cc)(w:bN)(x:aQ)(t:lS):(rH prog w).is (.inr x) (.str x t)=af:=SL x t
inductive V where
 | bu|aR (b:Bool)|int (i:Int)|str (x:aQ)|x4 (b:Array UInt8)|FH (b:UInt64)|ref (a:ar)|ty (n:String)
 deriving DecidableEq
variable{vs xs:List V}{y v:V}
noncomputable def c_:V->aj->Prop
 |.bu,u=>u=aj.none
 |.aR b,u=>u=aj.bool b
 |.int i,u=>∃t,u=aj.int i t
 |.str x,u=>∃t,u=aj.str x t
 |.x4 b,u=>∃t,u=aj.bytes b t
 |.FH b,u=>∃t,u=aj.float b t
 |.ref a,u=>u=aj.ref a
 |.ty n,u=>u=aj.type n
noncomputable abbrev cZ:List V->List aj->Prop:=hi c_
theorem cZ.length(r:cZ xs us):xs.length=us.length:=hi.length r
theorem cZ.get:∀{xs:List V}{us:List aj}{i:Nat}{x:V},cZ xs us->xs[i]?=J x->∃u,us[i]?=J u/\c_ x u
 |_,_,_,_,.nil,e=>by simp at e
 |_,_,0,_,.cons r _,e=>by simp at e;subst e;exact⟨_,rfl,r⟩
 |_,_,i+1,x,.cons _ t,e=>by
  obtain⟨u,O,U⟩:=cZ.get (i:=i) (x:=x) t (by simpa using e);exact⟨u,by simpa using O,U⟩
theorem cZ.set{x:V}{u:aj}(r:c_ x u):∀{xs:List V}{us:List aj} (i:Nat),cZ xs us->cZ (xs.set i x) (us.set i u)
 |_,_,_,.nil=>.nil
 |_,_,0,.cons _ t=>.cons r t
 |_,_,i+1,.cons q t=>.cons q (cZ.set r i t)
theorem cZ.append:∀{xs a3:List V}{us ws:List aj},cZ xs us->cZ a3 ws->cZ (xs++a3) (us++ws)
 |_,_,_,_,.nil,s=>s
 |_,_,_,_,.cons r t,s=>.cons r (cZ.append t s)
theorem cZ.take:∀{xs:List V}{us:List aj} (n:Nat),cZ xs us->cZ (xs.take n) (us.take n)
 |_,_,0,_=>.nil
 |_,_,_+1,.nil=>.nil
 |_,_,n+1,.cons r t=>.cons r (cZ.take n t)
theorem cZ.drop:∀{xs:List V}{us:List aj} (n:Nat),cZ xs us->cZ (xs.drop n) (us.drop n)
 |_,_,0,r=>r
 |_,_,_+1,.nil=>.nil
 |_,_,n+1,.cons _ t=>cZ.drop n t
noncomputable def px:Option V->Option aj->Prop
 |some v,J u=>c_ v u
 |none,aa=>True
 |_,_=>False
noncomputable def h6{bj:Type}:List (bj×V)->List (bj×aj)->Prop:=hi λ(p:bj×V) (q:bj×aj)=>p.1=q.1/\c_ p.2 q.2
noncomputable def d5:Key->V
 |.inl i=>.int i
 |.inr x=>.str x
inductive iQ where
 | lst (xs:List V)
 | tup (xs:List V)
 | eN (kvs:List (Key×V))|a8 (kvs:List (List ah×V))
 | set (S:Int->Bool) (n:Nat)
 | ins (C kl:ar) (fs:List (aQ×V))
 | own (x:ar)
 | BA (fs:List (aQ×V))
 | met (f x:ar)
 | qv (lo ao:Int)
 | fO (o:bE) (u:iQ)
 | rI (ps:Array aj)
 | ext (jn:br->Prop)
variable{o:iQ}
noncomputable abbrev aM:=ar->Option iQ
variable{ak H:aM}
noncomputable def upd(H:aM)(a:ar)(o:iQ):aM:=λb=>if b=a then J o else H b
theorem hy:upd H a o a=J o:=by unfold upd;rw[aV rfl]
theorem eb(h:b≠a):upd H a o b=H b:=by unfold upd;rw[aZ h]
theorem LV{u:iQ}(h:H a=J o)(h':H b=J u)(d:o≠u):a≠b:=by
 intro e;subst e;rw[h]at h';exact d (Option.some.inj h')
theorem km(h:H a=J o)(h':H b=aa):a≠b:=by
 intro e;subst e;rw[h]at h';cases h'
mutual
noncomputable def dR(H:aM):ah->V->Prop
 |.bu,v=>v=.bu
 |.aR b,v=>v=.aR b
 |.int i,v=>v=.int i
 |.str x,v=>v=.str x
 |.fn a,v=>v=.ref a
 |.bf ds,v=>∃a xs o,v=.ref a/\H a=J (.fO o<|.lst xs)/\cq H ds xs
 |.fd,v=>∃a o,v=.ref a/\H a=J (.fO o<|.a8 [])
 |.tup ds,v=>∃a xs,v=.ref a/\H a=J (.tup xs)/\cq H ds xs
noncomputable def cq(H:aM):List ah->List V->Prop
 |[],vs=>vs=[]
 |d::ds,vs=>∃v r,vs=v::r/\dR H d v/\cq H ds r
end
noncomputable def x5(H ak:aM):Prop:=∀a xs,H a=J (.tup xs)->ak a=J (.tup xs)
structure vv(H ak:aM):Prop where
 t:x5 H ak
 z:∀a o u,H a=J (.fO o u)->ak a=J (.fO o u)
noncomputable instance {H ak:aM}:CoeFun (vv H ak) (λ_=>∀a xs,H a=J (.tup xs)->ak a=J (.tup xs)):=⟨λt=>t.t⟩
mutual
theorem dR.mono{H ak:aM}(k:vv H ak):∀{d:ah}{v:V},dR H d v->dR ak d v
 |.bu,_,e=>e
 |.aR _,_,e=>e
 |.int _,_,e=>e
 |.str _,_,e=>e
 |.fn _,_,e=>e
 |.tup ds,_,e=>by
  obtain⟨a,xs,rfl,O,U⟩:=e;exact⟨a,xs,rfl,k.t a xs O,cq.mono k U⟩
 |.bf ds,_,e=>by
  obtain⟨a,xs,o,rfl,O,U⟩:=e;exact⟨a,xs,o,rfl,k.z a _ _ O,cq.mono k U⟩
 |.fd,_,e=>by
  obtain⟨a,o,rfl,O⟩:=e;exact⟨a,o,rfl,k.z a _ _ O⟩
theorem cq.mono{H ak:aM}(k:vv H ak):∀{ds:List ah}{vs:List V},cq H ds vs->cq ak ds vs
 |[],_,e=>e
 |d::ds,_,e=>by
  obtain⟨v,r,rfl,O,U⟩:=e;exact⟨v,r,rfl,dR.mono k O,cq.mono k U⟩
end
noncomputable def mO(H:aM)(k:List ah)(b:ar):Prop:=ah.keys 7 k=af/\dR H (.tup k) (.ref b)
mutual
theorem dR.x6{H ak:aM}(k:x5 H ak):∀{d:ah}{n:Nat}{v:V},ah.key n d=af->dR H d v->dR ak d v
 |.bu,_,_,_,e=>e
 |.aR _,_,_,_,e=>e
 |.int _,_,_,_,e=>e
 |.str _,_,_,_,e=>e
 |.fn _,_,_,_,e=>e
 |.tup ds,n+1,_,q,e=>by
  obtain⟨a,xs,rfl,O,U⟩:=e;exact⟨a,xs,rfl,k a xs O,cq.x6 k q U⟩
 |.tup ds,0,_,q,e=>nomatch q
 |.bf ds,0,_,q,e=>nomatch q
 |.bf ds,n+1,_,q,e=>nomatch q
 |.fd,0,_,q,e=>nomatch q
 |.fd,n+1,_,q,e=>nomatch q
theorem cq.x6{H ak:aM}(k:x5 H ak):∀{ds:List ah}{n:Nat}{vs:List V},ah.keys n ds=af->cq H ds vs->cq ak ds vs
 |[],_,_,_,e=>e
 |d::ds,n,_,q,e=>by
  obtain⟨v,r,rfl,O,U⟩:=e;rw[ah.keys,dv]at q;exact⟨v,r,rfl,dR.x6 k q.1 O,cq.x6 k q.2 U⟩
end
theorem mO.mono{k:List ah}(h:mO H k b)(t:x5 H ak):mO ak k b:=by
 obtain⟨h0,a,xs,e,O,U⟩:=h;exact⟨h0,a,xs,e,t a xs O,U.x6 t h0⟩
section
variable(P:cc)(w:bN)
noncomputable def g9(H:aM)(h:br)(a:ar):iQ->Prop
 |.lst xs=>xs.length<=sizeLine/\∃(aP:List aj) (n:Nat),cZ xs aP/\h.get? a=J {cls:=.type "list",data:=.seq aP.toArray n}
 |.tup xs=>xs.length<=sizeLine/\∃aP:List aj,cZ xs aP/\pk h a aP.toArray
 |.eN kvs=>kvs.length<=sizeLine/\(a==mK)=aD/\∃vs,h6 kvs vs/\h.DictOf (rH P w) a vs
 |.a8 kvs=>kvs.length<=sizeLine/\(a==mK)=aD/\∃xs:List (List ah×ar×aj),
   hi (λ(p:List ah×V) (q:List ah×ar×aj)=>p.1=q.1/\mO H p.1 q.2.1/\c_ p.2 q.2.2) kvs xs/\
   ∃o es ep,h.get? a=J o/\o.ExactDict/\o.data=.dict es ep/\es.toList=xs.map (entryOfKey<|hN P w)/\(xs.map (·.1)).Nodup
 |.set S n=>h.SetOf (intKind P w) a S n
 |.ins C kl fs=>H kl=J (.own a)/\fs.length<=1000/\kl≠a/\h.get? a=J (PySem.W.instObj C kl)/\
   ∃kU,h.Ns1 kl kU/\(∀f,px (fs.lookup f)<|kU f)/\PySem.Within kU (fs.map (·.1))
 |.own _=>∃o,h.get? a=J o
 |.BA fs=>∃kU,h.Ns1 a kU/\∀f,px (fs.lookup f) (kU f)
 |.qv lo ao=>∃t u v,h.get? a=J {cls:=.type "range",data:=.fields #[.int lo t,.int ao u,.int 1 v]}
 |.fO o u=>h.get? a=J o/\g9 H h a u
 |.rI ps=>h.get? a=J {cls:=.none,data:=.fields ps}
 |.met f x=>h.get? a=J (PySem.W.methodObj (.ref f)<|.ref x)
 |.ext jn=>jn h/\(∃o,h.get? a=J o)/\∀O U:br,jn O->(∀o,O.get? a=J o->U.get? a=J o)->jn U
noncomputable def eD(H:aM)(h:br):Prop:=∀a o,H a=J o->g9 P w H h a o
end
section
variable{P:cc}{w:bN}{H ak:aM}{h h':br}{a:ar}{o:iQ}
theorem g9.lt(x:g9 P w H h a o):a<h.objs.size:=by
 cases o with
 |lst xs=>obtain⟨_,_,_,_,e⟩:=x;exact c8 e
 |tup xs=>obtain⟨_,_,_,p⟩:=x;exact p.lt
 |eN kvs=>obtain⟨_,_,_,_,o,_,_,e,_⟩:=x;exact c8 e
 |a8 kvs=>obtain⟨_,_,_,_,o,_,_,e,_⟩:=x;exact c8 e
 |set S n=>obtain⟨o,_,_,_,e,_⟩:=x;exact c8 e
 |ins C kl fs=>obtain⟨_,_,_,e,_⟩:=x;exact c8 e
 |own y=>obtain⟨_,e⟩:=x;exact c8 e
 |BA fs=>obtain⟨_,⟨_,_,_,e,_⟩,_⟩:=x;exact c8 e
 |qv lo ao=>obtain⟨_,_,_,e⟩:=x;exact c8 e
 |fO cX u=>obtain⟨e,_⟩:=x;exact c8 e
 |rI ps=>exact c8 (show h.get? a=J _ from x)
 |met f y=>exact c8 (show h.get? a=J _ from x)
 |ext jn=>obtain⟨_,⟨_,e⟩,_⟩:=x;exact c8 e
theorem hi.BB{α β:Type}{F G:α->β->Prop}:∀{l₁:List α}{vw:List β},hi F l₁ vw->(∀a b,F a b->G a b)->hi G l₁ vw
 |_,_,.nil,_=>.nil
 |_,_,.cons r t,f=>.cons (f _ _ r) (hi.BB t f)
theorem g9.lX(x:g9 P w H h a o)(k:∀b u,(b=a\/H b=J (.own a))->h.get? b=J u->h'.get? b=J u)(aS:∀b,H b=J (.own a)->ak b=J (.own a))(cE:∀b xs,H b=J (.tup xs)->ak b=J (.tup xs)):g9 P w ak h' a o:=by
 induction o with
 |lst xs=>obtain⟨z,aP,n,r,e⟩:=x;exact⟨z,aP,n,r,k _ _ (.inl rfl) e⟩
 |tup xs=>obtain⟨z,aP,r,cX,e,c⟩:=x;exact⟨z,aP,r,cX,k _ _ (.inl rfl) e,c⟩
 |eN kvs=>obtain⟨z,y,vs,r,cX,es,ep,e,c⟩:=x;exact⟨z,y,vs,r,cX,es,ep,k _ _ (.inl rfl) e,c⟩
 |a8 kvs=>
  obtain⟨z,y,xs,r,cX,es,ep,e,c⟩:=x;exact⟨z,y,xs,hi.BB r λp q z=>⟨z.1,z.2.1.mono cE,z.2.2⟩,cX,es,ep,k _ _ (.inl rfl) e,c⟩
 |set S n=>obtain⟨cX,es,ep,t,e,c⟩:=x;exact⟨cX,es,ep,t,k _ _ (.inl rfl) e,c⟩
 |ins C kl fs=>
  obtain⟨d,z,ne,e,kU,⟨jO,es,ep,aG,c⟩,r⟩:=x;exact⟨aS _ d,z,ne,k _ _ (.inl rfl) e,kU,⟨jO,es,ep,k _ _ (.inr d) aG,c⟩,r⟩
 |own y=>obtain⟨cX,e⟩:=x;exact⟨cX,k _ _ (.inl rfl) e⟩
 |BA fs=>obtain⟨kU,⟨jO,es,ep,e,c⟩,r⟩:=x;exact⟨kU,⟨jO,es,ep,k _ _ (.inl rfl) e,c⟩,r⟩
 |qv lo ao=>obtain⟨t,u,v,e⟩:=x;exact⟨t,u,v,k _ _ (.inl rfl) e⟩
 |fO cX u bS=>obtain⟨e,q⟩:=x;exact⟨k _ _ (.inl rfl) e,bS q⟩
 |rI ps=>
  have e:h.get? a=J {cls:=.none,data:=.fields ps}:=x;show h'.get? a=J {cls:=.none,data:=.fields ps};exact k a _ (.inl rfl) e
 |met f y=>
  have e:h.get? a=J (PySem.W.methodObj (.ref f)<|.ref y):=x;show h'.get? a=J (PySem.W.methodObj (.ref f)<|.ref y);exact k a _ (.inl rfl) e
 |ext jn=>obtain⟨p,⟨o,e⟩,st⟩:=x;exact⟨st _ _ p λo q=>k _ _ (.inl rfl) q,⟨o,k _ _ (.inl rfl) e⟩,st⟩
theorem eD.lt(x:eD P w H h)(e:H a=J o):a<h.objs.size:=(x a o e).lt
theorem eD.fresh(x:eD P w H h)(e:h.objs.size<=a):H a=aa:=by
 cases q:H a with
 |none=>rfl
 |some u=>exact absurd (hs (x.lt q) e) (pg _)
theorem eD.kept(x:eD P w H h)(k:∀b u,h.get? b=J u->h'.get? b=J u):eD P w H h':=λa o e=>
 (x a o e).lX (λb u _ q=>k b u q) (λ_ q=>q) λ_ _ q=>q
theorem eD.laid(x:eD P w H h)(k:∀b u,h.get? b=J u->h'.get? b=J u)(aE:h.objs.size<=a)(new:g9 P w (upd H a o) h' a o):eD P w (upd H a o) h':=λb u e=>by
 have bo:=x.fresh aE;by_cases ae:b=a
 ·subst ae;rw[hy]at e;cases e;exact new
 ·rw[eb ae]at e;exact (x b u e).lX (λc v _ q=>k c v q) (λc q=>by rw[eb (km q bo)];exact q) λc xs q=>by rw[eb (km q bo)];exact q
end
noncomputable def pz(H:aM)(a:ar)(u:iQ):Prop:=H a=J u\/∃o,H a=J (.fO o u)
theorem pz.ok{u:iQ}(r:pz H a u)(x:eD P w H h):g9 P w H h a u:=by
 rcases r with r|⟨o,r⟩
 ·exact x a u r
 ·obtain⟨_,q⟩:=x a _ r;exact q
noncomputable def x7:Option iQ->Prop
 |some (.lst _)=>True
 |some (.eN _)=>True
 |some (.a8 _)=>True
 |some (.set _ _)=>True
 |some (.ins _ _ _)=>True
 |some (.ext _)=>True
 |_=>False
section
variable{P:cc}{w:bN}{H:aM}{h h':br}{x e:ar}{cA:iQ}
theorem eD.write(ok:eD P w H h)(lY:x7 (H x))(he:e=x\/H e=J (.own x))(k:∀b u,b≠e->h.get? b=J u->h'.get? b=J u)(vx:∃u,h'.get? e=J u)(new:g9 P w (upd H x cA) h' x cA):eD P w (upd H x cA) h':=λb u q=>by
 have LW:∀c y,H c=J (.own y)->c≠x:=λc y r z=>by subst z;rw[r]at lY;exact lY
 have Ty:∀c xs,H c=J (.tup xs)->c≠x:=λc xs r z=>by subst z;rw[r]at lY;exact lY
 by_cases ae:b=x
 ·subst ae;rw[hy]at q;cases q;exact new
 ·rw[eb ae]at q;by_cases te:b=e
  ·have fP:H b=J (.own x):=by
    rcases he with z|z
    ·exact absurd (te.trans z) ae
    ·rw[te];exact z
   rw[q]at fP;cases fP;obtain⟨v,bb⟩:=vx;exact⟨v,by rw[te];exact bb⟩
  ·refine (ok b u q).lX (λc v av r=>k c v ?_ r) (λc r=>by rw[eb (LW c b r)];exact r) λc xs r=>by rw[eb (Ty c xs r)];exact r
   rcases av with rfl|av
   ·exact te
   ·rintro rfl;rcases he with z|z
    ·exact LW c b av z
    ·rw[av]at z;cases z;exact ae rfl
end
structure eE(fs ex:List ar)(H ak:aM)(h h':br):Prop where
 keep:∀b o,h.get? b=J o->H b=aa->b∉fs->b∉ex->h'.get? b=J o
 slot:∀b o,h.get? b=J o->H b=aa->b∈fs->b∉ex->∃bK,h'.get? b=J {o with slots:=bK}
 free:∀b o,h.get? b=J o->H b=aa->b∉ex->ak b=aa
 there:∀b o,h.get? b=J o->b∉ex->∃cA,h'.get? b=J cA
 jP:∀b xs,H b=J (.tup xs)->ak b=J (.tup xs)
 jo:∀b o u,H b=J (.fO o u)->ak b=J (.fO o u)
 kn:∀b ps,H b=J (.rI ps)->∃more,ak b=J (.rI<|ps++more)
section
variable{fs FI ex LX:List ar}{H H1 a6:aM}{h O U h':br}{a x e:ar}{o:iQ}
theorem eE.any(u:eE fs ex H H1 h O){b:ar}{cX:bE}(q:h.get? b=J cX)(n:H b=aa)(ag:b∉ex):∃bK,O.get? b=J {cX with slots:=bK}:=by
 by_cases ae:b∈fs
 ·exact u.slot b cX q n ae ag
 ·exact⟨cX.slots,u.keep b cX q n ae ag⟩
theorem eE.kept(k:∀b u,h.get? b=J u->h'.get? b=J u):eE fs ex H H h h':=
 ⟨λb cX q _ _ _=>k b cX q,λb cX q _ _ _=>⟨cX.slots,k b cX q⟩,λ_ _ _ n _=>n,λb cX q _=>⟨cX,k b cX q⟩,λ_ _ q=>q,λ_ _ _ q=>q,λ_ ps q=>⟨#[],by rw[q];simp⟩⟩
theorem eE.refl:eE fs ex H H h h:=eE.kept λ_ _ q=>q
theorem eE.laid(k:∀b u,h.get? b=J u->h'.get? b=J u)(aE:h.objs.size<=a)(bo:H a=aa):eE fs ex H (upd H a o) h h' where
 keep:=λb u q _ _ _=>k b u q
 slot:=λb u q _ _ _=>⟨u.slots,k b u q⟩
 free:=λb u q n _=>by rw[eb (eB<|hs (c8 q) aE)];exact n
 there:=λb u q _=>⟨u,k b u q⟩
 jP:=λb xs q=>by rw[eb (km q bo)];exact q
 jo:=λb u xs q=>by rw[eb (km q bo)];exact q
 kn:=λb ps q=>⟨#[],by rw[eb (km q bo),q];simp⟩
theorem eE.write(lY:x7 (H x))(he:e=x\/H e=J (.own x))(k:∀b u,b≠e->h.get? b=J u->h'.get? b=J u)(vx:∃u,h'.get? e=J u):eE fs ex H (upd H x o) h h':=by
 have ag:∀b,H b=aa->b≠x:=λb n z=>by subst z;rw[n]at lY;exact lY
 have ae:∀b,H b=aa->b≠e:=λb n z=>by
  subst z;rcases he with r|r
  ·exact ag b n r
  ·rw[n]at r;cases r
 have hm:∀b u,H b=J u->¬ x7 (J u)->b≠x:=λb u q nm z=>by subst z;rw[q]at lY;exact nm lY
 refine⟨λb u q n _ _=>k b u (ae b n) q,λb u q n _ _=>⟨u.slots,k b u (ae b n) q⟩,λb u q n _=>by rw[eb (ag b n)];exact n,λb u q _=>?_,
  λb xs q=>by rw[eb (hm b _ q λz=>z)];exact q,λb u xs q=>by rw[eb (hm b _ q λz=>z)];exact q,λb ps q=>⟨#[],by rw[eb (hm b _ q λz=>z),q];simp⟩⟩;by_cases te:b=e
 ·subst te;exact vx
 ·exact⟨u,k b u te q⟩
theorem eE.mono(u:eE fs ex H H1 h O)(aq:∀b∈fs,b∈FI)(ag:∀b∈ex,b∈LX):eE FI LX H H1 h O:=
 ⟨λb cX q n ae he=>u.keep b cX q n (λz=>ae<|aq b z) λz=>he<|ag b z,λ_ _ q n _ he=>u.any q n λz=>he<|ag _ z,λb cX q n he=>u.free b cX q n λz=>he<|ag b z,λb cX q he=>u.there b cX q λz=>he<|ag b z,u.jP,u.jo,u.kn⟩
end
noncomputable def BC(h:br)(H:aM):List ar:=(range h.objs.size).filter λa=>(H a).isSome
noncomputable def qw(h:br)(H:aM):br:=PySem.W.hideAll h (BC h H)
theorem TD(h:br)(H:aM):(qw h H).objs.size=h.objs.size:=PySem.W.hideAll_size _ _
theorem TL{o:bE}(e:h.get? b=J o)(n:H b=aa):(qw h H).get? b=J o:=
 va _ e λhm=>by
  have q:(H b).isSome=af:=(jk.mp hm).2;rw[n]at q;simp at q
theorem TM{o:bE}(e:(qw h H).get? b=J o):h.get? b=J o/\H b=aa:=by
 have b7:h.get? b=J o:=xG (BC h H) e;refine⟨b7,?_⟩;cases q:H b with
 |none=>rfl
 |some x=>
  have hm:b∈BC h H:=jk.mpr ⟨iK.mpr<|c8 b7,by simp[q]⟩;have z:(qw h H).get? b=aa:=rA (BC h H) hm;rw[z]at e;cases e
noncomputable def TN(g h:br)(L:ar):List (ar×bE):=(range h.objs.size).filterMap λa=>if a=L\/(g.get? a).isSome=af then aa else (h.get? a).map λo=>(a,o)
noncomputable def rest(g h:br)(L d:ar):List (ar×bE):=(TN g h L).filter λp=>decide (p.1≠d)
structure Mod(K:PySem.W.Frag)(mg:aQ->Option aj)(base:br):Prop where
 vy:K.In base
 glob:base.Ns fm mg
 blt:∃nC,base.Ns Fn nC/\∀x:aQ,x ≠ "__name__" -> nC x=gL x
 nolimit:base.NoLimit
structure a4 where
 prog:cc
 w:bN
 K:PySem.W.Frag
 mg:aQ->Option aj
 base:br
 A:cj
 N:List aQ
 f':aA
 vz:aM
 env:fL
 outer:List fL
 stack:List fL
 ex:List ar
 fn:aQ->Bool
 calm:Bool
 hO:List (ar×bE)
 dw:aj->aA->Prop
variable{X:a4}
noncomputable def el(l:List fL):List ar:=l.filterMap (·.frame)
noncomputable abbrev a4.fs(X:a4):List ar:=el X.outer
noncomputable def BD(sc:iL)(x:aQ):Prop:=sc.names.lookup x=J .local\/sc.names.lookup x=J .cell\/sc.names.lookup x=J .free
noncomputable def Loc(sc:iL)(x:aQ):Prop:=sc.names.lookup x=J .local\/sc.names.lookup x=J .cell
noncomputable def TP(env:fL)(h:br)(m:aQ->Option aj)(x:aQ)(u:aj):Prop:=
 (env.kindOf x=J .local/\m x=J u)\/((env.kindOf x=J .cell\/env.kindOf x=J .free)/\∃c,env.cells.lookup x=J c/\h.IsCell c (J u))
structure a4.Ok(X:a4):Prop where
 mod:Mod X.K X.mg X.base
 kind:X.env.scope.kind=.function
 glob:X.env.globals=fm
 blt:X.env.builtins=Fn
 above:X.f'.heap.objs.size<=X.env.locals
 inj:∀x y c,X.env.cells.lookup x=J c->X.env.cells.lookup y=J c->x=y
 has:∀x,(X.env.kindOf x=J .cell\/X.env.kindOf x=J .free)->∃c,X.env.cells.lookup x=J c
 pA:∀x c,X.fn x=af->X.env.cells.lookup x=J c->X.f'.heap.objs.size<=c
 hd:X.calm=af->X.A.handled=aa
 frames:X.A.frames=J X.stack
 qx:X.stack=X.outer\/(X.stack=X.env::X.outer/\X.env.frame=J X.env.locals)
 tf:∀b∈X.ex,b≠X.env.locals/\∀x c,X.env.cells.lookup x=J c->c≠b
 bs:∀b o,X.base.get? b=J o->X.f'.heap.get? b=J o/\X.vz b=aa
 mP:X.base.objs.size<=X.f'.heap.objs.size
 pB:∀b o,X.base.get? b=J o->b∉X.ex
 pC:∀b∈X.ex,b∉X.fs
 iR:X.f'.heap.FunFrames X.base X.outer
 n_:∀b∈X.fs,X.vz b=aa
structure Inv(X:a4)(pins:List (ar×bE))(σ:List (Option V))(H:aM)(s:aA):Prop where
 ok:X.Ok
 os:s.os=X.f'.os
 bare:pl s.gens
 base:eE X.fs X.ex X.vz H X.f'.heap s.heap
 loc:∃m,s.heap.Ns X.env.locals m/\∀(i:Nat) (x:aQ) (v:V),X.N[i]?=J x->σ[i]?=J (J v)->BD X.env.scope x->∃u,c_ v u/\TP X.env s.heap m x u
 cell:∀x c,X.env.cells.lookup x=J c->∃v,s.heap.IsCell c v
 free:H X.env.locals=aa
 iv:∀x c,X.env.cells.lookup x=J c->H c=aa
 pin:∀p∈X.hO++pins,s.heap.get? p.1=J p.2/\H p.1=aa/\p.1≠X.env.locals/\p.1∉X.fs/\∀v,p.2.data≠.cell v
 bw:eD X.prog X.w H s.heap
 len:σ.length=X.N.length
section
variable{X:a4}{pins:List (ar×bE)}{σ:List (Option V)}{H ak:aM}{s:aA}{h':br}
theorem a4.Ok.TQ(ok:X.Ok){b:ar}{o:bE}(e:X.base.get? b=J o):b∉X.fs:=λae=>by
 have:=(ok.iR.mem ae).1;rw[e]at this;cases this
theorem Inv.bs(I:Inv X pins σ H s):∀b o,X.base.get? b=J o->s.heap.get? b=J o/\H b=aa:=λb o e=>
 ⟨I.base.keep b o (I.ok.bs b o e).1 (I.ok.bs b o e).2 (I.ok.TQ e) (I.ok.pB b o e),I.base.free b o (I.ok.bs b o e).1 (I.ok.bs b o e).2 (I.ok.pB b o e)⟩
theorem Inv.eF(I:Inv X pins σ H s):∀b o,X.base.get? b=J o->s.heap.get? b=J o:=λb o e=>(I.bs b o e).1
theorem Inv.mod(I:Inv X pins σ H s):Mod X.K X.mg X.base:=I.ok.mod
theorem Inv.oa(I:Inv X pins σ H s):X.K.In s.heap:=I.ok.mod.vy.keeps I.eF
theorem Inv.lt(I:Inv X pins σ H s):X.env.locals<s.heap.objs.size:=let ⟨_,bo,_⟩:=I.loc;bo.lt
theorem Inv.nD(I:Inv X pins σ H s):X.f'.heap.objs.size<=s.heap.objs.size:=hh I.ok.above (sZ I.lt)
theorem Inv.TR(I:Inv X pins σ H s){a:ar}(h:s.heap.objs.size<=a):a∉X.fs:=λae=>by
 obtain⟨_,o,aS,_⟩:=I.ok.iR.mem ae;exact absurd (hs (c8 aS)<|hh I.nD h) (pg _)
theorem Inv.qy(I:Inv X pins σ H s):∀x c,X.env.cells.lookup x=J c->c≠X.env.locals:=λx c e z=>by
 obtain⟨v,o,aS,hd⟩:=I.cell x c e;obtain⟨m,⟨cA,es,ep,hA,iP,_⟩,_⟩:=I.loc;rw[z,hA]at aS;cases aS;rw[iP]at hd;cases hd
theorem Inv.iR(I:Inv X pins σ H s):s.heap.FunFrames X.base X.outer:=by
 have all:∀(l:List fL),(∀b∈el l,b∈X.fs)->X.f'.heap.FunFrames X.base l->s.heap.FunFrames X.base l:=by
  intro l;induction l with
  |nil=>intro _ _;trivial
  |cons env r bS=>
   intro aq aF;obtain⟨aY,⟨L,o,hf,bo,aS,hd⟩,aO⟩:=aF;have h7:L∈X.fs:=aq L (by unfold el;rw[sP,hf];exact ql);obtain⟨bK,e⟩:=I.base.slot L o aS (I.ok.n_ L h7) h7 λz=>I.ok.pC L z h7;exact⟨aY,⟨L,_,hf,bo,e,hd⟩,bS (λb ae=>aq b (by unfold el;rw[sP,hf];exact pa _ ae)) aO⟩
 exact all X.outer (λ_ ae=>ae) I.ok.iR
theorem Inv.stack(I:Inv X pins σ H s):s.heap.FunFrames X.base X.stack:=by
 rcases I.ok.qx with e|⟨e,hf⟩
 ·rw[e];exact I.iR
 ·rw[e];obtain⟨m,bo,_⟩:=I.loc;refine .cons (by rw[I.ok.kind];decide) hf bo ?_ I.iR;exact br.get?_none_of_le (hh I.ok.mP I.ok.above)
theorem Inv.FJ(I:Inv X pins σ H s):∀b∈el X.stack,b∈X.env.locals::X.fs:=λb ae=>by
 rcases I.ok.qx with e|⟨e,hf⟩
 ·rw[e]at ae;exact pa _ ae
 ·rw[e]at ae;unfold el at ae;rw[sP,hf]at ae;exact ae
theorem Inv.vA(I:Inv X pins σ H s):∀b∈el X.stack,H b=aa:=λb ae=>by
 rcases cK.mp (I.FJ b ae) with e|ae
 ·rw[e];exact I.free
 ·obtain⟨_,o,aS,_⟩:=I.ok.iR.mem ae;exact I.base.free b o aS (I.ok.n_ b ae) λz=>I.ok.pC b z ae
theorem Inv.step(I:Inv X pins σ H s)(hj:∀b∈ch,(b∈X.ex\/X.f'.heap.objs.size<=b)/\b≠X.env.locals/\(∀x c,X.env.cells.lookup x=J c->c≠b)/\∀p∈X.hO++pins,p.1≠b)(keep:∀b o,b≠X.env.locals->b∉X.fs->b∉ch->s.heap.get? b=J o->H b=aa->h'.get? b=J o)(slot:∀b o,b≠X.env.locals->b∈X.fs->b∉ch->s.heap.get? b=J o->H b=aa->∃bK,h'.get? b=J {o with slots:=bK})(free:∀b o,b∉ch->s.heap.get? b=J o->H b=aa->ak b=aa)(there:∀b o,b∉ch->s.heap.get? b=J o->∃cA,h'.get? b=J cA)(jP:∀b xs,H b=J (.tup xs)->ak b=J (.tup xs))(jo:∀b o u,H b=J (.fO o u)->ak b=J (.fO o u))(kn:∀b ps,H b=J (.rI ps)->∃more,ak b=J (.rI<|ps++more))(ns:∀m,s.heap.Ns X.env.locals m->h'.Ns X.env.locals m)(bw:eD X.prog X.w ak h')(aJ:pl g'):
  Inv X pins σ ak {s with heap:=h',gens:=g',drawn:=d',toks:=t'}:=by
 have BE:∀b o,X.f'.heap.get? b=J o->b≠X.env.locals:=λb o e=>eB (hs (c8 e) I.ok.above);have BF:∀b o,X.f'.heap.get? b=J o->b∉X.ex->b∉ch:=λb o e ag ae=>by
  rcases (hj b ae).1 with z|z
  ·exact ag z
  ·exact absurd (hs (c8 e) z) (pg _)
 have cellK:∀x c,X.env.cells.lookup x=J c->∀v,s.heap.IsCell c v->h'.IsCell c v:=λx c e v ⟨o,aS,hd⟩=>by
  have x8:c∉ch:=λz=>(hj c z).2.2.1 x c e rfl;by_cases av:c∈X.fs
  ·obtain⟨bK,q⟩:=slot c o (I.qy x c e) av x8 aS (I.iv x c e);exact⟨_,q,hd⟩
  ·exact⟨o,keep c o (I.qy x c e) av x8 aS<|I.iv x c e,hd⟩
 refine⟨I.ok,I.os,aJ,⟨λb o e n ae ag=>?_,λb o e n ae ag=>?_,λb o e n ag=>?_,λb o e ag=>?_,λb xs e=>jP b xs<|I.base.jP b xs e,λb o xs e=>jo b o xs<|I.base.jo b o xs e,λb ps e=>?_⟩,?_,λx c e=>?_,?_,λx c e=>?_,λp aE=>?_,bw,I.len⟩
 ·exact keep b o (BE b o e) ae (BF b o e ag) (I.base.keep b o e n ae ag) (I.base.free b o e n ag)
 ·obtain⟨bK,ay⟩:=I.base.slot b o e n ae ag;obtain⟨th,aG⟩:=slot b _ (BE b o e) ae (BF b o e ag) ay (I.base.free b o e n ag);exact⟨th,aG⟩
 ·obtain⟨cA,ay⟩:=I.base.there b o e ag;exact free b cA (BF b o e ag) ay (I.base.free b o e n ag)
 ·obtain⟨cA,ay⟩:=I.base.there b o e ag;exact there b cA (BF b o e ag) ay
 ·obtain⟨d8,ay⟩:=I.base.kn b ps e;obtain⟨dS,aG⟩:=kn b _ ay;exact⟨d8++dS,by rw[aG,E2]⟩
 ·obtain⟨m,bo,aF⟩:=I.loc;refine⟨m,ns m bo,λi x v ay aG bT=>?_⟩;obtain⟨u,r,l⟩:=aF i x v ay aG bT;refine⟨u,r,?_⟩;rcases l with l|⟨k,c,e,z⟩
  ·exact .inl l
  ·exact .inr ⟨k,c,e,cellK x c e _ z⟩
 ·obtain⟨v,z⟩:=I.cell x c e;exact⟨v,cellK x c e v z⟩
 ·obtain⟨m,⟨o,_,_,aS,_⟩,_⟩:=I.loc;exact free _ o (λz=>(hj _ z).2.1 rfl) aS I.free
 ·obtain⟨v,o,aS,hd⟩:=I.cell x c e;exact free c o (λz=>(hj c z).2.2.1 x c e rfl) aS (I.iv x c e)
 ·obtain⟨e,n,ne,lZ,d⟩:=I.pin p aE;have x8:p.1∉ch:=λz=>(hj p.1 z).2.2.2 p aE rfl;exact⟨keep p.1 p.2 ne lZ x8 e n,free p.1 p.2 x8 e n,ne,lZ,d⟩
theorem Inv.un(I:Inv X pins σ H s)(u:eE X.fs [] H ak s.heap h')(bw:eD X.prog X.w ak h'):Inv X pins σ ak {s with heap:=h',toks:=t'}:=by
 obtain⟨m,⟨o,es,ep,aS,r⟩,_⟩:=id I.loc;obtain⟨bK,h7⟩:=u.any aS I.free (by simp);exact I.step (g':=s.gens) (d':=s.drawn) (ch:=[]) (λ_ z=>nomatch z) (λb o _ ae _ e n=>u.keep b o e n ae (by simp)) (λb o _ ae _ e n=>u.slot b o e n ae (by simp)) (λb o _ e n=>u.free b o e n (by simp)) (λb o _ e=>u.there b o e (by simp)) u.jP u.jo u.kn (λe6 hm=>by
  obtain⟨cA,es',FK,hA,cG⟩:=hm;rw[aS]at hA;cases hA;exact⟨_,es',FK,h7,cG⟩) bw I.bare
theorem Inv.call(I:Inv X pins σ H s)(u:eE (el X.stack) ch H ak s.heap h')(bw:eD X.prog X.w ak h')(aJ:pl g')(hj:∀b∈ch,(b∈X.ex\/X.f'.heap.objs.size<=b)/\b≠X.env.locals/\(∀x c,X.env.cells.lookup x=J c->c≠b)/\∀p∈X.hO++pins,p.1≠b):
  Inv X pins σ ak {s with heap:=h',gens:=g',drawn:=d',toks:=t'}:=by
 obtain⟨m,⟨o,es,ep,aS,r⟩,_⟩:=id I.loc;obtain⟨bK,h7⟩:=u.any aS I.free λz=>(hj _ z).2.1 rfl;exact I.step (ch:=ch) hj (λb o h7 ae av e n=>u.keep b o e n (λz=>(cK.mp<|I.FJ b z).elim h7 ae) av) (λb o _ _ av e n=>u.any e n av) (λb o av e n=>u.free b o e n av) (λb o av e=>u.there b o e av) u.jP u.jo u.kn (λe6 hm=>by
  obtain⟨cA,es',FK,hA,cG⟩:=hm;rw[aS]at hA;cases hA;exact⟨_,es',FK,h7,cG⟩) bw aJ
theorem Inv.turned(I:Inv X pins σ H s)(k:∀b o,b≠it->s.heap.get? b=J o->h'.get? b=J o)(bo:H it=aa)(h7:it≠X.env.locals)(O:it∈X.ex\/X.f'.heap.objs.size<=it)(U:∀x c,X.env.cells.lookup x=J c->c≠it)(aL:∀p∈X.hO++pins,p.1≠it):Inv X pins σ H {s with heap:=h',toks:=t'}:=by
 have LY:∀b u,H b=J u->b≠it:=λb u e z=>by rw[z,bo]at e;cases e
 refine I.step (g':=s.gens) (d':=s.drawn) (ch:=[it]) (λb ae=>?_) (λb o _ _ av e _=>k b o (λz=>av (by simp[z])) e) (λb o _ _ av e _=>⟨o.slots,k b o (λz=>av (by simp[z])) e⟩) (λ_ _ _ _ n=>n)
  (λb o av e=>⟨o,k b o (λz=>av (by simp[z])) e⟩) (λ_ _ e=>e) (λ_ _ _ e=>e) (λb ps e=>⟨#[],by rw[e];simp⟩) (λm hm=>?_) (λb u e=>?_) I.bare
 ·have e:b=it:=by simpa using ae
  subst e;exact⟨O,h7,U,aL⟩
 ·obtain⟨o,es,ep,aS,r⟩:=hm;exact⟨o,es,ep,k _ o (h5 h7) aS,r⟩
 ·refine (I.bw b u e).lX (λc v av q=>k c v ?_ q) (λ_ q=>q) λ_ _ q=>q;rcases av with z|z
  ·rw[z];exact LY b u e
  ·exact LY c _ z
theorem Inv.tok(I:Inv X pins σ H s)(t:Nat):Inv X pins σ H {s with toks:=t}:=I.un (h':=s.heap) (t':=t) eE.refl I.bw
theorem Inv.kept(I:Inv X pins σ H s)(k:∀b u,s.heap.get? b=J u->h'.get? b=J u):Inv X pins σ H {s with heap:=h',toks:=t'}:=I.un (eE.kept k) (I.bw.kept k)
theorem Inv.laid(I:Inv X pins σ H s)(k:∀b u,s.heap.get? b=J u->h'.get? b=J u)(aE:s.heap.objs.size<=a)(new:g9 X.prog X.w (upd H a o) h' a o):
  Inv X pins σ (upd H a o) {s with heap:=h',toks:=t'}:=I.un (eE.laid k aE<|I.bw.fresh aE) (I.bw.laid k aE new)
theorem Inv.write{x e:ar}(I:Inv X pins σ H s)(lY:x7 (H x))(he:e=x\/H e=J (.own x))(k:∀b u,b≠e->s.heap.get? b=J u->h'.get? b=J u)(vx:∃u,h'.get? e=J u)(new:g9 X.prog X.w (upd H x o) h' x o):Inv X pins σ (upd H x o) {s with heap:=h',toks:=t'}:=I.un (eE.write lY he k vx) (I.bw.write lY he k vx new)
theorem Inv.weak{bc:List (Option V)}(I:Inv X pins σ H s)(aF:bc.length=σ.length)(w:∀(i:Nat) v,bc[i]?=J (J v)->σ[i]?=J (J v)):Inv X pins bc H s:=
 ⟨I.ok,I.os,I.bare,I.base,let ⟨m,bo,hv⟩:=I.loc;⟨m,bo,λi x v ay aG bT=>hv i x v ay (w i v aG) bT⟩,I.cell,I.free,I.iv,I.pin,I.bw,aF.trans I.len⟩
theorem Inv.vB{vC:List (ar×bE)}(I:Inv X pins σ H s)(h:∀p∈vC,s.heap.get? p.1=J p.2/\H p.1=aa/\p.1≠X.env.locals/\p.1∉X.fs/\∀v,p.2.data≠.cell v):Inv X vC σ H s:=
 ⟨I.ok,I.os,I.bare,I.base,I.loc,I.cell,I.free,I.iv,λp aE=>(e3.mp aE).elim (λz=>I.pin p<|fD _ z)<|h p,I.bw,I.len⟩
theorem FL(dT:N.Nodup){i j:Nat}{x:aQ}(a:N[i]?=J x)(b:N[j]?=J x):i=j:=by
 obtain⟨O,ay⟩:=iJ.mp a;obtain⟨U,aG⟩:=iJ.mp b;exact (EL dT).mp (ay.trans aG.symm)
variable{Q:Unit->aA->Prop}
theorem FN{M:jJ}(I:Inv X pins σ H s)(dT:X.N.Nodup)(ao:X.N[i]?=J x)(ag:Loc X.env.scope x)(r:c_ v u)(h:∀s',Inv X pins (σ.set i<|J v) H s'->(∃a,br.SameBut a s.heap s'.heap/\(a=X.env.locals\/X.env.cells.lookup x=J a))->Q () s')(hf:X.fn x=af\/X.env.scope.names.lookup x=J .local:=by first|exact .inl rfl|exact .inr rfl|assumption):wpAny M A (storeName X.env x u) Q E s:=by
 obtain⟨m,bo,aF⟩:=id I.loc;have TS:(X.env.scope.kind==.class || (X.env.scope.kind==.module&&X.env.locals != X.env.globals))=aD:=by rw[I.ok.kind];rfl
 have LZ:i<σ.length:=by rw[I.len];exact (iJ.mp ao).1
 have qy:=I.qy;have tracked:∀{a:ar}{h':br},(∃o,s.heap.get? a=J o/\H a=aa)->br.SameBut a s.heap h'->eD X.prog X.w H h':=λ{a h'} az aq b cX e=>by
  obtain⟨_,_,x9⟩:=az;refine (I.bw b cX e).lX (λc gh av q=>(aq.2 c ?_).trans q) (λ_ q=>q) λ_ _ q=>q;rintro rfl;rcases av with rfl|av
  ·rw[x9]at e;cases e
  ·rw[x9]at av;cases av
 rcases ag with aY|aY
 ·refine wpAny_storeName_local aY bo (λh' l0 aq=>?_) TS;obtain⟨TU,_,_,TV,_⟩:=id bo;refine h _ ⟨I.ok,I.os,I.bare,⟨λb o e n ae ag=>?_,λb o e n ae ag=>?_,I.base.free,λb o e ag=>?_,I.base.jP,I.base.jo,I.base.kn⟩,⟨_,l0,λj y jm ay aG bT=>?_⟩,λy c e=>?_,I.free,I.iv,λp aE=>?_,tracked ⟨TU,TV,I.free⟩ aq,by simpa using I.len⟩ ⟨_,aq,.inl rfl⟩
  ·exact (aq.2 b<|eB<|hs (c8 e) I.ok.above).trans (I.base.keep b o e n ae ag)
  ·obtain⟨bK,ay⟩:=I.base.slot b o e n ae ag;exact⟨bK,(aq.2 b<|eB<|hs (c8 e) I.ok.above).trans ay⟩
  ·obtain⟨cA,ay⟩:=I.base.there b o e ag;exact⟨cA,(aq.2 b<|eB<|hs (c8 e) I.ok.above).trans ay⟩
  ·by_cases bx:j=i
   ·subst bx;rw[ao]at ay;cases ay;rw[AG LZ]at aG;cases aG;exact⟨u,r,.inl ⟨aY,by simp⟩⟩
   ·rw[rv (h5 bx)]at aG;obtain⟨x',cG,q⟩:=aF j y jm ay aG bT;refine⟨x',cG,?_⟩;rcases q with ⟨k,e⟩|⟨k,c,e,z⟩
    ·refine .inl ⟨k,?_⟩;have:y≠x:=λe=>bx (FL dT ay<|e ▸ ao);simp[this,e]
    ·exact .inr ⟨k,c,e,z.sameBut aq<|qy y c e⟩
  ·obtain⟨gh,z⟩:=I.cell y c e;exact⟨gh,z.sameBut aq<|qy y c e⟩
  ·obtain⟨e,n,ne,lZ,d⟩:=I.pin p aE;exact⟨(aq.2 p.1 ne).trans e,n,ne,lZ,d⟩
 ·have ti:X.fn x=af:=by
   rcases hf with z|z
   ·exact z
   ·rw[z]at aY;cases aY
  obtain⟨c,av⟩:=I.ok.has x (.inl aY);obtain⟨gh,z⟩:=I.cell x c av;refine wpAny_storeName_cell I.ok.kind aY av z (λh' pD aq=>?_);obtain⟨ko,L0,TW⟩:=id z;refine h {s with heap:=h'} ⟨I.ok,I.os,I.bare,⟨λb o e n ae ag=>?_,λb o e n ae ag=>?_,I.base.free,λb o e ag=>?_,I.base.jP,I.base.jo,I.base.kn⟩,⟨m,bo.sameBut aq<|h5<|qy x c av,λj y jm ay aG bT=>?_⟩,λy c' e=>?_,I.free,I.iv,λp aE=>?_,tracked ⟨ko,L0,I.iv x c av⟩ aq,by simpa using I.len⟩ ⟨c,aq,.inr av⟩
  ·exact (aq.2 b<|eB<|hs (c8 e)<|I.ok.pA x c ti av).trans (I.base.keep b o e n ae ag)
  ·obtain⟨bK,ay⟩:=I.base.slot b o e n ae ag;exact⟨bK,(aq.2 b<|eB<|hs (c8 e)<|I.ok.pA x c ti av).trans ay⟩
  ·obtain⟨cA,ay⟩:=I.base.there b o e ag;exact⟨cA,(aq.2 b<|eB<|hs (c8 e)<|I.ok.pA x c ti av).trans ay⟩
  ·by_cases bx:j=i
   ·subst bx;rw[ao]at ay;cases ay;rw[AG LZ]at aG;cases aG;exact⟨u,r,.inr ⟨.inl aY,c,av,pD⟩⟩
   ·rw[rv (h5 bx)]at aG;obtain⟨x',cG,q⟩:=aF j y jm ay aG bT;refine⟨x',cG,?_⟩;rcases q with q|⟨k,c',e,l1⟩
    ·exact .inl q
    ·refine .inr ⟨k,c',e,l1.sameBut aq ?_⟩;rintro rfl;exact bx (FL dT ay<|I.ok.inj _ _ _ e av ▸ ao)
  ·by_cases L1:c'=c
   ·subst L1;exact⟨_,pD⟩
   ·obtain⟨ec,dH⟩:=I.cell y c' e;exact⟨ec,dH.sameBut aq L1⟩
  ·obtain⟨e,n,ne,lZ,d⟩:=I.pin p aE;refine⟨(aq.2 p.1 ?_).trans e,n,ne,lZ,d⟩;intro q;rw[q,L0]at e;have fP:ko=p.2:=Option.some.inj e;exact d gh (by rw[<-fP];exact TW)
theorem L3{M:jJ}(I:Inv X pins σ H s)(dT:X.N.Nodup)(ao:X.N[i]?=J x)(ag:Loc X.env.scope x)(r:c_ v u)(h:∀s',Inv X pins (σ.set i<|J v) H s'->Q () s')(hf:X.fn x=af\/X.env.scope.names.lookup x=J .local:=by first|exact .inl rfl|exact .inr rfl|assumption):wpAny M A (storeName X.env x u) Q E s:=
 FN I dT ao ag r (λs' gW _=>h s' gW) hf
theorem Inv.L4(I:Inv X pins σ H s)(aS:s'.os=s.os)(u:eE (el X.stack) ch H ak s.heap s'.heap)(bw:eD X.prog X.w ak s'.heap)(aJ:pl s'.gens)(hj:∀b∈ch,(b∈X.ex\/X.f'.heap.objs.size<=b)/\b≠X.env.locals/\(∀x c,X.env.cells.lookup x=J c->c≠b)/\∀p∈X.hO++pins,p.1≠b):Inv X pins σ ak s':=by
 obtain⟨h',g',d',t',cA⟩:=s';have e:cA=s.os:=aS;subst e;exact I.call (g':=g') (t':=t') (d':=d') u bw aJ hj
end
noncomputable abbrev hP:=aj->Option ar->aM->Prop
noncomputable abbrev St:=List (Option V)
variable{σ:St}
noncomputable abbrev dN:=V->aM->Prop
noncomputable abbrev TE:=St->aM->dN->Prop
variable{eV:TE}
noncomputable abbrev TT:=St->aM->(Bool->aM->Prop)->Prop
variable{jQ:TT}
noncomputable abbrev gX:=St->aM->(List V->aM->Prop)->Prop
structure Ends where
 bC:St->aM->Prop
 fQ:dN
 eF:St->aM->Prop:=λ_ _=>False
 dA:St->aM->Prop:=λ_ _=>False
noncomputable abbrev gM:=Ends->St->aM->Prop
variable{eU:gM}
noncomputable def gi(X:a4)(pins:List (ar×bE))(σ:St)(Q:dN)(u:aj)(s':aA):Prop:=∃v ak,Inv X pins σ ak s'/\c_ v u/\Q v ak
noncomputable def BG(X:a4)(pins:List (ar×bE))(σ:St)(Q:Bool->aM->Prop)(b:Bool)(s':aA):Prop:=∃ak,Inv X pins σ ak s'/\Q b ak
noncomputable def TX(X:a4)(pins:List (ar×bE))(σ:St)(Q:List V->aM->Prop)(us:List aj)(s':aA):Prop:=∃vs ak,Inv X pins σ ak s'/\cZ vs us/\Q vs ak
noncomputable def nE(X:a4)(pins:List (ar×bE))(D:Ends)(f:Flow)(s':aA):Prop:=
 match f with
 |.next=>∃bc ak,Inv X pins bc ak s'/\D.bC bc ak
 |.brk=>∃bc ak,Inv X pins bc ak s'/\D.eF bc ak
 |.cont=>∃bc ak,Inv X pins bc ak s'/\D.dA bc ak
 |.ret u=>∃v bc ak,Inv X pins bc ak s'/\c_ v u/\D.fQ v ak
noncomputable def FO(X:a4)(e:bM)(t:TE)(pins:List (ar×bE)):Prop:=
 ∀(s:aA) (σ:St) (H:aM) (Q:dN),Inv X pins σ H s->t σ H Q->wpAny (a' X.prog X.w) X.A (de e X.env) (gi X pins σ Q) X.dw s
noncomputable def cF(X:a4)(e:bM)(t:TE):Prop:=∀pins,FO X e t pins
noncomputable def L5(X:a4)(e:bM)(t:TT)(pins:List (ar×bE)):Prop:=
 ∀(s:aA) (σ:St) (H:aM) (Q:Bool->aM->Prop),Inv X pins σ H s->t σ H Q->wpAny (a' X.prog X.w) X.A (vj e X.env<|de e X.env) (BG X pins σ Q) X.dw s
noncomputable def kV(X:a4)(e:bM)(t:TT):Prop:=∀pins,L5 X e t pins
noncomputable def L6(X:a4)(e:bM)(t:TT)(whole:gK aj):Prop:=
 ∀(pins:List (ar×bE)) (s:aA) (σ:St) (H:aM) (Q:Bool->aM->Prop),Inv X pins σ H s->t σ H Q->wpAny (a' X.prog X.w) X.A (vj e X.env whole) (BG X pins σ Q) X.dw s
noncomputable def ob(X:a4)(e:bM)(t:TT):Prop:=∀whole,L6 X e t whole
theorem ob.pt{t:TT}(h:ob X e t):kV X e t:=h _
noncomputable def L7(X:a4)(es:List bM)(t:gX)(pos:dk):Prop:=
 ∀(pins:List (ar×bE)) (s:aA) (σ:St) (H:aM) (Q:List V->aM->Prop),Inv X pins σ H s->t σ H Q->wpAny (a' X.prog X.w) X.A (spliced<|ht pos<|cx es X.env) (TX X pins σ Q) X.dw s
noncomputable def iS(X:a4)(es:List bM)(t:gX):Prop:=∀pos,L7 X es t pos
noncomputable def L8(X:a4)(st:cg)(t:gM)(pins:List (ar×bE)):Prop:=
 ∀(s:aA) (σ:St) (H:aM) (D:Ends),Inv X pins σ H s->t D σ H->wpAny (a' X.prog X.w) X.A (exec st X.env) (nE X pins D) X.dw s
noncomputable def jR(X:a4)(st:cg)(t:gM):Prop:=∀pins,L8 X st t pins
noncomputable def L9(X:a4)(st:List cg)(t:gM)(pins:List (ar×bE)):Prop:=
 ∀(s:aA) (σ:St) (H:aM) (D:Ends),Inv X pins σ H s->t D σ H->wpAny (a' X.prog X.w) X.A (execs st X.env) (nE X pins D) X.dw s
noncomputable def iT(X:a4)(st:List cg)(t:gM):Prop:=∀pins,L9 X st t pins
theorem cQ{α:Type}{t:gK α}{Q Q':α->aA->Prop}{M:jJ}(h:wpAny M A t Q E s)(fE:∀a s,Q a s->Q' a s):wpAny M A t Q' E s:=ip h fE λ_ _ x=>x
section
variable{X:a4}
noncomputable def qz(i:Nat):TE:=λσ H Q=>∃v,σ[i]?=J (J v)/\Q v H
noncomputable def tj(v:V):TE:=λ_ H Q=>Q v H
theorem L'(dT:X.N[i]?=J x)(bb:BD X.env.scope x)(hd:(x==("__debug__" : aQ))=aD:=by decide)(kW:(x==("__classdict__" : aQ))=aD:=by decide):cF X (.Name x pos) (qz i):=by
 intro pins s σ H Q I h;obtain⟨v,e,h⟩:=h;obtain⟨m,bo,aF⟩:=I.loc;obtain⟨u,r,l⟩:=aF i x v dT e bb;have fin:gi X pins σ Q u s:=⟨v,H,I,r,h⟩;rcases l with ⟨aY,hm⟩|⟨aY,c,av,BH⟩
 ·exact Ew (wpAny_loadName_local I.ok.kind aY bo hm fin) hd
 ·rcases aY with aY|aY
  ·exact Ew (wpAny_loadName_cell I.ok.kind aY av BH fin) hd
  ·exact Ew (wpAny_loadName_free I.ok.kind aY av BH fin kW) hd
theorem TY{i j pos}:cF X (.Constant (.int i) j pos) (tj<|.int i):=λ_ _ _ H _ I h=>wpAny_Constant_int ⟨.int i,H,I.tok _,⟨_,rfl⟩,h⟩
theorem TZ{b j pos}:cF X (.Constant (.bool b) j pos) (tj<|.aR b):=λ_ _ _ H _ I h=>Constant_bool ⟨.aR b,H,I,rfl,h⟩
theorem T0{x j pos}:cF X (.Constant (.str x) j pos) (tj<|.str x):=λ_ _ _ H _ I h=>Calls.Constant_str ⟨.str x,H,I.tok _,⟨_,rfl⟩,h⟩
noncomputable def fo(X:a4)(x:aQ):Prop:=X.env.kindOf x=J .globalImplicit
theorem lc(I:Inv X pins σ H s)(aJ:fo X x)(hm:X.mg x=J u)(h:Q u s)(hd:(x==("__debug__" : aQ))=aD:=by decide):wpAny (a' X.prog X.w) X.A (de (.Name x pos) X.env) Q E s:=
 Lx I.ok.kind aJ (Calls.loadGlobal_global (by rw[I.ok.glob];exact I.mod.glob.keeps I.eF) hm h) hd
theorem tl(I:Inv X pins σ H s)(aJ:fo X x)(hm:X.mg x=aa)(bb:gL x=J u)(h:Q u s)(bo:x ≠ "__name__" := by decide)(hd:(x==("__debug__" : aQ))=aD:=by decide):wpAny (a' X.prog X.w) X.A (de (.Name x pos) X.env) Q E s:=by
 obtain⟨nC,O,U⟩:=I.mod.blt;exact Lx I.ok.kind aJ (Calls.loadGlobal_builtin (by rw[I.ok.glob];exact I.mod.glob.keeps I.eF) hm (by rw[I.ok.blt];exact O.keeps I.eF) ((U x bo).trans bb) h) hd
theorem BI(aJ:fo X x)(hm:X.mg x=J u)(r:c_ v u)(hd:(x==("__debug__" : aQ))=aD:=by decide):cF X (.Name x pos) (tj v):=
 λ_ _ _ H _ I h=>lc I aJ hm ⟨v,H,I,r,h⟩ hd
theorem L_(aJ:fo X x)(hm:X.mg x=aa)(bb:gL x=J u)(r:c_ v u)(bo:x ≠ "__name__" := by decide)(hd:(x==("__debug__" : aQ))=aD:=by decide):cF X (.Name x pos) (tj v):=
 λ_ _ _ H _ I h=>tl I aJ hm bb ⟨v,H,I,r,h⟩ bo hd
variable{a b:bM}{cP eU:TE}{pos:dk}
variable{kX BJ:TT}{rest:List bM}
noncomputable def Ma(t u:TT):TT:=λσ H Q=>t σ H λc H1=>if c=af then u σ H1 Q else Q aD H1
noncomputable def Mb(t u:TT):TT:=λσ H Q=>t σ H λc H1=>if c=af then Q af H1 else u σ H1 Q
noncomputable def T1(t:TT):TT:=λσ H Q=>t σ H λc H1=>Q (!c) H1
theorem T2(az:kV X a kX):ob X (.BoolOp .And [a] pos) kX:=by
 intro tm pins s σ H Q I h;refine isTrue_and (cQ (az pins s σ H Q I h) λc s1 e=>?_);cases c with
 |true=>exact isTrue_and_nil e
 |false=>exact e
theorem xL(az:kV X a kX):ob X (.BoolOp .Or [a] pos) kX:=by
 intro tm pins s σ H Q I h;refine isTrue_or (cQ (az pins s σ H Q I h) λc s1 e=>?_);cases c with
 |false=>exact isTrue_or_nil e
 |true=>exact e
theorem T3(az:kV X a kX)(ae:ob X (.BoolOp .And (b::rest) pos) BJ):ob X (.BoolOp .And (a::b::rest) pos) (Ma kX BJ):=by
 intro tm pins s σ H Q I h;refine isTrue_and (cQ (az pins s σ H _ I h) λc s1 ⟨H1,bG,bz⟩=>?_);cases c with
 |true=>exact ae tm pins s1 σ H1 Q bG bz
 |false=>exact⟨H1,bG,bz⟩
theorem T4(az:kV X a kX)(ae:ob X (.BoolOp .Or (b::rest) pos) BJ):ob X (.BoolOp .Or (a::b::rest) pos) (Mb kX BJ):=by
 intro tm pins s σ H Q I h;refine isTrue_or (cQ (az pins s σ H _ I h) λc s1 ⟨H1,bG,bz⟩=>?_);cases c with
 |true=>exact⟨H1,bG,bz⟩
 |false=>exact ae tm pins s1 σ H1 Q bG bz
theorem T5(az:kV X a kX):kV X (.UnaryOp .Not a pos) (T1 kX):=by
 intro pins s σ H Q I h;exact isTrue_not (az pins s σ H (λc H1=>Q (!c) H1) I h)
noncomputable def T6(cP eU:TE):TE:=λσ H Q=>cP σ H λx H1=>∃c,x=.aR c/\if c=af then eU σ H1 Q else Q (.aR aD) H1
noncomputable def T7(cP:TE):TE:=λσ H Q=>cP σ H λx H1=>∃c,x=.aR c/\Q (.aR<|!c) H1
theorem T8{op}{t:TE}(h:cF X a t):cF X (.BoolOp op [a] pos) t:=λpins s σ H Q I hw=>BoolOp_one (h pins s σ H Q I hw)
theorem T9(az:cF X a cP)(ae:cF X (.BoolOp .And (b::rest) pos) eU):cF X (.BoolOp .And (a::b::rest) pos) (T6 cP eU):=by
 intro pins s σ H Q I h;refine BoolOp_and (cQ (az pins s σ H _ I h) λv s1 ⟨x,H1,bG,a9,bz⟩=>?_);obtain⟨c,rfl,bz⟩:=bz;cases a9;refine ru ?_;cases c with
 |true=>exact ae pins s1 σ H1 Q bG bz
 |false=>exact⟨.aR aD,H1,bG,rfl,bz⟩
theorem T'(az:cF X a cP):cF X (.UnaryOp .Not a pos) (T7 cP):=by
 intro pins s σ H Q I h;refine UnaryOp_ (cQ (az pins s σ H _ I h) λv s1 ⟨x,H1,bG,a9,bz⟩=>?_);obtain⟨c,rfl,bz⟩:=bz;cases a9;exact not_of (ru ⟨.aR<|!c,H1,bG,rfl,bz⟩)
end
noncomputable def er(K:PySem.W.Frag)(H:aM)(a:ar)(xs:List V):Prop:=
 pz H a (.lst xs)\/
  ∃(o:bE) (aP:Array aj) (n:Nat),K.lookup a=J o/\o.cls=.type "list" /\ o.dict=aa/\o.data=.seq aP n/\aP.size<=sizeLine/\cZ xs aP.toList
noncomputable def dh(K:PySem.W.Frag)(H:aM)(a:ar)(xs:List V):Prop:=
 pz H a (.tup xs)\/
  ∃(o:bE) (aP:Array aj) (n:Nat),K.lookup a=J o/\o.cls=.type "tuple" /\ o.data=.seq aP n/\aP.size<=sizeLine/\cZ xs aP.toList
noncomputable def T_:aj->Option V
 |.none=>J .bu
 |.bool b=>J (.aR b)
 |.int i _=>J (.int i)
 |.str x _=>J (.str x)
 |.bytes b _=>J (.x4 b)
 |.float b _=>J (.FH b)
 |.ref a=>J (.ref a)
 |.type n=>J (.ty n)
 |_=>aa
theorem c_.abs{x:V}(r:c_ x u):T_ u=J x:=by
 cases x with
 |bu=>cases r;rfl
 |aR _=>cases r;rfl
 |int _=>obtain⟨t,rfl⟩:=r;rfl
 |str _=>obtain⟨t,rfl⟩:=r;rfl
 |x4 _=>obtain⟨t,rfl⟩:=r;rfl
 |FH _=>obtain⟨t,rfl⟩:=r;rfl
 |ref _=>cases r;rfl
 |ty _=>cases r;rfl
theorem c_.inj{x:V}(r:c_ x u)(q:c_ y u):x=y:=Option.some.inj (r.abs.symm.trans q.abs)
theorem cZ.inj:∀{xs a3:List V}{us:List aj},cZ xs us->cZ a3 us->xs=a3
 |_,_,_,.nil,.nil=>rfl
 |_,_,_,.cons r t,.cons cG t'=>by rw[r.inj cG,cZ.inj t t']
section
variable{X:a4}{pins:List (ar×bE)}{σ:St}{H:aM}{s:aA}{a:ar}{xs a3:List V}
theorem er.of(h:H a=J (.lst xs)):er K H a xs:=.inl (.inl h)
theorem dh.of(h:H a=J (.tup xs)):dh K H a xs:=.inl (.inl h)
theorem Inv.list(I:Inv X pins σ H s)(h:er X.K H a xs):∃aP:List aj,cZ xs aP/\PlainL s.heap a aP.toArray/\xs.length<=sizeLine:=by
 rcases h with h|⟨o,aP,n,aY,av,hd,aq,hz,r⟩
 ·obtain⟨z,aP,n,r,e⟩:=h.ok I.bw;exact⟨aP,r,⟨_,n,e,rfl,rfl,rfl⟩,z⟩
 ·refine⟨aP.toList,r,⟨o,n,I.oa a o aY,av,hd,by simpa using aq⟩,?_⟩;have e:=r.length;simp only[eT]at e;lia
theorem Inv.tuple(I:Inv X pins σ H s)(h:dh X.K H a xs):∃aP:List aj,cZ xs aP/\pk s.heap a aP.toArray/\xs.length<=sizeLine:=by
 rcases h with h|⟨o,aP,n,aY,av,aq,hz,r⟩
 ·obtain⟨z,aP,r,p⟩:=h.ok I.bw;exact⟨aP,r,p,z⟩
 ·refine⟨aP.toList,r,⟨o,I.oa a o aY,av,n,by simpa using aq⟩,?_⟩;have e:=r.length;simp only[eT]at e;lia
theorem Inv.Ua(I:Inv X pins σ H s)(h:er X.K H a xs)(h':er X.K H a a3):xs=a3:=by
 obtain⟨aP,r,⟨o,n,e,_,_,d⟩,_⟩:=I.list h;obtain⟨its',cG,⟨cA,tn,b7,_,_,d'⟩,_⟩:=I.list h';rw[e]at b7;cases b7;rw[d]at d';injection d' with cS _;have:aP=its':=by simpa using congrArg Array.toList cS
 subst this;exact r.inj cG
theorem Inv.FP(I:Inv X pins σ H s)(h:dh X.K H a xs)(h':dh X.K H a a3):xs=a3:=by
 obtain⟨aP,r,⟨o,e,_,n,d⟩,_⟩:=I.tuple h;obtain⟨its',cG,⟨cA,b7,_,tn,d'⟩,_⟩:=I.tuple h';rw[e]at b7;cases b7;rw[d]at d';injection d' with cS _;have:aP=its':=by simpa using congrArg Array.toList cS
 subst this;exact r.inj cG
end
noncomputable abbrev a4.pE(X:a4)(E:aj->aA->Prop):a4:={X with dw:=E}
noncomputable abbrev a4.vD(X:a4):a4:=X.pE λ_ _=>False
theorem a4.Ok.pE(ok:X.Ok)(E:aj->aA->Prop):(X.pE E).Ok:=
 ⟨ok.mod,ok.kind,ok.glob,ok.blt,ok.above,ok.inj,ok.has,ok.pA,ok.hd,ok.frames,ok.qx,ok.tf,ok.bs,ok.mP,ok.pB,ok.pC,ok.iR,ok.n_⟩
theorem a4.Ok.rJ(ok:(X.pE E).Ok):X.Ok:=
 ⟨ok.mod,ok.kind,ok.glob,ok.blt,ok.above,ok.inj,ok.has,ok.pA,ok.hd,ok.frames,ok.qx,ok.tf,ok.bs,ok.mP,ok.pB,ok.pC,ok.iR,ok.n_⟩
section
variable{X:a4}{pins:List (ar×bE)}{σ:St}{H:aM}{s:aA}{E:aj->aA->Prop}
theorem Inv.pE(I:Inv X pins σ H s)(E:aj->aA->Prop):Inv (X.pE E) pins σ H s:=⟨I.ok.pE E,I.os,I.bare,I.base,I.loc,I.cell,I.free,I.iv,I.pin,I.bw,I.len⟩
theorem Inv.rJ(I:Inv (X.pE E) pins σ H s):Inv X pins σ H s:=⟨I.ok.rJ,I.os,I.bare,I.base,I.loc,I.cell,I.free,I.iv,I.pin,I.bw,I.len⟩
theorem nE.rJ{D:Ends}{f:Flow}(h:nE (X.pE E) pins D f s'):nE X pins D f s':=by
 cases f with
 |next=>obtain⟨bc,ak,I,q⟩:=h;exact⟨bc,ak,I.rJ,q⟩
 |brk=>obtain⟨bc,ak,I,q⟩:=h;exact⟨bc,ak,I.rJ,q⟩
 |cont=>obtain⟨bc,ak,I,q⟩:=h;exact⟨bc,ak,I.rJ,q⟩
 |ret u=>obtain⟨v,bc,ak,I,r,q⟩:=h;exact⟨v,bc,ak,I.rJ,r,q⟩
theorem iT.vD{st:List cg}{t:gM}(h:iT X.vD st t):iT X st t:=λpins s σ H D I hw=>
 ip (h pins s σ H D (I.pE _) hw) (λ_ _ q=>q.rJ) λ_ _ z=>False.elim z
end
section
variable{X:a4}{st:cg}{rest:List cg}{t u:gM}{e:bM}{eV:TE}{pos:dk}
noncomputable def Ub:gM:=λD σ H=>D.bC σ H
noncomputable def Mc(t u:gM):gM:=λD σ H=>t {D with bC:=u D} σ H
theorem Uc:iT X [] Ub:=λ_ _ σ H _ I h=>uZ ⟨σ,H,I,h⟩
theorem io(O:jR X st t)(U:iT X rest u):iT X (st::rest) (Mc t u):=by
 intro pins s σ H D I h;refine J7 (cQ (O pins s σ H {D with bC:=u D} I h) λf s1 q=>?_);cases f with
 |next=>
  obtain⟨bc,ak,gW,q⟩:=q;exact U pins s1 bc ak D gW q
 |ret v=>exact q
 |brk=>exact q
 |cont=>exact q
theorem Ud(O:jR X st t):iT X [st] t:=by
 intro pins s σ H D I h;refine J7 (cQ (O pins s σ H D I h) λf s1 q=>?_);cases f with
 |next=>exact uZ q
 |ret v=>exact q
 |brk=>exact q
 |cont=>exact q
theorem Inv.quiet(I:Inv X pins σ H s):interactive X.env=aD:=by simp[interactive,I.ok.kind]
noncomputable def Ue(eV:TE):gM:=λD σ H=>eV σ H λ_ H1=>D.bC σ H1
theorem Md(he:cF X e eV)(aq:s9 e aa pos.line X.env=pure aD:=by rfl):jR X (.Expr e pos) (Ue eV):=by
 intro pins s σ H D I h;exact wpAny_Expr_any (cQ (he pins s σ H _ I h) λv s1 ⟨x,H1,bG,a9,bz⟩=>⟨σ,H1,bG,bz⟩) I.quiet aq
noncomputable def Uf(eV:TE):gM:=λD σ H=>eV σ H D.fQ
theorem Me(he:cF X e eV):jR X (.Return (J e) pos) (Uf eV):=by
 intro pins s σ H D I h;exact wpAny_Return_some (cQ (he pins s σ H _ I h) λv s1 ⟨x,H1,bG,a9,bz⟩=>⟨x,σ,H1,bG,a9,bz⟩)
noncomputable def Ug(c:TT)(t u:gM):gM:=λD σ H=>c σ H λb H1=>if b=af then t D σ H1 else u D σ H1
theorem Mf{a b:List cg}(av:kV X c jQ)(az:iT X a t)(ae:iT X b u):jR X (.If c a b pos) (Ug jQ t u):=by
 intro pins s σ H D I h;refine wpAny_If (cQ (av pins s σ H _ I h) λd s1 ⟨H1,bG,bz⟩=>?_);cases d with
 |true=>exact az pins s1 σ H1 D bG bz
 |false=>exact ae pins s1 σ H1 D bG bz
noncomputable def Uh:gM:=λ_ _ _=>False
theorem Ui:jR X st Uh:=λ_ _ _ _ _ _ h=>h.elim
end
noncomputable abbrev jq:=V->St->aM->(St->aM->Prop)->Prop
noncomputable abbrev pF:=List V->St->aM->(St->aM->Prop)->Prop
noncomputable def Mg(X:a4)(target:bM)(t:jq)(pins:List (ar×bE)):Prop:=
 ∀(s:aA) (σ:St) (H:aM) (v:V) (u:aj) (Q:St->aM->Prop),Inv X pins σ H s->c_ v u->t v σ H Q->
  wpAny (a' X.prog X.w) X.A (lT target X.env u) (λ_ s'=>∃bc ak,Inv X pins bc ak s'/\Q bc ak) X.dw s
noncomputable def oc(X:a4)(target:bM)(t:jq):Prop:=∀pins,Mg X target t pins
noncomputable def Mh(X:a4)(dB:List bM)(t:pF)(pins:List (ar×bE)):Prop:=
 ∀(s:aA) (σ:St) (H:aM) (vs:List V) (us:List aj) (Q:St->aM->Prop),Inv X pins σ H s->cZ vs us->t vs σ H Q->
  wpAny (a' X.prog X.w) X.A (assignInOrder ((jK dB X.env).map (·.2)) us) (λ_ s'=>∃bc ak,Inv X pins bc ak s'/\Q bc ak) X.dw s
noncomputable def tp(X:a4)(dB:List bM)(t:pF):Prop:=∀pins,Mh X dB t pins
noncomputable abbrev FQ:=V->V->V->aM->(aM->Prop)->Prop
noncomputable def FR(X:a4)(t:FQ):Prop:=
 ∀(pins:List (ar×bE)) (s:aA) (σ:St) (H:aM) (o i v:V) (iU dO u:aj) (Q:aM->Prop),Inv X pins σ H s->c_ o iU->c_ i dO->c_ v u->t o i v H Q->
  wpAny (a' X.prog X.w) X.A (Be iU dO u) (λ_ s'=>∃ak,Inv X pins σ ak s'/\Q ak) X.dw s
section
variable{X:a4}{pos:dk}
noncomputable def FT(i:Nat):jq:=λv σ H Q=>Q (σ.set i<|J v) H
theorem FU(dT:X.N.Nodup)(ao:X.N[i]?=J x)(ag:Loc X.env.scope x)(hf:X.fn x=af\/X.env.scope.names.lookup x=J .local:=by first|exact .inl rfl|exact .inr rfl|assumption):oc X (.Name x pos) (FT i):=by
 intro pins s σ H v u Q I r h;exact JY (L3 I dT ao ag r (λs' gW=>⟨_,H,gW,h⟩) hf)
noncomputable def Uj:pF:=λvs σ H Q=>vs=[]/\Q σ H
noncomputable def Uk(t:jq)(u:pF):pF:=λvs σ H Q=>∃v r,vs=v::r/\t v σ H λbc ak=>u r bc ak Q
theorem Mi:tp X [] Uj:=by
 intro pins s σ H vs us Q I r h;obtain⟨e,h⟩:=h;subst e;cases r;exact assignInOrder_nil ⟨σ,H,I,h⟩
theorem FV{t:jq}{u:pF}(O:oc X e t)(U:tp X es u)(aq:(jK (e::es) X.env).map (·.2)=lT e X.env::(jK es X.env).map (·.2):=by rfl):tp X (e::es) (Uk t u):=by
 intro pins s σ H vs us Q I r h;obtain⟨v,agm,ay,h⟩:=h;subst ay;cases r with
 |cons r iV=>
  rw[aq];refine assignInOrder_cons (cQ (O pins s σ H _ _ _ I r h) λ_ s1 ⟨l2,H1,bG,bz⟩=>?_);exact U pins s1 l2 H1 _ _ Q bG iV bz
noncomputable def Ul(K:PySem.W.Frag)(n:Nat)(t:pF):jq:=λv σ H Q=>∃a xs,v=.ref a/\dh K H a xs/\xs.length=n/\t xs σ H Q
theorem Um{t:pF}(av:X.calm=af)(h:tp X es t)(bo:(jK es X.env).length=n:=by rfl)(gj:(jK es X.env).findIdx? (·.1)=aa:=by rfl):oc X (.Tuple es k pos) (Ul X.K n t):=by
 intro pins s σ H v u Q I r hw;obtain⟨a,xs,ay,bk,aF,hw⟩:=hw;subst ay;cases r;obtain⟨aP,b0,cE,hz⟩:=I.tuple bk;refine K' (I.ok.hd av) cE (by simp[bo,<-aF,b0.length]) gj λh' ag=>?_;have bG:Inv X pins σ H {s with heap:=h'}:=I.kept (t':=s.toks) λb o e=>ag b o (eB<|c8 e) e;exact h pins _ σ H xs _ Q bG (by simpa using b0) hw
noncomputable def Un(to BK:TE)(t:FQ):jq:=λv σ H Q=>to σ H λo H1=>BK σ H1 λi a6=>t o i v a6 λcY=>Q σ cY
theorem Uo{o i:bM}{to BK:TE}{t:FQ}(aS:cF X o to)(ao:cF X i BK)(aq:FR X t)(az:∀v,lT (.Subscript o i pos) X.env v=(do
   let iU <-holding [v] (de o X.env)
   let dO <-holding [v,iU] (de i X.env)
   standAt pos
   holding [v,iU,dO] (Be iU dO v)
   release [v,iU,dO] []):=by intro _;rfl):oc X (.Subscript o i pos) (Un to BK t):=by
 intro pins s σ H v u Q I r h;rw[az];refine aH (ki<|cQ (aS pins s σ H _ I h) λiU s1 ⟨x,H1,bG,a9,bz⟩=>?_);refine aH (ki<|cQ (ao pins s1 σ H1 _ bG bz) λdO s2 ⟨y,a6,dp,bF,cR⟩=>?_);refine aH (En<|aH<|ki<|cQ (aq pins s2 σ a6 x y v iU dO u _ dp a9 bF r cR) λ_ s3 ⟨cY,f_,ed⟩=>?_);exact wpAny_release ⟨σ,cY,f_,ed⟩
noncomputable def FW(eV:TE)(g:jq):gM:=λD σ H=>eV σ H λx H1=>g x σ H1 D.bC
theorem Up{g:jq}(he:cF X e eV)(aJ:oc X tg g)(aq:Bf [tg] e pos.line X.env=pure aD:=by rfl)(hw:Bg [tg] e X.env=pure aa:=by rfl)(O:(jK [tg] X.env).map (·.2)=[lT tg X.env]:=by rfl):jR X (.Assign [tg] e pos) (FW eV g):=by
 intro pins s σ H D I h;refine JW (cQ (he pins s σ H _ I h) λv s1 ⟨x,H1,bG,a9,bz⟩=>?_) aq hw;rw[O];exact cQ (aJ pins s1 σ H1 x v _ bG a9 bz) λ_ s2 q=>q
theorem Uq{pos':dk}(dT:X.N.Nodup)(ao:X.N[i]?=J x)(ag:Loc X.env.scope x)(he:cF X e eV)(aq:s9 e (J<|.Name x pos') pos.line X.env=pure aD:=by rfl)(hf:X.fn x=af\/X.env.scope.names.lookup x=J .local:=by first|exact .inl rfl|exact .inr rfl|assumption):
  jR X (.Assign [.Name x pos'] e pos) (FW eV<|FT i):=by
 intro pins s σ H D I h;refine wpAny_Assign_Name (cQ (he pins s σ H _ I h) λv s1 ⟨y,H1,bG,a9,bz⟩=>?_) aq;exact L3 bG dT ao ag a9 (λs2 dp=>⟨_,H1,dp,bz⟩) hf
noncomputable def Ur(i j:Nat)(cP:gX):gM:=λD σ H=>cP σ H λvs H1=>∃v w,vs=[v,w]/\D.bC ((σ.set i<|J v).set j<|J w) H1
end
section
variable{X:a4}{pos:dk}
noncomputable def Us(c:TT)(eU:gM):gM:=λD σ H=>∃W:Nat->St->aM->Prop,(∃m,W m σ H)/\∀m σ H,W m σ H->
 c σ H λb H1=>if b=af then ∃N:St->aM->Prop,(∀bc ak,N bc ak->∃e6,e6<m/\W e6 bc ak)/\eU {D with bC:=N,dA:=N,eF:=D.bC} σ H1 else D.bC σ H1
theorem Ut(aE:vk (a' X.prog X.w) X.A X.env X.dw)(av:kV X c jQ)(ae:iT X body eU):jR X (.While c body [] pos) (Us jQ eU):=by
 intro pins s σ H D I h;obtain⟨W,⟨m0,rK⟩,turn⟩:=h;refine wpAny_While (codeAny_whileLoop (λn s'=>∃bc ak,Inv X pins bc ak s'/\W n bc ak) ?_ m0 ⟨σ,H,I,rK⟩);rintro n s1 ⟨l2,H1,bG,ee⟩;refine sL aE (cQ (av pins s1 l2 H1 _ bG<|turn n l2 H1 ee) λb s2 ⟨a6,dp,cR⟩=>?_);cases b with
 |true=>
  obtain⟨N,dT,cR⟩:=cR;rw[aV rfl];refine sL aE (cQ (ae pins s2 l2 a6 _ dp cR) λf s3 ed=>?_);cases f with
  |next=>
   obtain⟨jS,cY,f_,x_⟩:=ed;obtain⟨e6,hm,gk⟩:=dT jS cY x_;exact⟨e6,hm,jS,cY,f_,gk⟩
  |cont=>
   obtain⟨jS,cY,f_,x_⟩:=ed;obtain⟨e6,hm,gk⟩:=dT jS cY x_;exact⟨e6,hm,jS,cY,f_,gk⟩
  |brk=>exact ed
  |ret v=>exact ed
 |false=>
  rw[aZ e1];exact uZ ⟨l2,a6,dp,cR⟩
end
structure nF where
 go:Nat->aM->Prop
 ya:Nat->aM->V->aM->Prop
 stop:Nat->aM->Prop
noncomputable def od(X:a4)(pins:List (ar×bE))(H:aM)(b:ar):Prop:=
 H b=aa/\b≠X.env.locals/\b∉X.fs/\(b∈X.ex\/X.f'.heap.objs.size<=b)/\(∀x c,X.env.cells.lookup x=J c->c≠b)/\∀p∈X.hO++pins,p.1≠b
theorem Inv.BL(I:Inv X pins σ H s)(ae:s.heap.objs.size<=b)(bo:ak b=aa):od X pins ak b:=by
 refine⟨bo,s6<|hs I.lt ae,I.TR ae,.inr<|hh I.nD ae,λx c e z=>?_,λp aE z=>?_⟩
 ·obtain⟨v,q⟩:=I.cell x c e;exact absurd (hs q.lt (by rw[z];exact ae)) (pg _)
 ·exact absurd (hs (c8 (I.pin p aE).1) (by rw[z];exact ae)) (pg _)
structure Turn(P:cc)(w:bN)(K:PySem.W.Frag)(tg:bM)(cm:nF)(c9:List ar)(it:ar)(kp:Nat->br->Prop):Prop where
 mem:it∈c9
 obj:∀i h,kp i h->∀b∈c9,∃o,h.get? b=J o/\∀v,o.data≠.cell v
 keep:∀i h h',kp i h->(∀b∈c9,∀o,h.get? b=J o->h'.get? b=J o)->kp i h'
 item:∀(X:a4),X.prog=P->X.w=w->X.K=K->X.calm=af->∀(i:Nat) (pins:List (ar×bE)) (s:aA) (σ:St) (H:aM) (E:aj->aA->Prop),Inv X pins σ H s->(∀b∈c9,od X pins H b)->kp i s.heap->cm.go i H->
  wpAny (a' P w) X.A (jL<|.ref it) (λr s1=>∃u,r=J u/\
   wpAny (a' P w) X.A (xS tg (.ref it) u) (λ_ s2=>∃x ak,Inv X pins σ ak s2/\c_ x u/\cm.ya i H x ak/\kp (i+1) s2.heap/\∀b∈c9,ak b=aa) E s1) E s
 done:∀(X:a4),X.prog=P->X.w=w->X.K=K->X.calm=af->∀(i:Nat) (pins:List (ar×bE)) (s:aA) (σ:St) (H:aM) (E:aj->aA->Prop),Inv X pins σ H s->(∀b∈c9,od X pins H b)->kp i s.heap->cm.stop i H->
  wpAny (a' P w) X.A (jL<|.ref it) (λr s1=>r=aa/\Inv X pins σ H s1) E s
 self:∀(A:cj) (i:Nat) (s:aA) (Q:aj->aA->Prop) (E:aj->aA->Prop),kp i s.heap->Q (.ref it) s->wpAny (a' P w) A (s_<|.ref it) Q E s
noncomputable abbrev TI:=St->aM->(nF->aM->Prop)->Prop
noncomputable def Mj(X:a4)(pins:List (ar×bE))(σ:St)(tg:bM)(R:nF->aM->Prop)(FX:aj)(s2:aA):Prop:=
 ∃(it:ar) (c9:List ar) (kp:Nat->br->Prop) (cm:nF) (ak:aM),FX=.ref it/\Inv X pins σ ak s2/\Turn X.prog X.w X.K tg cm c9 it kp/\kp 0 s2.heap/\(∀b∈c9,od X pins ak b)/\R cm ak
noncomputable def Mk(X:a4)(tg iter:bM)(jr:TI)(pins:List (ar×bE)):Prop:=
 ∀(s:aA) (σ:St) (H:aM) (R:nF->aM->Prop),Inv X pins σ H s->jr σ H R->
  wpAny (a' X.prog X.w) X.A (de iter X.env) (λv s1=>wpAny (a' X.prog X.w) X.A (s_ v) (Mj X pins σ tg R) X.dw s1) X.dw s
noncomputable def pG(X:a4)(tg iter:bM)(jr:TI):Prop:=∀pins,Mk X tg iter jr pins
theorem FY{M:jJ}{E:aj -> aA -> Prop}{o:bE}{n:String}{vs:Array aj}{Q:Unit -> aA -> Prop}(aS:s.heap.get? it=J o)(av:o.cls=.type n)(hd:o.data=.fields vs)(bo:["enumerate", "zip", "dict_itemiterator", "dict_reverseitemiterator", "odict_iterator", "itertools.zip_longest", "itertools.pairwise"].contains n=aD)(fE:Q () s): wpAny M A (xS tg (.ref it) u) Q E s:=by
  unfold xS;cases tg <;> first
    | exact ba fE
    | (cases u <;> first
        | exact ba fE
        | (refine aH (Ex aS ?_)
           rw [av,hd];show wpAny M A (if (["enumerate", "zip", "dict_itemiterator", "dict_reverseitemiterator", "odict_iterator", "itertools.zip_longest", "itertools.pairwise"].contains n&&vs[0]? == J (gv _))=af then _ else _) Q E s;rw [aZ (by intro h; rw [bo,Bool.false_and]at h; cases h)];exact ba fE))
noncomputable def yb(K:PySem.W.Frag)(a:ar):nF:=
 ⟨λi H=>∃xs x,er K H a xs/\xs[i]?=J x,λi H x ak=>ak=H/\∀xs,er K H a xs->xs[i]?=J x,λi H=>∃xs,er K H a xs/\xs.length<=i⟩
noncomputable def BM(K:PySem.W.Frag)(a:ar):nF:=
 ⟨λi H=>∃xs x,dh K H a xs/\xs[i]?=J x,λi H x ak=>ak=H/\∀xs,dh K H a xs->xs[i]?=J x,λi H=>∃xs,dh K H a xs/\xs.length<=i⟩
noncomputable def BN(lo:Int)(n:Nat):nF:=⟨λi _=>i<n,λi H x ak=>ak=H/\x=.int (lo+i),λi _=>n<=i⟩
theorem Uu(a it:ar):Turn P w K tg (yb K a) [it] it (λi h=>h.IsListIter it a i) where
 mem:=by simp
 obj:=λi h st b ae=>by
  have e:b=it:=by simpa using ae
  subst e;obtain⟨o,e,c,d⟩:=st;exact⟨o,e,λv z=>by rw[d]at z;cases z⟩
 keep:=λi h h' st k=>st.at λo e=>k it (by simp) o e
 item:=by
  intro X hB hw hK av i pins s σ H E I hf st aJ;subst hB hw hK;obtain⟨xs,x,bk,ag⟩:=aJ;obtain⟨aP,b0,p,hz⟩:=I.list bk;obtain⟨u,bZ,gN⟩:=b0.get ag;obtain⟨f0,f1,f2,d6,f4,l3⟩:=hf it (by simp);refine wpAny_pyNext_list_item st p.isList (x:=u) (by simpa using bZ) λh' aK dC=>?_;have bG:Inv X pins σ H {s with heap:=h'}:=I.turned (t':=s.toks) (λb o ae e=>(dC.2 b ae).trans e) f0 f1 d6 f4 l3;obtain⟨o,e,c,d⟩:=id aK;exact⟨u,rfl,FY (s:={s with heap:=h'}) e c d (by decide) ⟨x,H,bG,gN,⟨rfl,λa3 aw=>by rw[I.Ua aw bk];exact ag⟩,aK,λb ae=>(hf b ae).1⟩⟩
 done:=by
  intro X hB hw hK av i pins s σ H E I hf st aJ;subst hB hw hK;obtain⟨xs,bk,ag⟩:=aJ;obtain⟨aP,b0,p,hz⟩:=I.list bk;obtain⟨f0,f1,f2,d6,f4,l3⟩:=hf it (by simp);have aF:=b0.length;exact wpAny_pyNext_list_end (I.ok.hd av) st p.isList (by simp;lia) λh' eG=>⟨rfl,I.turned (t':=s.toks) (λb o ae e=>eG b o ae e) f0 f1 d6 f4 l3⟩
 self:=λ_ _ _ _ _ st h=>wpAny_pyIter_listiter st h
theorem Uv(a it:ar):Turn P w K tg (BM K a) [it] it (λi h=>h.IsTupleIter it a i) where
 mem:=by simp
 obj:=λi h st b ae=>by
  have e:b=it:=by simpa using ae
  subst e;obtain⟨o,e,c,d⟩:=st;exact⟨o,e,λv z=>by rw[d]at z;cases z⟩
 keep:=λi h h' st k=>st.at λo e=>k it (by simp) o e
 item:=by
  intro X hB hw hK av i pins s σ H E I hf st aJ;subst hB hw hK;obtain⟨xs,x,bk,ag⟩:=aJ;obtain⟨aP,b0,p,hz⟩:=I.tuple bk;obtain⟨u,bZ,gN⟩:=b0.get ag;obtain⟨f0,f1,f2,d6,f4,l3⟩:=hf it (by simp);refine wpAny_pyNext_tuple_item st (show s.heap.IsTuple a aP.toArray from p) (x:=u) (by simpa using bZ) λh' aK dC=>?_;have bG:Inv X pins σ H {s with heap:=h'}:=I.turned (t':=s.toks) (λb o ae e=>(dC.2 b ae).trans e) f0 f1 d6 f4 l3;obtain⟨o,e,c,d⟩:=id aK;exact⟨u,rfl,FY (s:={s with heap:=h'}) e c d (by decide) ⟨x,H,bG,gN,⟨rfl,λa3 aw=>by rw[I.FP aw bk];exact ag⟩,aK,λb ae=>(hf b ae).1⟩⟩
 done:=by
  intro X hB hw hK av i pins s σ H E I hf st aJ;subst hB hw hK;obtain⟨xs,bk,ag⟩:=aJ;obtain⟨aP,b0,p,hz⟩:=I.tuple bk;obtain⟨f0,f1,f2,d6,f4,l3⟩:=hf it (by simp);have aF:=b0.length;exact wpAny_pyNext_tuple_end (I.ok.hd av) st (show s.heap.IsTuple a aP.toArray from p) (by simp;lia) λh' eG=>⟨rfl,I.turned (t':=s.toks) (λb o ae e=>eG b o ae e) f0 f1 d6 f4 l3⟩
 self:=λ_ _ _ _ _ st h=>wpAny_pyIter_tupleiter st h
theorem Uw(it:ar)(lo:Int)(n:Nat):Turn P w K tg (BN lo n) [it] it (λi h=>IsRangeIter h it (lo+(i:Nat)*1) ((n:Int)-(i:Nat)) 1) where
 mem:=by simp
 obj:=λi h st b ae=>by
  have e:b=it:=by simpa using ae
  subst e;exact⟨_,st,λv z=>by
   have l1:Data.fields _=Data.cell v:=z;cases l1⟩
 keep:=λi h h' st k=>k it (by simp) _ st
 item:=by
  intro X hB hw hK av i pins s σ H E I hf st aJ;subst hB hw hK;obtain⟨f0,f1,f2,d6,f4,l3⟩:=hf it (by simp);have W:=qr.range (prog:=X.prog) (w:=X.w) (I.ok.hd av) it lo 1 n;refine W.item i s _ _ aJ st λv h' tk bb aK gO=>?_;obtain⟨t,rfl⟩:=bb;have bG:Inv X pins σ H {s with heap:=h',toks:=tk}:=I.turned (λb o ae e=>gO b o (by simpa using ae) e) f0 f1 d6 f4 l3;refine⟨_,rfl,FY (s:={s with heap:=h',toks:=tk}) (n := "range_iterator") aK rfl rfl (by decide) ⟨.int<|lo+i,H,bG,⟨t,?_⟩,⟨rfl,rfl⟩,aK,λb ae=>(hf b ae).1⟩⟩;rw[Lv]
 done:=by
  intro X hB hw hK av i pins s σ H E I hf st aJ;subst hB hw hK;obtain⟨f0,f1,f2,d6,f4,l3⟩:=hf it (by simp);exact wpAny_pyNext_range_end (I.ok.hd av) st (by have:n<=i:=aJ;lia) λh' eG=>⟨rfl,I.turned (t':=s.toks) (λb o ae e=>eG b o ae e) f0 f1 d6 f4 l3⟩
 self:=λ_ _ _ _ _ st h=>wpAny_pyIter_rangeiter st h
section
variable{X:a4}{tg:bM}
theorem Ux{R:nF->aM->Prop}{lo ao:Int}{t u v:lS}{tk:Nat}(I:Inv X pins σ H s)(O : -(2^62)<=lo)(U:lo<2^62)(aL : -(2^62)<=ao)(aU:ao<2^62)(q:R (BN lo (ao-lo).toNat) H):wpAny (a' X.prog X.w) X.A (s_<|.ref s.heap.objs.size) (Mj X pins σ tg R) E {s with heap:=s.heap.push {cls:=.type "range",data:=.fields #[.int lo t,.int ao u,.int 1 v]},toks:=tk}:=by
 refine wpAny_pyIter_range (IsRange.new ..) (small_one O U aL aU) ?_;have bG:Inv X pins σ H {s with heap:=s.heap.push {cls:=.type "range",data:=.fields #[.int lo t,.int ao u,.int 1 v]},toks:=tk}:=I.kept λb o e=>dc _ e;refine⟨(s.heap.push {cls:=.type "range",data:=.fields #[.int lo t,.int ao u,.int 1 v]}).objs.size,[(s.heap.push {cls:=.type "range",data:=.fields #[.int lo t,.int ao u,.int 1 v]}).objs.size],_,_,H,rfl,
  bG.kept (t':=tk) λb o e=>dc _ e,Uw _ lo (ao-lo).toNat,?_,λb ae=>?_,q⟩
 ·have ay:lo+((0:Nat):Int)*1=lo:=by simp
  have aG:(((ao-lo).toNat:Nat):Int)-((0:Nat):Int)=b8.Range.rangeSize lo ao 1:=by rw[rangeSize_one];split<;>lia
  show IsRangeIter _ _ (lo+((0:Nat):Int)*1) ((((ao-lo).toNat:Nat):Int)-((0:Nat):Int)) 1;rw[ay,aG];exact fw _ rfl
 ·have e:b=(s.heap.push {cls:=.type "range",data:=.fields #[.int lo t,.int ao u,.int 1 v]}).objs.size:=by simpa using ae
  subst e;exact bG.BL (cp _) (bG.bw.fresh<|cp _)
noncomputable def Uy(cP:gX):TI:=λσ H R=>cP σ H λvs H1=>∃j:Int,vs=[.int j] /\ -(2^62)<=j/\j<2^62/\R (BN 0 j.toNat) H1
theorem Uz{a:bM}{cP:gX}{p:dk}(aJ:fo X "range")(hm:X.mg "range" = aa)(az:iS X [a] cP)(aq:cx [a] X.env=[(aD,de a X.env)]:=by rfl):pG X tg (.Call (.Name "range" p) [a] [] pos) (Uy cP):=by
 intro pins s σ H R I h;refine Call_ (tl I aJ hm boot_range<|A9 (cQ (az pos pins s σ H _ I h) λus s1 ⟨vs,H1,bG,a9,bz⟩=>?_) aq rfl);obtain⟨j,e,bz,cR,q⟩:=bz;subst e;cases a9 with
 |cons r iV=>
  cases iV;obtain⟨t,rfl⟩:=r;exact call_range_1 (Ux bG (by lia) (by lia) bz cR (by simpa using q))
noncomputable def Ml(jr:TI)(g:jq)(eU:gM):gM:=λD σ H=>jr σ H λcm H1=>∃W:Nat->Nat->St->aM->Prop,(∃m,W 0 m σ H1)/\∀i m σ H,W i m σ H->
 (cm.stop i H/\D.bC σ H)\/(cm.go i H/\∃N:St->aM->Prop,(∀bc ak,N bc ak->∃e6,e6<m/\W (i+1) e6 bc ak)/\∀x ak,cm.ya i H x ak->g x σ ak λeW a6=>eU {D with bC:=N,dA:=N,eF:=D.bC} eW a6)
noncomputable def rL(c9:List ar)(h:br):List (ar×bE):=c9.filterMap λb=>(h.get? b).map λo=>(b,o)
theorem BO{o:bE}(ae:b∈c9)(e:h.get? b=J o):(b,o)∈rL c9 h:=AL.mpr ⟨b,ae,by rw[e];rfl⟩
theorem Mm{p:ar×bE}(aE:p∈rL c9 h):p.1∈c9/\h.get? p.1=J p.2:=by
 obtain⟨b,ae,e⟩:=AL.mp aE;cases q:h.get? b with
 |none=>rw[q]at e;cases e
 |some o=>
  rw[q]at e;have b7:(b,o)=p:=Option.some.inj e;subst b7;exact⟨ae,q⟩
theorem Inv.pinned(I:Inv X pins σ H s)(hf:∀b∈c9,od X pins H b)(aS:∀b∈c9,∃o,s.heap.get? b=J o/\∀v,o.data≠.cell v):Inv X (pins++rL c9 s.heap) σ H s:=
 I.vB λp aE=>(e3.mp aE).elim (λz=>I.pin p<|fR _ z) λz=>by
  obtain⟨ae,e⟩:=Mm z;obtain⟨f0,f1,f2,_⟩:=hf p.1 ae;obtain⟨o,b7,d⟩:=aS p.1 ae;rw[e]at b7;cases b7;exact⟨e,f0,f1,f2,d⟩
theorem Inv.FZ{bW:List (ar×bE)}(I:Inv X (pins++bW) σ H s):Inv X pins σ H s:=I.vB λp aE=>I.pin p (fR _<|fD _ aE)
theorem Mn{iter:bM}{jr:TI}{g:jq}(aE:vk (a' X.prog X.w) X.A X.env X.dw)(av:X.calm=af)(ao:pG X tg iter jr)(aJ:oc X tg g)(ae:iT X body eU)(aq:∀x,rD iter X.env x=pure x:=by intro _;rfl):jR X (.For tg iter body [] pos) (Ml jr g eU):=by
 intro pins s σ H D I h;refine wpAny_For (cQ (ao pins s σ H _ I h) λv s1 O=>cQ O λFX s2 U=>?_) aq;obtain⟨it,c9,kp,cm,a6,e,dp,T,b1,f2,W,⟨m0,rK⟩,turn⟩:=U;subst e;have F0:∀{ak:aM},(∀b∈c9,ak b=aa)->∀b∈c9,od X pins ak b:=λbo b ae=>⟨bo b ae,(f2 b ae).2⟩;refine codeAny_forLoop_any (λn s'=>∃i bc ak,Inv X pins bc ak s'/\kp i s'.heap/\(∀b∈c9,ak b=aa)/\W i n bc ak) ?_ m0 ⟨0,σ,a6,dp,b1,λb ae=>(f2 b ae).1,rK⟩;rintro n s3 ⟨i,jS,cY,f_,fS,yc,gk⟩;rcases turn i n jS cY gk with ⟨stop,qA⟩|⟨go,N,dT,step⟩
 ·refine sL aE (cQ (T.done X rfl rfl rfl av i pins s3 jS cY X.dw f_ (F0 yc) fS stop) λr s4 ⟨aO,hQ⟩=>?_);subst aO;exact uZ ⟨jS,cY,hQ,qA⟩
 ·refine sL aE (cQ (T.item X rfl rfl rfl av i pins s3 jS cY X.dw f_ (F0 yc) fS go) λr s4 ⟨u,aO,aU⟩=>?_);subst aO;refine sL aE (cQ aU λ_ s5 ⟨x,oe,tq,yd,F2,hk,BP⟩=>?_);have F3:=tq.pinned (F0 BP) (T.obj _ _ hk);refine sL aE (cQ (aJ _ s5 jS oe x u _ F3 yd<|step x oe F2) λ_ og ⟨tr,F4,F5,iW⟩=>?_);refine sL aE (cQ (ae _ og tr F4 _ F5 iW) λf rM gY=>?_);have again:∀{oh:St}{l4:aM},Inv X (pins++rL c9 s5.heap) oh l4 rM->N oh l4->∃m,m<n/\∃i bc ak,Inv X pins bc ak rM/\kp i rM.heap/\(∀b∈c9,ak b=aa)/\W i m bc ak:=λ{oh l4} kq ye=>by
   obtain⟨e6,hm,F6⟩:=dT oh l4 ye;refine⟨e6,hm,i+1,oh,l4,kq.FZ,T.keep _ _ _ hk λb ae o e=>(kq.pin (b,o)<|fR _<|fR _<|BO ae e).1,λb ae=>?_,F6⟩;obtain⟨o,e,d⟩:=T.obj _ _ hk b ae;exact (kq.pin (b,o)<|fR _<|fR _<|BO ae e).2.1
  cases f with
  |next=>obtain⟨oh,l4,kq,ye⟩:=gY;exact again kq ye
  |cont=>obtain⟨oh,l4,kq,ye⟩:=gY;exact again kq ye
  |brk=>obtain⟨oh,l4,kq,gY⟩:=gY;exact⟨oh,l4,kq.FZ,gY⟩
  |ret v=>obtain⟨UA,oh,l4,kq,UB,gY⟩:=gY;exact⟨UA,oh,l4,kq.FZ,UB,gY⟩
end
noncomputable abbrev cI:=V->V->aM->dN->Prop
variable{cG r:cI}
noncomputable def fp(X:a4)(f:aj->aj->gK aj)(r:cI):Prop:=
 ∀(pins:List (ar×bE)) (s:aA) (σ:St) (H:aM) (x y:V) (v u:aj) (Q:dN),Inv X pins σ H s->c_ x v->c_ y u->r x y H Q->
  wpAny (a' X.prog X.w) X.A (f v u) (gi X pins σ Q) X.dw s
noncomputable def F7(X:a4)(f:aj->gK aj)(r:V->aM->dN->Prop):Prop:=
 ∀(pins:List (ar×bE)) (s:aA) (σ:St) (H:aM) (x:V) (v:aj) (Q:dN),Inv X pins σ H s->c_ x v->r x H Q->
  wpAny (a' X.prog X.w) X.A (f v) (gi X pins σ Q) X.dw s
noncomputable def bv(X:a4)(f:aj)(r:List V->aM->dN->Prop):Prop:=
 ∀(pins:List (ar×bE)) (s:aA) (σ:St) (H:aM) (xs:List V) (us:List aj) (Q:dN),Inv X pins σ H s->cZ xs us->r xs H Q->
  wpAny (a' X.prog X.w) X.A (call f us) (gi X pins σ Q) X.dw s
noncomputable def UC(X:a4)(r:V->aM->(Bool->aM->Prop)->Prop):Prop:=
 ∀(pins:List (ar×bE)) (s:aA) (σ:St) (H:aM) (x:V) (v:aj) (Q:Bool->aM->Prop),Inv X pins σ H s->c_ x v->r x H Q->
  wpAny (a' X.prog X.w) X.A (truthy v) (BG X pins σ Q) X.dw s
noncomputable def BQ(r:cI)(cP eU:TE):TE:=λσ H Q=>cP σ H λx H1=>eU σ H1 λy a6=>r x y a6 Q
noncomputable def UD(r:V->aM->dN->Prop)(cP:TE):TE:=λσ H Q=>cP σ H λx H1=>r x H1 Q
noncomputable def vE(C:Int->Int->Prop)(g:Int->Int->V):cI:=λx y H Q=>∃i j,x=.int i/\y=.int j/\C i j/\Q (g i j) H
noncomputable def qB(g:Int->Int->V):cI:=λx y H Q=>∃i j,x=.int i/\y=.int j/\Q (g i j) H
noncomputable def Mo(g:Int->V):V->aM->dN->Prop:=λx H Q=>∃i,x=.int i/\Q (g i) H
section
variable{X:a4}{a b c:bM}{cP eU jQ:TE}{pos:dk}
theorem F8(az:cF X a cP)(ae:cF X b eU){pins:List (ar×bE)}{s:aA}{σ:St}{H:aM}{R:V->V->aM->Prop}(I:Inv X pins σ H s)(h:cP σ H λx H1=>eU σ H1 λy a6=>R x y a6){Q:aj->aA->Prop}{f:aj->aj->gK aj}(hf:∀v u s2 x y a6,Inv X pins σ a6 s2->c_ x v->c_ y u->R x y a6->wpAny (a' X.prog X.w) X.A (f v u) Q X.dw s2):
  wpAny (a' X.prog X.w) X.A (de a X.env) (λv dU=>wpAny (a' X.prog X.w) X.A (de b X.env) (λu qC=>wpAny (a' X.prog X.w) X.A (f v u) Q X.dw qC) X.dw dU) X.dw s:=by
 refine cQ (az pins s σ H _ I h) λv s1 ⟨x,H1,bG,a9,bz⟩=>?_;refine cQ (ae pins s1 σ H1 _ bG bz) λu s2 ⟨y,a6,dp,bF,cR⟩=>?_;exact hf v u s2 x y a6 dp a9 bF cR
theorem UE{op:Operator}(aS:fp X (iM op) r)(az:cF X a cP)(ae:cF X b eU):cF X (.BinOp a op b pos) (BQ r cP eU):=by
 intro pins s σ H Q I h;exact wpAny_BinOp (F8 az ae I h λv u s2 x y a6 dp bU cu q=>aS pins s2 σ a6 x y v u Q dp bU cu q)
theorem UF{op:UnaryOp}{r:V->aM->dN->Prop}(aS:F7 X (unaryOp op) r)(az:cF X a cP):cF X (.UnaryOp op a pos) (UD r cP):=by
 intro pins s σ H Q I h;exact UnaryOp_ (cQ (az pins s σ H _ I h) λv s1 ⟨x,H1,bG,a9,bz⟩=>aS pins s1 σ H1 x v Q bG a9 bz)
theorem BR{C:Int->Int->Prop}(rule:∀(i j:Int) (t u:lS) (s:aA) (Q:aj->aA->Prop) (E:aj->aA->Prop),C i j->Q (.int (g i j) s.toks) {s with toks:=s.toks+1}->wpAny (a' X.prog X.w) X.A (f (.int i t)<|.int j u) Q E s):
  fp X f (vE C λi j=>.int<|g i j):=by
 intro pins s σ H x y v u Q I bU cu h;obtain⟨i,j,rfl,rfl,av,q⟩:=h;obtain⟨t,rfl⟩:=bU;obtain⟨t',rfl⟩:=cu;exact rule i j t t' s _ _ av ⟨.int<|g i j,H,I.tok _,⟨_,rfl⟩,q⟩
theorem Mp(rule:∀(i j:Int) (t u:lS) (s:aA) (Q:aj->aA->Prop) (E:aj->aA->Prop),Q (.int (g i j) s.toks) {s with toks:=s.toks+1}->wpAny (a' X.prog X.w) X.A (f (.int i t)<|.int j u) Q E s):
  fp X f (qB λi j=>.int<|g i j):=by
 intro pins s σ H x y v u Q I bU cu h;obtain⟨i,j,rfl,rfl,q⟩:=h;obtain⟨t,rfl⟩:=bU;obtain⟨t',rfl⟩:=cu;exact rule i j t t' s _ _ ⟨.int<|g i j,H,I.tok _,⟨_,rfl⟩,q⟩
theorem BS{g:Int->Int->Bool}(rule:∀(i j:Int) (t u:lS) (s:aA) (Q:aj->aA->Prop) (E:aj->aA->Prop),Q (.bool<|g i j) s->wpAny (a' X.prog X.w) X.A (f (.int i t)<|.int j u) Q E s):
  fp X f (qB λi j=>.aR<|g i j):=by
 intro pins s σ H x y v u Q I bU cu h;obtain⟨i,j,rfl,rfl,q⟩:=h;obtain⟨t,rfl⟩:=bU;obtain⟨t',rfl⟩:=cu;exact rule i j t t' s _ _ ⟨.aR<|g i j,H,I,rfl,q⟩
noncomputable def UG(i j:Int):Prop:=0<j/\j<1073741824
noncomputable def UH(i j:Int):Prop:=0<=j/\j<=1000000/\i.natAbs<2^64
theorem UI:fp X (iM .Add) (qB λi j=>.int<|i+j):=Mp λ_ _ _ _ _ _ _ q=>add_int q
theorem UJ:fp X (iM .Sub) (qB λi j=>.int<|i-j):=Mp λ_ _ _ _ _ _ _ q=>sub_int q
theorem UK:fp X (iM .FloorDiv) (vE UG λi j=>.int<|i/j):=BR λi j _ _ _ _ _ av q=>by
 have O:(0:Int)<j:=av.1;have U:j<1073741824:=av.2;exact floordiv_int (by lia) (by rw[Int.fdiv_eq_ediv_of_nonneg i (by lia)];exact q) (.inl (PyProof.noPylong_small (by lia)))
theorem UL:fp X (iM .Mod) (vE (λ_ j=>0<j) λi j=>.int<|i%j):=BR λi j _ _ _ _ _ av q=>by
 have O:(0:Int)<j:=av;exact mod_int' (by lia) (by rw[Int.fmod_eq_emod_of_nonneg i (by lia)];exact q)
theorem UM:fp X (iM .Pow) (vE UH λi j=>.int<|i^j.toNat):=BR λ_ _ _ _ _ _ _ av q=>pow_int_small av.1 av.2.1 av.2.2 q
theorem UN{f:aj->gK aj}{g:Int->Int}(rule:∀(i:Int) (t:lS) (s:aA) (Q:aj->aA->Prop) (E:aj->aA->Prop),Q (.int (g i) s.toks) {s with toks:=s.toks+1}->wpAny (a' X.prog X.w) X.A (f<|.int i t) Q E s):
  F7 X f (Mo λi=>.int<|g i):=by
 intro pins s σ H x v Q I bU h;obtain⟨i,rfl,q⟩:=h;obtain⟨t,rfl⟩:=bU;exact rule i t s _ _ ⟨.int<|g i,H,I.tok _,⟨_,rfl⟩,q⟩
theorem UO:F7 X (unaryOp .USub) (Mo λi=>.int<|-i):=UN λ_ _ _ _ _ q=>neg_int q
end
section
variable{X:a4}{a b c:bM}{cP eU jQ:TE}{pos:dk}
theorem UP{Q:dN}{k cn:Bool}(I:Inv X pins σ H s)(q:Q (.aR k) H)(e:k=cn):gi X pins σ Q (.bool cn) s:=by
 subst e;exact⟨.aR k,H,I,rfl,q⟩
theorem UQ:fp X (fM .Lt) (qB λi j=>.aR<|decide (i<j)):=BS λ_ _ _ _ _ _ _ q=>lt_int q
theorem UR:fp X (fM .LtE) (qB λi j=>.aR<|decide (i<=j)):=BS λ_ _ _ _ _ _ _ q=>le_int q
theorem US:fp X (fM .Gt) (qB λi j=>.aR<|decide (j<i)):=BS λ_ _ _ _ _ _ _ q=>gt_int q
theorem UT:fp X (fM .GtE) (qB λi j=>.aR<|decide (j<=i)):=BS λ_ _ _ _ _ _ _ q=>ge_int q
theorem UU:fp X (fM .IsNot) (λx y H Q=>y=.bu/\Q (.aR<|!decide (x=.bu)) H):=by
 intro pins s σ H x y v u Q I bU cu h;obtain⟨rfl,q⟩:=h;cases cu;refine isnot_none_gen (UP I q ?_);cases x<;>first
  | (cases bU;rfl)
  | (obtain⟨t,rfl⟩:=bU;rfl)
theorem fp.or(h:fp X f r)(h':fp X f cG):fp X f (λx y H Q=>r x y H Q\/cG x y H Q):=by
 intro pins s σ H x y v u Q I bU cu q;rcases q with q|q
 ·exact h pins s σ H x y v u Q I bU cu q
 ·exact h' pins s σ H x y v u Q I bU cu q
theorem gP(b:bM){op:vi}(h:op≠.In:=by decide)(U:op≠.NotIn:=by decide):vl op b=aD:=by
 have ay:(op==vi.In)=aD:=by cases op<;>first|rfl|exact absurd rfl h
 have aG:(op==vi.NotIn)=aD:=by cases op<;>first|rfl|exact absurd rfl U
 cases b<;>simp[vl,ay,aG]
theorem UV(aS:fp X (fM op) r)(az:cF X a cP)(ae:cF X b eU)(hm:vl op b=aD):cF X (.Compare a [op] [b] pos) (BQ r cP eU):=by
 intro pins s σ H Q I h;exact wpAny_Compare1 (F8 az ae I h λv u s2 x y a6 dp bU cu q=>aS pins s2 σ a6 x y v u Q dp bU cu q) hm
noncomputable def Mq(t:TE):TT:=λσ H Q=>t σ H λx ak=>∃k,x=.aR k/\Q k ak
theorem UW(aS:fp X (fM op) r)(az:cF X a cP)(ae:cF X b eU)(hm:vl op b=aD):kV X (.Compare a [op] [b] pos) (Mq<|BQ r cP eU):=by
 intro pins s σ H Q I h;refine wpAny_isTrue_Compare1 (cQ (az pins s σ H _ I h) λv s1 ⟨x,H1,bG,a9,bz⟩=>cQ (ae pins s1 σ H1 _ bG bz) λu s2 ⟨y,a6,dp,bF,cR⟩=>
  cQ (aS pins s2 σ a6 x y v u _ dp a9 bF cR) λc s3 ⟨z,cY,f_,mQ,k,e,ed⟩=>?_) hm;subst e;cases mQ;exact ru ⟨cY,f_,ed⟩
noncomputable def F9(r cG:cI)(cP eU jQ:TE):TE:=λσ H Q=>cP σ H λx H1=>eU σ H1 λy a6=>r x y a6 λz cY=>∃k,z=.aR k/\
 (if k=af then jQ σ cY λgh fF=>cG y gh fF Q else Q (.aR aD) cY)
theorem UX(aS:fp X (fM op) r)(hA:fp X (fM mM) cG)(az:cF X a cP)(ae:cF X b eU)(av:cF X c jQ)(hm:Bh [op,mM] [b,c]=aD:=by with_unfolding_all rfl):cF X (.Compare a [op,mM] [b,c] pos) (F9 r cG cP eU jQ):=by
 intro pins s σ H Q I h;refine Compare_chain (cQ (az pins s σ H _ I h) λv s1 ⟨x,H1,bG,a9,bz⟩=>chain_link (cQ (ae pins s1 σ H1 _ bG bz) λu s2 ⟨y,a6,dp,bF,cR⟩=>
  cQ (aS pins s2 σ a6 x y v u _ dp a9 bF cR) λd s3 ⟨z,cY,f_,mQ,k,e,ed⟩=>?_)) hm;subst e;cases mQ;refine ru ?_;cases k with
 |false=>exact ite_ff ⟨.aR aD,cY,f_,rfl,ed⟩
 |true=>exact ite_tt (chain_last<|cQ (av pins s3 σ cY _ f_ ed) λgh s4 ⟨l1,fF,hQ,oi,hR⟩=>hA pins s4 σ fF y l1 u gh Q hQ bF oi hR)
theorem UY(aS:fp X (fM op) r)(hA:fp X (fM mM) cG)(az:cF X a cP)(ae:cF X b eU)(av:cF X c jQ)(hm:Bh [op,mM] [b,c]=aD:=by with_unfolding_all rfl):kV X (.Compare a [op,mM] [b,c] pos) (Mq<|F9 r cG cP eU jQ):=by
 intro pins s σ H Q I h;refine isTrue_chain (cQ (az pins s σ H _ I h) λv s1 ⟨x,H1,bG,a9,bz⟩=>test_link (cQ (ae pins s1 σ H1 _ bG bz) λu s2 ⟨y,a6,dp,bF,cR⟩=>
  cQ (aS pins s2 σ a6 x y v u _ dp a9 bF cR) λd s3 ⟨z,cY,f_,mQ,k,e,ed⟩=>?_)) hm;subst e;cases mQ;refine ru ?_;cases k with
 |false=>
  obtain⟨cn,b7,fP⟩:=ed;cases b7;exact ite_ff ⟨cY,f_,fP⟩
 |true=>
  refine ite_tt (test_last<|cQ (av pins s3 σ cY _ f_ ed) λgh s4 ⟨l1,fF,hQ,oi,hR⟩=>cQ (hA pins s4 σ fF y l1 u gh _ hQ bF oi hR) λd' s5 ⟨dH,oe,tq,yd,k2,aG,kr⟩=>?_);subst aG;cases yd;exact ru ⟨oe,tq,kr⟩
noncomputable def F'(K:PySem.W.Frag)(x:V)(H:aM)(k:Bool):Prop:=
 match x with
 |.bu=>k=aD
 |.aR b=>k=b
 |.int i=>k=(i != 0)
 |.str y=>y.length<=sizeLine/\k=((y.length:Int) != 0)
 |.x4 y=>y.size<=sizeLine/\k=((y.size:Int) != 0)
 |.ref p=>(∃xs,er K H p xs/\k=!xs.isEmpty)\/(∃xs,dh K H p xs/\k=!xs.isEmpty)\/∃kvs,H p=J (.eN kvs)/\k=!kvs.isEmpty
 |_=>False
theorem UZ{bj:Type}{kvs:List (bj×V)}{vs:List (bj×aj)}(r:h6 kvs vs):(!vs.isEmpty)=!kvs.isEmpty:=by
 cases r<;>rfl
theorem Mr{aP:List aj}(r:cZ xs aP):(!aP.toArray.isEmpty)=!xs.isEmpty:=by
 cases r<;>simp
theorem vF:(sizeLine:Nat)<2^63:=by rw[Az];decide
theorem U0:UC X (λx H Q=>∃k,F' X.K x H k/\Q k H):=by
 intro pins s σ H x v Q I bU h;obtain⟨k,e,q⟩:=h;have aF:=vF;have aq:sizeLine=16777216:=Az;cases x with
 |bu=>
  cases bU;have b7:k=aD:=e;subst b7;exact truthy_none ⟨H,I,q⟩
 |aR b=>
  cases bU;have b7:k=b:=e;subst b7;exact ru ⟨H,I,q⟩
 |int i=>
  obtain⟨t,rfl⟩:=bU;have b7:k=(i != 0):=e;subst b7;exact PySem.P.truthy_int ⟨H,I,q⟩
 |str y=>
  obtain⟨t,rfl⟩:=bU;obtain⟨aw,b7⟩:y.length<=sizeLine/\k=((y.length:Int) != 0):=e;subst b7;exact PySem.P.truthy_str (by lia) ⟨H,I.tok _,q⟩
 |x4 y=>
  obtain⟨t,rfl⟩:=bU;obtain⟨aw,b7⟩:y.size<=sizeLine/\k=((y.size:Int) != 0):=e;subst b7;exact PySem.W.truthy_bytes (by lia) ⟨H,I.tok _,q⟩
 |ref p=>
  cases bU;have b7:(∃xs,er X.K H p xs/\k=!xs.isEmpty)\/(∃xs,dh X.K H p xs/\k=!xs.isEmpty)\/∃kvs,H p=J (.eN kvs)/\k=!kvs.isEmpty:=e;rcases b7 with ⟨xs,ag,b7⟩|⟨xs,ag,b7⟩|⟨kvs,ag,b7⟩
  ·subst b7;obtain⟨aP,r,bW,hz⟩:=I.list ag;have hlen:=r.length;exact wpAny_truthy_list bW.isList (by simp only[dY];lia) ⟨H,I.tok _,by rw[Mr r];exact q⟩
  ·subst b7;obtain⟨aP,r,bW,hz⟩:=I.tuple ag;have hlen:=r.length;exact truthy_tuple bW (by simp only[dY];lia) ⟨H,I.tok _,by rw[Mr r];exact q⟩
  ·subst b7;obtain⟨hz,dq,vs,r,m⟩:kvs.length<=sizeLine/\(p==mK)=aD/\∃vs,h6 kvs vs/\s.heap.DictOf (rH X.prog X.w) p vs:=I.bw p _ ag;have hlen:kvs.length=vs.length:=hi.length r;exact wpAny_truthy_dict dq m (by lia) ⟨H,I.tok _,by rw[UZ r];exact q⟩
 |_=>exact (show False from e).elim
theorem U1(az:cF X a cP)(he:∀whole,vj a X.env whole=(do let v <-whole;standAt a.pos;holding [v] (truthy v))):
  kV X a (λσ H Q=>cP σ H λx ak=>∃k,F' X.K x ak k/\Q k ak):=by
 intro pins s σ H Q I h;exact isTrue_plain (cQ (az pins s σ H _ I h) λv s1 ⟨x,H1,bG,a9,bz⟩=>U0 pins s1 σ H1 x v Q bG a9 bz) (he _)
theorem U2:fp X (iM .Add) (λx y H Q=>∃i j,x=.str i/\y=.str j/\i.length+j.length<=sizeLine/\Q (.str<|i++j) H):=by
 intro pins s σ H x y v u Q I bU cu h;obtain⟨i,j,rfl,rfl,hz,q⟩:=h;obtain⟨t,rfl⟩:=bU;obtain⟨t',rfl⟩:=cu;exact add_str (λt' tk=>⟨.str<|i++j,H,I.tok _,⟨_,rfl⟩,q⟩) hz
theorem mR{x:V}(r:cZ [x] us):∃u,us=[u]/\c_ x u:=by
 cases r with
 |cons a9 bF=>cases bF;exact⟨_,rfl,a9⟩
theorem Ms{x:V}(r:cZ [x,y] us):∃u gh,us=[u,gh]/\c_ x u/\c_ y gh:=by
 cases r with
 |cons a9 bF=>
  cases bF with
  |cons mQ oi=>cases oi;exact⟨_,_,rfl,a9,mQ⟩
theorem U3(av:X.calm=af):bv X (.builtin "max") (λxs H Q=>∃i j,xs=[.int i,.int j]/\Q (.int<|if j>i then j else i) H):=by
 intro pins s σ H xs us Q I r h;obtain⟨i,j,rfl,q⟩:=h;obtain⟨u,gh,rfl,⟨t,rfl⟩,⟨t',rfl⟩⟩:=Ms r;refine max_two_ints (I.ok.hd av) λh' tk k=>⟨_,H,I.kept k,?_,q⟩;by_cases bx:j>i
 ·rw[aV bx,aV bx];exact⟨_,rfl⟩
 ·rw[aZ bx,aZ bx];exact⟨_,rfl⟩
theorem U4(av:X.calm=af):bv X (.builtin "min") (λxs H Q=>∃i j,xs=[.int i,.int j]/\Q (.int<|if j<i then j else i) H):=by
 intro pins s σ H xs us Q I r h;obtain⟨i,j,rfl,q⟩:=h;obtain⟨u,gh,rfl,⟨t,rfl⟩,⟨t',rfl⟩⟩:=Ms r;refine min_two_ints (I.ok.hd av) λh' tk k=>⟨_,H,I.kept k,?_,q⟩;by_cases bx:j<i
 ·rw[aV bx,aV bx];exact⟨_,rfl⟩
 ·rw[aZ bx,aZ bx];exact⟨_,rfl⟩
theorem U5:bv X (.type "int") (λxs H Q=>(∃i,xs=[.int i]/\Q (.int i) H)\/∃k,xs=[.aR k]/\Q (.int<|if k then 1 else 0) H):=by
 intro pins s σ H xs us Q I r h;rcases h with ⟨i,rfl,q⟩|⟨k,rfl,q⟩
 ·obtain⟨u,rfl,t,rfl⟩:=mR r;exact call_int_int ⟨.int i,H,I,⟨_,rfl⟩,q⟩
 ·obtain⟨u,rfl,a9⟩:=mR r;cases a9;exact call_int_bool ⟨.int<|if k then 1 else 0,H,I.tok _,⟨_,rfl⟩,q⟩
end
section
variable{prog:cc}{w:bN}{A:cj}{E:aj->aA->Prop}{s:aA}{K:PySem.W.Frag}{x kl C f:ar}{kU:aQ->Option aj}{name:aQ}{v:aj}
end
theorem px.some_of{o:Option aj}(r:px (J v) o):∃u,o=J u/\c_ v u:=by
 cases o with
 |none=>exact (show False from r).elim
 |some u=>exact⟨u,rfl,r⟩
section
variable{P:cc}{w:bN}{H ak:aM}{h h':br}{a C kl:ar}{fs FI:List (aQ×V)}
end
section
variable{X:a4}{pins:List (ar×bE)}{σ:St}{H:aM}{s:aA}{a C kl:ar}{fs:List (aQ×V)}{f:aQ}{v:V}{A:cj}{E:aj->aA->Prop}
end
section
variable{X:a4}{o e value:bM}{f:aQ}{pos pos' U6:dk}{cP qD:TE}
end
section
variable{X:a4}{pins:List (ar×bE)}{σ:St}{H:aM}{s:aA}{A:cj}{E:aj->aA->Prop}{Q:aj->aA->Prop}{c:aj}{b:Bool}
end
structure gb(k:Nat)(A:cj):Prop where
 hd:A.handled=aa
 F_:A.depth+3*k+5<LN
 un:A.units+16*k+200<c6
 Mt:A.guards=J []
theorem gb.mono{j:Nat}(r:gb k A)(h:j<=k):gb j A:=⟨r.hd,by have:=r.F_;lia,by have:=r.un;lia,r.Mt⟩
theorem gb.deeper(r:gb (k+1) A)(env:fL):gb k (A.deeper env):=
 ⟨r.hd,by have:=r.F_;show A.depth+1+3*k+5<_;lia,by have:=r.un;show A.units+3+16*k+200<_;lia,r.Mt⟩
theorem gb.depth(r:gb k A):A.depth<LN:=by have:=r.F_;lia
noncomputable def U7:gX:=λ_ H Q=>Q [] H
noncomputable def U8(cP:TE)(rN:gX):gX:=λσ H Q=>cP σ H λx H1=>rN σ H1 λxs a6=>Q (x::xs) a6
section
variable{X:a4}{e:bM}{es:List bM}{eV:TE}{t:gX}{pos:dk}
theorem yf:iS X [] U7:=λ_ _ _ _ H Q I h=>LB ⟨[],H,I,.nil,h⟩
theorem qE(az:cF X e eV)(aO:iS X es t)(aq:cx (e::es) X.env=(aD,de e X.env)::cx es X.env:=by rfl):iS X (e::es) (U8 eV t):=by
 intro pos pins s σ H Q I h;rw[aq];show wpAny _ _ (spliced ((aD,de e X.env)::ht pos (cx es X.env))) _ _ s;refine LA (cQ (az pins s σ H _ I h) λu s1 ⟨x,H1,bG,a9,bz⟩=>?_);exact cQ (aO pos pins s1 σ H1 _ bG bz) λus s2 ⟨xs,a6,dp,bF,cR⟩=>⟨x::xs,a6,dp,.cons a9 bF,cR⟩
noncomputable def U9(t:gX):TE:=λσ H Q=>t σ H λxs H1=>xs.length<=sizeLine/\∀p,H1 p=aa->Q (.ref p) (upd H1 p<|.tup xs)
noncomputable def U'(t:gX):TE:=λσ H Q=>t σ H λxs H1=>xs.length<=sizeLine/\∀p,H1 p=aa->Q (.ref p) (upd H1 p<|.lst xs)
theorem U_{h8}(h:iS X es t):cF X (.Tuple es h8 pos) (U9 t):=by
 intro pins s σ H Q I bk;refine wpAny_Tuple_spliced (cQ (h pos pins s σ H _ I bk) λus s1 ⟨xs,H1,bG,r,z,q⟩=>⟨by rw[<-r.length];exact z,?_⟩);have hf:H1 s1.heap.objs.size=aa:=bG.bw.fresh (cp _);refine⟨.ref s1.heap.objs.size,upd H1 s1.heap.objs.size<|.tup xs,bG.laid (t':=s1.toks) (λb u e=>dc _ e) (cp _) ?_,rfl,q _ hf⟩;exact⟨z,us,r,⟨_,fw _ rfl,rfl,_,rfl⟩⟩
theorem Va(h:iS X es t):cF X (.List es pos) (U' t):=by
 intro pins s σ H Q I bk;refine wpAny_List_spliced (cQ (h pos pins s σ H _ I bk) λus s1 ⟨xs,H1,bG,r,z,q⟩=>⟨by rw[<-r.length];exact z,?_⟩);have hf:H1 s1.heap.objs.size=aa:=bG.bw.fresh (cp _);refine⟨.ref s1.heap.objs.size,upd H1 s1.heap.objs.size<|.lst xs,bG.laid (t':=s1.toks) (λb u e=>dc _ e) (cp _) ?_,rfl,q _ hf⟩;exact⟨z,us,0,r,fw _ rfl⟩
end
noncomputable abbrev pH:=List V->aM->dN->hP->Prop
noncomputable abbrev nG:=List fL->aM->aA->hP->aj->aA->Prop
variable{CX:nG}
structure BU(P:cc)(w:bN)(K:PySem.W.Frag)(mg:aQ->Option aj)(base:br)(A:cj)(outer:List fL)(s:aA)(H:aM):Prop where
 frames:A.frames=J outer
 mod:Mod K mg base
 bs:∀b o,base.get? b=J o->s.heap.get? b=J o/\H b=aa
 mP:base.objs.size<=s.heap.objs.size
 iR:s.heap.FunFrames base outer
 n_:∀b∈el outer,H b=aa
 bw:eD P w H s.heap
 bare:pl s.gens
noncomputable def Ga(outer:List fL)(P:cc)(w:bN)(H:aM)(s:aA)(Q:dN)(u:aj)(s':aA):Prop:=
 ∃v ak,s'.os=s.os/\pl s'.gens/\eE (el outer) [] H ak s.heap s'.heap/\eD P w ak s'.heap/\c_ v u/\Q v ak
noncomputable def Vb(CX:nG)(outer:List fL)(P:cc)(w:bN)(H:aM)(s:aA)(Q:dN)(E:hP)(r:Bi)(s':aA):Prop:=
 match r with
 |.ok (.ret u)=>Ga outer P w H s Q u s'
 |.ok _=>False
 |.error e=>CX outer H s E e s'
structure iX(P:cc)(w:bN)(K:PySem.W.Frag)(mg:aQ->Option aj)(base:br)(CX:nG)(k:Nat)(f:ar)(fd:iN)(ps:List aQ)(sp:pH):Prop where
 len:∀vs H Q E,sp vs H Q E->vs.length=ps.length
 run:∀(A:cj) (outer:List fL) (s:aA) (H:aM) (args:Args) (us:List aj) (vs:List V) (Q:dN) (E:hP),gb k A->BU P w K mg base A outer s H->rE s fd args (ps.zip us)->cZ vs us->sp vs H Q E->
  codeAny (a' P w) A (.call (.ref f) args) (Vb CX outer P w H s Q E) s
section
variable{X:a4}{pins:List (ar×bE)}{σ:St}{H:aM}{s s':aA}
theorem Inv.Mu(I:Inv X pins σ H s):BU X.prog X.w X.K X.mg X.base X.A X.stack s H:=
 ⟨I.ok.frames,I.ok.mod,I.bs,hh I.ok.mP I.nD,I.stack,I.vA,I.bw,I.bare⟩
theorem Inv.after{Q:dN}(I:Inv X pins σ H s)(h:Ga X.stack X.prog X.w H s Q u s'):gi X pins σ Q u s':=by
 obtain⟨v,ak,os,bare,un,bw,r,q⟩:=h;obtain⟨dD,g,d,t,Gb⟩:=s';obtain rfl:Gb=s.os:=os;exact⟨v,ak,I.call (h':=dD) (g':=g) (d':=d) (t':=t) (ch:=[]) un bw bare (λb z=>absurd z (by simp)),r,q⟩
end
noncomputable def Gd(sp:pH)(oj:List V)(E:hP)(t:gX):TE:=λσ H Q=>t σ H λvs H1=>sp (vs++oj) H1 Q E
noncomputable def kY(K:PySem.W.Frag)(fd:iN)(ps:List aQ)(ds:List aj):Prop:=
 ∀(s:aA) (us:List aj),K.In s.heap->(us++ds).length=ps.length->rE s fd ⟨us,[]⟩ (ps.zip<|us++ds)
theorem kY.all{fd:iN}(h:∀us:List aj,us.length=ps.length->vm fd ⟨us,[]⟩=pure (ps.zip us)):kY K fd ps []:=λs us _ aF=>by
 rw[c5]at aF ⊢;exact .of_eq (h us aF)
noncomputable def BV(CX:nG)(X:a4)(E:hP):Prop:=∀(pins:List (ar×bE)) (σ:St) (H:aM) (s:aA) (e:aj) (s':aA),Inv X pins σ H s->CX X.stack H s E e s'->X.dw e s'
section
variable{X:a4}{CX:nG}{k:Nat}{f C:ar}{fd:iN}{ps:List aQ}{sp:pH}{oj:List V}{ds:List aj}{E:hP}{x m:aQ}{p pos apos:dk}{e o:bM}{es:List bM}{cP:TE}{t:gX}
theorem Mv{Q:dN}(F:iX X.prog X.w X.K X.mg X.base CX k f fd ps sp)(aO:gb k X.A)(ae:kY X.K fd ps ds)(hd:cZ oj ds)(ag:BV CX X E)(I:Inv X pins σ H s)(r:cZ vs us)(h:sp (vs++oj) H Q E):wpAny (a' X.prog X.w) X.A (call (.ref f) us) (gi X pins σ Q) X.dw s:=by
 have bF:cZ (vs++oj) (us++ds):=r.append hd;have aF:(us++ds).length=ps.length:=by rw[<-bF.length];exact F.len _ _ _ _ h
 refine Ey (u3 (F.run X.A X.stack s H ⟨us,[]⟩ (us++ds) (vs++oj) Q E aO I.Mu (ae s us I.oa aF) bF h) λr s' bk=>?_);cases r with
 |error e=>exact ag pins σ H s e s' I bk
 |ok bf=>
  cases bf with
  |ret u=>exact I.after bk
  |next=>exact False.elim bk
  |brk=>exact False.elim bk
  |cont=>exact False.elim bk
theorem Mw(F:iX X.prog X.w X.K X.mg X.base CX k f fd ps sp)(aO:gb k X.A)(aJ:fo X x)(hm:X.mg x=J (.ref f))(aY:PySem.W.keepIn X.K (.ref f)=af)(ae:kY X.K fd ps ds)(hd:cZ oj ds)(ag:BV CX X E)(az:iS X (e::es) t)(iY:(x==("__debug__" : aQ))=aD:=by decide)(he:cx (e::es) X.env=(aD,de e X.env)::cx es X.env:=by rfl)(fT:(ht pos<|cx es X.env).any (·.1)=aD:=by rfl):
  cF X (.Call (.Name x p) (e::es) [] pos) (Gd sp oj E t):=by
 intro pins s σ H Q I h;refine uW (lc I aJ hm ?_ iY);refine EU (h₀:=X.base) I.ok.mod.vy aY (cQ (az pos pins s σ H _ I h) λus s1 ⟨vs,H1,bG,r,q⟩=>⟨bG.oa,?_⟩) he fT;exact Mv F aO ae hd ag bG r q
end
section
variable{X:a4}{CX:nG}{k:Nat}{f C:ar}{fd:iN}{ps ks:List aQ}{sp:pH}{E:hP}{x m:aQ}{p pos apos agn:dk}{e o:bM}{es:List bM}{fi:List xT}{eV cP:TE}{t tk:gX}{nm:Option aQ}
variable{g:List aj->List aj->List aj}{ago:List V->List V->List V}
end
structure fq(N P:List aQ)(sc:iL):Prop where
 kind:sc.kind=.function
 co:sc.isCoroutine=aD
 gen:sc.isGenerator=aD
 au:N.Nodup
 pre:N.take P.length=P
 par:∀x∈P,sc.names.lookup x=J .local\/sc.names.lookup x=J .cell
 Vc:∀y∈sc.names,y.2≠.free
theorem rc{kindOf:aQ->Option e4}{x:aQ}:∀{binds:List (aQ×aj)}{m:aQ->Option aj},(∀v,(x,v)∉binds)->bindL kindOf binds m x=m x
 |[],_,_=>rfl
 | (n,v)::r,m,h=>by
  unfold bindL;rw[rc λw hw=>h w<|pa _ hw];split
  ·have:x≠n:=by rintro rfl;exact h v ql
   simp[this]
  ·rfl
theorem re{kindOf:aQ->Option e4}{x:aQ}:∀{binds:List (aQ×aj)}{m:aQ->Option aj},(∀v,(x,v)∉binds)->bindC kindOf binds m x=m x
 |[],_,_=>rfl
 | (n,v)::r,m,h=>by
  unfold bindC;rw[re λw hw=>h w<|pa _ hw];split
  ·rfl
  ·have:x≠n:=by rintro rfl;exact h v ql
   simp[this]
theorem Mx{kindOf:aQ->Option e4}{x:aQ}{v:aj}:∀{P:List aQ}{vs:List aj}{i:Nat}{m:aQ->Option aj},P.Nodup->P[i]?=J x->vs[i]?=J v->kindOf x=J .local->
  bindL kindOf (P.zip vs) m x=J v
 |[],_,_,_,_,h,_,_=>by simp at h
 |_::_,[],_,_,_,_,h,_=>by simp at h
 |p::P,w::vs,0,m,au,O,U,aY=>by
  simp at O U;subst O;subst U;show bindL kindOf ((p,w)::P.zip vs) m p=_;unfold bindL;rw[rc λv bb=>(lO.mp au).1 (sR bb).1,aV aY];simp
 |p::P,w::vs,i+1,m,au,O,U,aY=>by
  show bindL kindOf ((p,w)::P.zip vs) m x=_;unfold bindL;exact Mx (i:=i) (lO.mp au).2 (by simpa using O) (by simpa using U) aY
theorem My{kindOf:aQ->Option e4}{x:aQ}{v:aj}:∀{P:List aQ}{vs:List aj}{i:Nat}{m:aQ->Option aj},P.Nodup->P[i]?=J x->vs[i]?=J v->kindOf x≠J .local->
  bindC kindOf (P.zip vs) m x=J v
 |[],_,_,_,_,h,_,_=>by simp at h
 |_::_,[],_,_,_,_,h,_=>by simp at h
 |p::P,w::vs,0,m,au,O,U,aY=>by
  simp at O U;subst O;subst U;show bindC kindOf ((p,w)::P.zip vs) m p=_;unfold bindC;rw[re λv bb=>(lO.mp au).1 (sR bb).1,aZ aY];simp
 |p::P,w::vs,i+1,m,au,O,U,aY=>by
  show bindC kindOf ((p,w)::P.zip vs) m x=_;unfold bindC;exact My (i:=i) (lO.mp au).2 (by simpa using O) (by simpa using U) aY
noncomputable def start(N:List aQ)(vs:List V):St:=vs.map J++List.replicate (N.length-vs.length) aa
noncomputable def l5(CX:nG)(P:cc)(w:bN)(K:PySem.W.Frag)(mg:aQ->Option aj)(base:br)(N:List aQ)(qual:aQ)(scope:iL)(f:ar)(cd:aj)(A:cj)(outer:List fL)(s:aA)(H:aM)(E:hP):a4 where
 prog:=P
 w:=w
 K:=K
 mg:=mg
 base:=base
 A:=A.deeper (mL qual scope s.heap.objs.size f cd)
 N:=N
 f':=s
 vz:=H
 env:=mL qual scope s.heap.objs.size f cd
 outer:=outer
 stack:=mL qual scope s.heap.objs.size f cd::outer
 ex:=[]
 calm:=af
 fn:=λ_=>af
 hO:=[]
 dw:=λe s'=>wpAny (a' P w) (A.deeper<|mL qual scope s.heap.objs.size f cd) (leaving (mL qual scope s.heap.objs.size f cd) e) (λ_ Ge=>CX outer H s E e Ge) (λb7 Ge=>CX outer H s E b7 Ge) s'
theorem Mz{sc:iL}(h:sc.names.lookup x=J .cell):∃c,(Fo n sc.names []).lookup x=J c:=by
 have q:=KL sc.names n [] (.inl h);exact Ez.mp q
theorem Vd{f:ar}{cd:aj}{outer:List fL}{s1:aA}{E:hP}(S:fq N ps scope)(hd:A.handled=aa)(fj:BU P w K mg base A outer s H)(aF:vs.length=ps.length)(r:cZ vs us)(x:InCallC s s.heap.objs.size (bindL (mL qual scope s.heap.objs.size f cd).kindOf (ps.zip us) λ_=>aa) (Fo (s.heap.objs.size+1) scope.names []) (bindC (mL qual scope s.heap.objs.size f cd).kindOf (ps.zip us) λ_=>aa) s1):
  Inv (l5 CX P w K mg base N qual scope f cd A outer s H E) [] (start N vs) H s1:=by
 have fT:ps.length<=N.length:=by have:=congrArg List.length S.pre;rw[ir]at this;lia
 obtain⟨O,tk,rfl,aY⟩:=x.done;have yg:∀b:ar,b∉(l5 CX P w K mg base N qual scope f cd A outer s H E).ex:=λb z=>absurd (show b∈([]:List ar) from z) (by simp);refine⟨⟨fj.mod,S.kind,rfl,rfl,cp _,λy z c O U=>?_,λy aw=>?_,λy c _ h=>?_,λ_=>hd,cj.frames_deeper fj.frames,.inr ⟨rfl,rfl⟩,λb z=>absurd z<|yg b,fj.bs,fj.mP,λb _ _=>yg b,λb z=>absurd z<|yg b,fj.iR,fj.n_⟩,
  rfl,fj.bare,eE.kept aY,⟨_,x.toInCall.ns,λi y v O U aL=>?_⟩,λy c h=>⟨_,x.cell y c h⟩,fj.bw.fresh<|cp _,λy c h=>?_,λp aE=>absurd (show p∈([]:List (ar×bE)) from aE) (by simp),fj.bw.kept aY,?_⟩
 ·exact name_of_addr x.apart (PySem.mem_of_lookup O) (PySem.mem_of_lookup U)
 ·have aw:scope.names.lookup y=J .cell\/scope.names.lookup y=J .free:=aw;rcases aw with aw|aw
  ·exact Mz aw
  ·exact absurd rfl (S.Vc _<|PySem.mem_of_lookup aw)
 ·exact sZ (x.above y c<|PySem.mem_of_lookup h)
 ·have ao:i<vs.length:=by
   unfold start at U;by_cases ao:i<vs.length
   ·exact ao
   ·rw[qh (by simpa using ao)]at U;rw[List.getElem?_replicate]at U;split at U<;>cases U
  have az:vs[i]?=J v:=by
   unfold start at U;rw[qi (by simpa using ao),gJ]at U;cases e:vs[i]? with
   |none=>rw[e]at U;cases U
   |some a=>rw[e]at U;cases U;rfl
  obtain⟨u,bZ,b0⟩:=r.get az;have aE:ps[i]?=J y:=by
   rw[<-S.pre,EB (by lia)];exact O
  have MA:ps.Nodup:=by rw[<-S.pre];exact S.au.sublist (u6 _ _)
  refine⟨u,b0,?_⟩;rcases S.par y (iq aE) with k|k
  ·exact .inl ⟨k,Mx MA aE bZ k⟩
  ·obtain⟨c,e⟩:=Mz (n:=s.heap.objs.size+1) k;refine .inr ⟨.inl k,c,e,?_⟩;have q:=x.cell y c e;rw[My MA aE bZ (by show scope.names.lookup y≠_;rw[k];decide)]at q;exact q
 ·exact fj.bw.fresh (sZ<|x.above y c<|PySem.mem_of_lookup h)
 ·unfold start;show _=N.length;rw[eZ,b3,List.length_replicate];lia
theorem MB{f:ar}{name:aQ}{params:Arguments}{BW d5 doc pm cf dA ko:aj}{an jO:Option ar}{mS:Array (Option aj)}{sp:pH}(lk:K.lookup f=J ⟨ko,jO,.func<|PySem.W.fnOf name qual params body scope BW d5 doc pm an cf dA,mS⟩)(kW:PySem.W.codeIn K cf qual=af)(S:fq N ps scope)(len:∀vs H Q E,sp vs H Q E->vs.length=ps.length)(Gf:∀(A:cj) (outer:List fL) (s:aA) (H:aM) (vs:List V) (Q:dN) (E:hP),gb k (A.deeper<|mL qual scope s.heap.objs.size f cf)->sp vs H Q E->
   ∃t,iT (l5 CX P w K mg base N qual scope f cf A outer s H E) body t/\t {bC:=λ_ ak=>Q .bu ak,fQ:=Q} (start N vs) H):
  iX P w K mg base CX (k+1) f (PySem.W.fnOf name qual params body scope BW d5 doc pm an cf dA) ps sp:=by
 refine⟨len,λA outer s H args us vs Q E aO fj ae r rO=>?_⟩;have aF:=len _ _ _ _ rO;have KX:K.In s.heap:=fj.mod.vy.keeps λb o e=>(fj.bs b o e).1;have lim:s.heap.NoLimit:=fj.mod.nolimit.keeps λb o e=>(fj.bs b o e).1;have f6:∀y∈ps.zip us,scope.names.lookup y.1=J .local\/(scope.names.lookup y.1=J .cell/\((Fo (s.heap.objs.size+1) scope.names []).lookup y.1).isSome=af):=λ⟨n,v⟩ aw=>by
  rcases S.par n (sR aw).1 with q|q
  ·exact .inl q
  ·exact .inr ⟨q,KL _ _ _<|.inl q⟩
 refine codeAny_call_function aO.depth (KX _ _ lk) rfl S.co S.gen rfl (PySem.W.codeRec_of KX kW) (ae _ _ _ _ ?_);refine wpAny_newFunctionEnv_cells S.kind f6 λenv he s1 x=>?_;subst he;refine⟨lim.keeps x.toInCall.keep,codeAny_func ?_⟩;obtain⟨t,cE,bk⟩:=Gf A outer s H vs Q E (aO.deeper _) rO;have I:Inv (l5 CX P w K mg base N qual scope f cf A outer s H E) [] (start N vs) H s1:=Vd S aO.hd fj aF r x;refine ip (cE [] s1 (start N vs) H _ I bk) (λbf s' aq=>?_) λe s' aq=>aq;have fin:∀{bc:St}{ak:aM}{v:V}{u:aj},Inv (l5 CX P w K mg base N qual scope f cf A outer s H E) [] bc ak s'->c_ v u->Q v ak->Ga outer P w H s Q u s':=
  λ{bc ak v u} cm b0 q=>⟨v,ak,cm.os,cm.bare,cm.base,cm.bw,b0,q⟩;cases bf with
 |ret u=>
  obtain⟨v,bc,ak,cm,b0,q⟩:=aq;exact fin cm b0 q
 |next=>
  obtain⟨bc,ak,cm,q⟩:=aq;exact fin (v:=V.bu) (u:=aj.none) cm rfl q
 |brk=>
  obtain⟨_,_,_,q⟩:=aq;exact False.elim q
 |cont=>
  obtain⟨_,_,_,q⟩:=aq;exact False.elim q
section
variable{X:a4}{x:aQ}{p pos:dk}{e:bM}{es:List bM}{t:gX}{id T:String}{r:List V->aM->dN->Prop}
noncomputable def MC(r:List V->aM->dN->Prop)(t:gX):TE:=λσ H Q=>t σ H λvs H1=>r vs H1 Q
theorem lm(av:bv X (.builtin id) r)(aJ:fo X x)(hm:X.mg x=aa)(bb:gL x=J (.builtin id))(az:iS X (e::es) t)(bo:x ≠ "__name__" := by decide)(iY:(x==("__debug__" : aQ))=aD:=by decide)(he:cx (e::es) X.env=(aD,de e X.env)::cx es X.env:=by rfl)(fT:(ht pos<|cx es X.env).any (·.1)=aD:=by rfl):cF X (.Call (.Name x p) (e::es) [] pos) (MC r t):=by
 intro pins s σ H Q I h;refine uW (tl I aJ hm bb ?_ bo iY);exact K7 (cQ (az pos pins s σ H _ I h) λus s1 ⟨vs,H1,bG,a9,bz⟩=>av pins s1 σ H1 vs us Q bG a9 bz) he fT
theorem Ve(av:bv X (.type T) r)(aJ:fo X x)(hm:X.mg x=aa)(bb:gL x=J (.type T))(az:iS X (e::es) t)(bo:x ≠ "__name__" := by decide)(iY:(x==("__debug__" : aQ))=aD:=by decide)(he:cx (e::es) X.env=(aD,de e X.env)::cx es X.env:=by rfl)(fT:(ht pos<|cx es X.env).any (·.1)=aD:=by rfl):cF X (.Call (.Name x p) (e::es) [] pos) (MC r t):=by
 intro pins s σ H Q I h;refine uW (tl I aJ hm bb ?_ bo iY);exact A9 (cQ (az pos pins s σ H _ I h) λus s1 ⟨vs,H1,bG,a9,bz⟩=>av pins s1 σ H1 vs us Q bG a9 bz) he fT
end
end L2
namespace et
open PySem PyProof.Rows
variable{ao lo:Option Int}{hl dE:aj}{bK t:ar}{Q:aj->aA->Prop}
theorem Vf(A:cj)(s:aA)(a:Int)(t:lS)(c:Int)(u:lS)(prog:cc)(w:bN)(E:aj->aA->Prop)(Q:aj->aA->Prop)(h:Q (.bool<|decide (a<c)) s):
  wpAny (a' prog w) A (richCompare .Lt (.int a t)<|.int c u) Q E s:=
 (Si h:wpAny (a' prog w) A (fM .Lt (.int a t)<|.int c u) Q E s)
section
open PySem.SeqAt
open PySem.AutoSeq1 (wpAny_loadPart')
open PySem.MeetsSeq PySem.MeetsSeq2 PySem.MeetsSeq3
end
section
variable{prog:cc}{w:bN}{A:cj}{E:aj->aA->Prop}{s:aA}
theorem Vg{b:ar}{vs ws:List aj}(cE:pk s.heap t vs.toArray)(ae:pk s.heap b ws.toArray)(bb:vs≠[])(O:ws=[]->Q (.ref t) s)(U:ws≠[]->Q (.ref s.heap.objs.size) {s with heap:=s.heap.push {cls:=.type "tuple",data:=.seq (vs++ws).toArray} })(hsz:vs.length+ws.length<=sizeLine):wpAny (a' prog w) A (iM .Add (.ref t)<|.ref b) Q E s:=by
 obtain⟨⟨cls,dd,data,bK⟩,aS,av,n,hd⟩:=id cE;obtain⟨⟨Vh,vG,data2,vH⟩,ts,tu,n2,hd2⟩:=id ae;simp only at av hd tu hd2;subst av hd tu hd2;have e:vs.toArray++ws.toArray=(vs++ws).toArray:=by simp
 by_cases hw:ws=[]
 ·exact Er ⟨_,aS,rfl⟩ ⟨_,ts,rfl⟩ Ei Eo Fg Ff (E_ _ _)
   (tuple_addW1 t b vs.toArray ws.toArray n n2 dd vG bK vH (by simpa using bb) (by simp[hw])) ⟨aS,ts,O hw⟩
 ·refine Er ⟨_,aS,rfl⟩ ⟨_,ts,rfl⟩ Ei Eo Fg Ff (E_ _ _)
   (tuple_addW2 t b vs.toArray ws.toArray n n2 dd vG bK vH (by simpa using bb) (by simpa using hw) (by rw[dY,dY];exact hsz)) ⟨aS,ts,?_⟩;rw[e];exact U hw
noncomputable def df(n d:Nat):Option Int->Nat
 |none=>d
 |some v=>if v<0 then (v+(n:Int)).toNat else min v.toNat n
theorem MD(n d:Nat):df n d aa=d:=rfl
theorem ME(n d k:Nat):df n d (J (k:Int))=min k n:=by
 show (if (k:Int)<0 then ((k:Int)+(n:Int)).toNat else min (k:Int).toNat n)=min k n;rw[aZ (by lia),rC]
theorem Vi(n d:Nat)(hd:d<=n)(o:Option Int):df n d o<=n:=by
 cases o with
 |none=>exact hd
 |some v=>
  show (if v<0 then (v+(n:Int)).toNat else min v.toNat n)<=n;by_cases bb:v<0
  ·rw[aV bb];lia
  ·rw[aZ bb];exact Nat.min_le_right _ _
theorem MF(v:Int)(n d:Nat):(if v<0 then max (v+(n:Int)) 0 else min v (n:Int))=((df n d (J v):Nat):Int):=by
 show (if v<0 then max (v+(n:Int)) 0 else min v (n:Int))=(((if v<0 then (v+(n:Int)).toNat else min v.toNat n):Nat):Int);by_cases bb:v<0
 ·simp only[aV bb];lia
 ·simp only[aZ bb];lia
theorem Vj(lo ao:Option Int)(n:Nat):b8.Slice.sliceAdjust lo ao 1 (n:Int)=(((df n 0 lo:Nat):Int),((df n n ao:Nat):Int)):=by
 have O:¬ ((1:Int)<0):=by lia
 unfold b8.Slice.sliceAdjust;simp only[O,hM];refine nx ?_ ?_
 ·cases lo with
  |none=>rfl
  |some v=>exact MF v n 0
 ·cases ao with
  |none=>rfl
  |some v=>exact MF v n n
theorem Vk(i j:Nat):b8.Slice.slicePlaces (i:Int) (j:Int) 1=j-i:=by
 unfold b8.Slice.slicePlaces;have O:(1:Int)>0:=by lia
 simp only[O,lW,Int.ediv_one];split<;>lia
theorem MG{v:aj}{o:Option Int}{Q:Option Int->aA->Prop}(p:pj v o)(h:Q o s):wpAny (a' prog w) A (b8.Slice.slicePartIndex v) Q E s:=by
 cases p with
 |none=>exact Lb h
 |int i t=>exact slicePart_int h
theorem MH{n:Nat}{Q:Int×Int×Nat->aA->Prop}(aq:s.heap.IsSliceOf bK dE hl .none)(bW:pj dE lo)(pu:pj hl ao)(h:Q (((df n 0 lo:Nat):Int),1,df n n ao-df n 0 lo) s):wpAny (a' prog w) A (b8.Slice.sliceApplied (.ref bK)<|pure (n:Int)) Q E s:=by
 obtain⟨os,yh,BX,vI⟩:=id aq;unfold b8.Slice.sliceApplied b8.Slice.sliceFields;refine aH (aH<|kQ yh vI (x:=dE) rfl<|aH<|kQ yh vI (x:=hl) rfl<|aH<|kQ yh vI (x:=.none) rfl<|ba ?_);refine aH (Lb ?_);show wpAny _ _ (if ((1:Int)==0)=af then _ else _) _ _ s;rw[aZ (by decide)];refine aH (MG bW<|aH<|MG pu<|aH<|ba ?_);show wpAny _ _ (match b8.Slice.sliceAdjust lo ao 1 (n:Int) with|(lo,ao)=>pure (lo,(1:Int),b8.Slice.slicePlaces lo ao 1)) _ _ s;rw[Vj lo ao n];show wpAny _ _ (pure (((df n 0 lo:Nat):Int),(1:Int),b8.Slice.slicePlaces ((df n 0 lo:Nat):Int) ((df n n ao:Nat):Int) 1)) _ _ s;rw[Vk];exact ba h
theorem Vl(xs:Array aj)(i k:Nat):((range k).filterMap λ(m:Nat)=>xs[((i:Int)+(m:Int)*1).toNat]?).toArray=((xs.toList.drop i).take k).toArray:=by
 have e:(λ(m:Nat)=>xs[((i:Int)+(m:Int)*1).toNat]?)=λm=>xs[i+m]?:=by
  funext m;have:((i:Int)+(m:Int)*1).toNat=i+m:=by lia
  rw[this]
 rw[e];have:=pick_run xs i k;rw[List.filterMap_map]at this;have aG:((λx=>xs[x]?) ∘ λx=>i+x)=λm=>xs[i+m]?:=rfl;rw[aG]at this;rw[this]
theorem Vm{items:Array aj}(cE:pk s.heap t items)(aq:s.heap.IsSliceOf bK dE hl .none)(bW:pj dE lo)(pu:pj hl ao)(hw:¬ (df items.size 0 lo=0/\df items.size items.size ao=items.size))(h:Q (.ref s.heap.objs.size) {s with heap:=s.heap.push {cls:=.type "tuple",data:=.seq ((items.toList.drop<|df items.size 0 lo).take<|df items.size items.size ao-df items.size 0 lo).toArray} })(hsz:items.size<=sizeLine):wpAny (a' prog w) A (rF (.ref t)<|.ref bK) Q E s:=by
 have BY:sizeOk (.seq ((items.toList.drop<|df items.size 0 lo).take<|df items.size items.size ao-df items.size 0 lo).toArray):=by
  show ((items.toList.drop<|df items.size 0 lo).take<|df items.size items.size ao-df items.size 0 lo).toArray.size<=sizeLine;rw[dY,ir,iu,eT];lia
 have bx:df items.size items.size ao<=items.size:=Vi _ _ (cp _) ao;obtain⟨os,yh,BX,vI⟩:=id aq;have Vn:s.TypeIs (.ref bK) "slice" := ⟨os,yh,BX⟩;unfold rF;try with_reducible refine ki ?_
 first|refine aH (ba ?_)|skip
 refine aH (JZ cE.typeIs (by decide) ?_);refine aH (o' (name:=aQ.ofString "__getitem__") cE.typeIs ve
  (kh ve cE.typeIs K9 ?_<|K_ _ _));show wpAny _ _ (b8.Tuple.tupleItemsOf (.ref t) >>= _) _ _ s;refine aH (Lc cE ?_);refine aH (u4 Vn ?_);rw[aV (by decide)];refine aH (MH aq bW pu ?_);have Vo:¬ ((((df items.size 0 lo:Nat):Int)==0&&(1:Int)==1&&(df items.size items.size ao-df items.size 0 lo)==items.size)=af):=by
  intro q;rw[dv,dv]at q;have bz:((df items.size 0 lo:Nat):Int)=0:=eq_of_beq q.1.1;have cR:df items.size items.size ao-df items.size 0 lo=items.size:=eq_of_beq q.2;exact hw ⟨by lia,by lia⟩
 show wpAny _ _ (if (((df items.size 0 lo:Nat):Int)==0&&(1:Int)==1&&(df items.size items.size ao-df items.size 0 lo)==items.size)=af then _ else _) _ _ s;rw[aZ Vo,Vl];first
  | exact aH (m:=b8.Tuple.tupleExact _) (jG (ba ⟨_,rfl,ba h⟩) BY)
  | exact aH (m:=b8.Tuple.tupleExact _) (jG (aH<|ba<|ba ⟨_,rfl,ba h⟩) BY)
  | exact aH (aH (m:=b8.Tuple.tupleExact _)<|jG (ba<|ba ⟨_,rfl,ba h⟩) BY)
  | exact aH (aH (m:=b8.Tuple.tupleExact _)<|jG (ba ⟨_,rfl,ba h⟩) BY)
end
end et
namespace L2
open PySem PySem.Spec PyProof.Rows
variable{h':br}{Q:aj->aA->Prop}{b a p:ar}{ak H:aM}{kvs:List (List ah×V)}{w:bN}{P:cc}{o:Option V}{t' n:Nat}{its' aP us:List aj}{s:aA}{σ:St}{pins:List (ar×bE)}{r:cI}{α:Type}{i:Int}{xs:List (List ah×ar×aj)}
noncomputable abbrev TO:=St->aM->(Option Int->aM->Prop)->Prop
noncomputable def MI(X:a4)(e:Option bM)(t:TO)(pins:List (ar×bE)):Prop:=
 ∀(s:aA) (σ:St) (H:aM) (Q:Option Int->aM->Prop),Inv X pins σ H s->t σ H Q->
  wpAny (a' X.prog X.w) X.A (evalPart e X.env) (λu s'=>∃o ak,Inv X pins σ ak s'/\pj u o/\Q o ak) X.dw s
noncomputable def vJ(X:a4)(e:Option bM)(t:TO):Prop:=∀pins,MI X e t pins
noncomputable def Vp:TO:=λ_ H Q=>Q aa H
noncomputable def Vq(t:TE):TO:=λσ H Q=>t σ H λx H1=>∃i,x=.int i/\Q (J i) H1
section
variable{X:a4}{e:bM}{eV:TE}{lo ao:Option bM}{js vK:TO}{pos bI:dk}
theorem Vr:vJ X aa Vp:=by
 intro pins s σ H Q I h;rw[Kf];exact ba ⟨aa,H,I,.none,h⟩
theorem Vs(h:cF X e eV):vJ X (J e) (Vq eV):=by
 intro pins s σ H Q I hw;rw[evalPart_some];refine cQ (h pins s σ H _ I hw) λu s1 ⟨x,H1,bG,a9,bz⟩=>?_;obtain⟨i,rfl,q⟩:=bz;obtain⟨t,rfl⟩:=a9;exact⟨J i,H1,bG,.int i t,q⟩
noncomputable def yi(X:a4)(r:V->Option Int->Option Int->aM->dN->Prop):Prop:=
 ∀(pins:List (ar×bE)) (s:aA) (σ:St) (H:aM) (x:V) (v dE hl:aj) (lo ao:Option Int) (bK:ar) (Q:dN),Inv X pins σ H s->c_ x v->s.heap.IsSliceOf bK dE hl .none->pj dE lo->pj hl ao->r x lo ao H Q->
  ∃T id,typeLookup (.type T) "__getitem__" = pure (J<|.builtin id)/\s.TypeIs v T/\wpAny (a' X.prog X.w) X.A (rF v<|.ref bK) (gi X pins σ Q) X.dw s
noncomputable def Vt(r:V->Option Int->Option Int->aM->dN->Prop)(eV:TE)(js vK:TO):TE:=λσ H Q=>eV σ H λx H1=>js σ H1 λl a6=>vK σ a6 λu cY=>r x l u cY Q
theorem Vu{r:V->Option Int->Option Int->aM->dN->Prop}(aO:yi X r)(he:cF X e eV)(aF:vJ X lo js)(bZ:vJ X ao vK):cF X (.Subscript e (.Slice lo ao aa bI) pos) (Vt r eV js vK):=by
 intro pins s σ H Q I h;refine Subscript_ (cQ (he pins s σ H _ I h) λv s1 ⟨x,H1,bG,a9,bz⟩=>?_);refine wpAny_Slice (cQ (aF pins s1 σ H1 _ bG bz) λdE s2 ⟨l,a6,dp,bW,cR⟩=>cQ (bZ pins s2 σ a6 _ dp cR) λhl s3 ⟨u,cY,f_,pu,ed⟩=>?_);rw[Kf];refine ba ?_;have hQ:Inv X pins σ cY {s3 with heap:=s3.heap.push {cls:=.type "slice",data:=.fields #[dE,hl,.none]} }:=f_.kept (t':=s3.toks) λb cX q=>dc _ q;obtain⟨T,id,dM,cE,aJ⟩:=aO pins {s3 with heap:=s3.heap.push {cls:=.type "slice",data:=.fields #[dE,hl,.none]} } σ cY x v dE hl l u s3.heap.objs.size Q hQ a9 (br.IsSliceOf.new ..) bW pu ed;show wpAny (a' X.prog X.w) X.A (LR e (.Slice lo ao aa bI) v<|.ref s3.heap.objs.size) (gi X pins σ Q) X.dw {s3 with heap:=s3.heap.push {cls:=.type "slice",data:=.fields #[dE,hl,.none]} };exact tail_any (ops:=[.ref s3.heap.objs.size,v]) cE dM aJ (by with_unfolding_all rfl)
noncomputable def rP(xs:List V)(lo ao:Option Int):List V:=(xs.drop<|et.df xs.length 0 lo).take (et.df xs.length xs.length ao-et.df xs.length 0 lo)
theorem MJ(xs:List V)(lo ao:Option Int):(rP xs lo ao).length<=xs.length:=by
 unfold rP;rw[ir,iu];lia
noncomputable def Vv(K:PySem.W.Frag):V->Option Int->Option Int->aM->dN->Prop:=λx lo ao H Q=>∃a xs,x=.ref a/\dh K H a xs/\
 ¬ (et.df xs.length 0 lo=0/\et.df xs.length xs.length ao=xs.length)/\∀p,H p=aa->Q (.ref p) (upd H p<|.tup<|rP xs lo ao)
theorem Vw:yi X (Vv X.K):=by
 intro pins s σ H x v dE hl lo ao bK Q I bU aq bW pu h;obtain⟨a,xs,rfl,ag,hw,q⟩:=h;cases bU;obtain⟨aP,r,cE,hz⟩:=I.tuple ag;have hlen:aP.toArray.size=xs.length:=by rw[dY];exact r.length.symm
 refine⟨"tuple",_,ve.lookup,cE.typeIs,?_⟩;refine et.Vm cE aq bW pu (by rw[hlen];exact hw) ?_ (by rw[hlen];exact hz);rw[hlen];refine⟨.ref s.heap.objs.size,_,I.laid (t':=s.toks) (o:=.tup (rP xs lo ao)) (λb cX q=>dc _ q) (cp _) ?_,rfl,q _<|I.bw.fresh<|cp _⟩;exact⟨hh (MJ xs lo ao) hz,_,(r.drop<|et.df xs.length 0 lo).take<|et.df xs.length xs.length ao-et.df xs.length 0 lo,pk.new _ _⟩
noncomputable def Vx(K:PySem.W.Frag):cI:=λx y H Q=>∃a b xs a3,x=.ref a/\y=.ref b/\dh K H a xs/\dh K H b a3/\xs≠[]/\xs.length+a3.length<=sizeLine/\
 (a3=[]->Q (.ref a) H)/\(a3≠[]->∀p,H p=aa->Q (.ref p) (upd H p<|.tup<|xs++a3))
theorem cZ.BZ{xs:List V}(r:cZ xs us):us=[]↔xs=[]:=by
 cases r with
 |nil=>simp
 |cons _ _=>simp
theorem Vy:fp X (iM .Add) (Vx X.K):=by
 intro pins s σ H x y v u Q I bU cu h;obtain⟨a,b,xs,a3,rfl,rfl,az,ae,ag,hz,bz,cR⟩:=h;cases bU;cases cu;obtain⟨aP,a9,dF,_⟩:=I.tuple az;obtain⟨kZ,bF,bI,_⟩:=I.tuple ae;refine et.Vg dF bI (λz=>ag<|a9.BZ.mp z) (λz=>⟨.ref a,H,I,rfl,bz<|bF.BZ.mp z⟩) (λz=>?_) (by rw[<-a9.length,<-bF.length];exact hz);refine⟨.ref s.heap.objs.size,_,I.laid (t':=s.toks) (o:=.tup (xs++a3)) (λb cX q=>dc _ q) (cp _) ?_,rfl,cR (λw=>z<|bF.BZ.mpr w) _<|I.bw.fresh<|cp _⟩;exact⟨by rw[eZ];exact hz,_,a9.append bF,pk.new _ _⟩
end
noncomputable def qF(n:Nat)(i:Int):Option Nat:=if 0<=i then (if i<n then J i.toNat else aa) else if -(n:Int)<=i then J (i+n).toNat else aa
noncomputable def gZ{α:Type}(xs:List α)(i:Int):Option α:=(qF xs.length i).bind λj=>xs[j]?
theorem MK{j:Nat}(h:qF n i=J j):seqIndex? i n=J j/\j<n /\ -(n:Int)<=i/\i<n:=by
 unfold qF at h;by_cases h0:0<=i
 ·rw[aV h0]at h;by_cases O:i<n
  ·rw[aV O]at h;have e:i.toNat=j:=Option.some.inj h;exact⟨by rw[Et h0 O,e],by lia,by lia,O⟩
  ·rw[aZ O]at h;cases h
 ·rw[aZ h0]at h;by_cases O : -(n:Int)<=i
  ·rw[aV O]at h;have e:(i+n).toNat=j:=Option.some.inj h;exact⟨by rw[Es (by lia) O,e],by lia,O,by lia⟩
  ·rw[aZ O]at h;cases h
theorem ML{xs:List α}{v:α}(h:gZ xs i=J v):∃j,seqIndex? i xs.length=J j/\xs[j]?=J v/\j<xs.length /\ -(xs.length:Int)<=i/\i<xs.length:=by
 unfold gZ at h;cases e:qF xs.length i with
 |none=>rw[e]at h;cases h
 |some j=>
  rw[e]at h;obtain⟨O,U,aL,aU⟩:=MK e;exact⟨j,O,h,U,aL,aU⟩
noncomputable def no(b:bM):Prop:=∀o i,subscripted b aD o i=operate [o,i] (rF o i)
noncomputable def mT(X:a4)(r:cI):Prop:=
 ∀(value slice:bM) (pins:List (ar×bE)) (s:aA) (σ:St) (H:aM) (x y:V) (v u:aj) (Q:dN),Inv X pins σ H s->c_ x v->c_ y u->r x y H Q->
  subscripted slice aD v u=operate [v,u] (rF v u)->wpAny (a' X.prog X.w) X.A (LR value slice v u) (gi X pins σ Q) X.dw s
noncomputable def Gg(X:a4)(id:String)(r:V->List V->aM->dN->Prop):Prop:=
 ∀(pins:List (ar×bE)) (s:aA) (σ:St) (H:aM) (x:V) (xs:List V) (v:aj) (us:List aj) (Q:dN),Inv X pins σ H s->c_ x v->cZ xs us->r x xs H Q->
  wpAny (a' X.prog X.w) X.A (call (.builtin id) (v::us)) (gi X pins σ Q) X.dw s
section
variable{X:a4}{a b:bM}{cP eU:TE}{pos:dk}
theorem mT.or{cG:cI}(h:mT X r)(h':mT X cG):mT X (λx y H Q=>r x y H Q\/cG x y H Q):=by
 intro value slice pins s σ H x y v u Q I bU cu q aq;rcases q with q|q
 ·exact h value slice pins s σ H x y v u Q I bU cu q aq
 ·exact h' value slice pins s σ H x y v u Q I bU cu q aq
theorem Vz(aO:mT X r)(az:cF X a cP)(ae:cF X b eU)(aq:no b):cF X (.Subscript a b pos) (BQ r cP eU):=by
 intro pins s σ H Q I h;exact Subscript_ (F8 az ae I h λv u s2 x y a6 dp bU cu q=>aO a b pins s2 σ a6 x y v u Q dp bU cu q<|aq _ _)
noncomputable def VA(K:PySem.W.Frag):cI:=λx y H Q=>∃p xs i v,x=.ref p/\y=.int i/\er K H p xs/\gZ xs i=J v/\Q v H
noncomputable def VB(K:PySem.W.Frag):cI:=λx y H Q=>∃p xs i v,x=.ref p/\y=.int i/\dh K H p xs/\gZ xs i=J v/\Q v H
theorem VC:mT X (VA X.K):=by
 intro value slice pins s σ H x y v u Q I bU cu h aq;obtain⟨p,xs,i,z,rfl,rfl,bk,he,q⟩:=h;cases bU;obtain⟨t,rfl⟩:=cu;obtain⟨aP,r,bW,hz⟩:=I.list bk;obtain⟨j,O,U,aL,aU,c0⟩:=ML he;obtain⟨w,om,oo⟩:=r.get U;have aF:=r.length;have bo:=vF;have fin:gi X pins σ Q w s:=⟨z,H,I,oo,q⟩;by_cases h0:0<=i
 ·have bx:i.toNat=j:=by
   rw[Et h0 c0]at O;exact Option.some.inj O
  exact item_listR bW.isList h0 (by lia) (by rw[bx];simpa using om) fin aq
 ·have bx:(i+(aP.toArray.size:Int)).toNat=j:=by
   rw[Es (by lia) aU]at O;rw[dY,<-aF];exact Option.some.inj O
  exact K8 (x:=w) bW.isList.typeIs J0.lookup
   (wpAny_getItem_list_neg (Q:=λr s'=>r=w/\gi X pins σ Q r s') bW.isList (by lia) (by rw[dY]<;>lia) (by lia) (by rw[bx];simpa using om) ⟨rfl,fin⟩) aq
theorem VD:mT X (VB X.K):=by
 intro value slice pins s σ H x y v u Q I bU cu h aq;obtain⟨p,xs,i,z,rfl,rfl,bk,he,q⟩:=h;cases bU;obtain⟨t,rfl⟩:=cu;obtain⟨aP,r,bW,hz⟩:=I.tuple bk;obtain⟨j,O,U,aL,aU,c0⟩:=ML he;obtain⟨w,om,oo⟩:=r.get U;have aF:=r.length;have bo:=vF;have fin:gi X pins σ Q w s:=⟨z,H,I,oo,q⟩;exact K8 (x:=w) bW.typeIs slot_tuple_getitem.lookup
  (getItem_tuple (j:=j) (Q:=λr s'=>r=w/\gi X pins σ Q r s') bW (by lia) (by lia) (by rw[dY,<-aF];exact O) (by simpa using om) ⟨rfl,fin⟩) aq
theorem zn(aP:List aj)(n j:Nat)(u:aj):bE.mapSeq (·.setIfInBounds j u) {cls:=.type "list",data:=.seq aP.toArray n}={cls:=.type "list",data:=.seq (aP.set j u).toArray n}:=by
 simp[bE.mapSeq]
variable{xs:List V}
theorem Inv.lst(I:Inv X pins σ H s)(h:H p=J (.lst xs)):
  ∃(aP:List aj) (n:Nat),cZ xs aP/\s.heap.get? p=J {cls:=.type "list",data:=.seq aP.toArray n}/\xs.length<=sizeLine:=by
 obtain⟨z,aP,n,r,e⟩:=I.bw p _ h;exact⟨aP,n,r,e,z⟩
theorem Inv.VE{a3:List V}{tn:Nat}{f:bE->bE}(I:Inv X pins σ H s)(h:H p=J (.lst xs))(aS:s.heap.get? p=J {cls:=.type "list",data:=.seq aP.toArray n})(hf:f {cls:=.type "list",data:=.seq aP.toArray n}={cls:=.type "list",data:=.seq its'.toArray tn})(r:cZ a3 its')(hz:a3.length<=sizeLine)(t:Nat):
  Inv X pins σ (upd H p<|.lst a3) {s with heap:=s.heap.update p f,toks:=t}:=by
 have e:(s.heap.update p f).get? p=J {cls:=.type "list",data:=.seq its'.toArray tn}:=by
  rw[sU f aS (by rw[hf]<;>rfl),hf]
 refine I.write (x:=p) (e:=p) (by rw[h];trivial) (.inl rfl) (λb u ae q=>(qp _ _<|h5 ae).trans q) ⟨_,e⟩ ?_;exact⟨hz,its',tn,r,e⟩
noncomputable def VF:V->V->V->aM->(aM->Prop)->Prop:=λo i v H Q=>∃p xs k j,o=.ref p/\i=.int k/\H p=J (.lst xs)/\qF xs.length k=J j/\Q (upd H p<|.lst<|xs.set j v)
theorem VG:FR X VF:=by
 intro pins s σ H o i v iU dO u Q I en tv b0 h;obtain⟨p,xs,k,j,rfl,rfl,aE,bx,q⟩:=h;cases en;obtain⟨t,rfl⟩:=tv;obtain⟨aP,n,r,aS,hz⟩:=I.lst aE;obtain⟨O,U,aL,aU⟩:=MK bx;have aF:=r.length;have bo:=vF;have gW:Inv X pins σ (upd H p<|.lst<|xs.set j v) {s with heap:=s.heap.update p (bE.mapSeq (·.setIfInBounds j u))}:=
  I.VE aE aS (zn aP n j u) (r.set b0 j) (by rw[xE];exact hz) s.toks;by_cases h0:0<=k
 ·have aY:k.toNat=j:=by
   rw[Et h0 aU]at O;exact Option.some.inj O
  exact PySem.W.ki_setAt aS h0 (by lia) (by rw[dY,<-aF];exact aU) (by rw[aY];exact⟨_,gW,q⟩)
 ·have aY:(k+(aP.toArray.size:Int)).toNat=j:=by
   rw[Es (by lia) aL]at O;rw[dY,<-aF];exact Option.some.inj O
  exact PySem.W.ki_setBack aS (by lia) (by rw[dY,<-aF];exact aL) (by lia) (by rw[aY];exact⟨_,gW,q⟩)
theorem VH(lo ao:Option Int)(n:Nat):(ta lo ao aa n).1=((et.df n 0 lo:Nat):Int)/\(ta lo ao aa n).2.1=((et.df n n ao:Nat):Int)/\(ta lo ao aa n).2.2=1:=by
 refine⟨?_,?_,rfl⟩
 ·cases lo with
  |none=>simp[ta,et.df]
  |some i=>
   simp only[ta,et.df,Kj,show (1:Int)>0 by decide,lW];by_cases h:i<0
   ·simp only[h,lW]<;>lia
   ·simp only[h,hM]<;>lia
 ·cases ao with
  |none=>simp[ta,et.df]
  |some i=>
   simp only[ta,et.df,Kj,show (1:Int)>0 by decide,lW];by_cases h:i<0
   ·simp only[h,lW]<;>lia
   ·simp only[h,hM]<;>lia
theorem VI(aP:List aj)(lo ao:Option Int):slicePick aP.toArray lo ao aa=((aP.drop<|et.df aP.length 0 lo).take<|et.df aP.length aP.length ao-et.df aP.length 0 lo).toArray:=by
 obtain⟨O,U,aL⟩:=VH lo ao aP.toArray.size;unfold slicePick;rw[O,U,aL];simp only[sliceRange_one,pick_run,dY]<;>rfl
noncomputable def VJ(K:PySem.W.Frag):V->Option Int->Option Int->aM->dN->Prop:=λx lo ao H Q=>∃a xs,x=.ref a/\er K H a xs/\∀p,H p=aa->Q (.ref p) (upd H p<|.lst<|rP xs lo ao)
theorem MM:yi X (VJ X.K):=by
 intro pins s σ H x v dE hl lo ao bK Q I bU aq bW pu h;obtain⟨a,xs,rfl,ag,q⟩:=h;cases bU;obtain⟨aP,r,cE,hz⟩:=I.list ag;have hlen:=r.length;refine⟨"list",_,J0.lookup,cE.isList.typeIs,?_⟩;refine wpAny_getItem_list_slice cE.isList aq bW pu .none (by simp) ?_ (by rw[dY]<;>lia);rw[VI,<-hlen];refine⟨.ref s.heap.objs.size,_,I.laid (t':=s.toks) (o:=.lst (rP xs lo ao)) (λb cX q=>dc _ q) (cp _) ?_,rfl,q _<|I.bw.fresh<|cp _⟩;exact⟨hh (MJ xs lo ao) hz,_,0,(r.drop<|et.df xs.length 0 lo).take<|et.df xs.length xs.length ao-et.df xs.length 0 lo,fw _ rfl⟩
theorem VK:bv X (.builtin "len") (λxs H Q=>∃p a3,xs=[.ref p]/\(er X.K H p a3\/dh X.K H p a3)/\Q (.int a3.length) H):=by
 intro pins s σ H xs us Q I r h;obtain⟨p,a3,rfl,bk,q⟩:=h;obtain⟨u,rfl,bU⟩:=mR r;cases bU;have bo:=vF;rcases bk with bk|bk
 ·obtain⟨aP,cG,bW,hz⟩:=I.list bk;have hlen:=cG.length;exact Calls.call_len_list bW.isList (by simp only[dY]<;>lia) ⟨.int a3.length,H,I.tok _,⟨s.toks+1,by rw[dY,hlen]⟩,q⟩
 ·obtain⟨aP,cG,bW,hz⟩:=I.tuple bk;have hlen:=cG.length;exact len_tuple bW (by simp only[dY]<;>lia) ⟨.int a3.length,H,I.tok _,⟨s.toks+1,by rw[dY,hlen]⟩,q⟩
theorem VL:bv X (.builtin "len") (λxs H Q=>∃z,xs=[.str z]/\z.length<=sizeLine/\Q (.int z.length) H):=by
 intro pins s σ H xs us Q I r h;obtain⟨z,rfl,hz,q⟩:=h;obtain⟨u,rfl,t,rfl⟩:=mR r;have bo:=vF;exact len_str (by lia) ⟨.int z.length,H,I.tok _,⟨_,rfl⟩,q⟩
theorem bv.or{f:aj}{r cG:List V->aM->dN->Prop}(h:bv X f r)(h':bv X f cG):bv X f (λxs H Q=>r xs H Q\/cG xs H Q):=by
 intro pins s σ H xs us Q I rs q;rcases q with q|q
 ·exact h pins s σ H xs us Q I rs q
 ·exact h' pins s σ H xs us Q I rs q
theorem VM:bv X (.type "list") (λxs H Q=>∃p a3,xs=[.ref p]/\(er X.K H p a3\/dh X.K H p a3)/\∀l,H l=aa->Q (.ref l) (upd H l<|.lst a3)):=by
 intro pins s σ H xs us Q I r h;obtain⟨p,a3,rfl,bk,q⟩:=h;obtain⟨u,rfl,bU⟩:=mR r;cases bU;have fin:∀(aP:List aj),cZ a3 aP->a3.length<=sizeLine->∀(h':br) (c':Nat),(∀b cA,s.heap.get? b=J cA->h'.get? b=J cA)->
   h'.get? s.heap.objs.size=J {cls:=.type "list",dict:=aa,data:=.seq aP.toArray c',slots:=#[]}->gi X pins σ Q (.ref s.heap.objs.size) {s with heap:=h'}:=λaP cG hz h' c' fk e=>
  ⟨.ref s.heap.objs.size,_,I.laid (t':=s.toks) fk (cp _)<|show g9 X.prog X.w _ h' _ (.lst a3) from ⟨hz,aP,c',cG,e⟩,rfl,q _<|I.bw.fresh<|cp _⟩;rcases bk with bk|bk
 ·obtain⟨aP,cG,bW,hz⟩:=I.list bk;have hlen:=cG.length;obtain⟨o,aS,av,n,hd⟩:=bW.isList;exact Kg p (.inl rfl) aS av hd (λh' c' fk e=>fin aP cG hz h' c' fk e) (by simp only[dY]<;>lia)
 ·obtain⟨aP,cG,bW,hz⟩:=I.tuple bk;have hlen:=cG.length;obtain⟨o,aS,av,n,hd⟩:=bW;exact Kg p (.inr rfl) aS av hd (λh' c' fk e=>fin aP cG hz h' c' fk e) (by simp only[dY]<;>lia)
theorem VN:bv X (.type "tuple") (λxs H Q=>∃p a3,xs=[.ref p]/\((er X.K H p a3/\∀l,H l=aa->Q (.ref l) (upd H l<|.tup a3))\/(dh X.K H p a3/\Q (.ref p) H))):=by
 intro pins s σ H xs us Q I r h;obtain⟨p,a3,rfl,h⟩:=h;obtain⟨u,rfl,bU⟩:=mR r;cases bU;rcases h with ⟨bk,q⟩|⟨bk,q⟩
 ·obtain⟨aP,cG,bW,hz⟩:=I.list bk;have hlen:=cG.length;refine call_tuple_list bW.isList (λh' fk=>?_) (by simp only[dY]<;>lia);have bG:Inv X pins σ H {s with heap:=h'}:=I.kept (t':=s.toks) fk;have dp:Inv X pins σ (upd H h'.objs.size<|.tup a3) {s with heap:=h'.push {cls:=.type "tuple",data:=.seq aP.toArray} }:=
   bG.laid (t':=s.toks) (λb o e=>dc _ e) (cp _) (show g9 X.prog X.w _ _ _ (.tup a3) from ⟨hz,aP,cG,pk.new _ _⟩);exact⟨.ref h'.objs.size,_,dp,rfl,q _<|bG.bw.fresh<|cp _⟩
 ·obtain⟨aP,cG,bW,hz⟩:=I.tuple bk;exact call_tuple_same bW ⟨.ref p,H,I,rfl,q⟩
noncomputable def rQ(K:PySem.W.Frag)(T:String)(x:V)(H:aM):Prop:=match x with
 |.str _=>T = "str"
 |.int _=>T = "int"
 |.ref p=>(T = "list" /\ ∃xs,er K H p xs)\/(T = "tuple" /\ ∃o,K.lookup p=J o/\o.cls=.type "tuple" /\ o.dict=aa)\/
   (T = "dict" /\ ((∃kvs,H p=J (.eN kvs))\/∃kvs,H p=J (.a8 kvs)))\/(T = "set" /\ ∃S n,H p=J (.set S n))
 |_=>False
theorem MN{T:String}{x:V}{v:aj}(I:Inv X pins σ H s)(r:c_ x v)(ty:rQ X.K T x H):
  s.TypeIs v T/\∀a,v=.ref a->∃cX,s.heap.get? a=J cX/\cX.dict=aa:=by
 cases x with
 |str z=>
  obtain⟨t,rfl⟩:=r;cases (show T = "str" from ty);exact⟨typeIs_str s z t,λ_ e=>nomatch e⟩
 |int i=>
  obtain⟨t,rfl⟩:=r;cases (show T = "int" from ty);exact⟨typeIs_int s i t,λ_ e=>nomatch e⟩
 |ref p=>
  cases r;rcases ty with ⟨rfl,xs,bk⟩|⟨rfl,o,aY,av,hd⟩|⟨rfl,aY⟩|⟨rfl,S,n,aY⟩
  ·obtain⟨aP,_,bW,_⟩:=I.list bk;refine⟨bW.isList.typeIs,λa e=>?_⟩;cases e;obtain⟨o,n,e,c,hd,_⟩:=bW;exact⟨o,e,hd⟩
  ·refine⟨⟨o,I.oa p o aY,av⟩,λa e=>?_⟩;cases e;exact⟨o,I.oa _ o aY,hd⟩
  ·have z:∃o,s.heap.get? p=J o/\o.ExactDict:=by
    rcases aY with ⟨kvs,aY⟩|⟨kvs,aY⟩
    ·obtain⟨_,_,_,_,o,_,_,e,ex,_⟩:=I.bw p _ aY;exact⟨o,e,ex⟩
    ·obtain⟨_,_,_,_,o,_,_,e,ex,_⟩:=I.bw p _ aY;exact⟨o,e,ex⟩
   obtain⟨o,e,ex⟩:=z;refine⟨⟨o,e,ex.1⟩,λa aG=>?_⟩;cases aG;exact⟨o,e,ex.2.1⟩
  ·obtain⟨o,_,_,_,e,ex,_⟩:=I.bw p _ aY;refine⟨⟨o,e,ex.1⟩,λa aG=>?_⟩;cases aG;exact⟨o,e,ex.2.1⟩
 |_=>exact False.elim ty
noncomputable def VO(K:PySem.W.Frag)(T:String)(r:V->List V->aM->dN->Prop)(to:TE):TE:=λσ H Q=>to σ H λx H1=>rQ K T x H1/\r x [] H1 Q
noncomputable def VP(K:PySem.W.Frag)(T:String)(r:V->List V->aM->dN->Prop)(to:TE)(t:gX):TE:=λσ H Q=>to σ H λx H1=>rQ K T x H1/\t σ H1 λxs a6=>r x xs a6 Q
variable{o e:bM}{es:List bM}{to:TE}{t:gX}{name:aQ}{apos hn:dk}{T id:String}{r:V->List V->aM->dN->Prop}
theorem VQ(cT:Bj T)(slot:Slot T name id)(l6:tb (.builtin id)=pure (.type "method_descriptor"))(hm:Gg X id r)(aS:cF X o to)(tw:Bk o name X.env (de o X.env)=de o X.env:=by rfl)(tx:(apos.endLine==hn.line)=af:=by rfl):cF X (.Call (.Attribute o name apos) [] [] hn) (VO X.K T r to):=by
 intro pins s σ H Q I h;refine wpAny_Call_method0_late tw tx (cQ (aS pins s σ H _ I h) λv s1 ⟨x,H1,bG,a9,ty,bz⟩=>?_);obtain⟨O,U⟩:=MN bG a9 ty;exact⟨T,id,cT,slot,l6,O,U,Ly rfl<|PySem.evalArgs_none<|hm pins s1 σ H1 x [] v [] Q bG a9 .nil bz⟩
theorem VR(cT:Bj T)(slot:Slot T name id)(l6:tb (.builtin id)=pure (.type "method_descriptor"))(hm:Gg X id r)(aS:cF X o to)(az:iS X (e::es) t)(tw:Bk o name X.env (de o X.env)=de o X.env:=by rfl)(Gh:((ht hn<|cx (e::es) X.env).all (λx=>!x.1)&&(backToKw hn<|keywordEach [] X.env).all (λx=>x.1.isSome)
   && decide ((e::es).length+([]:List xT).length+(if ([]:List xT).isEmpty then 0 else 1)<30))=af:=by rfl)(tx:(apos.endLine==hn.line)=af:=by rfl)(aq:cx (e::es) X.env=(aD,de e X.env)::cx es X.env:=by rfl)(Gi:(ht hn<|cx es X.env).any (·.1)=aD:=by rfl):
  cF X (.Call (.Attribute o name apos) (e::es) [] hn) (VP X.K T r to t):=by
 intro pins s σ H Q I h;refine wpAny_Call_method_late tw Gh tx rfl (cQ (aS pins s σ H _ I h) λv s1 ⟨x,H1,bG,a9,ty,bz⟩=>?_);obtain⟨O,U⟩:=MN bG a9 ty;refine⟨T,id,cT,slot,l6,O,U,?_⟩;have ku:=az hn pins s1 σ H1 _ bG bz;rw[aq]at ku ⊢;refine Ly (by show (aD || (ht hn<|cx es X.env).any (·.1))=aD;rw[Gi]<;>rfl) (Lz ?_);exact cQ ku λus s2 ⟨vs,a6,dp,bF,cR⟩=>hm pins s2 σ a6 x vs v us Q dp a9 bF cR
end
noncomputable def Gj(X:a4)(id:String)(r:V->List V->aM->dN->Prop):Prop:=
 ∀(pins:List (ar×bE)) (s:aA) (σ:St) (H:aM) (x:V) (xs:List V) (v:aj) (us:List aj) (Q:dN),Inv X pins σ H s->c_ x v->cZ xs us->r x xs H Q->
  wpAny (a' X.prog X.w) X.A (call (.builtin id) (v::us)) (gi X pins σ Q) X.dw s
theorem cZ.one:∀{x:V}{us:List aj},cZ [x] us->∃u,us=[u]/\c_ x u
 |_,_,.cons r .nil=>⟨_,rfl,r⟩
theorem cZ.zero:∀{us:List aj},cZ [] us->us=[]
 |_,.nil=>rfl
theorem cZ.dropLast{xs:List V}(h:cZ xs us):cZ xs.dropLast us.dropLast:=by
 induction h with
 |nil=>exact .nil
 |cons r t bS=>
  cases t with
  |nil=>exact .nil
  |cons q t'=>exact .cons r bS
theorem VS(l:List α):l.eraseIdx (l.length-1)=l.dropLast:=by
 induction l with
 |nil=>rfl
 |cons a r bS=>
  cases r with
  |nil=>rfl
  |cons b r=>
   have e:(a::b::r).length-1=((b::r).length-1)+1:=by
    have O:(a::b::r).length=r.length+2:=rfl;have U:(b::r).length=r.length+1:=rfl;lia
   rw[e,List.eraseIdx_cons_succ,bS];all_goals rfl
section
variable{X:a4}{pins:List (ar×bE)}{σ:St}{H:aM}{s:aA}{l b:ar}{xs a3 zs:List V}
theorem Inv.Gk{f:Array aj->Array aj}(I:Inv X pins σ H s)(gx:H l=J (.lst xs))(e:s.heap.get? l=J {cls:=.type "list",data:=.seq aP.toArray n})(hf:f aP.toArray=its'.toArray)(bb:cZ a3 its')(hz:a3.length<=sizeLine):
  Inv X pins σ (upd H l<|.lst a3) {s with heap:=s.heap.update l (bE.mapSeq f),toks:=t'}:=by
 have q:=LJ e f;rw[hf]at q;refine I.write (x:=l) (e:=l) (by rw[gx];exact trivial) (.inl rfl) (λpI u ae bZ=>(qp s.heap (bE.mapSeq f)<|h5 ae).trans bZ) ⟨_,q⟩ ?_;exact⟨hz,its',_,bb,q⟩
theorem Inv.VT(I:Inv X pins σ H s)(bb:cZ a3 aP)(hz:a3.length<=sizeLine):
  Inv X pins σ (upd H s.heap.objs.size<|.lst a3) {s with heap:=s.heap.push {cls:=.type "list",data:=.seq aP.toArray},toks:=t'}:=
 I.laid (λ_ _ q=>dc _ q) (cp _) ⟨hz,aP,0,bb,fw _ rfl⟩
theorem Inv.fresh(I:Inv X pins σ H s):H s.heap.objs.size=aa:=I.bw.fresh (cp _)
theorem Inv.k4(I:Inv X pins σ H s)(gx:H l=J (.lst xs)):xs.length<=sizeLine/\∃(aP:List aj) (n:Nat),cZ xs aP/\xs.length=aP.length/\s.heap.get? l=J {cls:=.type "list",data:=.seq aP.toArray n}:=by
 obtain⟨z,aP,n,r,e⟩:=I.bw l _ gx;exact⟨z,aP,n,r,r.length,e⟩
theorem VU(h:n<=sizeLine):b8.List.listTooLong n=aD:=by
 unfold b8.List.listTooLong;exact bi (by lia)
end
section
variable{X:a4}
noncomputable def VV:V->List V->aM->dN->Prop:=λx vs H Q=>∃l xs y,x=.ref l/\vs=[y]/\H l=J (.lst xs)/\xs.length<sizeLine/\Q .bu (upd H l<|.lst<|xs++[y])
theorem VW:Gj X "list.append" VV:=by
 intro pins s σ H x vs v us Q I bU b0 h;obtain⟨l,xs,y,rfl,rfl,gx,hz,q⟩:=h;cases bU;obtain⟨u,rfl,gN⟩:=b0.one;obtain⟨z,aP,n,r,aF,e⟩:=I.k4 gx;refine AD Lp ⟨_,e,rfl⟩ Lo (Ln _ _) (J1 l aP.toArray n u (by rw[dY];lia)) ⟨e,?_⟩;refine⟨.bu,_,I.Gk (its':=aP++[u]) gx e (by simp) (r.append<|.cons gN .nil) ?_,rfl,q⟩;rw[eZ,qk];lia
noncomputable def VX:V->List V->aM->dN->Prop:=λx vs H Q=>∃l b xs zs,x=.ref l/\vs=[.ref b]/\H l=J (.lst xs)/\H b=J (.lst zs)/\xs.length+zs.length<=sizeLine/\Q .bu (upd H l<|.lst<|xs++zs)
theorem VY:Gj X "list.extend" VX:=by
 intro pins s σ H x vs v us Q I bU b0 h;obtain⟨l,b,xs,zs,rfl,rfl,gx,ef,hz,q⟩:=h;cases bU;obtain⟨u,rfl,gN⟩:=b0.one;cases gN;obtain⟨z,aP,n,r,aF,e⟩:=I.k4 gx;obtain⟨dH,kZ,n2,bF,oq,aG⟩:=I.k4 ef;have hsz:aP.toArray.size+kZ.toArray.size<=sizeLine:=by rw[dY,dY];lia
 have VZ:¬ (!aP.toArray.isEmpty&&b8.List.listTooLong (aP.toArray.size+kZ.toArray.size))=af:=by
  rw[VU hsz,KO];exact e1
 refine AD F.slot_list_extend ⟨_,e,rfl⟩ F.entry_list_extend (F.args_list_extend_2 _ _)
  (AutoSeq1.list_extend_list_list_0 l aP.toArray n b kZ.toArray n2 VZ (by rw[dY];lia) (by lia)) ⟨e,aG,?_⟩;refine⟨.bu,_,I.Gk (its':=aP++kZ) gx e (by simp) (r.append bF) ?_,rfl,q⟩;rw[eZ];lia
noncomputable def V0:V->List V->aM->dN->Prop:=λx vs H Q=>∃l xs y,x=.ref l/\vs=[]/\H l=J (.lst xs)/\xs[xs.length-1]?=J y/\Q y (upd H l<|.lst xs.dropLast)
theorem V1:Gj X "list.pop" V0:=by
 intro pins s σ H x vs v us Q I bU b0 h;obtain⟨l,xs,y,rfl,rfl,gx,aw,q⟩:=h;cases bU;have V2:=b0.zero;subst V2;obtain⟨z,aP,n,r,aF,e⟩:=I.k4 gx;obtain⟨u,bZ,gN⟩:=r.get aw;have FE:aP.toArray[aP.toArray.size-1]?=J u:=by
  show aP.toArray[aP.length-1]?=J u;rw[<-gV,<-aF];exact bZ
 refine AD F.slot_list_pop ⟨_,e,rfl⟩ F.entry_list_pop (F.args_list_pop_1 _) (MeetsSeq.list_pop_last l aP.toArray n u FE (by rw[dY];lia)) ⟨e,?_⟩;refine⟨y,_,I.Gk (its':=aP.dropLast) gx e ?_ r.dropLast ?_,gN,q⟩
 ·show aP.toArray.eraseIdxIfInBounds (aP.toArray.size-1)=aP.dropLast.toArray;rw[dY,Kk,VS]
 ·rw[EF];lia
noncomputable def V3:cI:=λx y H Q=>∃l b xs zs,x=.ref l/\y=.ref b/\H l=J (.lst xs)/\H b=J (.lst zs)/\xs.length+zs.length<=sizeLine/\∀p,H p=aa->Q (.ref p) (upd H p<|.lst<|xs++zs)
theorem V4:fp X (iM .Add) V3:=by
 intro pins s σ H x y v u Q I bU cu h;obtain⟨l,b,xs,zs,rfl,rfl,gx,ef,hz,q⟩:=h;cases bU;cases cu;obtain⟨z,aP,n,r,aF,e⟩:=I.k4 gx;obtain⟨dH,kZ,n2,bF,oq,aG⟩:=I.k4 ef;refine PySem.P.add_list e aG ?_ (by rw[dY,dY];lia);have iZ:aP.toArray++kZ.toArray=(aP++kZ).toArray:=by simp
 rw[iZ];exact⟨.ref _,_,I.VT (t':=s.toks) (r.append bF) (by rw[eZ];lia),rfl,q _ I.fresh⟩
end
section
variable{prog:cc}{w:bN}{A:cj}{E:aj->aA->Prop}{s:aA}
end
section
variable{X:a4}
end
section
variable{bj:Type}[DecidableEq bj]
noncomputable def k6(kvs:List (bj×V))(k:bj):Option V:=(kvs.find? λdZ=>decide (dZ.1=k)).map (·.2)
noncomputable def l7(kvs:List (bj×V))(k:bj)(v:V):List (bj×V):=
 if (kvs.any λdZ=>decide (dZ.1=k))=af then kvs.map (λdZ=>if dZ.1=k then (dZ.1,v) else dZ) else kvs++[(k,v)]
theorem B0{p:bj×V}{r:List (bj×V)}{k:bj}(e:p.1=k):k6 (p::r) k=J p.2:=by simp[k6,n6,e]
theorem B1{p:bj×V}{r:List (bj×V)}{k:bj}(e:¬ p.1=k):k6 (p::r) k=k6 r k:=by simp[k6,n6,e]
theorem MO(k:bj):∀kvs:List (bj×V),(kvs.any λdZ=>decide (dZ.1=k))=(k6 kvs k).isSome
 |[]=>rfl
 |p::r=>by
  rw[sT];by_cases e:p.1=k
  ·simp only[B0 e,eL e,KR,Option.isSome_some]
  ·rw[B1 e,bi e,KP];exact MO k r
theorem MP(kvs:List (bj×V))(k:bj)(v:V):(l7 kvs k v).length<=kvs.length+1:=by
 unfold l7;split
 ·rw[b3];lia
 ·rw[eZ,eS,KC];lia
theorem px.yj{u:Option aj}(r:px o u):o.isSome=u.isSome:=by
 cases o with
 |none=>cases u with
  |none=>rfl
  |some _=>exact (show False from r).elim
 |some _=>cases u with
  |none=>exact (show False from r).elim
  |some _=>rfl
theorem h6.val{kvs:List (bj×V)}{vs:List (bj×aj)}(r:h6 kvs vs)(k:bj):px (k6 kvs k) (tc vs k):=by
 unfold h6 at r;induction r with
 |nil=>exact True.intro
 |@cons p q ps pJ h t bS=>
  obtain⟨O,U⟩:=h;by_cases e:p.1=k
  ·have b7:q.1=k:=O.symm.trans e;have b:tc (q::pJ) k=J q.2:=by simp[tc,n6,b7]
   rw[B0 e,b];exact U
  ·have b7:¬ q.1=k:=λz=>e (O.trans z);have b:tc (q::pJ) k=tc pJ k:=by simp[tc,n6,b7]
   rw[B1 e,b];exact bS
theorem h6.any{kvs:List (bj×V)}{vs:List (bj×aj)}(r:h6 kvs vs)(k:bj):(kvs.any λdZ=>decide (dZ.1=k))=vs.any λdZ=>decide (dZ.1=k):=by
 unfold h6 at r;induction r with
 |nil=>rfl
 |cons h t bS=>rw[sT,sT,bS,h.1]
theorem h6.Gl{kvs:List (bj×V)}{vs:List (bj×aj)}(r:h6 kvs vs)(k:bj){y:V}{u:aj}(cu:c_ y u):
  h6 (kvs.map λdZ=>if dZ.1=k then (dZ.1,y) else dZ) (vs.map λdZ=>if dZ.1=k then (dZ.1,u) else dZ):=by
 unfold h6 at r ⊢;induction r with
 |nil=>exact .nil
 |@cons p q ps pJ h t bS=>
  rw[dQ,dQ];refine .cons ?_ bS;obtain⟨O,U⟩:=h;by_cases e:p.1=k
  ·rw[aV e,aV<|O.symm.trans e];exact⟨O,cu⟩
  ·rw[aZ e,aZ<|λz=>e<|O.trans z];exact⟨O,U⟩
theorem h6.put{kvs:List (bj×V)}{vs:List (bj×aj)}(r:h6 kvs vs)(k:bj){y:V}{u:aj}(cu:c_ y u):h6 (l7 kvs k y) (stored vs k u):=by
 unfold l7 stored;rw[r.any k];by_cases e:(vs.any λdZ=>decide (dZ.1=k))=af
 ·rw[aV e,aV e];exact r.Gl k cu
 ·rw[aZ e,aZ e];exact hi.snoc r ⟨rfl,cu⟩
theorem h6.length{kvs:List (bj×V)}{vs:List (bj×aj)}(r:h6 kvs vs):kvs.length=vs.length:=hi.length r
end
theorem lv{k:Key}{u:aj}(r:c_ (d5 k) u):(rH P w).is k u=af:=by
 cases k with
 |inl i=>obtain⟨t,e⟩:=(show ∃t,u=aj.int i t from r);subst e;exact xz P w i t
 |inr x=>obtain⟨t,e⟩:=(show ∃t,u=aj.str x t from r);subst e;exact Tm P w x t
noncomputable abbrev KT(H:aM):List (List ah×V)->List (List ah×ar×aj)->Prop:=hi λp q=>p.1=q.1/\mO H p.1 q.2.1/\c_ p.2 q.2.2
theorem KT.val(r:KT H kvs xs)(k:List ah):px (k6 kvs k) ((qs xs k).map (·.2)):=by
 induction r with
 |nil=>exact True.intro
 |@cons p q ps pJ h t bS=>
  obtain⟨O,_,U⟩:=h;by_cases e:p.1=k
  ·have b7:q.1=k:=O.symm.trans e;have b:qs (q::pJ) k=J q.2:=by simp[qs,n6,b7]
   rw[B0 e,b];exact U
  ·have b7:¬ q.1=k:=λz=>e (O.trans z);have b:qs (q::pJ) k=qs pJ k:=by simp[qs,n6,b7]
   rw[B1 e,b];exact bS
theorem KT.Gl(r:KT H kvs xs)(k:List ah){y:V}{u:aj}(cu:c_ y u):
  KT H (kvs.map λdZ=>if dZ.1=k then (dZ.1,y) else dZ) (xs.map<|putAt k u):=by
 induction r with
 |nil=>exact .nil
 |@cons p q ps pJ h t bS=>
  rw[dQ,dQ];refine .cons ?_ bS;obtain⟨O,U,aL⟩:=h;unfold putAt;by_cases e:p.1=k
  ·rw[aV e,aV<|O.symm.trans e];exact⟨O,U,cu⟩
  ·rw[aZ e,aZ<|λz=>e<|O.trans z];exact⟨O,U,aL⟩
theorem KT.put(r:KT H kvs xs)(k:List ah){b:ar}{y:V}{u:aj}(ae:mO H k b)(cu:c_ y u):
  KT H (l7 kvs k y) (storedH xs k b u):=by
 have e:(kvs.any λdZ=>decide (dZ.1=k))=(qs xs k).isSome:=by
  rw[MO,(r.val k).yj,AE]
 unfold l7 storedH;rw[e];by_cases q:(qs xs k).isSome=af
 ·rw[aV q,aV q];exact r.Gl k cu
 ·rw[aZ q,aZ q];exact hi.snoc r ⟨rfl,ae,cu⟩
theorem KT.keeps(r:KT H kvs xs)(cE:∀b a3,H b=J (.tup a3)->ak b=J (.tup a3)):KT ak kvs xs:=
 hi.BB r λ_ _ z=>⟨z.1,z.2.1.mono cE,z.2.2⟩
section
variable{P:cc}{w:bN}{H:aM}{h:br}{a:ar}
theorem MQ{u:iQ}(ok:eD P w H h)(e:pz H a u):g9 P w H h a u:=e.ok ok
theorem vL{kvs:List (Key×V)}(ok:eD P w H h)(e:pz H a (.eN kvs)):kvs.length<=sizeLine/\(a==mK)=aD/\∃vs,h6 kvs vs/\h.DictOf (rH P w) a vs:=
 show g9 P w H h a (.eN kvs) from MQ ok e
theorem V5{kvs:List (Key×V)}(ok:eD P w H h)(e:H a=J (.eN kvs)):kvs.length<=sizeLine/\(a==mK)=aD/\∃vs,h6 kvs vs/\h.DictOf (rH P w) a vs:=vL ok (.inl e)
mutual
theorem dR.hS(ok:eD P w H h):∀{d:ah}{v:V}{u:aj},dR H d v->c_ v u->fN h d u
 |.bu,_,_,e,r=>by cases (show _=V.bu from e);exact r
 |.aR b,_,_,e,r=>by cases (show _=V.aR b from e);exact r
 |.int i,_,_,e,r=>by cases (show _=V.int i from e);exact r
 |.str x,_,_,e,r=>by cases (show _=V.str x from e);exact r
 |.fn a,_,_,e,r=>by cases (show _=V.ref a from e);exact r
 |.tup ds,_,_,e,r=>by
  obtain⟨a,xs,rfl,O,U⟩:=e;cases r;obtain⟨_,aP,b0,o,g1,g2,n,g3⟩:=(show g9 P w H h a (.tup xs) from ok a _ O);exact⟨a,o,aP.toArray,n,rfl,g1,g2,g3,by simpa using cq.hS ok U b0⟩
 |.bf ds,_,_,e,r=>by
  obtain⟨a,xs,o,rfl,O,U⟩:=e;cases r;exact⟨a,rfl⟩
 |.fd,_,_,e,r=>by
  obtain⟨a,o,rfl,O⟩:=e;cases r;exact⟨a,rfl⟩
theorem cq.hS(ok:eD P w H h):∀{ds:List ah}{vs:List V}{us:List aj},cq H ds vs->cZ vs us->fh h ds us
 |[],_,_,e,r=>by cases (show _=[] from e);cases r;rfl
 |d::ds,_,_,e,r=>by
  obtain⟨v,t,rfl,O,U⟩:=e;cases r with
  |cons a9 bF=>exact⟨_,_,rfl,dR.hS ok O a9,cq.hS ok U bF⟩
end
theorem vM{ks:List ah}(ok:eD P w H h)(e:mO H ks a):(hN P w).is h ks a:=⟨e.1,e.2.hS ok rfl⟩
theorem B2{P:cc}{w:bN}{A:cj}(h:A.units+20<c6):(hN P w).room A.in1:=show A.units+1+10<c6 by lia
theorem jp(ok:eD P w H h)(e:pz H a (.a8 kvs)):kvs.length<=sizeLine/\(a==mK)=aD/\
  ∃xs,KT H kvs xs/\h.DictOfH (hN P w) a xs:=by
 obtain⟨z,y,xs,r,o,es,ep,O,U,aL,aU,c0⟩:=(show g9 P w H h a (.a8 kvs) from MQ ok e);refine⟨z,y,xs,r,o,es,ep,O,U,aL,aU,λx ag=>?_,c0⟩;have all:∀{l:List (List ah×V)}{m:List (List ah×ar×aj)},KT H l m->∀x∈m,(hN P w).is h x.1 x.2.1:=by
  intro l m q;induction q with
  |nil=>intro x ag;exact nomatch ag
  |@cons p q ps pJ bk t bS=>
   intro x ag;rcases cK.mp ag with e|ag
   ·subst e;exact vM ok (by rw[<-bk.1];exact bk.2.1)
   ·exact bS x ag
 exact all r x ag
theorem Gm(ok:eD P w H h)(e:H a=J (.a8 kvs)):kvs.length<=sizeLine/\(a==mK)=aD/\
  ∃xs,KT H kvs xs/\h.DictOfH (hN P w) a xs:=jp ok (.inl e)
end
noncomputable def ca(H:aM)(a:ar)(y:V)(r:Option V):Prop:=
 (∃kvs k,pz H a (.eN kvs)/\y=d5 k/\r=k6 kvs k)\/∃kvs k b,pz H a (.a8 kvs)/\y=.ref b/\mO H k b/\r=k6 kvs k
noncomputable def tA(H:aM)(a:ar)(y v:V)(ak:aM):Prop:=
 (∃kvs k,H a=J (.eN kvs)/\y=d5 k/\kvs.length<sizeLine/\ak=upd H a (.eN<|l7 kvs k v))\/
 ∃kvs k b,H a=J (.a8 kvs)/\y=.ref b/\mO H k b/\kvs.length<sizeLine/\ak=upd H a (.a8<|l7 kvs k v)
theorem ca.k{H:aM}{a:ar}{kvs:List (Key×V)}{k:Key}(e:H a=J (.eN kvs)):ca H a (d5 k) (k6 kvs k):=.inl ⟨kvs,k,.inl e,rfl,rfl⟩
theorem ca.t{k:List ah}(e:H a=J (.a8 kvs))(eG:mO H k b):ca H a (.ref b) (k6 kvs k):=.inr ⟨kvs,k,b,.inl e,rfl,eG,rfl⟩
theorem tA.k{H:aM}{a:ar}{kvs:List (Key×V)}{k:Key}{v:V}(e:H a=J (.eN kvs))(aF:kvs.length<sizeLine):tA H a (d5 k) v (upd H a<|.eN<|l7 kvs k v):=.inl ⟨kvs,k,e,rfl,aF,rfl⟩
theorem tA.t{k:List ah}{v:V}(e:H a=J (.a8 kvs))(eG:mO H k b)(aF:kvs.length<sizeLine):
  tA H a (.ref b) v (upd H a<|.a8<|l7 kvs k v):=.inr ⟨kvs,k,b,e,rfl,eG,aF,rfl⟩
section
variable{X:a4}{pins:List (ar×bE)}{σ:St}{H:aM}{s:aA}{a:ar}{y v:V}{u r:aj}{o:Option V}{A:cj}{E:aj->aA->Prop}
theorem Inv.big(I:Inv X pins σ H s):mK<s.heap.objs.size:=by
 have h:fm<s.heap.objs.size:=(I.mod.glob.keeps I.eF).lt;exact xK (by decide) h
theorem V6(bZ:A.units+20<c6)(I:Inv X pins σ H s)(g:ca H a y (J v))(cu:c_ y u)(h:∀gh s',Inv X pins σ H s'->c_ v gh->Q gh s'):
  wpAny (a' X.prog X.w) A (rF (.ref a) u) Q E s:=by
 rcases g with ⟨kvs,k,e,k7,l⟩|⟨kvs,k,b,e,k7,eG,l⟩
 ·subst k7;obtain⟨z,hd,vs,rel,dd⟩:=vL I.bw e;obtain⟨gh,hw,oo⟩:=px.some_of (v:=v) (o:=tc vs k) (by rw[l];exact rel.val k);exact wpAny_getItem_of (lv cu) dd.mapOf hw (h gh _ (I.tok _) oo)
 ·subst k7;cases (show u=aj.ref b from cu);obtain⟨z,hd,xs,rel,dd⟩:=jp I.bw e;obtain⟨gh,hw,oo⟩:=px.some_of (v:=v) (o:=(qs xs k).map (·.2)) (by rw[l];exact rel.val k);obtain⟨p,aE,mU⟩:=dK.mp hw;refine wpAny_getItem_heap (B2 bZ) (vM I.bw eG) dd aE ?_;rw[mU];exact h gh _ (I.tok _) oo
theorem Gn(bZ:A.units+20<c6)(I:Inv X pins σ H s)(g:ca H a y o)(cu:c_ y u)(h:∀s',Inv X pins σ H s'->Q (.bool o.isSome) s'):
  wpAny (a' X.prog X.w) A (fM .In u<|.ref a) Q E s:=by
 rcases g with ⟨kvs,k,e,k7,l⟩|⟨kvs,k,b,e,k7,eG,l⟩
 ·subst k7;obtain⟨z,hd,vs,rel,dd⟩:=vL I.bw e;refine wpAny_in_of (lv cu) hd dd.mapOf ?_;rw[<-(rel.val k).yj,<-l];exact h _ (I.tok _)
 ·subst k7;cases (show u=aj.ref b from cu);obtain⟨z,hd,xs,rel,dd⟩:=jp I.bw e;refine wpAny_in_heap (B2 bZ) (vM I.bw eG) hd dd ?_;have q:=(rel.val k).yj;rw[AE]at q;rw[<-q,<-l];exact h _ (I.tok _)
theorem Gp(bZ:A.units+20<c6)(I:Inv X pins σ H s)(g:ca H a y o)(cu:c_ y u)(h:∀s',Inv X pins σ H s'->Q (.bool<|!o.isSome) s'):
  wpAny (a' X.prog X.w) A (fM .NotIn u<|.ref a) Q E s:=by
 rcases g with ⟨kvs,k,e,k7,l⟩|⟨kvs,k,b,e,k7,eG,l⟩
 ·subst k7;obtain⟨z,hd,vs,rel,dd⟩:=vL I.bw e;refine wpAny_notIn_of (lv cu) hd dd.mapOf ?_;rw[<-(rel.val k).yj,<-l];exact h _ (I.tok _)
 ·subst k7;cases (show u=aj.ref b from cu);obtain⟨z,hd,xs,rel,dd⟩:=jp I.bw e;refine wpAny_notIn_heap (B2 bZ) (vM I.bw eG) hd dd ?_;have q:=(rel.val k).yj;rw[AE]at q;rw[<-q,<-l];exact h _ (I.tok _)
theorem Gq{cX:iQ}(I:Inv X pins σ H s)(lY:x7 (H a))(aq:br.SameBut a s.heap h')(he:∃q,h'.get? a=J q)(new:g9 X.prog X.w (upd H a cX) h' a cX):
  Inv X pins σ (upd H a cX) {s with heap:=h',toks:=t'}:=
 I.write (x:=a) (e:=a) lY (.inl rfl) (λb q ae z=>(aq.2 b ae).trans z) he new
theorem V7{kvs:List (Key×V)}{vs:List (Key×aj)}(z:kvs.length<=sizeLine)(hd:(a==mK)=aD)(rel:h6 kvs vs)(dd:h'.DictOf (rH P w) a vs):
  g9 P w ak h' a (.eN kvs):=⟨z,hd,vs,rel,dd⟩
theorem MR{Q:Unit->aA->Prop}(bZ:A.units+20<c6)(I:Inv X pins σ H s)(g:tA H a y v ak)(cu:c_ y u)(b0:c_ v r)(h:∀s',Inv X pins σ ak s'->Q () s'):
  wpAny (a' X.prog X.w) A (Be (.ref a) u r) Q E s:=by
 rcases g with ⟨kvs,k,e,k7,l,yk⟩|⟨kvs,k,b,e,k7,eG,l,yk⟩
 ·subst k7 yk;obtain⟨z,hd,vs,rel,dd⟩:=V5 I.bw e;have hz:vs.length<=sizeLine:=by rw[<-rel.length];exact z
  have aF:(l7 kvs k v).length<=sizeLine:=by have:=MP kvs k v;lia
  refine wpAny_setItem_pairs (hsz:=hz) (lv cu) dd λh' rR aq=>h _ ?_;have he:∃q,h'.get? a=J q:=let ⟨q,_,_,bk,_⟩:=rR;⟨q,bk⟩
  exact Gq I (by rw[e];exact True.intro) aq he (V7 aF hd (rel.put k b0) rR)
 ·subst k7 yk;cases (show u=aj.ref b from cu);obtain⟨z,hd,xs,rel,dd⟩:=Gm I.bw e;have hz:xs.length<=sizeLine:=by rw[<-hi.length rel];exact z
  have aF:(l7 kvs k v).length<=sizeLine:=by have:=MP kvs k v;lia
  refine wpAny_setItem_heap (hsz:=hz) (B2 bZ) (vM I.bw eG) dd λh' rR aq=>h _ ?_;obtain⟨q,es,ep,bk,U,aL,aU,_,c0⟩:=rR;refine Gq I (by rw[e];exact True.intro) aq ⟨q,bk⟩ ⟨aF,hd,_,(rel.put k eG b0).keeps λc a3 pK=>?_,q,es,ep,bk,U,aL,aU,c0⟩;rw[eb (LV pK e<|λz=>nomatch z)];exact pK
end
section
variable{X:a4}{pins:List (ar×bE)}{σ:St}{H:aM}{s:aA}{a:ar}{kvs:List (Key×V)}{k:Key}{u:aj}{A:cj}{E:aj->aA->Prop}
theorem V8(I:Inv X pins σ H s)(e:pz H a (.eN kvs))(h:∀t s',Inv X pins σ H s'->Q (.int kvs.length t) s'):wpAny (a' X.prog X.w) A (call (.builtin "len") [.ref a]) Q E s:=by
 obtain⟨z,hd,vs,rel,dd⟩:=vL I.bw e;refine call_len_dict hd dd (by rw[<-rel.length];rw[Az]at z;lia) ?_;rw[<-rel.length];exact h _ _ (I.tok _)
end
theorem V9{X:a4}{y:V}(I:Inv X pins σ H s)(g:ca H a y o):s.TypeIs (.ref a) "dict" := by
 rcases g with ⟨kvs,k,e,_,_⟩|⟨kvs,k,b,e,_,_,_⟩
 ·obtain⟨_,_,vs,_,dd⟩:=vL I.bw e;exact dd.typeIs
 ·obtain⟨_,_,xs,_,dd⟩:=jp I.bw e;exact dd.typeIs
section
variable{X:a4}{o i e value:bM}{pos pos' U6:dk}{V' ty qD:TE}
end
theorem MS(h:br)(ae:mK<h.objs.size):g9 P w H (h.push {cls:=.type "dict",data:=.dict #[]}) h.objs.size (.a8 []):=
 ⟨lR _,beq_eq_false_iff_ne.mpr<|h5<|eB ae,[],.nil,_,#[],0,fw _ rfl,⟨rfl,rfl,rfl⟩,rfl,rfl,qo⟩
noncomputable def V_:TE:=λ_ H Q=>∀p,H p=aa->Q (.ref p) (upd H p<|.a8 [])
section
variable{X:a4}{pos:dk}
theorem Wa:cF X (.Dict [] [] pos) V_:=λpins s σ H Q I h=>
 wpAny_Dict_empty ⟨.ref s.heap.objs.size,_,I.laid (a:=s.heap.objs.size) (o:=.a8 []) (t':=s.toks) (λ_ _ q=>dc _ q) (cp _)<|MS s.heap I.big,rfl,h _<|I.bw.fresh<|cp _⟩
end
section
variable{X:a4}{pins:List (ar×bE)}{σ:St}{H:aM}{s:aA}{a:ar}{y d:V}{u r:aj}{o:Option V}{A:cj}{E:aj->aA->Prop}
end
section
variable{X:a4}{o e f:bM}{apos hn:dk}{V' ty agp:TE}
end
section
variable{X:a4}{pins:List (ar×bE)}{σ:St}{H:aM}{s:aA}{a:ar}{kvs:List (Key×V)}{A:cj}{E:aj->aA->Prop}
end
section
variable{X:a4}{pins:List (ar×bE)}{σ:St}{H:aM}{s:aA}{a:ar}{y:V}{u:aj}{A:cj}{E:aj->aA->Prop}
end
end L2
namespace MT
open PySem PySem.W PySem.Calls PyProof.Rows
variable{n:Nat}{l:OpenLaw}
theorem Wb{P:Bl}{h:br}:∀(ns:List Int) (vs:List aj),WellAll P h vs (ns.map xY.int)->xW vs ns:=by
 intro ns;induction ns with
 |nil=>
  intro vs w;rw[KJ]at w;cases w;exact .nil
 |cons n ns bS=>
  intro vs w;rw[dQ]at w;cases w with
  |cons a b=>
   cases a;exact .cons _ _ (bS _ b)
theorem Wc(bo:l.most=J n){P:Bl}{h:br}{args:List xY}{vals:List aj}(B3:l.row.toRowW.claim.pre args=af)(Gr:WellAll P h vals args):
  ∃a vs ns,vals=[aj.ref a]/\args=[xY.list (ns.map xY.int)]/\h.get? a=J {cls:=.type "list",data:=.seq vs.toArray}/\xW vs ns/\ns.length<=n:=by
 have Wd:xZ.hasAll [] args [.list .int]=af:=(pre_splitW B3).1;have av:l.pre.holds [] {args:=args}=af:=(pre_splitW B3).2;obtain⟨d,r,rfl,O,U⟩:=hasAllW_cons Wd;obtain rfl:=hasAllW_nil U;obtain⟨xs,rfl,aL⟩:=hasW_list O;obtain⟨ns,rfl⟩:=items_int aL;have hlen:ns.length<=n:=by
  unfold OpenLaw.pre at av;have aU:(WTm.not<|.lt (.lit<|.int (n:Int))<|.len<|.arg 0).holds [] {args:=[.list (ns.map .int)]}=af:=by
   have aU:=(holds_andW av).1;rw[bo]at aU;exact aU
  have c0:=condW_of aU (w_not<|w_lt w_lit<|w_len_list<|w_arg rfl);rw[b3]at c0;refine Nat.le_of_not_lt λq=>?_;have fP:(n:Int)<((ns.length:Nat):Int):=by lia
  first
   | (rw[eL fP]at c0;exact absurd c0 (by decide))
   | (simp at c0;lia)
 cases Gr with
 |cons ee ec=>
  cases ec;cases ee with
  |list aS B4=>exact⟨_,_,ns,rfl,rfl,aS,Wb ns _ B4,hlen⟩
theorem We(l:OpenLaw)(args:List xY):l.row.toRowW.claim.post args (.bool af) args=af:=
 postW_of (r:=l.row.toRowW) (X:=(af==af))
  (show xZ.has [] (.bool af) .bool=af by first|rfl|decide|simp[xZ.has,xZ.arms,xZ.armsAll])
  (show (WTm.eq .res<|.lit<|.bool af).value [] {args:=args,res:=J (.bool af),after:=args}=J (.bool<|af==af) from w_eq_bool (w_res rfl) w_lit) rfl
theorem Wf{q:cc}{loose:List aQ}{vN:(aQ->Option aj)->br->Prop}{rS:bN->br->Prop}{d:DefRec}(bo:l.most=J n)(yl:d.params.defaults=[])(call:∀(w:bN) (f' dU:aA) (mg nC:aQ->Option aj) (fa:ar) (o:bE) (pm cd doc:aj) (a:ar) (vs:List aj) (ns:List Int),
   Ground q loose [] vN w f' mg nC dU.heap->rS w dU.heap->
   dU.heap.get? fa=J o->o.data=.func (docDef d.name d.params d.body d.scope pm cd doc)->dU.heap.CodeRec cd d.name->mg d.name=J (.ref fa)->
   dU.heap.get? a=J {cls:=.type "list",data:=.seq vs.toArray}->xW vs ns->ns.length<=n->dU.gens=#[]->
   codeAny (a' l.prog w) td (.call (.ref fa) ⟨[.ref a],[]⟩) (λr s'=>r=.ok (.ret<|.bool af)/\OldK dU.heap s'.heap/\s'.os=dU.os/\pl s'.gens) dU):
  WalkO q loose vN rS l.row.toRowW d [] (λf vs=>PySem.call f vs):=by
 intro w f' dU mg nC G Y fa o pm cd doc BW d5 aS hd kW dV hmg aJ args vals as B3 agq agr Gr Wg;obtain rfl:BW=.none:=Dflts.none dV yl;obtain rfl:d5=.none:=Dflts.noKw dV;obtain⟨a,vs,ns,rfl,rfl,Gs,hints,hlen⟩:=Wc bo B3 Gr;refine enter_call (u3 (call w f' dU mg nC fa o pm cd doc a vs ns G Y aS (fd_plain hd) kW hmg Gs hints hlen aJ) λr s' bk=>?_);obtain⟨rfl,U,aL,aU⟩:=bk;exact⟨.inl ⟨.bool af,.bool af,[],rfl,λ_=>rfl,.bool af,We l _,λ_=>⟨List.Pairwise.nil,λ_ hm=>(nomatch hm)⟩⟩,U,aL,aU⟩
section
variable{prog:cc}{w:bN}{A:cj}{E:aj->aA->Prop}{s:aA}{K:Frag}
end
end MT
namespace L2
open PySem PySem.Spec PyProof.Rows
variable{ps:List aQ}{f:ar}{qual x:aQ}{sp:pH}{fd:iN}{k:Nat}
theorem MU:∀{vs:List aj}{ns:List Int},xW vs ns->cZ (ns.map V.int) vs
 |_,_,.nil=>.nil
 |_,_,.cons n t h=>.cons ⟨t,rfl⟩ (MU h)
noncomputable def B5(H:aM):Prop:=∀b,H b=aa\/∃o xs,H b=J (.fO o<|.lst xs)
theorem Wh{P:cc}{w:bN}{K:PySem.W.Frag}{mg nC:aQ->Option aj}{CX:nG}{fa a:ar}{dU:aA}{vs:List aj}{ns:List Int}(KX:K.In dU.heap)(Gu:dU.heap.Ns fm mg)(ae:dU.heap.Ns Fn nC)(Wi:∀x:aQ,x ≠ "__name__" -> nC x=gL x)(Wj:dU.heap.NoLimit)(aJ:dU.gens=#[])(az:dU.heap.get? a=J {cls:=.type "list",data:=.seq vs.toArray})(ao:xW vs ns)(aF:ns.length<=sizeLine)(aO:gb k td)(F:∀base:br,K.In base->base.Ns fm mg->iX P w K mg base CX k fa fd [x] sp)(Wk:∀(s:aA) (u:aj),rE s fd ⟨[u],[]⟩ [(x,u)])(rO:∀H:aM,B5 H->er K H a (ns.map V.int)->sp [.ref a] H (λv _=>v=.aR af) λ_ _ _=>False)(Gv:∀H e s',CX [] H dU (λ_ _ _=>False) e s'->False):
  codeAny (a' P w) td (.call (.ref fa) ⟨[.ref a],[]⟩) (λr s'=>r=.ok (.ret<|.bool af)/\OldK dU.heap s'.heap/\s'.os=dU.os/\pl s'.gens) dU:=by
 have b0:=MU ao;have Wl:=ao.length;have core:∀H:aM,B5 H->er K H a (ns.map V.int)->eD P w H dU.heap->(∀b,H b≠aa->b=a)->(H a≠aa->K.lookup a=aa)->
   codeAny (a' P w) td (.call (.ref fa) ⟨[.ref a],[]⟩) (λr s'=>r=.ok (.ret<|.bool af)/\OldK dU.heap s'.heap/\s'.os=dU.os/\pl s'.gens) dU:=by
  intro H rT dq bw ku hK;have MV:∀{b:ar}{o:bE},dU.heap.get? b=J o->H b=aa->(qw dU.heap H).get? b=J o:=λe n=>TL e n;have yg:∀{b:ar}{o:bE}{es:Array DictEntry}{ep:Nat},dU.heap.get? b=J o->o.data=.dict es ep->H b=aa:=λ{b o es ep} e d=>by
   cases q:H b with
   |none=>rfl
   |some u=>
    have b7:b=a:=ku b (by rw[q];simp);subst b7;rw[az]at e;cases e;have d':Data.seq vs.toArray _=Data.dict es ep:=d;cases d'
  have B6:∀{b:ar}{m:aQ->Option aj},dU.heap.Ns b m->(qw dU.heap H).Ns b m:=λ{b m} ⟨o,es,ep,e,d,r⟩=>⟨o,es,ep,MV e<|yg e d,d,r⟩;have MW:K.In (qw dU.heap H):=λb o e=>MV (KX b o e) (by
   cases q:H b with
   |none=>rfl
   |some u=>
    have b7:b=a:=ku b (by rw[q];simp);subst b7;rw[hK (by rw[q];simp)]at e;cases e)
  have ym:Mod K mg (qw dU.heap H):=⟨MW,B6 Gu,⟨nC,B6 ae,Wi⟩,let ⟨Wm,O,U⟩:=Wj;⟨Wm,B6 O,U⟩⟩;have fj:BU P w K mg (qw dU.heap H) td [] dU H:=⟨rfl,ym,λb o e=>TM e,Nat.le_of_eq<|TD _ _,trivial,λb ae=>absurd (show b∈([]:List ar) from ae) (by simp),bw,.of_eq aJ⟩;refine u3 ((F _ MW<|B6 Gu).run td [] dU H ⟨[.ref a],[]⟩ [.ref a] [.ref a] _ _ aO fj (Wk dU<|.ref a) (.cons rfl .nil)<|rO H rT dq) λr s' h=>?_;cases r with
  |error e=>exact (Gv H e s' h).elim
  |ok bf=>
   cases bf with
   |next=>exact False.elim h
   |brk=>exact False.elim h
   |cont=>exact False.elim h
   |ret u=>
    obtain⟨v,ak,os,bare,un,yn,cG,q⟩:=h;have fP:v=.aR af:=q;subst fP;obtain rfl:u=aj.bool af:=cG;refine⟨rfl,OldK.of_keep λb o e=>?_,os,bare⟩;cases q:H b with
    |none=>exact un.keep b o e q (by intro z;exact absurd (show b∈([]:List ar) from z) (by simp)) (by simp)
    |some u=>
     rcases rT b with z|⟨cX,xs,z⟩
     ·rw[q]at z;cases z
     ·have dH:=un.jo b cX _ z;obtain⟨ay,_⟩:=bw b _ z;obtain⟨aG,_⟩:=yn b _ dH;rw[e]at ay;cases ay;exact aG
 cases aY:K.lookup a with
 |some o=>
  have e:=KX a o aY;rw[az]at e;cases e;refine core (λ_=>aa) (λ_=>.inl rfl) (.inr ⟨_,vs.toArray,_,aY,rfl,rfl,rfl,by rw[dY,Wl];exact aF,by simpa using b0⟩) (λb u z=>by have l1:(aa:Option iQ)=J u:=z;cases l1) (λb z=>absurd rfl z) λz=>absurd rfl z
 |none=>
  refine core (λb=>if b=a then J (.fO {cls:=.type "list",data:=.seq vs.toArray} (.lst<|ns.map V.int)) else aa) (λb=>?_) (.inl<|.inr ⟨{cls:=.type "list",data:=.seq vs.toArray},aV rfl⟩) (λb u z=>?_) (λb z=>?_) λ_=>aY
  ·by_cases ae:b=a
   ·exact .inr ⟨_,_,aV ae⟩
   ·exact .inl (aZ ae)
  ·by_cases ae:b=a
   ·have l1:=(aV ae).symm.trans z;cases l1;subst ae;exact⟨az,by rw[b3];exact aF,vs,_,b0,az⟩
   ·have l1:=(aZ ae).symm.trans z;cases l1
  ·by_cases ae:b=a
   ·exact ae
   ·exact absurd (aZ ae) z
theorem Wn{l:PySem.W.OpenLaw}{n:Nat}{q:cc}{loose:List aQ}{vN:(aQ->Option aj)->br->Prop}{rS:bN->br->Prop}{d:DefRec}{K:Bl->PySem.W.Frag}{CX:bN->nG}{sp:bN->pH}(bo:l.most=J n)(Gw:n<=sizeLine)(yl:d.params.defaults=[])(aO:gb k td)(Gx:∀(w:bN) (h:br),rS w h->(K w.params).In h)(F:∀(w:bN) (mg:aQ->Option aj) (fa:ar) (h:br),(K w.params).In h->h.Ns fm mg->mg d.name=J (.ref fa)->
   ∃fd:iN,(∀(s:aA) (u:aj),rE s fd ⟨[u],[]⟩ [(x,u)])/\
    ∀base:br,(K w.params).In base->base.Ns fm mg->iX l.prog w (K w.params) mg base (CX w) k fa fd [x] (sp w))(rO:∀(w:bN) (H:aM) (a:ar) (ns:List Int),ns.length<=n->B5 H->er (K w.params) H a (ns.map V.int)->sp w [.ref a] H (λv _=>v=.aR af) λ_ _ _=>False)(Gv:∀(w:bN) (H:aM) (s:aA) (e:aj) (s':aA),CX w [] H s (λ_ _ _=>False) e s'->False):
  PySem.W.WalkO q loose vN rS l.row.toRowW d [] (λf vs=>PySem.call f vs):=by
 refine MT.Wf bo yl λw f' dU mg nC fa o pm cd doc a vs ns G Y aS hd kW hmg Gs hints hlen aJ=>?_;have KX:=Gx w _ Y;obtain⟨fd,ae,l8⟩:=F w mg fa _ KX G.T.g hmg;exact Wh KX G.T.g G.T.b G.T.builtins G.T.nolimit aJ Gs hints (hh hlen Gw) aO l8 ae (λH rT dq=>rO w H a ns hlen rT dq) λH e s'=>Gv w H dU e s'
noncomputable def pL(s:cg):Arguments:=match s with
 |.FunctionDef _ a _ _ _ _ _ _ _ _=>a
 |_=>{posonlyargs:=[],args:=[],vararg:=aa,kwonlyargs:=[],kw_defaults:=[],kwarg:=aa,defaults:=[]}
noncomputable def k8(s:cg):List cg:=match s with
 |.FunctionDef _ _ b _ _ _ _ _ _ _=>b
 |_=>[]
noncomputable def c3(s:cg):iL:=match s with
 |.FunctionDef _ _ _ _ _ _ sc _ _ _=>sc
 |_=>{kind:=.function,names:=[],isGenerator:=aD,isCoroutine:=aD}
noncomputable abbrev k9:nG:=λ_ _ _ _ _ _=>False
noncomputable abbrev Wo:hP:=λ_ _ _=>False
theorem Gy{X:a4}:BV k9 X Wo:=λ_ _ _ _ _ _ _ h=>h.elim
structure jT(K:PySem.W.Frag)(x qual:aQ)(st:cg)(f:ar)(fd:iN):Prop where
 ex:∃(ko:aj) (jO:Option ar) (d5 doc pm:aj) (an:Option ar) (cf dA:aj) (mS:Array (Option aj)),
  fd=PySem.W.fnOf x qual (pL st) (k8 st) (c3 st) .none d5 doc pm an cf dA/\K.lookup f=J ⟨ko,jO,.func fd,mS⟩/\PySem.W.codeIn K cf qual=af
 fk:PySem.W.keepIn K (.ref f)=af
section
variable{P:cc}{w:bN}{K:PySem.W.Frag}{mg:aQ->Option aj}{base:br}
theorem jT.ok{st:cg}{N:List aQ}(F:jT K x qual st f fd)(S:fq N ps (c3 st))(len:∀vs H Q E,sp vs H Q E->vs.length=ps.length)(Gf:∀(cf:aj) (A:cj) (outer:List fL) (s:aA) (H:aM) (vs:List V) (Q:dN) (E:hP),gb k (A.deeper<|mL qual (c3 st) s.heap.objs.size f cf)->sp vs H Q E->
   ∃t,iT (l5 k9 P w K mg base N qual (c3 st) f cf A outer s H E).vD (k8 st) t/\t {bC:=λ_ ak=>Q .bu ak,fQ:=Q} (start N vs) H):iX P w K mg base k9 (k+1) f fd ps sp:=by
 obtain⟨ko,jO,d5,doc,pm,an,cf,dA,mS,rfl,lk,kW⟩:=F.ex;refine MB lk kW S len λA outer s H vs Q E aO rO=>?_;obtain⟨t,h,q⟩:=Gf cf A outer s H vs Q E aO rO;exact⟨t,h.vD,q⟩
theorem jT.binds{st:cg}(F:jT K x qual st f fd)(h:∀(d5 doc pm:aj) (an:Option ar) (cf dA:aj) (us:List aj),us.length=ps.length->vm (PySem.W.fnOf x qual (pL st) (k8 st) (c3 st) .none d5 doc pm an cf dA) ⟨us,[]⟩=pure (ps.zip us)):kY K fd ps []:=by
 obtain⟨ko,jO,d5,doc,pm,an,cf,dA,mS,rfl,lk,kW⟩:=F.ex;exact .all (h d5 doc pm an cf dA)
theorem Wp{st:cg}{ko:aj}{jO an:Option ar}{mS:Array (Option aj)}{d5 doc pm cf dA:aj}(l:K.lookup f=J ⟨ko,jO,.func<|PySem.W.fnOf x qual (pL st) (k8 st) (c3 st) .none d5 doc pm an cf dA,mS⟩)(c:PySem.W.codeIn K cf qual=af)(k:PySem.W.keepIn K (.ref f)=af):jT K x qual st f (PySem.W.fnOf x qual (pL st) (k8 st) (c3 st) .none d5 doc pm an cf dA):=⟨⟨ko,jO,d5,doc,pm,an,cf,dA,mS,rfl,l,c⟩,k⟩
end
section
variable{X:a4}
theorem f7(i:Nat){x:aQ}{pos:dk}(dT:X.N[i]?=J x:=by rfl)(bb:BD X.env.scope x:=by first|exact Or.inl rfl|exact Or.inr (Or.inl rfl)|exact Or.inr (Or.inr rfl))(hd:(x==("__debug__" : aQ))=aD:=by decide)(kW:(x==("__classdict__" : aQ))=aD:=by decide):cF X (.Name x pos) (qz i):=L' dT bb hd kW
end
noncomputable def eg(H ak:aM):Prop:=∀b o,H b=J o->ak b=J o
theorem eg.refl(H:aM):eg H H:=λ_ _ h=>h
end L2
namespace L2
section
variable{X:a4}
theorem Wq:bv X (.builtin "len") (λxs H Q=>∃a kvs,xs=[V.ref a]/\H a=J (.eN kvs)/\Q (.int kvs.length) H):=by
 intro pins s σ H xs us Q I r h;obtain⟨a,kvs,rfl,az,q⟩:=h;obtain⟨u,rfl,gN⟩:=mR r;cases gN;exact V8 I (.inl az) λt s' gW=>⟨.int kvs.length,H,gW,⟨t,rfl⟩,q⟩
end
section
variable{bj:Type}[DecidableEq bj]
end
end L2
namespace L2
open PySem PySem.Spec PyProof.Rows
variable{Q:Option aj->aA->Prop}{i ep:Nat}{it d C:ar}{h:br}{ks:List aj}{jr:TI}{tg iter elt:bM}{c9:List ar}{H:aM}{σ:St}{pins:List (ar×bE)}{caps:List Nat}{own:List aQ}{env:fL}{pos:dk}{scope:iL}{ifs:List bM}{s:aA}
theorem Wr{prog:cc}{w:bN}{A:cj}{R:Bi->aA->Prop}{target:bM}{it acc:aj}(I:Nat->aA->Prop)(turn:∀n s,I n s->wpAny (a' prog w) A (jL it) (λr dU=>match r with
   |none=>R (.ok .next) dU
   |some v=>wpAny (a' prog w) A (xS target it v) (λ_ dU=>wpAny (a' prog w) A (lT target env v) (λ_ qC=>
     wpAny (a' prog w) A (forIn ifs af λc r=>if r=af then do let ok <-vj c env (de c env);pure (ForInStep.yield ok) else pure (ForInStep.yield r)) (λok tB=>
      if ok=af then wpAny (a' prog w) A (de elt env) (λx MX=>
       wpAny (a' prog w) A (call (.builtin "list.append") [acc,x]) (λ_ MY=>∃m,m<n/\I m MY) (λ_ _=>False) MX) (λ_ _=>False) tB
      else ∃m,m<n/\I m tB) (λ_ _=>False) qC) (λ_ _=>False) dU) (λ_ _=>False) dU) (λ_ _=>False) s)(n:Nat)(h:I n s):
  codeAny (a' prog w) A (.compLoop (.ListComp elt [⟨target,iter,ifs,0⟩] scope pos) 0 it acc env) R s:=by
 refine codeAny_loop rfl I (λn s l9=>?_) n h;show wpAny _ A ((compTurn (.ListComp elt [⟨target,iter,ifs,0⟩] scope pos) 0 it acc env).onRaise (λx=>do noteFrame x env;theTreesLotGoes x)) _ _ s;refine wpAny_noted ?_;rw[compTurn_list];refine aH (En<|aH<|ip (turn n s l9) (λr dU rU=>?_) λ_ _ h'=>h'.elim);cases r with
 |none=>exact ba rU
 |some v=>
  refine aH (ip rU (λ_ dU rU=>?_) λ_ _ h'=>h'.elim);refine aH (ip rU (λ_ qC Ws=>aH<|ip Ws (λok tB MZ=>?_) λ_ _ h'=>h'.elim) λ_ _ h'=>h'.elim);cases ok with
  |false=>exact ba ⟨rfl,MZ⟩
  |true=>
   exact aH (aH<|ip MZ (λx MX Wt=>aH<|ip Wt (λ_ MY Wu=>ba<|ba ⟨rfl,Wu⟩) λ_ _ h'=>h'.elim) λ_ _ h'=>h'.elim)
noncomputable def tC(env:fL)(names:List (aQ×e4)):List (aQ×ar):=names.foldl (λcs y=>if y.2==.free then (y.1,(env.cells.lookup y.1).getD 0)::cs else cs) []
theorem Gz{env:fL}:∀(names:List (aQ×e4)) (cs:List (aQ×ar)),(∀y∈names,y.2=.free->∃c,env.cells.lookup y.1=J c)->
  (forIn names cs λ(y:aQ×e4) cs=>if y.2==.free then (do let c <-Bm env y.1;pure (ForInStep.yield ((y.1,c)::cs))) else pure (ForInStep.yield cs):gK _)=
   pure (names.foldl (λcs y=>if y.2==.free then (y.1,(env.cells.lookup y.1).getD 0)::cs else cs) cs)
 |[],cs,_=>rfl
 |y::r,cs,h=>by
  rw[AW,qm];by_cases aw:y.2=.free
  ·obtain⟨c,av⟩:=h y ql aw;have e:(y.2==e4.free)=af:=by simp[aw]
   rw[aV e,aV e];have pK:Bm env y.1=pure c:=by unfold Bm;rw[av]
   rw[pK,av];show (forIn r ((y.1,c)::cs) _:gK _)=_;exact Gz r _ λz hz=>h z (pa _ hz)
  ·have e:¬ (y.2==e4.free)=af:=by simp[aw]
   rw[aZ e,aZ e];show (forIn r cs _:gK _)=_;exact Gz r _ λz hz=>h z (pa _ hz)
theorem Wv(h:∀y∈scope.names,y.2=.free->∃c,env.cells.lookup y.1=J c):closureFor scope env=pure (tC env scope.names):=by
 have:=Gz (env:=env) scope.names [] h;unfold closureFor;dsimp only;have e:(forIn scope.names ([]:List (aQ×ar))<|λ(x:aQ×e4) (r:List (aQ×ar))=>(if x.2==.free then (do let c <-Bm env x.1;pure (ForInStep.yield ((x.1,c)::r))) else pure (ForInStep.yield r):gK (ForInStep<|List<|aQ×ar)))=pure (tC env scope.names):=this;rw[e];rfl
theorem M0{env:fL}:∀(names:List (aQ×e4)) (cs:List (aQ×ar)) (x:aQ) (c:ar),
  (names.foldl (λcs y=>if y.2==.free then (y.1,(env.cells.lookup y.1).getD 0)::cs else cs) cs).lookup x=J c->
  (c=(env.cells.lookup x).getD 0/\(x,e4.free)∈names)\/cs.lookup x=J c
 |[],cs,x,c,h=>.inr h
 |y::r,cs,x,c,h=>by
  rw[qm]at h;rcases M0 r _ x c h with ⟨e,m⟩|h
  ·exact .inl ⟨e,pa _ m⟩
  ·by_cases aw:y.2=.free
   ·rw[aV (by simp[aw])]at h;rw[mG]at h;by_cases ag:x=y.1
    ·subst ag;rw[pq]at h;refine .inl ⟨(Option.some.inj h).symm,?_⟩;rw[<-aw];exact ql
    ·have:(x==y.1)=aD:=by simpa using ag
     rw[this]at h;exact .inr h
   ·rw[aZ (by simp[aw])]at h;exact .inr h
theorem GA{env:fL}:∀(names:List (aQ×e4)) (cs:List (aQ×ar)) (x:aQ),(x,e4.free)∈names\/(∃c,cs.lookup x=J c)->
  ∃c,(names.foldl (λcs y=>if y.2==.free then (y.1,(env.cells.lookup y.1).getD 0)::cs else cs) cs).lookup x=J c
 |[],cs,x,h=>by
  rcases h with h|h
  ·cases h
  ·exact h
 |y::r,cs,x,h=>by
  rw[qm];apply GA r _ x;rcases h with h|⟨c,h⟩
  ·rcases cK.mp h with e|h
   ·right;subst e;rw[aV (by rfl),mG,pq];exact⟨_,rfl⟩
   ·exact .inl h
  ·right;by_cases aw:(y.2==e4.free)=af
   ·rw[aV aw,mG];cases x==y.1
    ·exact⟨c,h⟩
    ·exact⟨_,rfl⟩
   ·rw[aZ aw];exact⟨c,h⟩
structure ot where
 C:ar
 s:aA
 H:aM
 c9:List ar
variable{eV:ot->TE}{tt:ot->TT}{g:ot->jq}
noncomputable def a4.i0(X:a4)(Ww:List aQ)(scope:iL)(Y:ot): a4 :=
  {prog:=X.prog,w:=X.w,K:=X.K,mg:=X.mg,base:=X.base,A:=X.A,N:=Ww,f':=Y.s,vz:=Y.H,env:=Bn scope (tC X.env scope.names) Y.C X.env,outer:=X.stack,stack:=X.stack,
    ex:=Y.c9,fn:=λ_ => aD,calm:=X.calm,hO:=[],dw:=λ_ _ => False}
theorem GB{env:fL}:∀{names:List (aQ×e4)}{x:aQ}{k:e4},
  (names.map λ(n,k)=>if (k==e4.free&&env.scope.kind==.function&&env.kindOf n==J .cell) then (n,e4.cell) else (n,k)).lookup x=J k->
  (k=.cell\/k=.free)->(∀y∈names,y.2≠.cell)->(x,e4.free)∈names
 |[],x,k,h,_,_=>by simp at h
 | (n,cn)::r,x,k,h,aY,av=>by
  rw[dQ]at h;dsimp only at h;by_cases ag:x=n
  ·subst ag;by_cases hf:(cn==e4.free&&env.scope.kind==.function&&env.kindOf x==J .cell)=af
   ·have:cn=e4.free:=by
     simp only[dv]at hf;exact by simpa using hf.1.1
    subst this;exact ql
   ·simp only[hf]at h;have e:cn=k:=by simpa [mG] using h
    subst e;rcases aY with aY|aY
    ·exact absurd aY (av (x,cn) ql)
    ·rw[aY];exact ql
  ·have ae:(x==n)=aD:=by simpa using ag
   have h':(r.map λ(n,k)=>if (k==e4.free&&env.scope.kind==.function&&env.kindOf n==J .cell) then (n,e4.cell) else (n,k)).lookup x=J k:=by
    by_cases hf:(cn==e4.free&&env.scope.kind==.function&&env.kindOf n==J .cell)=af
    ·rw[aV hf,mG,ae]at h;exact h
    ·rw[aZ hf,mG,ae]at h;exact h
   exact pa _ (GB h' aY λy aw=>av y<|pa _ aw)
section
variable{X:a4}
structure mV(X:a4)(scope:iL)(own:List aQ)(caps:List Nat):Prop where
 kind:scope.kind=.function
 cell:∀y∈scope.names,y.2≠.cell
 free:∀y∈scope.names,y.2=.free->X.env.scope.names.lookup y.1=J .cell
 loc:∀y∈scope.names,y.2=.local->scope.names.lookup y.1=J .local
 Wx:∀i∈caps,∃x,X.N[i]?=J x/\(x,e4.free)∈scope.names/\scope.names.lookup x=J .free
noncomputable def i1(X:a4)(own:List aQ)(caps:List Nat):List aQ:=own++caps.map λi=>X.N.getD i ""
noncomputable def ou(own:List aQ)(caps:List Nat)(σ:St):St:=own.map (λ_=>aa)++caps.map λi=>σ.getD i aa
theorem mV.cells(S:mV X scope own caps)(ok:X.Ok):∀y∈scope.names,y.2=.free->∃c,X.env.cells.lookup y.1=J c:=
 λy aw hf=>ok.has y.1 (.inl<|S.free y aw hf)
theorem mV.sub(S:mV X scope own caps)(ok:X.Ok){x:aQ}{c:ar}(h:(tC X.env scope.names).lookup x=J c):X.env.cells.lookup x=J c/\(x,e4.free)∈scope.names:=by
 rcases M0 scope.names [] x c h with ⟨e,m⟩|h
 ·obtain⟨c',b7⟩:=S.cells ok (x,.free) m rfl;rw[show (List.lookup x X.env.cells)=J c' from b7]at e;refine⟨?_,m⟩;rw[e];exact b7
 ·simp at h
theorem M1(S:mV X scope own caps)(I:Inv X pins σ H s)(ov:s.heap.objs.size<=C)(hf:∀b∈c9,od X pins H b)(gy:∀b∈c9,b<s.heap.objs.size):(X.i0 (i1 X own caps) scope ⟨C,s,H,c9⟩).Ok where
 mod:=I.ok.mod
 kind:=S.kind
 glob:=I.ok.glob
 blt:=I.ok.blt
 above:=ov
 inj:=λx y c O U=>I.ok.inj x y c (S.sub I.ok O).1 (S.sub I.ok U).1
 has:=λx ag=>by
  have m:(x,e4.free)∈scope.names:=by
   rcases ag with ag|ag
   ·exact GB ag (.inl rfl) S.cell
   ·exact GB ag (.inr rfl) S.cell
  exact GA scope.names [] x (.inl m)
 pA:=λx c h _=>nomatch h
 hd:=I.ok.hd
 frames:=I.ok.frames
 qx:=.inl rfl
 tf:=λb ae=>⟨eB<|hs (gy b ae) ov,λx c h=>(hf b ae).2.2.2.2.1 x c (S.sub I.ok h).1⟩
 bs:=I.bs
 mP:=hh I.ok.mP I.nD
 pB:=λb o e ae=>by
  rcases (hf b ae).2.2.2.1 with z|z
  ·exact I.ok.pB b o e z
  ·exact absurd (hs (c8 e)<|hh I.ok.mP z) (pg _)
 pC:=λb ae z=>by
  rcases cK.mp (I.FJ b z) with e|e
  ·exact (hf b ae).2.1 e
  ·exact (hf b ae).2.2.1 e
 iR:=I.stack
 n_:=I.vA
theorem Wy{O:br}{tk:Nat}{m:aQ->Option aj}(S:mV X scope own caps)(I:Inv X pins σ H s)(ov:s.heap.objs.size<=C)(hf:∀b∈c9,od X pins H b)(gy:∀b∈c9,b<s.heap.objs.size)(old:∀b o,s.heap.get? b=J o->O.get? b=J o)(bo:O.Ns C m):
  Inv (X.i0 (i1 X own caps) scope ⟨C,s,H,c9⟩) [] (ou own caps σ) H {s with heap:=O,toks:=tk} where
 ok:=M1 S I ov hf gy
 os:=rfl
 bare:=I.bare
 base:=eE.kept old
 loc:=by
  obtain⟨m0,ags,Wz⟩:=I.loc;refine⟨m,bo,λj x v ay aG bb=>?_⟩;have ay:(own++caps.map λi=>X.N.getD i "")[j]?=J x:=ay;have aG:(own.map (λ_=>(aa:Option V))++caps.map λi=>σ.getD i aa)[j]?=J (J v):=aG;by_cases bx:j<own.length
  ·rw[qi (by rw[b3];exact bx),gJ]at aG;cases q:own[j]? with
   |none=>rw[q]at aG;cases aG
   |some z=>rw[q]at aG;cases aG
  ·rw[qh (by lia),gJ]at ay;rw[qh (by rw[b3];lia),gJ,b3]at aG;cases q:caps[j-own.length]? with
   |none=>rw[q]at ay;cases ay
   |some i=>
    rw[q]at ay aG;have ay:X.N.getD i "" = x:=Option.some.inj ay;have aG:σ.getD i aa=J v:=Option.some.inj aG;obtain⟨mW,kk,hm,WA⟩:=S.Wx i (iq q);have ex:mW=x:=by
     rw[<-ay,du,kk];rfl
    subst ex;have aq:σ[i]?=J (J v):=by
     rw[du]at aG;cases cR:σ[i]? with
     |none=>rw[cR]at aG;cases aG
     |some z=>rw[cR]at aG;rw[show z=J v from aG]
    have M2:=S.free (mW,.free) hm rfl;obtain⟨u,r,lk⟩:=Wz i mW v kk aq (.inr<|.inl M2);refine⟨u,r,.inr ⟨?_,?_⟩⟩
    ·rcases bb with bb|bb|bb
     ·
      exfalso;have:∀{names:List (aQ×e4)},names.lookup mW=J .free->(names.map λ(n,k)=>if (k==e4.free&&X.env.scope.kind==.function&&X.env.kindOf n==J .cell) then (n,e4.cell) else (n,k)).lookup mW≠J .local:=by
       intro names;induction names with
       |nil=>intro h;simp at h
       |cons y r bS=>
        obtain⟨n,k⟩:=y;intro h;rw[dQ];dsimp only;by_cases ag:mW=n
        ·subst ag;have qG:k=.free:=by simpa [mG] using h
         subst qG;by_cases bk:(e4.free==e4.free&&X.env.scope.kind==ScopeKind.function&&X.env.kindOf mW==J e4.cell)=af
         ·rw[aV bk];simp[mG]
         ·rw[aZ bk];simp[mG]
        ·have ae:(mW==n)=aD:=by simpa using ag
         rw[mG,ae]at h;by_cases bk:(k==e4.free&&X.env.scope.kind==ScopeKind.function&&X.env.kindOf n==J e4.cell)=af
         ·rw[aV bk,mG,ae];exact bS h
         ·rw[aZ bk,mG,ae];exact bS h
      exact this WA bb
     ·exact .inl bb
     ·exact .inr bb
    ·rcases lk with ⟨aY,_⟩|⟨_,c,av,BH⟩
     ·exact absurd (aY.symm.trans M2) (by simp)
     ·obtain⟨c',pD⟩:=GA (env:=X.env) scope.names [] mW (.inl hm);have:=(S.sub I.ok pD).1;rw[av]at this;cases this;obtain⟨o,aS,hd⟩:=BH;exact⟨c,pD,o,old _ _ aS,hd⟩
 cell:=λx c h=>by
  obtain⟨v,o,aS,hd⟩:=I.cell x c (S.sub I.ok h).1;exact⟨v,o,old _ _ aS,hd⟩
 free:=I.bw.fresh ov
 iv:=λx c h=>I.iv x c (S.sub I.ok h).1
 pin:=λp aE=>nomatch aE
 bw:=I.bw.kept old
 len:=by simp[ou,i1,a4.i0]
end
section
variable{X:a4}
noncomputable def M3(X:a4)(ifs:List bM)(t:TT)(pins:List (ar×bE)):Prop:=
 ∀(s:aA) (σ:St) (H:aM) (Q:Bool->aM->Prop),Inv X pins σ H s->t σ H Q->
  wpAny (a' X.prog X.w) X.A (forIn ifs af λc r=>if r=af then do let ok <-vj c X.env (de c X.env);pure (ForInStep.yield ok) else pure (ForInStep.yield r)) (BG X pins σ Q) X.dw s
noncomputable def yo(X:a4)(ifs:List bM)(t:TT):Prop:=∀pins,M3 X ifs t pins
noncomputable def WB:TT:=λ_ H Q=>Q af H
theorem WC:yo X [] WB:=λpins s σ H Q I h=>wpAny_tests_nil ⟨H,I,h⟩
theorem WD{c:bM}{t:TT}(h:kV X c t):yo X [c] t:=λpins s σ H Q I hw=>wpAny_tests_one (h pins s σ H Q I hw)
noncomputable def WE(own:List aQ)(caps:List Nat)(g:jq)(tt:TT)(eV:TE)(σ:St)(N:List V->aM->Prop)(a3:List V)(x:V)(ak:aM):Prop:=
 g x (ou own caps σ) ak λeW a6=>(∀(j:Nat) (v:V),(ou own caps σ)[j]?=J (J v)->eW[j]?=J (J v))/\tt eW a6 λb cY=>if b=af then eV eW cY λv fF=>a3.length<sizeLine/\N (a3++[v]) fF else N a3 cY
noncomputable def WF(cm:nF)(own:List aQ)(caps:List Nat)(g:jq)(tt:TT)(eV:TE)(σ:St)(H1:aM)(Q:dN):Prop:=
 ∃W:Nat->Nat->List V->aM->Prop,(∃m,W 0 m [] H1)/\∀i m a3 H,W i m a3 H->(cm.stop i H/\∀D,H D=aa->Q (.ref D) (upd H D<|.lst a3))\/
  (cm.go i H/\∃N:List V->aM->Prop,(∀M4 ak,N M4 ak->∃e6,e6<m/\W (i+1) e6 M4 ak)/\∀x ak,cm.ya i H x ak->WE own caps g tt eV σ N a3 x ak)
noncomputable def B7(own:List aQ)(caps:List Nat)(jr:TI)(g:ot->jq)(tt:ot->TT)(eV:ot->TE):TE:=λσ H Q=>jr σ H λcm H1=>∀Y:ot,WF cm own caps (g Y) (tt Y) (eV Y) σ H1 Q
noncomputable def GC(sc:iL)(N:List aQ)(scope:iL)(caps:List Nat):Bool:=
 scope.kind==.function&&scope.names.all (λy=>y.2 != .cell)&&scope.names.all (λy=>y.2 != .free || sc.names.lookup y.1==J .cell)&&scope.names.all (λy=>y.2 != .local || scope.names.lookup y.1==J .local) &&
  caps.all (λi=>match N[i]? with|some x=>scope.names.lookup x==J .free|none=>aD)
theorem mem_of_lookup:∀{l:List (aQ×e4)}{x:aQ}{k:e4},l.lookup x=J k->(x,k)∈l
 |[],_,_,h=>by simp at h
 | (n,cn)::r,x,k,h=>by
  rw[mG]at h;by_cases ag:x=n
  ·subst ag;rw[pq]at h;cases h;exact ql
  ·rw[show (x==n)=aD by simpa using ag]at h;exact pa _ (mem_of_lookup h)
theorem kv{X:a4}(sc:iL)(N:List aQ)(h:GC sc N scope caps=af)(e:X.env.scope=sc:=by rfl)(WG:X.N=N:=by rfl):mV X scope own caps:=by
 unfold GC at h;simp only[dv,mH,bne_iff_ne,ne_eq,EW,pv]at h;obtain⟨⟨⟨⟨O,U⟩,aL⟩,aU⟩,c0⟩:=h;refine⟨O,U,λy aw hf=>?_,λy aw hf=>?_,λi ao=>?_⟩
 ·rw[e];exact (aL y aw).resolve_left λz=>z hf
 ·exact (aU y aw).resolve_left λz=>z hf
 ·have:=c0 i ao;rw[WG];cases q:N[i]? with
  |none=>rw[q]at this;cases this
  |some x=>
   rw[q]at this;have aF:scope.names.lookup x=J .free:=by simpa using this
   exact⟨x,rfl,mem_of_lookup aF,aF⟩
theorem M5{bI:dk}{use:Option (aj->gK Unit)}{Qp:aj->aA->Prop}{M6:dN}(av:X.calm=af)(S:mV X scope own caps)(ao:pG X tg iter jr)(aJ:∀Y,oc (X.i0 (i1 X own caps) scope Y) tg<|g Y)(cE:∀Y,yo (X.i0 (i1 X own caps) scope Y) ifs<|tt Y)(he:∀Y,cF (X.i0 (i1 X own caps) scope Y) elt<|eV Y)(aq:∀x,rD iter X.env x=pure x)(I:Inv X pins σ H s)(h:B7 own caps jr g tt eV σ H M6)(qH:∀(D C:ar) (fF:aM) (s4:aA) (m:aQ->Option aj),Inv X pins σ fF s4->s4.heap.Ns C m->fF C=aa->X.env.locals≠C->(∀x c,X.env.cells.lookup x=J c->c≠C)->X.f'.heap.objs.size<=C->(∀p∈X.hO++pins,p.1≠C)->M6 (.ref D) fF->compPost (a' X.prog X.w) X.A X.dw use Qp (.ref D) C (.ok .next) s4):
  wpAny (a' X.prog X.w) X.A (Fp (.ListComp elt [⟨tg,iter,ifs,0⟩] scope pos) scope X.env bI (vn []) aD (de iter X.env) use) Qp X.dw s:=by
 refine wpAny_comprehension_free (use:=use) rfl aq (Wv<|S.cells I.ok) S.kind S.loc (cQ (ao pins s σ H _ I h) λv s1 O=>cQ O λFX s2 U=>?_);obtain⟨it,c9,kp,cm,a6,e,dp,T,b1,f2,WH⟩:=U;subst e;have gy:∀b∈c9,b<s2.heap.objs.size:=λb ae=>by
  obtain⟨o,e,_⟩:=T.obj _ _ b1 b ae;exact c8 e
 refine jG (wpAny_newFunctionEnv S.cell (by intro y aw;simp at aw) (λrU B8 yp=>?_) S.kind);dsimp only at B8 yp ⊢;generalize GD:s2.heap.push {cls:=.type "list",dict:=aa,data:=.seq ([]:List aj).toArray}=B9 at B8 yp ⊢;have ov:B9.objs.size=s2.heap.objs.size+1:=by rw[<-GD,pf]
 have tD:s2.heap.objs.size≠B9.objs.size:=by rw[ov];exact eB (xI _)
 have GF:s2.heap.objs.size<=B9.objs.size:=by rw[ov];exact K2 _
 have old:∀b o,s2.heap.get? b=J o->rU.get? b=J o:=λb o e=>
  yp.extBut b o (by rw[ov];exact eB (KW<|c8 e)) (dc _<|GD ▸ dc _ e);have ox:rU.get? s2.heap.objs.size=J {cls:=.type "list",data:=.seq ([]:List aj).toArray 0}:=yp.extBut _ _ tD (dc _<|GD ▸ fw _ rfl);generalize agt:B9.objs.size=C at B8 yp ov tD GF ⊢;generalize tE:s2.heap.objs.size=D at ox ov tD GF ⊢;have yq:s2.heap.objs.size<=C:=by rw[tE];exact GF
 obtain⟨W,⟨m0,rK⟩,turn⟩:=WH ⟨C,s2,a6,c9⟩;have M7:=λ(tk:Nat)=>Wy (tk:=tk) S dp yq f2 gy old B8;have M8:=aJ ⟨C,s2,a6,c9⟩;have M9:=cE ⟨C,s2,a6,c9⟩;have M':=he ⟨C,s2,a6,c9⟩;have yn:=M1 S dp yq f2 gy;generalize mX:X.i0 (i1 X own caps) scope ⟨C,s2,a6,c9⟩=gQ at M7 M8 M9 M' yn;have vO:gQ.prog=X.prog:=by rw[<-mX];rfl
 have om:gQ.w=X.w:=by rw[<-mX];rfl
 have M_:gQ.K=X.K:=by rw[<-mX];rfl
 have yr:gQ.A=X.A:=by rw[<-mX];rfl
 have pK:gQ.calm=af:=by rw[<-mX];exact av
 have bQ:gQ.env.locals=C:=by rw[<-mX];rfl
 have GG:gQ.ex=c9:=by rw[<-mX];rfl
 have B':gQ.f'=s2:=by rw[<-mX];rfl
 have WI:gQ.vz=a6:=by rw[<-mX];rfl
 have WJ:gQ.fs=el X.stack:=by rw[<-mX];rfl
 have B_:gQ.hO=[]:=by rw[<-mX];rfl
 have GH:gQ.dw=λ_ _=>False:=by rw[<-mX];rfl
 have Na:gQ.env=Bn scope (tC X.env scope.names) C X.env:=by rw[<-mX];rfl
 have Nb:∀x c,gQ.env.cells.lookup x=J c->X.env.cells.lookup x=J c:=λx c h=>(S.sub dp.ok (by rw[Na]at h;exact h)).1;have WK:∀x c,gQ.env.cells.lookup x=J c->c≠D:=λx c h z=>by
  obtain⟨v,o,aS,_⟩:=dp.cell x c (Nb x c h);have:=c8 aS;rw[z,<-tE]at this;exact pg _ this
 have GI:∀b∈c9,b≠D:=λb ae z=>by
  have:=gy b ae;rw[z,<-tE]at this;exact pg _ this
 have WL:D∉gQ.fs:=λz=>by
  obtain⟨_,o,aS,_⟩:=yn.iR.mem z;rw[B']at aS;have:=c8 aS;rw[tE]at this;exact pg _ this
 have GJ:∀(ak:aM) (o:bE),(∀b∈c9,ak b=aa)->∀b∈c9,od gQ [(D,o)] ak b:=λak o bo b ae=>by
  refine⟨bo b ae,?_,?_,.inl (by rw[GG];exact ae),λx c h=>(f2 b ae).2.2.2.2.1 x c (Nb x c h),λp aE=>?_⟩
  ·rw[bQ];exact eB (hs (gy b ae) yq)
  ·exact yn.pC b (by rw[GG];exact ae)
  ·rw[B_]at aE;have:p=(D,o):=by simpa using aE
   rw[this];exact h5 (GI b ae)
 have loop:∀tB:aA,tB={s2 with heap:=rU,toks:=s2.toks+([]:List (aQ×aj)).length}->
   codeAny (a' X.prog X.w) X.A (.compLoop (.ListComp elt [⟨tg,iter,ifs,0⟩] scope pos) 0 (.ref it) (.ref D) gQ.env)
    (compPost (a' X.prog X.w) X.A X.dw use Qp (.ref D) C) tB:=by
  rintro tB rfl;refine Wr (λn s'=>∃(i:Nat) (a3:List V) (ak:aM) (aP:List aj) (k:Nat),Inv gQ [(D,{cls:=.type "list",data:=.seq aP.toArray k})] (ou own caps σ) ak s'/\cZ a3 aP/\a3.length<=sizeLine/\kp i s'.heap/\
   (∀b∈c9,ak b=aa)/\W i n a3 ak) ?_ m0 ?_
  ·rintro n s3 ⟨i,a3,cY,aP,k,f_,b0,hz,fS,yc,gk⟩;rcases turn i n a3 cY gk with ⟨stop,qA⟩|⟨go,N,dT,step⟩
   ·have:=T.done gQ vO om M_ pK i _ s3 _ cY (λ_ _=>False) f_ (GJ cY _ yc) fS stop;rw[yr]at this;refine cQ this λr s4 ⟨aO,hQ⟩=>?_;subst aO;obtain⟨m,bo,_⟩:=hQ.loc;have WM:s4.heap.Ns C m:=by rw[<-bQ];exact bo
    have aE:=hQ.pin (D,{cls:=.type "list",data:=.seq aP.toArray k}) (by rw[B_];simp);have vP:cY D=aa:=aE.2.1;have fk:∀b,b≠C->s4.heap.get? b=s4.heap.get? b:=λb ae=>rfl;have vQ:∀b o,s2.heap.get? b=J o->b≠C:=λb o e=>eB (hs (c8 e) yq);have WN:∀b o,s2.heap.get? b=J o->b≠D:=λb o e=>by rw[<-tE];exact eB (c8 e)
    have qI:eE (el X.stack) c9 a6 cY s2.heap s4.heap:=by
     have:=hQ.base;rw[WJ,GG,WI,B']at this;exact this
    have u:eE (el X.stack) c9 a6 (upd cY D<|.lst a3) s2.heap s4.heap:=
     ⟨λb o e n ae ag=>(fk b<|vQ b o e).trans<|qI.keep b o e n ae ag,
      λb o e n ae ag=>by
      obtain⟨bK,q⟩:=qI.slot b o e n ae ag;exact⟨bK,(fk b<|vQ b o e).trans q⟩,
      λb o e n ag=>by rw[eb (WN b o e)];exact qI.free b o e n ag,
      λb o e ag=>by
      obtain⟨cA,q⟩:=qI.there b o e ag;exact⟨cA,(fk b<|vQ b o e).trans q⟩,
      λb xs e=>by rw[eb (km (qI.jP b xs e) vP)];exact qI.jP b xs e,
      λb o xs e=>by rw[eb (km (qI.jo b o xs e) vP)];exact qI.jo b o xs e,
      λb ps e=>by
      obtain⟨more,q⟩:=qI.kn b ps e;exact⟨more,by rw[eb (km q vP)];exact q⟩⟩
    have Nc:∀b o,cY b=J o->b≠C:=λb o e z=>by
     have:=hQ.free;rw[bQ,<-z,e]at this;cases this
    have aY:eD X.prog X.w (upd cY D<|.lst a3) s4.heap:=λa o e=>by
     by_cases az:a=D
     ·subst az;rw[hy]at e;cases e;exact⟨hz,aP,k,b0,(fk _ tD).trans aE.1⟩
     ·rw[eb az]at e;have:=hQ.bw a o e;rw[vO,om]at this;refine this.lX (λb u ae q=>(fk b ?_).trans q) (λb q=>by rw[eb (km q vP)];exact q) λb xs q=>by rw[eb (km q vP)];exact q
      rcases ae with z|z
      ·rw[z];exact Nc a o e
      ·exact Nc b _ z
    have WO:Inv X pins σ (upd cY D<|.lst a3) s4:=dp.L4 (s':=s4) (ch:=c9) (by have:=hQ.os;rw[B']at this;exact this) u aY hQ.bare λb ae=>⟨(f2 b ae).2.2.2.1,(f2 b ae).2.1,(f2 b ae).2.2.2.2.1,(f2 b ae).2.2.2.2.2⟩;have Ca:X.env.locals≠C:=by
     obtain⟨dS,Gw,_⟩:=dp.loc;obtain⟨o,_,_,aS,_⟩:=Gw;exact vQ _ _ aS
    have Cb:∀x c,X.env.cells.lookup x=J c->c≠C:=λx c h=>by
     obtain⟨v,o,aS,_⟩:=dp.cell x c h;exact vQ _ _ aS
    refine qH D C _ s4 m WO WM ?_ Ca Cb ?_ (λp aE=>vQ _ _ (dp.pin p aE).1) (qA D vP)
    ·rw[eb (h5 tD)];have:=hQ.free
     rwa [bQ]at this
    ·exact hh dp.nD yq
   ·have:=T.item gQ vO om M_ pK i _ s3 _ cY (λ_ _=>False) f_ (GJ cY _ yc) fS go;rw[yr]at this;refine cQ this λr s4 ⟨u,aO,aU⟩=>?_;subst aO;refine cQ aU λ_ s5 ⟨x,oe,tq,yd,F2,hk,BP⟩=>?_;have F3:=tq.pinned (GJ oe _ BP) (T.obj _ _ hk);have Cc:=M8 _ s5 _ oe x u _ F3 yd (step x oe F2);rw[vO,om,yr,GH]at Cc;refine cQ Cc λ_ og ⟨tr,F4,F5,WP,iW⟩=>?_;have Cd:=M9 _ og tr F4 _ F5 iW;rw[vO,om,yr,GH]at Cd;refine cQ Cd λb rM ⟨l4,kq,gY⟩=>?_;have Nd:∀{bc:St}{ak:aM}{s':aA},Inv gQ ([(D,{cls:=.type "list",data:=.seq aP.toArray k})]++rL c9 s5.heap) bc ak s'->(∀b∈c9,ak b=aa)/\kp (i+1) s'.heap:=λ{bc ak s'} gW=>by
     refine⟨λb ae=>?_,T.keep _ _ _ hk λb ae o e=>(gW.pin (b,o)<|fR _<|fR _<|BO ae e).1⟩;obtain⟨o,e,_⟩:=T.obj _ _ hk b ae;exact (gW.pin (b,o)<|fR _<|fR _<|BO ae e).2.1
    have oy:∀{vC:List (ar×bE)}{ak:aM}{s':aA},Inv gQ vC tr ak s'->Inv gQ vC (ou own caps σ) ak s':=λ{vC ak s'} gW=>
     gW.weak (by rw[gW.len,f_.len]) WP;cases b with
    |false=>
     rw[aZ e1]at gY;obtain⟨e6,hm,F6⟩:=dT _ _ gY;rw[aZ e1];obtain⟨k1,k2⟩:=Nd kq;exact⟨e6,hm,i+1,a3,l4,aP,k,oy (kq.vB λp aE=>kq.pin p (by
      rw[B_];simp at aE ⊢;exact .inl aE)),b0,hz,k2,k1,F6⟩
    |true=>
     rw[aV rfl]at gY ⊢;have Nf:=M' _ rM tr l4 _ kq gY;rw[vO,om,yr,GH]at Nf;refine cQ Nf λoz oA ⟨Ce,GK,Cf,WQ,agu,WR⟩=>?_;obtain⟨e6,hm,WS⟩:=dT _ _ WR;have aE:=Cf.pin (D,{cls:=.type "list",data:=.seq aP.toArray k}) (fR _ (fD _ (by simp)));have oB:=aE.1;refine AD Lp ⟨_,oB,rfl⟩ Lo (Ln _ _) (J1 D aP.toArray k oz (by rw[dY,<-b0.length];lia)) ⟨oB,?_⟩;have q:=LJ oB (λa=>a.push oz);obtain⟨k1,k2⟩:=Nd Cf;have WT:Inv gQ (rL c9 s5.heap) tr GK oA:=Cf.vB λp aE=>Cf.pin p (fR _<|fR _ aE);have Ng:∀b o,b≠D->oA.heap.get? b=J o->(oA.heap.update D<|bE.mapSeq λa=>a.push oz).get? b=J o:=λb o ae e=>(qp oA.heap _<|h5 ae).trans e;have WU:Inv gQ (rL c9 s5.heap) tr GK {oA with heap:=oA.heap.update D (bE.mapSeq λa=>a.push oz),toks:=oA.toks}:=
      WT.turned (it:=D) Ng aE.2.1 (by rw[bQ];exact tD) (.inr (by rw[B',tE];exact cp _)) WK λp qJ=>by
       rw[B_]at qJ;obtain⟨ae,_⟩:=Mm (show p∈rL c9 s5.heap by simpa using qJ);exact GI _ ae
     refine⟨e6,hm,i+1,a3++[Ce],GK,aP++[oz],k+1,oy<|WU.vB λp qJ=>?_,b0.append<|.cons WQ .nil,?_,?_,k1,WS⟩
     ·have e:p=(D,{cls:=.type "list",data:=.seq (aP++[oz]).toArray (k+1)}):=by simpa using qJ
      subst e;refine⟨?_,aE.2.1,aE.2.2.1,aE.2.2.2.1,λv z=>by cases z⟩;have aG:aP.toArray.push oz=(aP++[oz]).toArray:=by simp
      rw[<-aG];have fP:IsL (oA.heap.update D<|bE.mapSeq λa=>a.push oz) D (aP.toArray.push oz) (if (aP.toArray.push oz).size==aP.toArray.size then k else k+1):=q;rw[aZ (by simp)]at fP;exact fP
     ·rw[eZ,qk];lia
     ·refine T.keep _ _ _ k2 λb ae o e=>Ng b o (GI b ae) e
  ·refine⟨0,[],a6,[],0,?_,.nil,lR _,T.keep _ _ _ b1 λb _ o e=>old b o e,λb ae=>(f2 b ae).1,rK⟩;refine (M7 _).vB λp aE=>?_;have e:p=(D,{cls:=.type "list",data:=.seq ([]:List aj).toArray 0}):=by simpa using aE
   subst e;exact⟨ox,dp.bw.fresh (by rw[tE];exact cp _),by rw[bQ];exact tD,WL,λv z=>by cases z⟩
 have WV:Bn scope (tC X.env scope.names) C X.env=gQ.env:=Na.symm;show codeAny (a' X.prog X.w) X.A (.compStart _ 0 (.ref it) (.ref D)<|Bn scope (tC X.env scope.names) C X.env) _ _;rw[WV];exact codeAny_compStart_list (loop _ rfl) (T.self X.A 0 _ _ _ (T.keep _ _ _ b1 λb _ o e=>old b o e)<|loop _ rfl)
theorem WW(av:X.calm=af)(S:mV X scope own caps)(ao:pG X tg iter jr)(aJ:∀Y,oc (X.i0 (i1 X own caps) scope Y) tg<|g Y)(cE:∀Y,yo (X.i0 (i1 X own caps) scope Y) ifs<|tt Y)(he:∀Y,cF (X.i0 (i1 X own caps) scope Y) elt<|eV Y)(aq:∀x,rD iter X.env x=pure x:=by intro _;rfl):cF X (.ListComp elt [⟨tg,iter,ifs,0⟩] scope pos) (B7 own caps jr g tt eV):=by
 intro pins s σ H Q I h;show wpAny _ X.A (Fp (.ListComp elt [⟨tg,iter,ifs,0⟩] scope pos) scope X.env _ (vn []) aD (de iter X.env) aa) _ _ s;refine M5 (use:=aa) (Qp:=gi X pins σ Q) av S ao aJ cE he aq I h λD C fF s4 m hQ bo f l c z p q=>?_;show ∃m,s4.heap.Ns C m/\∀h',br.SameBut C s4.heap h'->gi X pins σ Q (.ref D) {s4 with heap:=h'};refine⟨m,bo,λh' dC=>⟨.ref D,fF,?_,rfl,q⟩⟩;exact hQ.turned (it:=C) (t':=s4.toks) (λb o ae e=>(dC.2 b ae).trans e) f (h5 l) (.inr z) c p
end
noncomputable def mY(h:br)(d:ar)(ks:List aj)(ep:Nat):Prop:=∃o es,h.get? d=J o/\o.ExactDict/\o.data=.dict es ep/\es.toList.map (·.key)=ks
theorem mY.ty(x:mY s.heap d ks ep):s.TypeIs (.ref d) "dict" := let ⟨o,_,e,c,_⟩:=x;⟨o,e,c.1⟩
theorem mY.lt(x:mY h d ks ep):d<h.objs.size:=let ⟨_,_,e,_⟩:=x;c8 e
theorem mY.go{h':br}(x:mY h d ks ep)(k:∀o,h.get? d=J o->h'.get? d=J o):mY h' d ks ep:=let ⟨o,es,e,r⟩:=x;⟨o,es,k o e,r⟩
section
variable{prog:cc}{w:bN}{A:cj}{E:aj->aA->Prop}{s:aA}
theorem WX{Q:aj->aA->Prop}(lo:(d==mK)=aD)(x:mY s.heap d ks ep)(q:Q (.ref s.heap.objs.size) {s with heap:=s.heap.push {cls:=.type "dict_keyiterator",data:=.fields #[.ref d,.int 0 0,.int ks.length 0,.int ep 0]} }):wpAny (a' prog w) A (s_<|.ref d) Q E s:=by
 have ty:=x.ty;obtain⟨o,es,ay,aG,bT,eH⟩:=x;have n:es.size=ks.length:=by rw[<-eH,b3,eT]
 refine Eh ty Lr (kh Lr ty F.entry_dict_iter ?z<|F.args_dict_iter_1 _)
 case z=>
  unfold b8.«dict.__iter__» b8.Dict.dictSlotNone;refine aH (aH<|wpAny_notOrdered_dict ty ?_);show wpAny _ _ (pure<|aj.ref d) _ _ s;apply ba;show wpAny _ _ (b8.Dict.showsAll d >>= _) _ _ s;unfold b8.Dict.showsAll;rw[aZ (by rw[lo];simp)];refine aH (ba<|aH<|Aw ay bT<|aH<|Ek ay bT<|aH<|jG<|ba ⟨_,rfl,"dict_keyiterator",_,⟨_,fw _ rfl,rfl⟩,xO.lookup,?_⟩);simpa [gv,n] using q
theorem WY{v:aj}(hit:s.heap.IsKeyIter it d i ks.length ep)(x:mY s.heap d ks ep)(bb:ks[i]?=J v)(q:∀h',h'.IsKeyIter it d (i+1) ks.length ep->br.SameBut it s.heap h'->Q (J v) {s with heap:=h'}):wpAny (a' prog w) A (jL<|.ref it) Q E s:=by
 obtain⟨WZ,f1,f2,d6⟩:=id hit;obtain⟨o,es,ay,aG,bT,eH⟩:=x;have n:es.size=ks.length:=by rw[<-eH,b3,eT]
 have ao:i<es.size:=by
  have:i<ks.length:=(iJ.mp bb).1;lia
 have qG:es[i].key=v:=by
  rw[<-eH,gJ,gV,n8 ao]at bb;exact Option.some.inj bb
 unfold jL;refine aH (u2<|o' (name:=aQ.ofString "__next__") hit.typeIs xO<|kh xO hit.typeIs Lf ?z<|Le _)
 case z=>
  refine aH (ba<|aH<|aH ?_);refine aH (Av hit.typeIs<|ba<|aH<|u1 f1 d6 ?_);simp only[show b8.Dict_items.ownsTuple "dict_keyiterator" = aD by decide,jI,hM];show wpAny _ _ (if (aj.ref d==aj.none)=af then _ else _) _ _ s;rw[aZ (show ¬ (aj.ref d==aj.none)=af by intro z;cases z)];refine aH (ba<|aH<|Aw ay bT ?_);rw[aZ (by simp[n])];refine aH (ba<|aH<|Ek ay bT ?_);rw[aZ (by simp)];apply ba;simp only[show ¬ ((i:Int)<0) by lia,hM,rC,n8 ao];refine aH (aH<|Av hit.typeIs<|ba<|aH<|JT hit.typeIs ?_);show wpAny _ _ (Fq (.ref it) 1 (gv<|(i:Int)+1) >>= _) _ _ s;have Nh:(s.heap.update it (bE.mapFields (·.setIfInBounds 1 (gv<|(i:Int)+1)))).IsKeyIter it d (i+1) ks.length ep:=
   ⟨_,sU _ f1<|Fl<|vh d6 _,(Fm ..).trans f2,by rw[vh d6];simp[gv]⟩;refine aH (sM f1 d6 (by simp) (aH (ki (aH (JT (s:={s with heap:=s.heap.update it (bE.mapFields (·.setIfInBounds 1 (gv<|(i:Int)+1)))}) Nh.typeIs ?_)))));show wpAny _ _ (pure es[i].key) _ _ _;rw[qG];exact ba (ba ⟨_,rfl,ba<|q _ Nh<|qq ..⟩)
theorem W0(dD:A.handled=aa)(hit:s.heap.IsKeyIter it d i ks.length ep)(x:mY s.heap d ks ep)(bb:ks.length<=i)(q:∀h',br.ExtBut it s.heap h'->Q aa {s with heap:=h'}):wpAny (a' prog w) A (jL<|.ref it) Q E s:=by
 obtain⟨WZ,f1,f2,d6⟩:=id hit;obtain⟨o,es,ay,aG,bT,eH⟩:=x;have n:es.size=ks.length:=by rw[<-eH,b3,eT]
 unfold jL;refine aH (u2<|o' (name:=aQ.ofString "__next__") hit.typeIs xO<|kh xO hit.typeIs Lf ?z<|Le _)
 case z=>
  refine aH (ba<|aH<|aH ?_);refine aH (Av hit.typeIs<|ba<|aH<|u1 f1 d6 ?_);simp only[show b8.Dict_items.ownsTuple "dict_keyiterator" = aD by decide,jI,hM];show wpAny _ _ (if (aj.ref d==aj.none)=af then _ else _) _ _ s;rw[aZ (show ¬ (aj.ref d==aj.none)=af by intro z;cases z)];refine aH (ba<|aH<|Aw ay bT ?_);rw[aZ (by simp[n])];refine aH (ba<|aH<|Ek ay bT ?_);rw[aZ (by simp)];apply ba;simp only[show ¬ ((i:Int)<0) by lia,hM,rC,E0 (show es.size<=i by lia)];refine aH (aH<|Av hit.typeIs<|ba ?_);show wpAny _ _ (Fq (.ref it) 0 .none >>= _) _ _ s;refine aH (sM f1 d6 (by simp) ?_);show wpAny _ _ (vo (.type "StopIteration") [] >>= _) _ _ _;apply aH;simp only[vo,Fs];refine aH (jG (aH (m:=vp _ _) (AA (a:=aj.none) (by first|rfl|(simp only[vp];rfl)) (jG ?_ (by size_fits)))) (by size_fits));simp only[raiseNew];apply aH;apply Ep;rw[show A.in1.handled=aa from dD];refine aH (m:=pure _) (ba<|Eu ?_);apply aH;refine xr (T := "StopIteration") (b:=af) ⟨_,fw _ rfl,rfl⟩ Em ?_;exact ba (q _<|((qq ..).extBut.push _).push _)
theorem W1(dD:A.handled=aa)(it d:ar)(ne:d≠it)(ks:List aj)(ep:Nat):qr prog w A it [it,d] [it] ks.length (λi v=>ks[i]?=J v) (λi h=>h.IsKeyIter it d i ks.length ep/\mY h d ks ep) where
 sub:=λb ae=>by
  have:b=it:=by simpa using ae
  simp[this]
 frame:=λi h h' st k=>⟨let ⟨o,e,r⟩:=st.1;⟨o,k it (by simp) o e,r⟩,st.2.go (k d (by simp))⟩
 item:=λi s Q E ao st fE=>by
  have bb:ks[i]?=J ks[i]:=by simp[ao]
  refine WY st.1 st.2 bb λh' a b=>fE _ h' s.toks bb ⟨a,st.2.go λo e=>b.extBut d o ne e⟩ λc o av e=>b.extBut c o (by simpa using av) e
 done:=λs Q E st fE=>W0 dD st.1 st.2 (cp _) λh' b=>fE h' s.toks λc o av e=>b c o (by simpa using av) e
 self:=λi s Q E st fE=>wpAny_pyIter_keyiter st.1 fE
theorem W2(lo:(d==mK)=aD):PySem.W.KdlSrc prog w "dict" d d ks.length (λi v=>ks[i]?=J v) (λh=>mY h d ks ep) where
 type:=λs x=>x.ty
 there:=λh x=>⟨x.lt,x.lt⟩
 keep:=λh h' x k=>x.go (k d<|.inl rfl)
 notList:=by decide
 notTuple:=by decide
 hint:=λA E s Q x q=>PySem.W.kdl_hint_dict x.ty q
 iter:=λA s dD x=>⟨_,_,(λE Q q=>WX lo x q),W1 dD _ d (eB x.lt) ks ep,⟨⟨_,fw _ rfl,rfl,rfl⟩,x.go λo e=>dc _ e⟩⟩
end
end L2
namespace L2
open PySem PySem.Spec PyProof.Rows PySem.W
section
variable{n:Nat}{key:Nat->Int}{cmp:Nat->Nat->(Bool->aA->Prop)->aA->Prop}
noncomputable def c1(key:Nat->Int)(p:Array Nat)(i:Nat):Int:=key (p.getD i 0)
noncomputable def k'(key:Nat->Int)(p:Array Nat)(m:Nat):Prop:=∀i j,i<=j->j<m->c1 key p i<=c1 key p j
noncomputable def kx(n:Nat)(key:Nat->Int)(cmp:Nat->Nat->(Bool->aA->Prop)->aA->Prop)(s:aA):Prop:=∀i j C,i<n->j<n->C (decide (key i<key j)) s->cmp i j C s
noncomputable def eO(n:Nat)(p:Array Nat):Prop:=p.toList.Perm (range n)
variable{p:Array Nat}
theorem eO.size(h:eO n p):p.size=n:=by
 have:=h.length_eq;simpa using this
theorem eO.lt(h:eO n p){i:Nat}(ao:i<n):p.getD i 0<n:=by
 have aq:=h.size;have e:p.getD i 0=p[i]:=by simp[Array.getD,aq,ao]
 rw[e];have:p[i]∈p.toList:=by simp
 exact iK.mp (h.mem_iff.mp this)
theorem eO.ne(h:eO n p)(inj:∀i j,i<n->j<n->key i=key j->i=j){i j:Nat}(i2:i<j)(bx:j<n):c1 key p i≠c1 key p j:=by
 intro e;have aq:=h.size;have b7:=inj _ _ (h.lt (by lia)) (h.lt bx) e;have ay:p.getD i 0=p[i]:=by simp[Array.getD,aq,show i<n by lia]
 have aG:p.getD j 0=p[j]:=by simp[Array.getD,aq,bx]
 rw[ay,aG]at b7;have au:p.toList.Nodup:=h.nodup_iff.mpr AR;have bT:p.toList[i]'(by simpa [aq] using (show i<n by lia))=p.toList[j]'(by simpa [aq] using bx):=by simpa using b7
 have:=(EL au).mp bT;lia
theorem vR{q:Array Nat}{i j:Nat}(e:p[i]?=q[j]?):c1 key p i=c1 key q j:=by
 unfold c1;rw[K3,K3,e]
theorem eO.rev(h:eO n p)(i j:Nat):eO n (vr p i j):=(K4.mp<|mirror_perm p i j _).trans h
theorem eO.W3(h:eO n p)(i j:Nat):eO n (xX p i j):=(K4.mp<|bubble_perm p i j).trans h
end
section
variable{prog:cc}{w:bN}{A:cj}{E:aj->aA->Prop}{bj:jM}{it:Array cw}{key:Nat->Int}
end
section
variable{prog:cc}{w:bN}{A:cj}{E:aj->aA->Prop}{bj:jM}{it:Array cw}{key:Nat->Int}{n:Nat}{s:aA}
noncomputable def Cg:Bool->cw->Array cw->Nat->Nat->Nat->StateT cL gK (Option Nat):=sortPriv% PySem.Builtin.gallop
theorem ys(av:kx n key (iO prog w A bj it) s){i j:Nat}(ao:i<n)(bx:j<n){st:cL}(aY:kindOf st=bj){Q:Option Bool->cL->aA->Prop}(h:Q (J<|decide (key i<key j)) st s):
  kasC (a' prog w) A E (lt' (cy it i)<|cy it j) Q st s:=by
 rw[lt'_eq];apply bH;apply mJ;have:=av i j (λc s'=>s'=s/\c=decide (key i<key j)) ao bx ⟨rfl,rfl⟩;unfold iO at this;rw[aY];refine bH (sW<|u2<|ip this (λc s' BX=>?_) λ_ _ l8=>l8.elim);obtain⟨rfl,rfl⟩:=BX;exact bt h
theorem i3{σ β:Type}{M:jJ}{f:Nat->β->StateT σ gK (ForInStep β)}{Q:β->σ->aA->Prop}(I:Nat->β->σ->aA->Prop)(step:∀x c st s',I x c st s'->kasC M A E (f x c) (λr b1 s2=>match r with | .yield c'=>I (x+1) c' b1 s2 | .done c'=>Q c' b1 s2) st s'):∀(m a:Nat) (c:β) (st:σ) (s':aA),(∀c st s',I (a+m) c st s'->Q c st s')->I a c st s'->
   kasC M A E (forIn (range' a m) c f) Q st s'
 |0,a,c,st,s',fin,h=>by
  show kasC M A E (forIn ([]:List Nat) c f) Q st s';exact kasC_nil (fin c st s' h)
 |m+1,a,c,st,s',fin,h=>by
  show kasC M A E (forIn (a::range' (a+1) m) c f) Q st s';refine kasC_cons (ip (step a c st s' h) (λr s2 h'=>?_) λ_ _ e=>e);obtain⟨r,b1⟩:=r;cases r with
  |done c'=>exact h'
  |yield c'=>exact i3 I step m (a+1) c' b1 s2 (λc st s' ao=>fin c st s' (by rw[show a+(m+1)=a+1+m by lia];exact ao)) h'
noncomputable def dW(key:Nat->Int)(left:Bool)(k:Nat)(cT:Array Nat)(base i:Nat):Bool:=if left=af then decide (key (cT.getD (base+i) 0)<key k) else !decide (key k<key (cT.getD (base+i) 0))
theorem Ni(av:kx n key (iO prog w A bj it) s){left:Bool}{k:Nat}(aY:k<n){cT:Array Nat}(W4:∀i,i<cT.size->cT.getD i 0<n){base m hint:Nat}(ae:base+m<=cT.size)(dD:hint<m)(mono:∀i j,i<=j->j<m->dW key left k cT base j=af->dW key left k cT base i=af){st:cL}(f6:kindOf st=bj){Q:Option Nat->cL->aA->Prop}(h:∀r,r<=m->(∀i,i<r->dW key left k cT base i=af)->(∀i,r<=i->i<m->dW key left k cT base i=aD)->Q (J r) st s):
  kasC (a' prog w) A E (Cg left (cy it k) (cT.map<|cy it) base m hint) Q st s:=by
 have rV:∀i,i<m->(cT.map<|cy it)[base+i]?=J (cy it<|cT.getD (base+i) 0):=λi ao=>by
  have:base+i<cT.size:=by lia
  simp[Array.getD,this]
 have ask:∀i,i<m->∀Q':Option Bool->cL->aA->Prop,Q' (J<|dW key left k cT base i) st s->
   kasC (a' prog w) A E (do let x <-elem' (cT.map<|cy it) (base+i);if left=af then lt' x (cy it k) else do let r <-lt' (cy it k) x;pure (r.map λx=>!x)) Q' st s:=λi ao Q' bk=>by
  rw[A',rV i ao];apply bH;apply bt;have ag:=W4 (base+i) (by lia);unfold dW at bk;cases left with
  |true=>
   rw[aV rfl]at bk ⊢;exact ys av ag aY f6 bk
  |false=>
   rw[aZ e1]at bk ⊢;exact bH (ys av aY ag f6<|bt bk)
 unfold Cg;with_unfolding_all refine bH ?_;refine ask hint dD _ ?_;dsimp only;cases Nj:dW key left k cT base hint with
 |true=>
  rw[aV rfl];apply bH;apply hJ;have tF:∀last ea,last<ea->hint+last<m->dW key left k cT base (hint+last)=af->(ea >= m-hint\/dW key left k cT base (hint+ea)=aD)->
    hint+last+1<=hint+min ea (m-hint)/\hint+min ea (m-hint)<=m/\(∀i,i<hint+last+1->dW key left k cT base i=af)/\(∀i,hint+min ea (m-hint)<=i->i<m->dW key left k cT base i=aD)/\hint+min ea (m-hint)-(hint+last+1)<=m-0:=λlast ea a1 a2 pM l'=>by
   refine⟨by lia,by lia,λi ao=>mono i (hint+last) (by lia) a2 pM,λi O U=>?_,by lia⟩;rcases l' with l'|l'
   ·lia
   ·cases gc:dW key left k cT base i with
    |false=>rfl
    |true=>rw[mono (hint+ea) i (by lia) U gc]at l';cases l'
  refine i3 (λx c aK s'=>aK=st/\s'=s/\∃last ea,c=(aa,last,ea)/\last<ea/\x<ea/\hint+last<m/\dW key left k cT base (hint+last)=af) ?_ _ 0 _ _ _ ?_ ⟨rfl,rfl,0,1,rfl,by lia,by lia,by lia,Nj⟩
  ·rintro x c aK s' ⟨ay,aG,last,ea,rfl,O,U,aL,aU⟩;rw[ay,aG];dsimp only;by_cases aS:ea >= m-hint
   ·rw[aV aS];apply bt;dsimp only;have oC:=tF last ea O aL aU (.inl aS);apply bH;apply hJ;refine i3 (λx c aK s'=>aK=st/\s'=s/\∃lo ao,c=(aa,lo,ao)/\lo<=ao/\ao<=m/\(∀i,i<lo->dW key left k cT base i=af)/\(∀i,ao<=i->i<m->dW key left k cT base i=aD)/\ao-lo<=m-x) ?_ _ 0 _ _ _ ?_ ⟨rfl,rfl,_,_,rfl,oC⟩
    ·rintro x c aK s' ⟨ay,aG,lo,ao,rfl,O,U,aL,aU,c0⟩;rw[ay,aG];dsimp only;by_cases jU:lo >= ao
     ·rw[aV jU];apply bt;dsimp only;have e:lo=ao:=by lia
      subst e;exact bt (h lo U aL aU)
     ·rw[aZ jU];have d8:lo<=lo+(ao-lo)/2:=by lia
      have dS:lo+(ao-lo)/2<ao:=by lia
      generalize lo+(ao-lo)/2=mid at d8 dS ⊢;refine bH (ask mid (by lia) _ ?_);dsimp only;cases ef:dW key left k cT base mid with
      |true=>
       rw[aV rfl];exact bt ⟨rfl,rfl,mid+1,ao,rfl,by lia,U,λi hT=>mono i mid (by lia) (by lia) ef,aU,by lia⟩
      |false=>
       rw[aZ e1];refine bt ⟨rfl,rfl,lo,mid,rfl,by lia,by lia,aL,λi a b=>?_,by lia⟩;cases gc:dW key left k cT base i with
       |false=>rfl
       |true=>rw[mono mid i a b gc]at ef;cases ef
    ·rintro c aK s' ⟨ay,aG,lo,ao,rfl,O,U,aL,aU,c0⟩;rw[ay,aG];dsimp only;have e:lo=ao:=by lia
     subst e;exact bt (h lo U aL aU)
   ·rw[aZ aS];refine bH (ask (hint+ea) (by lia) _ ?_);dsimp only;cases ef:dW key left k cT base (hint+ea) with
    |true=>
     simp only[sX,jI,hM];exact bt ⟨rfl,rfl,ea,2*ea+1,rfl,by lia,by lia,by lia,ef⟩
    |false=>
     simp only[Bool.not_false,lW];apply bt;dsimp only;have oC:=tF last ea O aL aU (.inr ef);apply bH;apply hJ;refine i3 (λx c aK s'=>aK=st/\s'=s/\∃lo ao,c=(aa,lo,ao)/\lo<=ao/\ao<=m/\(∀i,i<lo->dW key left k cT base i=af)/\(∀i,ao<=i->i<m->dW key left k cT base i=aD)/\ao-lo<=m-x) ?_ _ 0 _ _ _ ?_ ⟨rfl,rfl,_,_,rfl,oC⟩
     ·rintro x c aK s' ⟨ay,aG,lo,ao,rfl,O,U,aL,aU,c0⟩;rw[ay,aG];dsimp only;by_cases jU:lo >= ao
      ·rw[aV jU];apply bt;dsimp only;have e:lo=ao:=by lia
       subst e;exact bt (h lo U aL aU)
      ·rw[aZ jU];have d8:lo<=lo+(ao-lo)/2:=by lia
       have dS:lo+(ao-lo)/2<ao:=by lia
       generalize lo+(ao-lo)/2=mid at d8 dS ⊢;refine bH (ask mid (by lia) _ ?_);dsimp only;cases ef:dW key left k cT base mid with
       |true=>
        rw[aV rfl];exact bt ⟨rfl,rfl,mid+1,ao,rfl,by lia,U,λi hT=>mono i mid (by lia) (by lia) ef,aU,by lia⟩
       |false=>
        rw[aZ e1];refine bt ⟨rfl,rfl,lo,mid,rfl,by lia,by lia,aL,λi a b=>?_,by lia⟩;cases gc:dW key left k cT base i with
        |false=>rfl
        |true=>rw[mono mid i a b gc]at ef;cases ef
     ·rintro c aK s' ⟨ay,aG,lo,ao,rfl,O,U,aL,aU,c0⟩;rw[ay,aG];dsimp only;have e:lo=ao:=by lia
      subst e;exact bt (h lo U aL aU)
  ·rintro c aK s' ⟨ay,aG,last,ea,rfl,O,U,aL,aU⟩;rw[ay,aG];dsimp only;have oC:=tF last ea O aL aU (.inl (by lia));apply bH;apply hJ;refine i3 (λx c aK s'=>aK=st/\s'=s/\∃lo ao,c=(aa,lo,ao)/\lo<=ao/\ao<=m/\(∀i,i<lo->dW key left k cT base i=af)/\(∀i,ao<=i->i<m->dW key left k cT base i=aD)/\ao-lo<=m-x) ?_ _ 0 _ _ _ ?_ ⟨rfl,rfl,_,_,rfl,oC⟩
   ·rintro x c aK s' ⟨ay,aG,lo,ao,rfl,O,U,aL,aU,c0⟩;rw[ay,aG];dsimp only;by_cases jU:lo >= ao
    ·rw[aV jU];apply bt;dsimp only;have e:lo=ao:=by lia
     subst e;exact bt (h lo U aL aU)
    ·rw[aZ jU];have d8:lo<=lo+(ao-lo)/2:=by lia
     have dS:lo+(ao-lo)/2<ao:=by lia
     generalize lo+(ao-lo)/2=mid at d8 dS ⊢;refine bH (ask mid (by lia) _ ?_);dsimp only;cases ef:dW key left k cT base mid with
     |true=>
      rw[aV rfl];exact bt ⟨rfl,rfl,mid+1,ao,rfl,by lia,U,λi hT=>mono i mid (by lia) (by lia) ef,aU,by lia⟩
     |false=>
      rw[aZ e1];refine bt ⟨rfl,rfl,lo,mid,rfl,by lia,by lia,aL,λi a b=>?_,by lia⟩;cases gc:dW key left k cT base i with
      |false=>rfl
      |true=>rw[mono mid i a b gc]at ef;cases ef
   ·rintro c aK s' ⟨ay,aG,lo,ao,rfl,O,U,aL,aU,c0⟩;rw[ay,aG];dsimp only;have e:lo=ao:=by lia
    subst e;exact bt (h lo U aL aU)
 |false=>
  rw[aZ e1];apply bH;apply hJ;have tF:∀last ea,last<ea->last<=hint->dW key left k cT base (hint-last)=aD->(ea >= hint+1\/dW key left k cT base (hint-ea)=af)->
    hint+1-min ea (hint+1)<=hint-last/\hint-last<=m/\(∀i,i<hint+1-min ea (hint+1)->dW key left k cT base i=af)/\(∀i,hint-last<=i->i<m->dW key left k cT base i=aD)/\hint-last-(hint+1-min ea (hint+1))<=m-0:=λlast ea a1 a2 pM l'=>by
   refine⟨by lia,by lia,λi ao=>?_,λi O U=>?_,by lia⟩
   ·rcases l' with l'|l'
    ·lia
    ·exact mono i (hint-ea) (by lia) (by lia) l'
   ·cases gc:dW key left k cT base i with
    |false=>rfl
    |true=>rw[mono (hint-last) i (by lia) U gc]at pM;cases pM
  refine i3 (λx c aK s'=>aK=st/\s'=s/\∃last ea,c=(aa,last,ea)/\last<ea/\x<ea/\last<=hint/\dW key left k cT base (hint-last)=aD) ?_ _ 0 _ _ _ ?_ ⟨rfl,rfl,0,1,rfl,by lia,by lia,by lia,Nj⟩
  ·rintro x c aK s' ⟨ay,aG,last,ea,rfl,O,U,aL,aU⟩;rw[ay,aG];dsimp only;by_cases aS:ea >= hint+1
   ·rw[aV aS];apply bt;dsimp only;have oC:=tF last ea O aL aU (.inl aS);apply bH;apply hJ;refine i3 (λx c aK s'=>aK=st/\s'=s/\∃lo ao,c=(aa,lo,ao)/\lo<=ao/\ao<=m/\(∀i,i<lo->dW key left k cT base i=af)/\(∀i,ao<=i->i<m->dW key left k cT base i=aD)/\ao-lo<=m-x) ?_ _ 0 _ _ _ ?_ ⟨rfl,rfl,_,_,rfl,oC⟩
    ·rintro x c aK s' ⟨ay,aG,lo,ao,rfl,O,U,aL,aU,c0⟩;rw[ay,aG];dsimp only;by_cases jU:lo >= ao
     ·rw[aV jU];apply bt;dsimp only;have e:lo=ao:=by lia
      subst e;exact bt (h lo U aL aU)
     ·rw[aZ jU];have d8:lo<=lo+(ao-lo)/2:=by lia
      have dS:lo+(ao-lo)/2<ao:=by lia
      generalize lo+(ao-lo)/2=mid at d8 dS ⊢;refine bH (ask mid (by lia) _ ?_);dsimp only;cases ef:dW key left k cT base mid with
      |true=>
       rw[aV rfl];exact bt ⟨rfl,rfl,mid+1,ao,rfl,by lia,U,λi hT=>mono i mid (by lia) (by lia) ef,aU,by lia⟩
      |false=>
       rw[aZ e1];refine bt ⟨rfl,rfl,lo,mid,rfl,by lia,by lia,aL,λi a b=>?_,by lia⟩;cases gc:dW key left k cT base i with
       |false=>rfl
       |true=>rw[mono mid i a b gc]at ef;cases ef
    ·rintro c aK s' ⟨ay,aG,lo,ao,rfl,O,U,aL,aU,c0⟩;rw[ay,aG];dsimp only;have e:lo=ao:=by lia
     subst e;exact bt (h lo U aL aU)
   ·rw[aZ aS];refine bH (ask (hint-ea) (by lia) _ ?_);dsimp only;cases ef:dW key left k cT base (hint-ea) with
    |false=>
     rw[aZ e1];exact bt ⟨rfl,rfl,ea,2*ea+1,rfl,by lia,by lia,by lia,ef⟩
    |true=>
     rw[aV rfl];apply bt;dsimp only;have oC:=tF last ea O aL aU (.inr ef);apply bH;apply hJ;refine i3 (λx c aK s'=>aK=st/\s'=s/\∃lo ao,c=(aa,lo,ao)/\lo<=ao/\ao<=m/\(∀i,i<lo->dW key left k cT base i=af)/\(∀i,ao<=i->i<m->dW key left k cT base i=aD)/\ao-lo<=m-x) ?_ _ 0 _ _ _ ?_ ⟨rfl,rfl,_,_,rfl,oC⟩
     ·rintro x c aK s' ⟨ay,aG,lo,ao,rfl,O,U,aL,aU,c0⟩;rw[ay,aG];dsimp only;by_cases jU:lo >= ao
      ·rw[aV jU];apply bt;dsimp only;have e:lo=ao:=by lia
       subst e;exact bt (h lo U aL aU)
      ·rw[aZ jU];have d8:lo<=lo+(ao-lo)/2:=by lia
       have dS:lo+(ao-lo)/2<ao:=by lia
       generalize lo+(ao-lo)/2=mid at d8 dS ⊢;refine bH (ask mid (by lia) _ ?_);dsimp only;cases ef:dW key left k cT base mid with
       |true=>
        rw[aV rfl];exact bt ⟨rfl,rfl,mid+1,ao,rfl,by lia,U,λi hT=>mono i mid (by lia) (by lia) ef,aU,by lia⟩
       |false=>
        rw[aZ e1];refine bt ⟨rfl,rfl,lo,mid,rfl,by lia,by lia,aL,λi a b=>?_,by lia⟩;cases gc:dW key left k cT base i with
        |false=>rfl
        |true=>rw[mono mid i a b gc]at ef;cases ef
     ·rintro c aK s' ⟨ay,aG,lo,ao,rfl,O,U,aL,aU,c0⟩;rw[ay,aG];dsimp only;have e:lo=ao:=by lia
      subst e;exact bt (h lo U aL aU)
  ·rintro c aK s' ⟨ay,aG,last,ea,rfl,O,U,aL,aU⟩;rw[ay,aG];dsimp only;have oC:=tF last ea O aL aU (.inl (by lia));apply bH;apply hJ;refine i3 (λx c aK s'=>aK=st/\s'=s/\∃lo ao,c=(aa,lo,ao)/\lo<=ao/\ao<=m/\(∀i,i<lo->dW key left k cT base i=af)/\(∀i,ao<=i->i<m->dW key left k cT base i=aD)/\ao-lo<=m-x) ?_ _ 0 _ _ _ ?_ ⟨rfl,rfl,_,_,rfl,oC⟩
   ·rintro x c aK s' ⟨ay,aG,lo,ao,rfl,O,U,aL,aU,c0⟩;rw[ay,aG];dsimp only;by_cases jU:lo >= ao
    ·rw[aV jU];apply bt;dsimp only;have e:lo=ao:=by lia
     subst e;exact bt (h lo U aL aU)
    ·rw[aZ jU];have d8:lo<=lo+(ao-lo)/2:=by lia
     have dS:lo+(ao-lo)/2<ao:=by lia
     generalize lo+(ao-lo)/2=mid at d8 dS ⊢;refine bH (ask mid (by lia) _ ?_);dsimp only;cases ef:dW key left k cT base mid with
     |true=>
      rw[aV rfl];exact bt ⟨rfl,rfl,mid+1,ao,rfl,by lia,U,λi hT=>mono i mid (by lia) (by lia) ef,aU,by lia⟩
     |false=>
      rw[aZ e1];refine bt ⟨rfl,rfl,lo,mid,rfl,by lia,by lia,aL,λi a b=>?_,by lia⟩;cases gc:dW key left k cT base i with
      |false=>rfl
      |true=>rw[mono mid i a b gc]at ef;cases ef
   ·rintro c aK s' ⟨ay,aG,lo,ao,rfl,O,U,aL,aU,c0⟩;rw[ay,aG];dsimp only;have e:lo=ao:=by lia
    subst e;exact bt (h lo U aL aU)
end
section
variable{key:Nat->Int}
noncomputable def dn(key:Nat->Int)(l:List Nat):Prop:=l.Pairwise λx y=>key x<=key y
structure W5(key:Nat->Int)(la lb:List Nat)(po:List Nat)(bA bP:Nat):Prop where
 perm:po.Perm (la.take bA++lb.take bP)
 sa:dn key (po++la.drop bA)
 dC:dn key (po++lb.drop bP)
 cT:bA+1<la.length
 nH:bP<lb.length
variable{l m:List Nat}
theorem hC:dn key (l++m)↔dn key l/\dn key m/\∀x∈l,∀y∈m,key x<=key y:=Kr
theorem vS(l:List Nat)(i k:Nat):l.take i++(l.drop i).take k=l.take (i+k):=by rw[List.take_add]
variable{la lb po:List Nat}{bA bP:Nat}
theorem tG(k:Nat)(perm:po.Perm (la.take bA++lb.take bP))(sa:dn key (po++la.drop bA))(dC:dn key (po++lb.drop bP))(h:∀x∈(la.drop bA).take k,∀y∈lb.drop bP,key x<=key y):
  (po++(la.drop bA).take k).Perm (la.take (bA+k)++lb.take bP)/\dn key (po++(la.drop bA).take k++la.drop (bA+k))/\dn key (po++(la.drop bA).take k++lb.drop bP):=by
 refine⟨?_,?_,?_⟩
 ·rw[<-vS la bA k];refine (perm.append_right _).trans ?_;rw[bY,bY];exact fK _ ek
 ·rw[bY,<-sS,hr];exact sa
 ·rw[bY];have s1:=hC.mp sa;have s2:=hC.mp dC;refine hC.mpr ⟨s1.1,hC.mpr ⟨s1.2.1.sublist<|u6 _ _,s2.2.1,h⟩,λx ag y aw=>?_⟩;rcases e3.mp aw with aw|aw
  ·exact s1.2.2 x ag y (rx aw)
  ·exact s2.2.2 x ag y aw
theorem yt(k:Nat)(perm:po.Perm (la.take bA++lb.take bP))(sa:dn key (po++la.drop bA))(dC:dn key (po++lb.drop bP))(h:∀x∈(lb.drop bP).take k,∀y∈la.drop bA,key x<=key y):
  (po++(lb.drop bP).take k).Perm (la.take bA++lb.take (bP+k))/\dn key (po++(lb.drop bP).take k++la.drop bA)/\dn key (po++(lb.drop bP).take k++lb.drop (bP+k)):=by
 have:=tG (la:=lb) (lb:=la) k (perm.trans ek) dC sa h;exact⟨this.1.trans ek,this.2.2,this.2.1⟩
variable{i:Nat}
theorem i4(h:i<l.length):(l.drop i).take 1=[l.getD i 0]:=by
 rw[qj h,du,fg h];rfl
variable{y:Nat}
theorem ky(h:y∈l.drop i):∃j,i<=j/\j<l.length/\y=l.getD j 0:=by
 obtain⟨j,bx,e⟩:=sO.mp h;have aF:=bx;rw[iu]at aF;exact⟨i+j,by lia,by lia,by rw[<-e,u7];simp[List.getD,show i+j<l.length by lia]⟩
variable{k:Nat}
theorem tH(h:y∈(l.drop i).take k):∃j,j<k/\i+j<l.length/\y=l.getD (i+j) 0:=by
 obtain⟨j,bx,e⟩:=sO.mp h;have aF:=bx;rw[ir,iu]at aF;exact⟨j,by lia,by lia,by rw[<-e,AM,u7];simp[List.getD,show i+j<l.length by lia]⟩
theorem tI(h:dn key l){i j:Nat}(i2:i<=j)(bx:j<l.length):key (l.getD i 0)<=key (l.getD j 0):=by
 rcases Nat.lt_or_eq_of_le i2 with gy|rfl
 ·have:=sN.mp h i j (by lia) bx gy;simpa [List.getD,bx,show i<l.length by lia] using this
 ·exact vg _
theorem Nk(h:dn key (l++m)):dn key m:=(hC.mp h).2.1
theorem rW{j:Nat}(h:dn key (po++l.drop i))(bx:i<=j)(Nl:j<=k)(aY:k<l.length):key (l.getD j 0)<=key (l.getD k 0):=by
 have:=tI (Nk h) (i:=j-i) (j:=k-i) (by lia) (by rw[iu];lia);simpa [List.getD,ry,show i+(j-i)=j by lia,show i+(k-i)=k by lia] using this
noncomputable def jt(key:Nat->Int)(it:Array cw)(la lb:List Nat)(out:Array cw):Prop:=∃po:List Nat,out=(po.map<|cy it).toArray/\po.Perm (la++lb)/\dn key po
variable{it:Array cw}
theorem tJ(perm:po.Perm (la.take bA++lb.take bP))(sa:dn key (po++la.drop bA))(dC:dn key (po++lb.drop bP))(W6:bP=lb.length\/bA=la.length):
  jt key it la lb ((po.map<|cy it).toArray++(la.map<|cy it).toArray.extract bA la.length++(lb.map<|cy it).toArray.extract bP lb.length):=by
 refine⟨po++la.drop bA++lb.drop bP,?_,?_,?_⟩
 ·apply ph;simp[n7,ED]
 ·rw[bY];refine (perm.append_right _).trans ?_;have:(la.take bA++lb.take bP++(la.drop bA++lb.drop bP)).Perm ((la.take bA++la.drop bA)++(lb.take bP++lb.drop bP)):=by
   rw[bY,bY];refine fK _ ?_;rw[<-bY,<-bY];exact g8 _ ek
  rw[hr,hr]at this;exact this
 ·rcases W6 with e|e
  ·rw[e,EM,c5];exact sa
  ·rw[e,EM,c5];exact dC
theorem tK(perm:po.Perm (la.take bA++lb.take bP))(sa:dn key (po++la.drop bA))(dC:dn key (po++lb.drop bP))(agv:bA+1=la.length)(top:∀x∈lb,key x<=key (la.getD (la.length-1) 0)):
  jt key it la lb ((po.map<|cy it).toArray++(lb.map<|cy it).toArray.extract bP lb.length++(la.map<|cy it).toArray.extract bA la.length):=by
 refine⟨po++lb.drop bP++la.drop bA,?_,?_,?_⟩
 ·apply ph;simp[n7,ED]
 ·rw[bY];refine (perm.append_right _).trans ?_;have:(la.take bA++lb.take bP++(lb.drop bP++la.drop bA)).Perm ((la.take bA++la.drop bA)++(lb.take bP++lb.drop bP)):=by
   rw[bY,bY];refine fK _ ?_;rw[<-bY];exact ek
  rw[hr,hr]at this;exact this
 ·refine hC.mpr ⟨dC,Nk sa,λx ag y aw=>?_⟩;rcases e3.mp ag with ag|ag
  ·exact (hC.mp sa).2.2 x ag y aw
  ·obtain⟨j,O,U,rfl⟩:=ky aw;have:j=la.length-1:=by lia
   rw[this];exact top x (pb ag)
end
section
variable{prog:cc}{w:bN}{A:cj}{E:aj->aA->Prop}{bj:jM}{it:Array cw}{key:Nat->Int}{n:Nat}{s:aA}
noncomputable def Nm:Array cw->Array cw->StateT cL gK (Array cw):=sortPriv% PySem.Builtin.mergeLo
structure e7(Ci st:cL):Prop where
 k:kindOf st=kindOf Ci
 a:arrOf st=arrOf Ci
 p:hL st=hL Ci
 f:kT st=kT Ci
theorem e7.refl(st:cL):e7 st st:=⟨rfl,rfl,rfl,rfl⟩
theorem kz{σ α:Type}{M:jJ}{m:StateT σ gK α}{Q Q':α->σ->aA->Prop}{st:σ}{s':aA}(h:kasC M A E m Q' st s')(g:∀a st s',Q' a st s'->Q a st s'):kasC M A E m Q st s':=
 ip h (λr s' x=>g r.1 r.2 s' x) λ_ _ e=>e
variable{l:List Nat}
theorem be{i:Nat}(ao:i<l.length){st:cL}{Q:cw->cL->aA->Prop}(h:Q (cy it<|l.getD i 0) st s):kasC (a' prog w) A E (elem' (l.map<|cy it).toArray i) Q st s:=by
 rw[A',show ((l.map<|cy it).toArray)[i]?=J (cy it<|l.getD i 0) by simp[List.getD,ao]];exact bt h
theorem l_(aF:∀x∈l,x<n){i:Nat}(ao:i<l.length):l.getD i 0<n:=by
 rw[du,fg ao];exact aF _ (AS ao)
theorem qK(l:List Nat)(i:Nat):l.toArray.getD i 0=l.getD i 0:=by simp[Array.getD,List.getD];split<;>simp_all
theorem GL(av:kx n key (iO prog w A bj it) s){k:Nat}(aY:k<n){l:List Nat}(aF:∀x∈l,x<n){base m hint:Nat}(ae:base+m<=l.length)(dD:hint<m)(mono:∀i j,base<=i->i<=j->j<base+m->key (l.getD i 0)<=key (l.getD j 0)){st:cL}(f6:kindOf st=bj){Q:Option Nat->cL->aA->Prop}(h:∀r,r<=m->(∀i,base<=i->i<base+r->key (l.getD i 0)<=key k)->(∀i,base+r<=i->i<base+m->key k<key (l.getD i 0))->Q (J r) st s):
  kasC (a' prog w) A E (Cg aD (cy it k) (l.map<|cy it).toArray base m hint) Q st s:=by
 rw[<-Kx];refine Ni av aY (λi ao=>by rw[qK];exact l_ aF (by simpa using ao)) (by simpa using ae) dD (λi j i2 bx ef=>?_) f6 λr aO a b=>h r aO (λi O U=>?_) (λi O U=>?_)
 ·simp only[dW,qK,jI,hM,EV,Fy,Fi]at ef ⊢;have:=mono (base+i) (base+j) (by lia) (by lia) (by lia);lia
 ·have:=a (i-base) (by lia);simp only[dW,qK,jI,hM,EV,Fy,Fi]at this
  rwa [show base+(i-base)=i by lia]at this
 ·have:=b (i-base) (by lia) (by lia);simp only[dW,qK,jI,hM,Bool.not_eq_false',x1]at this
  rwa [show base+(i-base)=i by lia]at this
theorem yu(av:kx n key (iO prog w A bj it) s){k:Nat}(aY:k<n){l:List Nat}(aF:∀x∈l,x<n){base m hint:Nat}(ae:base+m<=l.length)(dD:hint<m)(mono:∀i j,base<=i->i<=j->j<base+m->key (l.getD i 0)<=key (l.getD j 0)){st:cL}(f6:kindOf st=bj){Q:Option Nat->cL->aA->Prop}(h:∀r,r<=m->(∀i,base<=i->i<base+r->key (l.getD i 0)<key k)->(∀i,base+r<=i->i<base+m->key k<=key (l.getD i 0))->Q (J r) st s):
  kasC (a' prog w) A E (Cg af (cy it k) (l.map<|cy it).toArray base m hint) Q st s:=by
 rw[<-Kx];refine Ni av aY (λi ao=>by rw[qK];exact l_ aF (by simpa using ao)) (by simpa using ae) dD (λi j i2 bx ef=>?_) f6 λr aO a b=>h r aO (λi O U=>?_) (λi O U=>?_)
 ·simp only[dW,qK,lW,x1]at ef ⊢;have:=mono (base+i) (base+j) (by lia) (by lia) (by lia);lia
 ·have:=a (i-base) (by lia);simp only[dW,qK,lW,x1]at this
  rwa [show base+(i-base)=i by lia]at this
 ·have:=b (i-base) (by lia) (by lia);simp only[dW,qK,lW,Fy,Fi]at this
  rwa [show base+(i-base)=i by lia]at this
theorem gd(po:List Nat)(y:Nat):(po.map<|cy it).toArray.push (cy it y)=((po++[y]).map<|cy it).toArray:=by simp
theorem ju(po l:List Nat)(i k:Nat):(po.map<|cy it).toArray++(l.map<|cy it).toArray.extract i (i+k)=((po++(l.drop i).take k).map<|cy it).toArray:=by
 apply ph;simp[n7,mI,xF]
end
section
variable{prog:cc}{w:bN}{A:cj}{E:aj->aA->Prop}{bj:jM}{it:Array cw}{key:Nat->Int}{n:Nat}{s:aA}
noncomputable def nI(key:Nat->Int)(it:Array cw)(la lb:List Nat)(out:Array cw)(bA bP:Nat):Prop:=∃po:List Nat,out=(po.map<|cy it).toArray/\W5 key la lb po bA bP
theorem Nn{M:jJ}{A:cj}{E:aj->aA->Prop}{σ α:Type}{c:Nat->Prop}{agw:∀g,Decidable (c g)}{a P:Nat->StateT σ gK α}{Q:α->σ->aA->Prop}{st:σ}{s:aA}(x:Nat->Nat)(az:∀g,a g=P (x g))(H:∀g,kasC M A E (P g) Q st s):∀g,kasC M A E (if c g then a g else P g) Q st s:=by
 intro g;rw[az];split
 ·exact H _
 ·exact H _
noncomputable def yv(key:Nat->Int)(it:Array cw)(la lb:List Nat)(st:cL)(s:aA): Option (Array cw)×Array cw×Nat×Nat×Nat->cL->aA->Prop:=λc aK s'=>s=s'/\e7 st aK/\∃hD p q r g,c=(J hD,p,q,r,g)/\jt key it la lb hD
noncomputable def yw(key:Nat->Int)(it:Array cw)(la lb:List Nat)(st:cL)(s:aA)(x:Nat):Option (Array cw)×Array cw×Nat×Nat×Nat->cL->aA->Prop:=λc aK s'=>s=s'/\e7 st aK/\∃o bA bP g,c=(aa,o,bA,bP,g)/\nI key it la lb o bA bP/\x+1<=bA+bP
noncomputable def pN(key:Nat->Int)(it:Array cw)(la lb:List Nat)(st:cL)(s:aA)(x:Nat):Option (Array cw)×Array cw×Nat×Nat×Nat×Nat->cL->aA->Prop:=λc aK s'=>s=s'/\e7 st aK/\((∃hD p q r ac eP,c=(J hD,p,q,r,ac,eP)/\jt key it la lb hD)\/∃o bA bP ac eP,c=(aa,o,bA,bP,ac,eP)/\nI key it la lb o bA bP/\x+2<=bA+bP)
noncomputable def vT(key:Nat->Int)(it:Array cw)(la lb:List Nat)(st:cL)(s:aA)(x y:Nat):Option (Array cw)×Array cw×Nat×Nat×Nat×Nat->cL->aA->Prop:=λc aK s'=>s=s'/\e7 st aK/\∃o bA bP ac eP,c=(aa,o,bA,bP,ac,eP)/\nI key it la lb o bA bP/\x+1+y<=bA+bP
noncomputable def iw(key:Nat->Int)(it:Array cw)(la lb:List Nat)(st:cL)(s:aA)(x:Nat):Option (Array cw)×Array cw×Nat×Nat×Nat×Nat×Nat->cL->aA->Prop:=λc aK s'=>s=s'/\e7 st aK/\((∃hD p q r g ac eP,c=(J hD,p,q,r,g,ac,eP)/\jt key it la lb hD)\/∃o bA bP g ac eP,c=(aa,o,bA,bP,g,ac,eP)/\nI key it la lb o bA bP/\x+2<=bA+bP)
noncomputable def rX(key:Nat->Int)(it:Array cw)(la lb:List Nat)(st:cL)(s:aA)(x y:Nat):Option (Array cw)×Array cw×Nat×Nat×Nat×Nat×Nat->cL->aA->Prop:=λc aK s'=>s=s'/\e7 st aK/\∃o bA bP g ac eP,c=(aa,o,bA,bP,g,ac,eP)/\nI key it la lb o bA bP/\x+2<=bA+bP
variable{la lb:List Nat}{out p:Array cw}{q r g:Nat}
theorem yv.a{key:Nat->Int}{it:Array cw}{st aK:cL}{s:aA}(h:e7 st aK)(m:jt key it la lb out):yv key it la lb st s (J out,p,q,r,g) aK s:=⟨rfl,h,_,_,_,_,_,rfl,m⟩
variable{x bA bP:Nat}{o:Array cw}
theorem yw.k{key:Nat->Int}{it:Array cw}{st aK:cL}{s:aA}(h:e7 st aK)(j:nI key it la lb o bA bP)(e:x+1<=bA+bP):yw key it la lb st s x (aa,o,bA,bP,g) aK s:=⟨rfl,h,_,_,_,_,rfl,j,e⟩
variable{g2:Nat}
theorem pN.a{key:Nat->Int}{it:Array cw}{st aK:cL}{s:aA}(h:e7 st aK)(m:jt key it la lb out):pN key it la lb st s x (J out,p,q,r,g,g2) aK s:=⟨rfl,h,.inl ⟨_,_,_,_,_,_,rfl,m⟩⟩
theorem pN.b{key:Nat->Int}{it:Array cw}{st aK:cL}{s:aA}(h:e7 st aK)(j:nI key it la lb o bA bP)(e:x+2<=bA+bP):pN key it la lb st s x (aa,o,bA,bP,g,g2) aK s:=⟨rfl,h,.inr ⟨_,_,_,_,_,rfl,j,e⟩⟩
variable{y:Nat}
theorem vT.k{key:Nat->Int}{it:Array cw}{st aK:cL}{s:aA}(h:e7 st aK)(j:nI key it la lb o bA bP)(e:x+1+y<=bA+bP):vT key it la lb st s x y (aa,o,bA,bP,g,g2) aK s:=⟨rfl,h,_,_,_,_,_,rfl,j,e⟩
variable{g3:Nat}
theorem iw.a{key:Nat->Int}{it:Array cw}{st aK:cL}{s:aA}(h:e7 st aK)(m:jt key it la lb out):iw key it la lb st s x (J out,p,q,r,g,g2,g3) aK s:=⟨rfl,h,.inl ⟨_,_,_,_,_,_,_,rfl,m⟩⟩
theorem iw.b{key:Nat->Int}{it:Array cw}{st aK:cL}{s:aA}(h:e7 st aK)(j:nI key it la lb o bA bP)(e:x+2<=bA+bP):iw key it la lb st s x (aa,o,bA,bP,g,g2,g3) aK s:=⟨rfl,h,.inr ⟨_,_,_,_,_,_,rfl,j,e⟩⟩
theorem rX.k{key:Nat->Int}{it:Array cw}{st aK:cL}{s:aA}(h:e7 st aK)(j:nI key it la lb o bA bP)(e:x+2<=bA+bP):rX key it la lb st s x y (aa,o,bA,bP,g,g2,g3) aK s:=⟨rfl,h,_,_,_,_,_,_,rfl,j,e⟩
theorem gm{a b:Nat}(h:a=b):(a==b)=af:=by simp[h]
theorem gn{a b:Nat}(h:¬ a=b):¬ (a==b)=af:=by simp[h]
theorem W7(av:kx n key (iO prog w A bj it) s){la lb:List Nat}(qL:∀x∈la,x<n)(qM:∀x∈lb,x<n)(GN:dn key la)(GO:dn key lb)(h0:0<la.length)(O:0<lb.length)(first:∀x∈la,key (lb.getD 0 0)<=key x)(top:∀x∈lb,key x<=key (la.getD (la.length-1) 0)){st:cL}(f6:kindOf st=bj){Q:Array cw->cL->aA->Prop}(h:∀out aK,jt key it la lb out->e7 st aK->Q out aK s):
  kasC (a' prog w) A E (Nm (la.map<|cy it).toArray (lb.map<|cy it).toArray) Q st s:=by
 unfold Nm;with_unfolding_all refine bH (sW<|mF ?_);refine bH (be O ?_);dsimp only;generalize GP:(List.map (cy it) la).toArray.size=GQ;obtain rfl:la.length=GQ:=by rw[<-GP];simp
 generalize GR:(List.map (cy it) lb).toArray.size=GS;obtain rfl:lb.length=GS:=by rw[<-GR];simp
 have tL:[lb.getD 0 0].Perm (la.take 0++lb.take 1):=by
  have:=i4 (l:=lb) (i:=0) O;simp only[pe]at this;rw[this];exact List.Perm.refl _
 have tM:dn key ([lb.getD 0 0]++lb.drop 1):=by
  have:=i4 (l:=lb) (i:=0) O;simp only[pe]at this;rw[<-this,hr];exact GO
 have tN:dn key ([lb.getD 0 0]++la.drop 0):=hC.mpr ⟨h4 _ _,by rw[pe];exact GN,λx ag y aw=>by
  rw[c2.mp ag];exact first y (by rwa [pe]at aw)⟩
 have fj:#[cy it (lb.getD 0 0)]=([lb.getD 0 0].map<|cy it).toArray:=rfl;rw[fj];by_cases di:1=lb.length
 ·rw[aV (gm di)];exact bt (h _ _ (tJ tL tN tM<|.inl di)<|e7.refl st)
 rw[aZ (gn di)];by_cases eh:0+1=la.length
 ·rw[aV (gm eh)];exact bt (h _ _ (tK tL tN tM eh top)<|e7.refl st)
 rw[aZ (gn eh)];refine bH (mJ ?_);refine bH (kz (Q':=yv key it la lb st s) (hJ (i3 (yw key it la lb st s) ?step _ 0 _ _ _ ?fin (yw.k (e7.refl st) ⟨_,rfl,tL,tN,tM,by lia,by lia⟩ (by lia)))) ?after)
 case after=>
  rintro c aK s' ⟨rfl,aq,hD,o,bA,bP,g,rfl,hm⟩;exact bt (h _ _ hm aq)
 case fin=>
  rintro c aK s' ⟨rfl,aq,o,bA,bP,g,rfl,⟨po,rfl,m⟩,ag⟩;have:=m.cT;have:=m.nH;lia
 case step=>
  rintro x c aK s' ⟨rfl,aq,o,bA,bP,g,rfl,i5,ag⟩;dsimp only;refine bH (kz (Q':=pN key it la lb st s x)
   (hJ (i3 (vT key it la lb st s x) ?GU _ 0 _ _ _ ?GV (vT.k aq i5 (by lia)))) ?GW)
  case GV=>
   rintro c aK s' ⟨rfl,aq,o,bA,bP,ac,eP,rfl,i5,ag⟩;exact pN.b aq i5 (by lia)
  case GU=>
   rintro y c aK s' ⟨rfl,aq,o,bA,bP,ac,eP,rfl,⟨po,rfl,m⟩,ag⟩;have d8:=m.cT;have dS:=m.nH;have g0:kindOf aK=bj:=aq.k.trans f6;dsimp only;refine bH (be dS ?_);refine bH (be (show bA<la.length by lia) ?_);refine bH (ys av (l_ qM dS) (l_ qL (show bA<la.length by lia)) g0 ?_);dsimp only;by_cases hw:key (lb.getD bP 0)<key (la.getD bA 0)
   ·rw[aV (by simpa using hw)];refine bH (be dS ?_);have cO:=yt 1 m.perm m.sa m.dC (λx ag y aw=>by
     rw[i4 dS,c2]at ag;obtain⟨j,b6,dz,rfl⟩:=ky aw;have:=rW m.sa (cp _) b6 dz;rw[ag];lia)
    rw[i4 dS]at cO;rw[gd];try dsimp only
    by_cases hz:bP+1=lb.length
    ·rw[aV (gm hz)];exact bt (pN.a aq<|tJ cO.1 cO.2.1 cO.2.2<|.inl hz)
    ·rw[aZ (gn hz)];have oD:nI key it la lb ((po++[lb.getD bP 0]).map<|cy it).toArray bA (bP+1):=⟨_,rfl,cO.1,cO.2.1,cO.2.2,d8,by lia⟩;by_cases aJ:eP+1 >= g
     ·rw[aV aJ];exact bt (pN.b aq oD (by lia))
     ·rw[aZ aJ];exact bt (vT.k aq oD (by lia))
   ·rw[aZ (by simpa using hw)];refine bH (be (show bA<la.length by lia) ?_);have cO:=tG 1 m.perm m.sa m.dC (λx ag y aw=>by
     rw[i4 (show bA<la.length by lia),c2]at ag;obtain⟨j,b6,dz,rfl⟩:=ky aw;have:=rW m.dC (cp _) b6 dz;rw[ag];lia)
    rw[i4 (show bA<la.length by lia)]at cO;rw[gd];try dsimp only
    by_cases hz:bA+1+1=la.length
    ·rw[aV (gm hz)];exact bt (pN.a aq<|tK cO.1 cO.2.1 cO.2.2 hz top)
    ·rw[aZ (gn hz)];have oD:nI key it la lb ((po++[la.getD bA 0]).map<|cy it).toArray (bA+1) bP:=⟨_,rfl,cO.1,cO.2.1,cO.2.2,by lia,dS⟩;by_cases aJ:ac+1 >= g
     ·rw[aV aJ];exact bt (pN.b aq oD (by lia))
     ·rw[aZ aJ];exact bt (vT.k aq oD (by lia))
  case GW=>
   rintro c aK s' ⟨rfl,aq,⟨hD,o,bA,bP,ac,eP,rfl,hm⟩|⟨o,bA,bP,ac,eP,rfl,i5,ag⟩⟩
   ·exact bt (yv.a aq hm)
   ·dsimp only;refine bH (sW<|mF ?_);try dsimp only
    refine bH (kz (Q':=iw key it la lb st s x)
     (hJ (i3 (rX key it la lb st s x) ?GX _ 0 _ _ _ ?fin2 (rX.k aq i5 (by lia)))) ?GY)
    case fin2=>
     rintro c aK s' ⟨rfl,aq,o,bA,bP,g,ac,eP,rfl,i5,ag⟩;exact iw.b aq i5 (by lia)
    case GY=>
     rintro c aK s' ⟨rfl,aq,⟨hD,o,bA,bP,g,ac,eP,rfl,hm⟩|⟨o,bA,bP,g,ac,eP,rfl,i5,ag⟩⟩
     ·exact bt (yv.a aq hm)
     ·dsimp only;refine bH (lQ ?_);exact bt (yw.k ⟨aq.k,aq.a,aq.p,aq.f⟩ i5 (by lia))
    case GX=>
     rintro y c aK s' ⟨rfl,aq,o,bA,bP,g,ac,eP,rfl,⟨po,rfl,m⟩,ag⟩;have d8:=m.cT;have dS:=m.nH;dsimp only;revert g;refine Nn (λg=>g-1) ?az ?_
     case az=>exact λg=>rfl
     intro g;refine bH (lQ ?_);refine bH (be dS ?_);refine bH (GL av (l_ qM dS) qL (base:=bA) (m:=la.length-bA) (hint:=0) (by lia) (by lia) (λi j a b c=>rW m.sa a b (by lia)) (by exact aq.k.trans f6) ?_);intro k Cj lo1 vU;dsimp only;by_cases yx:k>0
     ·rw[aV yx];have dF:=tG k m.perm m.sa m.dC (λx ag y aw=>by
       obtain⟨j,j0,b6,rfl⟩:=tH ag;obtain⟨k_,a1,a2,rfl⟩:=ky aw;have:=lo1 (bA+j) (by lia) (by lia);have:=rW m.dC (cp _) a1 a2;lia)
      by_cases hz:bA+k+1=la.length
      ·rw[aV (gm hz)];exact bt (iw.a ⟨aq.k,aq.a,aq.p,aq.f⟩ (by rw[ju];exact tK dF.1 dF.2.1 dF.2.2 hz top))
      rw[aZ (gn hz)];by_cases vV:bA+k=la.length
      ·rw[aV (gm vV)];exact bt (iw.a ⟨aq.k,aq.a,aq.p,aq.f⟩ (by rw[ju];exact tJ dF.1 dF.2.1 dF.2.2 (.inr vV)))
      rw[aZ (gn vV)];have tO:∀i,bA+k<=i->i<la.length->key (lb.getD bP 0)<key (la.getD i 0):=λi a b=>vU i a (by lia);refine bH (be dS ?_);have bI:=yt 1 dF.1 dF.2.1 dF.2.2 (λx ag y aw=>by
       rw[i4 dS,c2]at ag;obtain⟨j,b6,dz,rfl⟩:=ky aw;have:=tO j b6 dz;rw[ag];lia)
      rw[i4 dS]at bI;by_cases lg:bP+1=lb.length
      ·rw[aV (gm lg)];exact bt (iw.a ⟨aq.k,aq.a,aq.p,aq.f⟩ (by rw[ju,gd];exact tJ bI.1 bI.2.1 bI.2.2 (.inl lg)))
      rw[aZ (gn lg)];refine bH (be (show bA+k<la.length by lia) ?_);refine bH (yu av (l_ qL (show bA+k<la.length by lia)) qM (base:=bP+1) (m:=lb.length-(bP+1)) (hint:=0) (by lia) (by lia) (λi j a b c=>rW bI.2.2 a b (by lia)) (by exact aq.k.trans f6) ?_);intro k2 jV oE gc;dsimp only;by_cases mZ:k2>0
      ·rw[aV mZ];have ck:=yt k2 bI.1 bI.2.1 bI.2.2 (λx ag y aw=>by
        obtain⟨j,j0,b6,rfl⟩:=tH ag;obtain⟨k_,a1,a2,rfl⟩:=ky aw;have:=oE (bP+1+j) (by lia) (by lia);have:=rW bI.2.1 (cp _) a1 a2;lia)
       by_cases lh:bP+1+k2=lb.length
       ·rw[aV (gm lh)];exact bt (iw.a ⟨aq.k,aq.a,aq.p,aq.f⟩ (by rw[ju,gd,ju];exact tJ ck.1 ck.2.1 ck.2.2 (.inl lh)))
       rw[aZ (gn lh)];have lj:∀i,bP+1+k2<=i->i<lb.length->key (la.getD (bA+k) 0)<=key (lb.getD i 0):=λi a b=>gc i a (by lia);refine bH (be (show bA+k<la.length by lia) ?_);have b4:=tG 1 ck.1 ck.2.1 ck.2.2 (λx ag y aw=>by
        rw[i4 (show bA+k<la.length by lia),c2]at ag;obtain⟨j,b6,dz,rfl⟩:=ky aw;have:=lj j b6 dz;rw[ag];exact this)
       rw[i4 (show bA+k<la.length by lia)]at b4;by_cases f9:bA+k+1+1=la.length
       ·rw[aV (gm f9)];exact bt (iw.a ⟨aq.k,aq.a,aq.p,aq.f⟩ (by rw[ju,gd,ju,gd];exact tK b4.1 b4.2.1 b4.2.2 f9 top))
       rw[aZ (gn f9)];by_cases ae:(decide (k<7)&&decide (k2<7))=af
       ·rw[aV ae];exact bt (iw.b ⟨aq.k,aq.a,aq.p,aq.f⟩ ⟨_,by rw[ju,gd,ju,gd],b4.1,b4.2.1,b4.2.2,by lia,by lia⟩ (by lia))
       ·rw[aZ ae];exact bt (rX.k ⟨aq.k,aq.a,aq.p,aq.f⟩ ⟨_,by rw[ju,gd,ju,gd],b4.1,b4.2.1,b4.2.2,by lia,by lia⟩ (by lia))
      ·rw[aZ mZ];have ck:=bI;have lj:∀i,bP+1<=i->i<lb.length->key (la.getD (bA+k) 0)<=key (lb.getD i 0):=λi a b=>gc i (by lia) (by lia);refine bH (be (show bA+k<la.length by lia) ?_);have b4:=tG 1 ck.1 ck.2.1 ck.2.2 (λx ag y aw=>by
        rw[i4 (show bA+k<la.length by lia),c2]at ag;obtain⟨j,b6,dz,rfl⟩:=ky aw;have:=lj j b6 dz;rw[ag];exact this)
       rw[i4 (show bA+k<la.length by lia)]at b4;by_cases f9:bA+k+1+1=la.length
       ·rw[aV (gm f9)];exact bt (iw.a ⟨aq.k,aq.a,aq.p,aq.f⟩ (by rw[ju,gd,gd];exact tK b4.1 b4.2.1 b4.2.2 f9 top))
       rw[aZ (gn f9)];by_cases ae:(decide (k<7)&&decide (k2<7))=af
       ·rw[aV ae];exact bt (iw.b ⟨aq.k,aq.a,aq.p,aq.f⟩ ⟨_,by rw[ju,gd,gd],b4.1,b4.2.1,b4.2.2,by lia,by lia⟩ (by lia))
       ·rw[aZ ae];exact bt (rX.k ⟨aq.k,aq.a,aq.p,aq.f⟩ ⟨_,by rw[ju,gd,gd],b4.1,b4.2.1,b4.2.2,by lia,by lia⟩ (by lia))
     ·rw[aZ yx];have dF:po.Perm (la.take bA++lb.take bP)/\dn key (po++la.drop bA)/\dn key (po++lb.drop bP):=⟨m.perm,m.sa,m.dC⟩;have tO:∀i,bA<=i->i<la.length->key (lb.getD bP 0)<key (la.getD i 0):=λi a b=>vU i (by lia) (by lia);refine bH (be dS ?_);have bI:=yt 1 dF.1 dF.2.1 dF.2.2 (λx ag y aw=>by
       rw[i4 dS,c2]at ag;obtain⟨j,b6,dz,rfl⟩:=ky aw;have:=tO j b6 dz;rw[ag];lia)
      rw[i4 dS]at bI;by_cases lg:bP+1=lb.length
      ·rw[aV (gm lg)];exact bt (iw.a ⟨aq.k,aq.a,aq.p,aq.f⟩ (by rw[gd];exact tJ bI.1 bI.2.1 bI.2.2 (.inl lg)))
      rw[aZ (gn lg)];refine bH (be (show bA<la.length by lia) ?_);refine bH (yu av (l_ qL (show bA<la.length by lia)) qM (base:=bP+1) (m:=lb.length-(bP+1)) (hint:=0) (by lia) (by lia) (λi j a b c=>rW bI.2.2 a b (by lia)) (by exact aq.k.trans f6) ?_);intro k2 jV oE gc;dsimp only;by_cases mZ:k2>0
      ·rw[aV mZ];have ck:=yt k2 bI.1 bI.2.1 bI.2.2 (λx ag y aw=>by
        obtain⟨j,j0,b6,rfl⟩:=tH ag;obtain⟨k_,a1,a2,rfl⟩:=ky aw;have:=oE (bP+1+j) (by lia) (by lia);have:=rW bI.2.1 (cp _) a1 a2;lia)
       by_cases lh:bP+1+k2=lb.length
       ·rw[aV (gm lh)];exact bt (iw.a ⟨aq.k,aq.a,aq.p,aq.f⟩ (by rw[gd,ju];exact tJ ck.1 ck.2.1 ck.2.2 (.inl lh)))
       rw[aZ (gn lh)];have lj:∀i,bP+1+k2<=i->i<lb.length->key (la.getD (bA) 0)<=key (lb.getD i 0):=λi a b=>gc i a (by lia);refine bH (be (show bA<la.length by lia) ?_);have b4:=tG 1 ck.1 ck.2.1 ck.2.2 (λx ag y aw=>by
        rw[i4 (show bA<la.length by lia),c2]at ag;obtain⟨j,b6,dz,rfl⟩:=ky aw;have:=lj j b6 dz;rw[ag];exact this)
       rw[i4 (show bA<la.length by lia)]at b4;by_cases f9:bA+1+1=la.length
       ·rw[aV (gm f9)];exact bt (iw.a ⟨aq.k,aq.a,aq.p,aq.f⟩ (by rw[gd,ju,gd];exact tK b4.1 b4.2.1 b4.2.2 f9 top))
       rw[aZ (gn f9)];by_cases ae:(decide (k<7)&&decide (k2<7))=af
       ·rw[aV ae];exact bt (iw.b ⟨aq.k,aq.a,aq.p,aq.f⟩ ⟨_,by rw[gd,ju,gd],b4.1,b4.2.1,b4.2.2,by lia,by lia⟩ (by lia))
       ·rw[aZ ae];exact bt (rX.k ⟨aq.k,aq.a,aq.p,aq.f⟩ ⟨_,by rw[gd,ju,gd],b4.1,b4.2.1,b4.2.2,by lia,by lia⟩ (by lia))
      ·rw[aZ mZ];have ck:=bI;have lj:∀i,bP+1<=i->i<lb.length->key (la.getD (bA) 0)<=key (lb.getD i 0):=λi a b=>gc i (by lia) (by lia);refine bH (be (show bA<la.length by lia) ?_);have b4:=tG 1 ck.1 ck.2.1 ck.2.2 (λx ag y aw=>by
        rw[i4 (show bA<la.length by lia),c2]at ag;obtain⟨j,b6,dz,rfl⟩:=ky aw;have:=lj j b6 dz;rw[ag];exact this)
       rw[i4 (show bA<la.length by lia)]at b4;by_cases f9:bA+1+1=la.length
       ·rw[aV (gm f9)];exact bt (iw.a ⟨aq.k,aq.a,aq.p,aq.f⟩ (by rw[gd,gd];exact tK b4.1 b4.2.1 b4.2.2 f9 top))
       rw[aZ (gn f9)];by_cases ae:(decide (k<7)&&decide (k2<7))=af
       ·rw[aV ae];exact bt (iw.b ⟨aq.k,aq.a,aq.p,aq.f⟩ ⟨_,by rw[gd,gd],b4.1,b4.2.1,b4.2.2,by lia,by lia⟩ (by lia))
       ·rw[aZ ae];exact bt (rX.k ⟨aq.k,aq.a,aq.p,aq.f⟩ ⟨_,by rw[gd,gd],b4.1,b4.2.1,b4.2.2,by lia,by lia⟩ (by lia))
end
section
variable{prog:cc}{w:bN}{A:cj}{E:aj->aA->Prop}{bj:jM}{it:Array cw}{key:Nat->Int}{n:Nat}{s:aA}
noncomputable def No:Array cw->Array cw->StateT cL gK (Array cw):=sortPriv% PySem.Builtin.mergeHi
variable{l:List Nat}{i j:Nat}
theorem GZ(i2:i<=j)(bx:j<=l.length):l.drop i=(l.take j).drop i++l.drop j:=by
 have e:l.drop i=(l.take j++l.drop j).drop i:=by rw[hr]
 rw[e,List.drop_append_of_le_length (by rw[ir];lia)]
theorem W8(i2:i<=j):l.take i++(l.take j).drop i=l.take j:=by
 have:=hr i (l.take j)
 rwa [AX,vb i2]at this
variable{la lb en:List Nat}{na nb:Nat}
theorem tP(k:Nat)(aY:k<=na)(W9:na<=la.length)(perm:en.Perm (la.drop na++lb.drop nb))(sa:dn key (la.take na++en))(dC:dn key (lb.take nb++en))(h:∀x∈(la.take na).drop k,∀y∈lb.take nb,key y<=key x):
  ((la.take na).drop k++en).Perm (la.drop k++lb.drop nb)/\dn key (la.take k++((la.take na).drop k++en))/\dn key (lb.take nb++((la.take na).drop k++en)):=by
 refine⟨?_,?_,?_⟩
 ·rw[GZ aY W9,bY];exact fK _ perm
 ·rw[<-bY,W8 aY];exact sa
 ·have s1:=hC.mp sa;have s2:=hC.mp dC;refine hC.mpr ⟨s2.1,hC.mpr ⟨s1.1.sublist<|AN _ _,s2.2.1,λx ag y aw=>s1.2.2 x (pb ag) y aw⟩,λx ag y aw=>?_⟩;rcases e3.mp aw with aw|aw
  ·exact h y aw x ag
  ·exact s2.2.2 x ag y aw
theorem yy(k:Nat)(aY:k<=nb)(W':nb<=lb.length)(perm:en.Perm (la.drop na++lb.drop nb))(sa:dn key (la.take na++en))(dC:dn key (lb.take nb++en))(h:∀x∈(lb.take nb).drop k,∀y∈la.take na,key y<=key x):
  ((lb.take nb).drop k++en).Perm (la.drop na++lb.drop k)/\dn key (la.take na++((lb.take nb).drop k++en))/\dn key (lb.take k++((lb.take nb).drop k++en)):=by
 have:=tP (la:=lb) (lb:=la) k aY W' (perm.trans ek) dC sa h;exact⟨this.1.trans ek,this.2.2,this.2.1⟩
theorem jW(h0:0<i)(h:i<=l.length):(l.take i).drop (i-1)=[l.getD (i-1) 0]:=by
 rw[xF,show i-(i-1)=1 by lia];exact i4 (by lia)
variable{y:Nat}
theorem ma(h:y∈l.take i):∃j,j<i/\j<l.length/\y=l.getD j 0:=by
 have:=tH (i:=0) (k:=i) (y:=y) (l:=l) (by rwa [pe]);obtain⟨j,a,b,e⟩:=this;exact⟨j,a,by lia,by rw[e];congr 1;lia⟩
variable{k:Nat}
theorem G0(h:y∈(l.take k).drop i):∃j,i<=j/\j<k/\j<l.length/\y=l.getD j 0:=by
 rw[xF]at h;obtain⟨j,a,b,e⟩:=tH h;exact⟨i+j,by lia,by lia,b,e⟩
theorem rY(h:dn key (l.take i++en))(Nl:j<=k)(aY:k<i)(aF:k<l.length):key (l.getD j 0)<=key (l.getD k 0):=by
 have:=tI (hC.mp h).1 (i:=j) (j:=k) Nl (by rw[ir];lia);simpa [List.getD,sQ,show j<i by lia,aY] using this
theorem qN(perm:en.Perm (la.drop na++lb.drop nb))(sa:dn key (la.take na++en))(dC:dn key (lb.take nb++en))(hz:na=0\/nb=0):
  jt key it la lb ((la.map<|cy it).toArray.extract 0 na++(lb.map<|cy it).toArray.extract 0 nb++(en.reverse.map<|cy it).toArray.reverse):=by
 refine⟨la.take na++lb.take nb++en,?_,?_,?_⟩
 ·apply ph;simp[mI]
 ·refine (fK _ perm).trans ?_;have:(la.take na++lb.take nb++(la.drop na++lb.drop nb)).Perm ((la.take na++la.drop na)++(lb.take nb++lb.drop nb)):=by
   rw[bY,bY];refine fK _ ?_;rw[<-bY,<-bY];exact g8 _ ek
  rw[hr,hr]at this;exact this
 ·rcases hz with e|e
  ·rw[e,AY,qn];exact dC
  ·rw[e,AY,c5];exact sa
theorem vW(perm:en.Perm (la.drop na++lb.drop nb))(sa:dn key (la.take na++en))(dC:dn key (lb.take nb++en))(hz:nb=1)(first:∀x∈la,key (lb.getD 0 0)<=key x):
  jt key it la lb ((lb.map<|cy it).toArray.extract 0 nb++(la.map<|cy it).toArray.extract 0 na++(en.reverse.map<|cy it).toArray.reverse):=by
 refine⟨lb.take nb++la.take na++en,?_,?_,?_⟩
 ·apply ph;simp[mI]
 ·refine (fK _ perm).trans ?_;have:(lb.take nb++la.take na++(la.drop na++lb.drop nb)).Perm ((la.take na++la.drop na)++(lb.take nb++lb.drop nb)):=by
   rw[bY,<-bY (la.take na),<-bY (la.take na++la.drop na)];rw[<-bY (lb.take nb)];exact g8 _ ek
  rw[hr,hr]at this;exact this
 ·rw[bY];refine hC.mpr ⟨(hC.mp dC).1,sa,λx ag y aw=>?_⟩;rcases e3.mp aw with aw|aw
  ·obtain⟨j,O,U,rfl⟩:=ma ag;have:j=0:=by lia
   rw[this];exact first y (rx aw)
  ·exact (hC.mp dC).2.2 x ag y aw
theorem fU(en:List Nat)(y:Nat):(en.reverse.map<|cy it).toArray.push (cy it y)=(([y]++en).reverse.map<|cy it).toArray:=by simp
theorem ix(en l:List Nat)(i k:Nat):(en.reverse.map<|cy it).toArray++((l.map<|cy it).toArray.extract i k).reverse=(((l.take k).drop i++en).reverse.map<|cy it).toArray:=by
 apply ph;simp[n7,mI,xF]
structure W_(key:Nat->Int)(la lb:List Nat)(en:List Nat)(na nb:Nat):Prop where
 perm:en.Perm (la.drop na++lb.drop nb)
 sa:dn key (la.take na++en)
 dC:dn key (lb.take nb++en)
 cT:0<na
 nH:1<nb
 Np:na<=la.length
 Nq:nb<=lb.length
noncomputable def nJ(key:Nat->Int)(it:Array cw)(la lb:List Nat)(out:Array cw)(na nb:Nat):Prop:=∃en:List Nat,out=(en.reverse.map<|cy it).toArray/\W_ key la lb en na nb
end
section
variable{prog:cc}{w:bN}{A:cj}{E:aj->aA->Prop}{bj:jM}{it:Array cw}{key:Nat->Int}{n:Nat}{s:aA}
noncomputable def yz(key:Nat->Int)(it:Array cw)(la lb:List Nat)(st:cL)(s:aA): Option (Array cw)×Nat×Nat×Array cw×Nat->cL->aA->Prop:=λc aK s'=>s=s'/\e7 st aK/\∃hD p q r g,c=(J hD,p,q,r,g)/\jt key it la lb hD
noncomputable def yA(key:Nat->Int)(it:Array cw)(la lb:List Nat)(st:cL)(s:aA)(x:Nat):Option (Array cw)×Nat×Nat×Array cw×Nat->cL->aA->Prop:=λc aK s'=>s=s'/\e7 st aK/\∃na nb o g,c=(aa,na,nb,o,g)/\nJ key it la lb o na nb/\na+nb+x+1<=la.length+lb.length
noncomputable def pO(key:Nat->Int)(it:Array cw)(la lb:List Nat)(st:cL)(s:aA)(x:Nat):Option (Array cw)×Nat×Nat×Array cw×Nat×Nat->cL->aA->Prop:=λc aK s'=>s=s'/\e7 st aK/\((∃hD p q r ac eP,c=(J hD,p,q,r,ac,eP)/\jt key it la lb hD)\/∃na nb o ac eP,c=(aa,na,nb,o,ac,eP)/\nJ key it la lb o na nb/\na+nb+x+2<=la.length+lb.length)
noncomputable def vX(key:Nat->Int)(it:Array cw)(la lb:List Nat)(st:cL)(s:aA)(x y:Nat):Option (Array cw)×Nat×Nat×Array cw×Nat×Nat->cL->aA->Prop:=λc aK s'=>s=s'/\e7 st aK/\∃na nb o ac eP,c=(aa,na,nb,o,ac,eP)/\nJ key it la lb o na nb/\na+nb+x+1+y<=la.length+lb.length
noncomputable def h9(key:Nat->Int)(it:Array cw)(la lb:List Nat)(st:cL)(s:aA)(x:Nat):Option (Array cw)×Nat×Nat×Array cw×Nat×Nat×Nat->cL->aA->Prop:=λc aK s'=>s=s'/\e7 st aK/\((∃hD p q r g ac eP,c=(J hD,p,q,r,g,ac,eP)/\jt key it la lb hD)\/∃na nb o g ac eP,c=(aa,na,nb,o,g,ac,eP)/\nJ key it la lb o na nb/\na+nb+x+2<=la.length+lb.length)
noncomputable def rZ(key:Nat->Int)(it:Array cw)(la lb:List Nat)(st:cL)(s:aA)(x y:Nat):Option (Array cw)×Nat×Nat×Array cw×Nat×Nat×Nat->cL->aA->Prop:=λc aK s'=>s=s'/\e7 st aK/\∃na nb o g ac eP,c=(aa,na,nb,o,g,ac,eP)/\nJ key it la lb o na nb/\na+nb+x+2<=la.length+lb.length
variable{la lb:List Nat}{out r:Array cw}{p q g:Nat}
theorem yz.a{key:Nat->Int}{it:Array cw}{st aK:cL}{s:aA}(h:e7 st aK)(m:jt key it la lb out):yz key it la lb st s (J out,p,q,r,g) aK s:=⟨rfl,h,_,_,_,_,_,rfl,m⟩
variable{x na nb:Nat}{o:Array cw}
theorem yA.k{key:Nat->Int}{it:Array cw}{st aK:cL}{s:aA}(h:e7 st aK)(j:nJ key it la lb o na nb)(e:na+nb+x+1<=la.length+lb.length):yA key it la lb st s x (aa,na,nb,o,g) aK s:=⟨rfl,h,_,_,_,_,rfl,j,e⟩
variable{g2:Nat}
theorem pO.a{key:Nat->Int}{it:Array cw}{st aK:cL}{s:aA}(h:e7 st aK)(m:jt key it la lb out):pO key it la lb st s x (J out,p,q,r,g,g2) aK s:=⟨rfl,h,.inl ⟨_,_,_,_,_,_,rfl,m⟩⟩
theorem pO.b{key:Nat->Int}{it:Array cw}{st aK:cL}{s:aA}(h:e7 st aK)(j:nJ key it la lb o na nb)(e:na+nb+x+2<=la.length+lb.length):pO key it la lb st s x (aa,na,nb,o,g,g2) aK s:=⟨rfl,h,.inr ⟨_,_,_,_,_,rfl,j,e⟩⟩
variable{y:Nat}
theorem vX.k{key:Nat->Int}{it:Array cw}{st aK:cL}{s:aA}(h:e7 st aK)(j:nJ key it la lb o na nb)(e:na+nb+x+1+y<=la.length+lb.length):vX key it la lb st s x y (aa,na,nb,o,g,g2) aK s:=⟨rfl,h,_,_,_,_,_,rfl,j,e⟩
variable{g3:Nat}
theorem h9.a{key:Nat->Int}{it:Array cw}{st aK:cL}{s:aA}(h:e7 st aK)(m:jt key it la lb out):h9 key it la lb st s x (J out,p,q,r,g,g2,g3) aK s:=⟨rfl,h,.inl ⟨_,_,_,_,_,_,_,rfl,m⟩⟩
theorem h9.b{key:Nat->Int}{it:Array cw}{st aK:cL}{s:aA}(h:e7 st aK)(j:nJ key it la lb o na nb)(e:na+nb+x+2<=la.length+lb.length):h9 key it la lb st s x (aa,na,nb,o,g,g2,g3) aK s:=⟨rfl,h,.inr ⟨_,_,_,_,_,_,rfl,j,e⟩⟩
theorem rZ.k{key:Nat->Int}{it:Array cw}{st aK:cL}{s:aA}(h:e7 st aK)(j:nJ key it la lb o na nb)(e:na+nb+x+2<=la.length+lb.length):rZ key it la lb st s x y (aa,na,nb,o,g,g2,g3) aK s:=⟨rfl,h,_,_,_,_,_,_,rfl,j,e⟩
theorem Xa(av:kx n key (iO prog w A bj it) s){la lb:List Nat}(qL:∀x∈la,x<n)(qM:∀x∈lb,x<n)(GN:dn key la)(GO:dn key lb)(h0:0<la.length)(O:0<lb.length)(first:∀x∈la,key (lb.getD 0 0)<=key x)(top:∀x∈lb,key x<=key (la.getD (la.length-1) 0)){st:cL}(f6:kindOf st=bj){Q:Array cw->cL->aA->Prop}(h:∀out aK,jt key it la lb out->e7 st aK->Q out aK s):
  kasC (a' prog w) A E (No (la.map<|cy it).toArray (lb.map<|cy it).toArray) Q st s:=by
 unfold No;with_unfolding_all refine bH (sW<|mF ?_);dsimp only;generalize GP:(List.map (cy it) la).toArray.size=GQ;obtain rfl:la.length=GQ:=by rw[<-GP];simp
 generalize GR:(List.map (cy it) lb).toArray.size=GS;obtain rfl:lb.length=GS:=by rw[<-GR];simp
 refine bH (be (show la.length-1<la.length by lia) ?_);try dsimp only
 have b':=jW h0 (cp _);rw[u']at b';have tL:[la.getD (la.length-1) 0].Perm (la.drop (la.length-1)++lb.drop lb.length):=by
  rw[b',EM];exact List.Perm.refl _
 have tN:dn key (la.take (la.length-1)++[la.getD (la.length-1) 0]):=by
  rw[<-b',hr];exact GN
 have tM:dn key (lb.take lb.length++[la.getD (la.length-1) 0]):=hC.mpr ⟨by rw[u'];exact GO,h4 _ _,λx ag y aw=>by
  rw[c2.mp aw];exact top x (by rwa [u']at ag)⟩
 have fj:#[cy it (la.getD (la.length-1) 0)]=([la.getD (la.length-1) 0].reverse.map<|cy it).toArray:=rfl;rw[fj];by_cases di:la.length-1=0
 ·rw[aV (gm di)];exact bt (h _ _ (qN tL tN tM<|.inl di)<|e7.refl st)
 rw[aZ (gn di)];by_cases eh:lb.length=1
 ·rw[aV (gm eh)];exact bt (h _ _ (vW tL tN tM eh first)<|e7.refl st)
 rw[aZ (gn eh)];refine bH (mJ ?_);refine bH (kz (Q':=yz key it la lb st s) (hJ (i3 (yA key it la lb st s) ?step _ 0 _ _ _ ?fin (yA.k (e7.refl st) ⟨_,rfl,tL,tN,tM,by lia,by lia,by lia,by lia⟩ (by lia)))) ?after)
 case after=>
  rintro c aK s' ⟨rfl,aq,hD,o,bA,bP,g,rfl,hm⟩;exact bt (h _ _ hm aq)
 case fin=>
  rintro c aK s' ⟨rfl,aq,na,nb,o,g,rfl,⟨po,rfl,m⟩,ag⟩;have:=m.cT;have:=m.nH;lia
 case step=>
  rintro x c aK s' ⟨rfl,aq,na,nb,o,g,rfl,i5,ag⟩;dsimp only;refine bH (kz (Q':=pO key it la lb st s x)
   (hJ (i3 (vX key it la lb st s x) ?GU _ 0 _ _ _ ?GV (vX.k aq i5 (by lia)))) ?GW)
  case GV=>
   rintro c aK s' ⟨rfl,aq,na,nb,o,ac,eP,rfl,i5,ag⟩;exact pO.b aq i5 (by lia)
  case GU=>
   rintro y c aK s' ⟨rfl,aq,na,nb,o,ac,eP,rfl,⟨po,rfl,m⟩,ag⟩;have d8:=m.cT;have dS:=m.nH;have jX:=m.Np;have kA:=m.Nq;have g0:kindOf aK=bj:=aq.k.trans f6;dsimp only;refine bH (be (show nb-1<lb.length by lia) ?_);refine bH (be (show na-1<la.length by lia) ?_);refine bH (ys av (l_ qM (show nb-1<lb.length by lia)) (l_ qL (show na-1<la.length by lia)) g0 ?_);dsimp only;by_cases hw:key (lb.getD (nb-1) 0)<key (la.getD (na-1) 0)
   ·rw[aV (by simpa using hw)];refine bH (be (show na-1<la.length by lia) ?_);have cO:=tP (na-1) (by lia) jX m.perm m.sa m.dC (λx ag y aw=>by
     rw[jW d8 jX,c2]at ag;obtain⟨j,b6,dz,rfl⟩:=ma aw;have:=rY m.dC (show j<=nb-1 by lia) (by lia) (by lia);rw[ag];lia)
    rw[jW d8 jX]at cO;rw[fU];try dsimp only
    by_cases hz:na-1=0
    ·rw[aV (gm hz)];exact bt (pO.a aq<|qN cO.1 cO.2.1 cO.2.2<|.inl hz)
    ·rw[aZ (gn hz)];have oD:nJ key it la lb (([la.getD (na-1) 0]++po).reverse.map<|cy it).toArray (na-1) nb:=⟨_,rfl,cO.1,cO.2.1,cO.2.2,by lia,dS,by lia,kA⟩;by_cases aJ:ac+1 >= g
     ·rw[aV aJ];exact bt (pO.b aq oD (by lia))
     ·rw[aZ aJ];exact bt (vX.k aq oD (by lia))
   ·rw[aZ (by simpa using hw)];refine bH (be (show nb-1<lb.length by lia) ?_);have cO:=yy (nb-1) (by lia) kA m.perm m.sa m.dC (λx ag y aw=>by
     rw[jW (by lia) kA,c2]at ag;obtain⟨j,b6,dz,rfl⟩:=ma aw;have:=rY m.sa (show j<=na-1 by lia) (by lia) (by lia);rw[ag];lia)
    rw[jW (by lia) kA]at cO;rw[fU];try dsimp only
    by_cases hz:nb-1=1
    ·rw[aV (gm hz)];exact bt (pO.a aq<|vW cO.1 cO.2.1 cO.2.2 hz first)
    ·rw[aZ (gn hz)];have oD:nJ key it la lb (([lb.getD (nb-1) 0]++po).reverse.map<|cy it).toArray na (nb-1):=⟨_,rfl,cO.1,cO.2.1,cO.2.2,d8,by lia,jX,by lia⟩;by_cases aJ:eP+1 >= g
     ·rw[aV aJ];exact bt (pO.b aq oD (by lia))
     ·rw[aZ aJ];exact bt (vX.k aq oD (by lia))
  case GW=>
   rintro c aK s' ⟨rfl,aq,⟨hD,o,bA,bP,ac,eP,rfl,hm⟩|⟨na,nb,o,ac,eP,rfl,i5,ag⟩⟩
   ·exact bt (yz.a aq hm)
   ·try dsimp only
    refine bH (sW<|mF ?_);try dsimp only
    refine bH (kz (Q':=h9 key it la lb st s x)
     (hJ (i3 (rZ key it la lb st s x) ?GX _ 0 _ _ _ ?fin2 (rZ.k aq i5 (by lia)))) ?GY)
    case fin2=>
     rintro c aK s' ⟨rfl,aq,na,nb,o,g,ac,eP,rfl,i5,ag⟩;exact h9.b aq i5 (by lia)
    case GY=>
     rintro c aK s' ⟨rfl,aq,⟨hD,o,bA,bP,g,ac,eP,rfl,hm⟩|⟨na,nb,o,g,ac,eP,rfl,i5,ag⟩⟩
     ·exact bt (yz.a aq hm)
     ·try dsimp only
      refine bH (lQ ?_);exact bt (yA.k ⟨aq.k,aq.a,aq.p,aq.f⟩ i5 (by lia))
    case GX=>
     rintro y c aK s' ⟨rfl,aq,na,nb,o,g,ac,eP,rfl,⟨po,rfl,m⟩,ag⟩;have d8:=m.cT;have dS:=m.nH;have jX:=m.Np;have kA:=m.Nq;dsimp only;revert g;refine Nn (λg=>g-1) ?az ?_
     case az=>exact λg=>rfl
     intro g;refine bH (lQ ?_);refine bH (be (show nb-1<lb.length by lia) ?_);refine bH (GL av (l_ qM (show nb-1<lb.length by lia)) qL (base:=0) (m:=na) (hint:=na-1) (by lia) (by lia) (λi j a b c=>rY m.sa b (by lia) (by lia)) (by exact aq.k.trans f6) ?_);intro k Cj lo1 vU;dsimp only;by_cases yx:na-k>0
     ·rw[aV yx];have dF:=tP k (by lia) jX m.perm m.sa m.dC (λx ag y aw=>by
       obtain⟨j,j0,b6,dz,rfl⟩:=G0 ag;obtain⟨k_,a1,a2,rfl⟩:=ma aw;have:=vU j (by lia) (by lia);have:=rY m.dC (show k_<=nb-1 by lia) (by lia) (by lia);lia)
      by_cases hz:k=0
      ·rw[aV (gm hz)];exact bt (h9.a ⟨aq.k,aq.a,aq.p,aq.f⟩ (by rw[ix];exact qN dF.1 dF.2.1 dF.2.2 (.inl hz)))
      rw[aZ (gn hz)];have tO:∀i,i<k->key (la.getD i 0)<=key (lb.getD (nb-1) 0):=λi a=>lo1 i (by lia) (by lia);refine bH (be (show nb-1<lb.length by lia) ?_);have bI:=yy (nb-1) (by lia) kA dF.1 dF.2.1 dF.2.2 (λx ag y aw=>by
       rw[jW (by lia) kA,c2]at ag;obtain⟨j,b6,dz,rfl⟩:=ma aw;have:=tO j b6;rw[ag];lia)
      rw[jW (by lia) kA]at bI;by_cases lg:nb-1=1
      ·rw[aV (gm lg)];exact bt (h9.a ⟨aq.k,aq.a,aq.p,aq.f⟩ (by rw[ix,fU];exact vW bI.1 bI.2.1 bI.2.2 lg first))
      rw[aZ (gn lg)];refine bH (be (show k-1<la.length by lia) ?_);refine bH (yu av (l_ qL (show k-1<la.length by lia)) qM (base:=0) (m:=nb-1) (hint:=nb-1-1) (by lia) (by lia) (λi j a b c=>rY bI.2.2 b (by lia) (by lia)) (by exact aq.k.trans f6) ?_);intro k2 jV oE gc;dsimp only;by_cases mZ:nb-1-k2>0
      ·rw[aV mZ];have ck:=yy k2 (by lia) (show nb-1<=lb.length by lia) bI.1 bI.2.1 bI.2.2 (λx ag y aw=>by
        obtain⟨j,j0,b6,dz,rfl⟩:=G0 ag;obtain⟨k_,a1,a2,rfl⟩:=ma aw;have:=gc j (by lia) (by lia);have:=rY bI.2.1 (show k_<=k-1 by lia) (by lia) (by lia);lia)
       by_cases lh:k2=1
       ·rw[aV (gm lh)];exact bt (h9.a ⟨aq.k,aq.a,aq.p,aq.f⟩ (by rw[ix,fU,ix];exact vW ck.1 ck.2.1 ck.2.2 lh first))
       rw[aZ (gn lh)];by_cases tQ:k2=0
       ·rw[aV (gm tQ)];exact bt (h9.a ⟨aq.k,aq.a,aq.p,aq.f⟩ (by rw[ix,fU,ix];exact qN ck.1 ck.2.1 ck.2.2 (.inr tQ)))
       rw[aZ (gn tQ)];have lj:∀i,i<k2->key (lb.getD i 0)<key (la.getD (k-1) 0):=λi a=>oE i (by lia) (by lia);refine bH (be (show k-1<la.length by lia) ?_);have b4:=tP (k-1) (by lia) (show k<=la.length by lia) ck.1 ck.2.1 ck.2.2 (λx ag y aw=>by
        rw[jW (by lia) (show k<=la.length by lia),c2]at ag;obtain⟨j,b6,dz,rfl⟩:=ma aw;have:=lj j b6;rw[ag];lia)
       rw[jW (by lia) (show k<=la.length by lia)]at b4;by_cases f9:k-1=0
       ·rw[aV (gm f9)];exact bt (h9.a ⟨aq.k,aq.a,aq.p,aq.f⟩ (by rw[ix,fU,ix,fU];exact qN b4.1 b4.2.1 b4.2.2 (.inl f9)))
       rw[aZ (gn f9)];by_cases ae:(decide (na-k<7)&&decide (nb-1-k2<7))=af
       ·rw[aV ae];exact bt (h9.b ⟨aq.k,aq.a,aq.p,aq.f⟩ ⟨_,by rw[ix,fU,ix,fU],b4.1,b4.2.1,b4.2.2,by lia,by lia,by lia,by lia⟩ (by lia))
       ·rw[aZ ae];exact bt (rZ.k ⟨aq.k,aq.a,aq.p,aq.f⟩ ⟨_,by rw[ix,fU,ix,fU],b4.1,b4.2.1,b4.2.2,by lia,by lia,by lia,by lia⟩ (by lia))
      ·rw[aZ mZ];have ck:=bI;have lj:∀i,i<nb-1->key (lb.getD i 0)<key (la.getD (k-1) 0):=λi a=>oE i (by lia) (by lia);refine bH (be (show k-1<la.length by lia) ?_);have b4:=tP (k-1) (by lia) (show k<=la.length by lia) ck.1 ck.2.1 ck.2.2 (λx ag y aw=>by
        rw[jW (by lia) (show k<=la.length by lia),c2]at ag;obtain⟨j,b6,dz,rfl⟩:=ma aw;have:=lj j b6;rw[ag];lia)
       rw[jW (by lia) (show k<=la.length by lia)]at b4;by_cases f9:k-1=0
       ·rw[aV (gm f9)];exact bt (h9.a ⟨aq.k,aq.a,aq.p,aq.f⟩ (by rw[ix,fU,fU];exact qN b4.1 b4.2.1 b4.2.2 (.inl f9)))
       rw[aZ (gn f9)];by_cases ae:(decide (na-k<7)&&decide (nb-1-k2<7))=af
       ·rw[aV ae];exact bt (h9.b ⟨aq.k,aq.a,aq.p,aq.f⟩ ⟨_,by rw[ix,fU,fU],b4.1,b4.2.1,b4.2.2,by lia,by lia,by lia,by lia⟩ (by lia))
       ·rw[aZ ae];exact bt (rZ.k ⟨aq.k,aq.a,aq.p,aq.f⟩ ⟨_,by rw[ix,fU,fU],b4.1,b4.2.1,b4.2.2,by lia,by lia,by lia,by lia⟩ (by lia))
     ·rw[aZ yx];have dF:po.Perm (la.drop na++lb.drop nb)/\dn key (la.take na++po)/\dn key (lb.take nb++po):=⟨m.perm,m.sa,m.dC⟩;have tO:∀i,i<na->key (la.getD i 0)<=key (lb.getD (nb-1) 0):=λi a=>lo1 i (by lia) (by lia);refine bH (be (show nb-1<lb.length by lia) ?_);have bI:=yy (nb-1) (by lia) kA dF.1 dF.2.1 dF.2.2 (λx ag y aw=>by
       rw[jW (by lia) kA,c2]at ag;obtain⟨j,b6,dz,rfl⟩:=ma aw;have:=tO j b6;rw[ag];lia)
      rw[jW (by lia) kA]at bI;by_cases lg:nb-1=1
      ·rw[aV (gm lg)];exact bt (h9.a ⟨aq.k,aq.a,aq.p,aq.f⟩ (by rw[fU];exact vW bI.1 bI.2.1 bI.2.2 lg first))
      rw[aZ (gn lg)];refine bH (be (show na-1<la.length by lia) ?_);refine bH (yu av (l_ qL (show na-1<la.length by lia)) qM (base:=0) (m:=nb-1) (hint:=nb-1-1) (by lia) (by lia) (λi j a b c=>rY bI.2.2 b (by lia) (by lia)) (by exact aq.k.trans f6) ?_);intro k2 jV oE gc;dsimp only;by_cases mZ:nb-1-k2>0
      ·rw[aV mZ];have ck:=yy k2 (by lia) (show nb-1<=lb.length by lia) bI.1 bI.2.1 bI.2.2 (λx ag y aw=>by
        obtain⟨j,j0,b6,dz,rfl⟩:=G0 ag;obtain⟨k_,a1,a2,rfl⟩:=ma aw;have:=gc j (by lia) (by lia);have:=rY bI.2.1 (show k_<=na-1 by lia) (by lia) (by lia);lia)
       by_cases lh:k2=1
       ·rw[aV (gm lh)];exact bt (h9.a ⟨aq.k,aq.a,aq.p,aq.f⟩ (by rw[fU,ix];exact vW ck.1 ck.2.1 ck.2.2 lh first))
       rw[aZ (gn lh)];by_cases tQ:k2=0
       ·rw[aV (gm tQ)];exact bt (h9.a ⟨aq.k,aq.a,aq.p,aq.f⟩ (by rw[fU,ix];exact qN ck.1 ck.2.1 ck.2.2 (.inr tQ)))
       rw[aZ (gn tQ)];have lj:∀i,i<k2->key (lb.getD i 0)<key (la.getD (na-1) 0):=λi a=>oE i (by lia) (by lia);refine bH (be (show na-1<la.length by lia) ?_);have b4:=tP (na-1) (by lia) (show na<=la.length by lia) ck.1 ck.2.1 ck.2.2 (λx ag y aw=>by
        rw[jW (by lia) (show na<=la.length by lia),c2]at ag;obtain⟨j,b6,dz,rfl⟩:=ma aw;have:=lj j b6;rw[ag];lia)
       rw[jW (by lia) (show na<=la.length by lia)]at b4;by_cases f9:na-1=0
       ·rw[aV (gm f9)];exact bt (h9.a ⟨aq.k,aq.a,aq.p,aq.f⟩ (by rw[fU,ix,fU];exact qN b4.1 b4.2.1 b4.2.2 (.inl f9)))
       rw[aZ (gn f9)];by_cases ae:(decide (na-k<7)&&decide (nb-1-k2<7))=af
       ·rw[aV ae];exact bt (h9.b ⟨aq.k,aq.a,aq.p,aq.f⟩ ⟨_,by rw[fU,ix,fU],b4.1,b4.2.1,b4.2.2,by lia,by lia,by lia,by lia⟩ (by lia))
       ·rw[aZ ae];exact bt (rZ.k ⟨aq.k,aq.a,aq.p,aq.f⟩ ⟨_,by rw[fU,ix,fU],b4.1,b4.2.1,b4.2.2,by lia,by lia,by lia,by lia⟩ (by lia))
      ·rw[aZ mZ];have ck:=bI;have lj:∀i,i<nb-1->key (lb.getD i 0)<key (la.getD (na-1) 0):=λi a=>oE i (by lia) (by lia);refine bH (be (show na-1<la.length by lia) ?_);have b4:=tP (na-1) (by lia) (show na<=la.length by lia) ck.1 ck.2.1 ck.2.2 (λx ag y aw=>by
        rw[jW (by lia) (show na<=la.length by lia),c2]at ag;obtain⟨j,b6,dz,rfl⟩:=ma aw;have:=lj j b6;rw[ag];lia)
       rw[jW (by lia) (show na<=la.length by lia)]at b4;by_cases f9:na-1=0
       ·rw[aV (gm f9)];exact bt (h9.a ⟨aq.k,aq.a,aq.p,aq.f⟩ (by rw[fU,fU];exact qN b4.1 b4.2.1 b4.2.2 (.inl f9)))
       rw[aZ (gn f9)];by_cases ae:(decide (na-k<7)&&decide (nb-1-k2<7))=af
       ·rw[aV ae];exact bt (h9.b ⟨aq.k,aq.a,aq.p,aq.f⟩ ⟨_,by rw[fU,fU],b4.1,b4.2.1,b4.2.2,by lia,by lia,by lia,by lia⟩ (by lia))
       ·rw[aZ ae];exact bt (rZ.k ⟨aq.k,aq.a,aq.p,aq.f⟩ ⟨_,by rw[fU,fU],b4.1,b4.2.1,b4.2.2,by lia,by lia,by lia,by lia⟩ (by lia))
end
section
variable{prog:cc}{w:bN}{A:cj}{E:aj->aA->Prop}{bj:jM}{it:Array cw}{key:Nat->Int}{n:Nat}{s:aA}
theorem Xb{σ:Type}{M:jJ}{Q:PUnit->σ->aA->Prop}{st b1:σ}{s:aA}(h:Q ⟨⟩ b1 s):kasC M A E (set b1:StateT σ gK PUnit) Q st s:=by
 unfold kasC;rw[StateT.run_set];exact ba h
theorem G1{α:Type}:∀(l:List α) (arr:List α) (q j0 s0:Nat),q+l.length<=arr.length->q=s0+j0->((l.zipIdx j0).foldl (λ(a:Array α) (x:α×Nat)=>a.setIfInBounds (s0+x.2) x.1) arr.toArray)=(arr.take q++l++arr.drop (q+l.length)).toArray
 |[],arr,q,j0,s0,h,e=>by simp
 |x::l,arr,q,j0,s0,h,e=>by
  rw[eS]at h;rw[EN,qm];dsimp only;rw[<-e,Kl,G1 l (arr.set q x) (q+1) (j0+1) s0 (by rw[xE];lia) (by lia)];congr 1;have ay:(arr.set q x).take (q+1)=arr.take q++[x]:=by
   apply u9;intro i;rw[sQ,List.getElem?_append,ir,sQ,AO];by_cases O:i<q
   ·rw[aV (by lia),aZ (by lia),aV (by lia),aV O]
   ·by_cases U:i=q
    ·subst U;rw[aV (by lia),aV rfl,aV (by lia),aZ (by lia)];simp[show i-min i arr.length=0 by lia]
    ·rw[aZ (by lia),aZ (by lia)];rw[xA];rw[qk];lia
  have aG:(arr.set q x).drop (q+1+l.length)=arr.drop (q+(l.length+1)):=by
   apply u9;intro i;rw[ry,ry,AO,aZ (by lia)];congr 1;lia
  rw[ay,aG,eS,bY,bY,bY];rfl
theorem Nr{ll m1 po:List Nat}{k m:Nat}(mb:dn key ll)(sB:dn key m1)(ae:0<m1.length)(az:0<ll.length)(O:∀x∈ll.take k,key x<=key (m1.getD 0 0))(aU:∀x∈m1.drop m,key (ll.getD (ll.length-1) 0)<=key x)(aE:po.Perm (ll.drop k++m1.take m))(sp:dn key po):dn key (ll.take k++po++m1.drop m)/\(ll.take k++po++m1.drop m).Perm (ll++m1):=by
 have nK:∀y∈m1,key (m1.getD 0 0)<=key y:=λy aw=>by
  obtain⟨j,_,bx,rfl⟩:=ky (i:=0) (l:=m1) (by rwa [pe]);exact tI sB (lR _) bx
 have Xc:∀x∈ll,key x<=key (ll.getD (ll.length-1) 0):=λx ag=>by
  obtain⟨j,_,bx,rfl⟩:=ky (i:=0) (l:=ll) (by rwa [pe]);exact tI mb (by lia) (by lia)
 have Ck:dn key (ll.take k++ll.drop k):=by rwa [hr]
 have Cm:dn key (m1.take m++m1.drop m):=by rwa [hr]
 have Ck:=hC.mp Ck;have Cm:=hC.mp Cm;refine⟨hC.mpr ⟨hC.mpr ⟨Ck.1,sp,λx ag y aw=>?_⟩,Cm.2.1,λx ag y aw=>?_⟩,?_⟩
 ·rcases e3.mp (aE.mem_iff.mp aw) with aw|aw
  ·exact Ck.2.2 x ag y aw
  ·exact Fh (O x ag) (nK y<|rx aw)
 ·rcases e3.mp ag with ag|ag
  ·exact Fh (O x ag) (nK y<|pb aw)
  ·rcases e3.mp (aE.mem_iff.mp ag) with ag|ag
   ·exact Fh (Xc x<|pb ag) (aU y aw)
   ·exact Cm.2.2 x ag y aw
 ·refine (g8 _<|fK _ aE).trans ?_;rw[<-bY,hr,bY,hr]
theorem Xd(av:kx n key (iO prog w A bj it) s){lp:List Nat}(r0:∀x∈lp,x<n){i sa na nb pw pw2:Nat}{st:cL}(f6:PyProof.Rows.kindOf st=bj)(Xe:arrOf st=(lp.map<|cy it).toArray)(hf:kT st=aa)(ao:(hL st)[i]?=J (sa,na,pw))(bx:(hL st)[i+1]?=J (sa+na,nb,pw2))(az:0<na)(ae:0<nb)(hz:sa+na+nb<=lp.length)(mb:dn key ((lp.drop sa).take na))(sB:dn key ((lp.drop<|sa+na).take nb)){Q:Bool->cL->aA->Prop}(h:∀mid aK,PyProof.Rows.kindOf aK=bj->kT aK=aa->hL aK=((hL st).setIfInBounds i (sa,na+nb,pw)).eraseIdxIfInBounds (i+1)->mid.Perm ((lp.drop sa).take<|na+nb)->dn key mid->
   arrOf aK=((lp.take sa++mid++lp.drop (sa+(na+nb))).map<|cy it).toArray->Q af aK s):
  kasC (a' prog w) A E (Bu i) Q st s:=by
 have Nt:((lp.drop sa).take na).length=na:=by rw[ir,iu];lia
 have Xf:((lp.drop<|sa+na).take nb).length=nb:=by rw[ir,iu];lia
 have vY:∀j,j<na->((lp.drop sa).take na).getD j 0=lp.getD (sa+j) 0:=λj bx=>by simp[List.getD,sQ,ry,bx]
 have gtB:∀j,j<nb->((lp.drop<|sa+na).take nb).getD j 0=lp.getD (sa+na+j) 0:=λj bx=>by simp[List.getD,sQ,ry,bx]
 have Cn:(lp.drop sa).take na++(lp.drop<|sa+na).take nb=(lp.drop sa).take (na+nb):=by rw[<-sS,vS]
 have Co:lp.take sa++(lp.drop sa).take (na+nb)++lp.drop (sa+(na+nb))=lp:=by rw[vS,hr]
 have Nu:∀i j,sa<=i->i<=j->j<sa+na->key (lp.getD i 0)<=key (lp.getD j 0):=λi j a b c=>by
  have:=tI mb (i:=i-sa) (j:=j-sa) (by lia) (by lia)
  rwa [vY _ (by lia),vY _ (by lia),show sa+(i-sa)=i by lia,show sa+(j-sa)=j by lia]at this
 have Nv:∀i j,sa+na<=i->i<=j->j<sa+na+nb->key (lp.getD i 0)<=key (lp.getD j 0):=λi j a b c=>by
  have:=tI sB (i:=i-(sa+na)) (j:=j-(sa+na)) (by lia) (by lia)
  rwa [gtB _ (by lia),gtB _ (by lia),show sa+na+(i-(sa+na))=i by lia,show sa+na+(j-(sa+na))=j by lia]at this
 have kU:∀x∈(lp.drop sa).take na,∃j,sa<=j/\j<sa+na/\x=lp.getD j 0:=λx ag=>by
  obtain⟨j,j0,b6,rfl⟩:=tH ag;exact⟨sa+j,by lia,by lia,rfl⟩
 have Nw:∀x∈(lp.drop<|sa+na).take nb,∃j,sa+na<=j/\j<sa+na+nb/\x=lp.getD j 0:=λx ag=>by
  obtain⟨j,j0,b6,rfl⟩:=tH ag;exact⟨sa+na+j,by lia,by lia,rfl⟩
 unfold Bu;with_unfolding_all refine bH (mJ ?_);simp only[ao,bx,Xe];refine bH (Xb ?_);refine bH (be (show sa+na<lp.length by lia) ?_);refine bH (GL av (l_ r0 (show sa+na<lp.length by lia)) r0 (base:=sa) (m:=na) (hint:=0) (by lia) az Nu (by exact f6) ?_);intro k Cj lo1 vU;dsimp only;by_cases di:na-k=0
 ·rw[aV (by simpa using di)];refine bt (h _ _ (by exact f6) (by exact hf) rfl (List.Perm.refl _) ?_ ?_)
  ·rw[<-Cn];refine hC.mpr ⟨mb,sB,λx ag y aw=>?_⟩;obtain⟨j,b6,dz,rfl⟩:=kU x ag;obtain⟨k_,lq,m2,rfl⟩:=Nw y aw;have:=lo1 j b6 (by lia);have:=Nv (sa+na) k_ (by lia) lq m2;lia
  ·rw[Co]
 rw[aZ (by simpa using di)];rw[show sa+k+(na-k)-1=sa+na-1 by lia];refine bH (be (show sa+na-1<lp.length by lia) ?_);refine bH (yu av (l_ r0 (show sa+na-1<lp.length by lia)) r0 (base:=sa+na) (m:=nb) (hint:=nb-1) (by lia) (by lia) Nv (by exact f6) ?_);intro gz jV oE gc;dsimp only;by_cases eh:gz=0
 ·rw[aV (by simpa using eh)];refine bt (h _ _ (by exact f6) (by exact hf) rfl (List.Perm.refl _) ?_ ?_)
  ·rw[<-Cn];refine hC.mpr ⟨mb,sB,λx ag y aw=>?_⟩;obtain⟨j,b6,dz,rfl⟩:=kU x ag;obtain⟨k_,lq,m2,rfl⟩:=Nw y aw;have:=gc k_ (by lia) m2;have:=Nu j (sa+na-1) b6 (by lia) (by lia);lia
  ·rw[Co]
 rw[aZ (by simpa using eh)];have Xg:(lp.map<|cy it).toArray.extract (sa+k) (sa+na)=((((lp.drop sa).take na).drop k).map<|cy it).toArray:=by
  apply ph;simp only[Ks,List.extract_eq_drop_take,n7,mI];rw[xF,sS,show sa+na-(sa+k)=na-k by lia]
 have Xh:(lp.map<|cy it).toArray.extract (sa+na) (sa+na+gz)=((((lp.drop<|sa+na).take nb).take gz).map<|cy it).toArray:=by
  apply ph;simp only[Ks,List.extract_eq_drop_take,n7,mI];rw[AX,vb jV,show sa+na+gz-(sa+na)=gz by lia]
 rw[Xg,Xh];have O:∀x∈((lp.drop sa).take na).take k,key x<=key (((lp.drop<|sa+na).take nb).getD 0 0):=λx ag=>by
  rw[gtB 0 ae];obtain⟨j,j0,b6,rfl⟩:=ma ag;rw[vY j (by lia)];exact lo1 _ (by lia) (by lia)
 have aU:∀x∈((lp.drop<|sa+na).take nb).drop gz,key (((lp.drop sa).take na).getD (((lp.drop sa).take na).length-1) 0)<=key x:=λx ag=>by
  rw[Nt,vY _ (by lia)];obtain⟨j,j0,b6,rfl⟩:=ky ag;rw[gtB j (by lia),show sa+(na-1)=sa+na-1 by lia];exact gc _ (by lia) (by lia)
 have f1:∀x∈((lp.drop sa).take na).drop k,key ((((lp.drop<|sa+na).take nb).take gz).getD 0 0)<=key x:=λx ag=>by
  rw[show (((lp.drop<|sa+na).take nb).take gz).getD 0 0=((lp.drop<|sa+na).take nb).getD 0 0 by simp only[List.getD,sQ,aV (show 0<gz by lia)],gtB 0 ae];obtain⟨j,j0,b6,rfl⟩:=ky ag;rw[vY j (by lia)];have:=vU (sa+j) (by lia) (by lia);rw[A4];lia
 have ct:(((lp.drop sa).take na).drop k).length=na-k:=by rw[iu,Nt]
 have nB:(((lp.drop<|sa+na).take nb).take gz).length=gz:=by rw[ir,Xf];lia
 have f2:∀x∈((lp.drop<|sa+na).take nb).take gz,key x<=key ((((lp.drop sa).take na).drop k).getD ((((lp.drop sa).take na).drop k).length-1) 0):=λx ag=>by
  rw[ct,show (((lp.drop sa).take na).drop k).getD (na-k-1) 0=((lp.drop sa).take na).getD (na-1) 0 by simp only[List.getD,ry,show k+(na-k-1)=na-1 by lia],vY _ (by lia),show sa+(na-1)=sa+na-1 by lia];obtain⟨j,j0,b6,rfl⟩:=ma ag;rw[gtB j (by lia)];have:=oE (sa+na+j) (by lia) (by lia);lia
 have iy:∀x∈((lp.drop sa).take na).drop k,x<n:=λx ag=>r0 x (pb<|rx<|pb ag);have i6:∀x∈((lp.drop<|sa+na).take nb).take gz,x<n:=λx ag=>r0 x (pb<|rx<|rx ag);by_cases gA:na-k<=gz
 ·rw[aV gA];refine bH (W7 av iy i6 (mb.sublist<|AN _ _) (sB.sublist<|u6 _ _) (by lia) (by lia) f1 f2 (by exact f6) ?_);intro out aK ym qO;obtain⟨po,rfl,yB,G2⟩:=ym;have yC:=Nr (key:=key) mb sB (by lia) (by lia) O aU yB G2;refine bH (lQ ?_);refine bH (mJ ?_);refine bt ?_;have e:kT aK=aa:=qO.f.trans hf;show Q (kT aK).isNone _ s;rw[e];refine h (((lp.drop sa).take na).take k++po++((lp.drop<|sa+na).take nb).drop gz) _ (qO.k.trans f6) (by first|rfl|exact e) (by exact qO.p) (by rw[<-Cn];exact yC.2) yC.1 ?_;have iZ:arrOf aK=(lp.map<|cy it).toArray:=qO.a;have bW:po.length=na-k+gz:=by rw[yB.length_eq,eZ,ct,nB]
  have G3:=G1 (po.map<|cy it) (lp.map<|cy it) (sa+k) 0 (sa+k) (by rw[b3,b3,bW];lia) rfl;show List.foldl (λa x=>a.setIfInBounds (sa+k+x.2) x.1) (arrOf aK) (po.map<|cy it).toArray.toList.zipIdx=_;rw[iZ];refine G3.trans ?_;rw[b3,bW,<-mI,<-n7,<-jl,<-jl];congr 2;have bz:lp.take (sa+k)=lp.take sa++((lp.drop sa).take na).take k:=by
   rw[AX,vb Cj,vS]
  have cR:lp.drop (sa+k+(na-k+gz))=((lp.drop<|sa+na).take nb).drop gz++lp.drop (sa+(na+nb)):=by
   have:=GZ (l:=lp.drop (sa+na)) (i:=gz) (j:=nb) jV (by rw[iu];lia);rw[sS,sS]at this;rw[show sa+k+(na-k+gz)=sa+na+gz by lia,this,show sa+na+nb=sa+(na+nb) by lia]
  rw[bz,cR];simp only[bY]
 ·rw[aZ gA];refine bH (Xa av iy i6 (mb.sublist<|AN _ _) (sB.sublist<|u6 _ _) (by lia) (by lia) f1 f2 (by exact f6) ?_);intro out aK ym qO;obtain⟨po,rfl,yB,G2⟩:=ym;have yC:=Nr (key:=key) mb sB (by lia) (by lia) O aU yB G2;refine bH (lQ ?_);refine bH (mJ ?_);refine bt ?_;have e:kT aK=aa:=qO.f.trans hf;show Q (kT aK).isNone _ s;rw[e];refine h (((lp.drop sa).take na).take k++po++((lp.drop<|sa+na).take nb).drop gz) _ (qO.k.trans f6) (by first|rfl|exact e) (by exact qO.p) (by rw[<-Cn];exact yC.2) yC.1 ?_;have iZ:arrOf aK=(lp.map<|cy it).toArray:=qO.a;have bW:po.length=na-k+gz:=by rw[yB.length_eq,eZ,ct,nB]
  have G3:=G1 (po.map<|cy it) (lp.map<|cy it) (sa+k) 0 (sa+k) (by rw[b3,b3,bW];lia) rfl;show List.foldl (λa x=>a.setIfInBounds (sa+k+x.2) x.1) (arrOf aK) (po.map<|cy it).toArray.toList.zipIdx=_;rw[iZ];refine G3.trans ?_;rw[b3,bW,<-mI,<-n7,<-jl,<-jl];congr 2;have bz:lp.take (sa+k)=lp.take sa++((lp.drop sa).take na).take k:=by
   rw[AX,vb Cj,vS]
  have cR:lp.drop (sa+k+(na-k+gz))=((lp.drop<|sa+na).take nb).drop gz++lp.drop (sa+(na+nb)):=by
   have:=GZ (l:=lp.drop (sa+na)) (i:=gz) (j:=nb) jV (by rw[iu];lia);rw[sS,sS]at this;rw[show sa+k+(na-k+gz)=sa+na+gz by lia,this,show sa+na+nb=sa+(na+nb) by lia]
  rw[bz,cR];simp only[bY]
end
section
variable{prog:cc}{w:bN}{A:cj}{E:aj->aA->Prop}{bj:jM}{it:Array cw}{key:Nat->Int}{n:Nat}{s:aA}{pend:Array (Nat×Nat×Nat)}
structure hU(bj:jM)(it:Array cw)(pend:Array (Nat×Nat×Nat))(st:cL)(p:Array Nat):Prop where
 k:PyProof.Rows.kindOf st=bj
 a:arrOf st=p.map (cy it)
 p:hL st=pend
 f:kT st=aa
theorem yD(av:kx n key (iO prog w A bj it) s){p:Array Nat}(aE:eO n p){i j:Nat}(ao:i<n)(bx:j<n){st:cL}(H:hU bj it pend st p){Q:Option Bool->cL->aA->Prop}(h:Q (J<|decide (c1 key p i<c1 key p j)) st s):
  kasC (a' prog w) A E (ltAt' i j) Q st s:=by
 have rV:∀i,i<n->(p.map<|cy it)[i]?=J (cy it<|p.getD i 0):=λi ao=>by
  have:i<p.size:=by rw[aE.size];exact ao
  simp[Array.getD,this]
 rw[ltAt'_eq];refine bH (mJ ?_);rw[H.a];dsimp only;rw[A',A',rV i ao,rV j bx];refine bH (bt ?_);refine bH (bt ?_);exact ys av (aE.lt ao) (aE.lt bx) H.k h
variable{p:Array Nat}
theorem Xi{st:cL}(H:hU bj it pend st p){i j:Nat}{Q:Unit->cL->aA->Prop}(h:∀aK,hU bj it pend aK (vr p i j)->Q () aK s):kasC (a' prog w) A E (reverseSlice' i j) Q st s:=by
 rw[reverseSlice'_eq];refine lQ (h _ ⟨H.k,?_,H.p,H.f⟩);show mirror (arrOf st) i j ((j-i)/2)=_;rw[H.a];exact KN (cy it) (λk=>i+k) (λk=>j-1-k) _ p
theorem Xj{st:cL}(H:hU bj it pend st p){i j:Nat}{Q:Unit->cL->aA->Prop}(h:∀aK,hU bj it pend aK (xX p i<|i-j)->Q () aK s):kasC (a' prog w) A E (moveDown' i j) Q st s:=by
 rw[moveDown'_eq];refine lQ (h _ ⟨H.k,?_,H.p,H.f⟩);show xX (arrOf st) i (i-j)=_;rw[H.a];exact KN (cy it) (λk=>i-k) (λk=>i-k-1) _ p
theorem yE{σ β:Type}{M:jJ}{f:Nat->β->StateT σ gK (ForInStep β)}{Q:β->σ->aA->Prop}(I:Nat->β->σ->aA->Prop)(B:Nat)(step:∀x c st s',x<B->I x c st s'->kasC M A E (f x c) (λr b1 s2=>match r with | .yield c'=>I (x+1) c' b1 s2 | .done c'=>Q c' b1 s2) st s'):∀(m a:Nat) (c:β) (st:σ) (s':aA),a+m<=B->(∀c st s',I (a+m) c st s'->Q c st s')->I a c st s'->
   kasC M A E (forIn (range' a m) c f) Q st s'
 |0,a,c,st,s',ef,fin,h=>by
  show kasC M A E (forIn ([]:List Nat) c f) Q st s';exact kasC_nil (fin c st s' h)
 |m+1,a,c,st,s',ef,fin,h=>by
  show kasC M A E (forIn (a::range' (a+1) m) c f) Q st s';refine kasC_cons (ip (step a c st s' (by lia) h) (λr s2 h'=>?_) λ_ _ e=>e);obtain⟨r,b1⟩:=r;cases r with
  |done c'=>exact h'
  |yield c'=>exact yE I B step m (a+1) c' b1 s2 (by lia) (λc st s' ao=>fin c st s' (by rw[show a+(m+1)=a+1+m by lia];exact ao)) h'
theorem Xk(av:kx n key (iO prog w A bj it) s)(inj:∀i j,i<n->j<n->key i=key j->i=j){p:Array Nat}(aE:eO n p){lo jv:Nat}(O:1<=jv)(hz:lo+jv<=n){st:cL}(H:hU bj it pend st p){Q:Option Nat->cL->aA->Prop}(h:∀m eu aK,1<=m->m<=jv->eO n eu->hU bj it pend aK eu->(∀i,i<lo->eu[i]?=p[i]?)->(∀j,lo+1<=j->j<lo+m->c1 key eu (j-1)<=c1 key eu j)->Q (J m) aK s):
  kasC (a' prog w) A E (countRun' lo jv) Q st s:=by
 unfold countRun';have asc:∀(q:Array Nat) (cb:cL) (a:Nat),eO n q->hU bj it pend cb q->1<=a->a<=jv->(∀j,lo+1<=j->j<lo+a->c1 key q (j-1)<=c1 key q j)->
   kasC (a' prog w) A E (forIn [a:jv] ((aa:Option (Option Nat)),a) λx c=>do
    let r <-ltAt' (lo+c.2) (lo+c.2-1)
    match r with
    |some Xl=>if Xl=af then pure (ForInStep.done (aa,c.2)) else pure (ForInStep.yield (aa,c.2+1))
    |x=>pure<|ForInStep.done (J aa,c.2))
    (λc aK s'=>s=s'/\cb=aK/\∃m,c=(aa,m)/\a<=m/\m<=jv/\(∀j,lo+1<=j->j<lo+m->c1 key q (j-1)<=c1 key q j)/\(m=jv\/c1 key q (lo+m)<c1 key q (lo+m-1))) cb s:=λq cb a bk H1 a1 a2 pM=>by
  refine hJ (yE (λx c aK s'=>s=s'/\cb=aK/\c=(aa,x)/\a<=x/\∀j,lo+1<=j->j<lo+x->c1 key q (j-1)<=c1 key q j) jv ?_ _ _ _ _ _ (by lia) ?_ ⟨rfl,rfl,rfl,cp _,pM⟩)
  ·rintro x c aK s' ag ⟨rfl,rfl,rfl,h8,i7⟩;dsimp only;refine bH (yD av bk (by lia) (by lia) H1 ?_);dsimp only;by_cases aY:c1 key q (lo+x)<c1 key q (lo+x-1)
   ·rw[aV (by simpa using aY)];exact bt ⟨rfl,rfl,x,rfl,h8,by lia,i7,.inr aY⟩
   ·rw[aZ (by simpa using aY)];refine bt ⟨rfl,rfl,rfl,by lia,λj b6 dz=>?_⟩;by_cases e:j=lo+x
    ·subst e;lia
    ·exact i7 j b6 (by lia)
  ·rintro c aK s' ⟨rfl,rfl,rfl,h8,i7⟩;rw[show a+(jv-a)=jv by lia]at i7 ⊢;exact⟨rfl,rfl,jv,rfl,by lia,cp _,i7,.inl rfl⟩
 with_unfolding_all refine bH (kz (asc p st 1 aE H (cp _) O λj a b=>by lia) ?_);rintro c aK s' ⟨rfl,rfl,m,rfl,d8,dS,jX,kA⟩;dsimp only;by_cases e:m=jv
 ·rw[aV (by simpa using e)];exact bt (h m p _ d8 dS aE H (λ_ _=>rfl) jX)
 rw[aZ (by simpa using e)];have G4:c1 key p (lo+m)<c1 key p (lo+m-1):=kA.resolve_left e;by_cases ay:m>1
 ·rw[aV ay];refine bH (yD av aE (by lia) (by lia) H ?_);dsimp only;have:∀d,1<=d->d<m->c1 key p lo<c1 key p (lo+d):=λd=>by
   induction d with
   |zero=>intro x;lia
   |succ d bS=>
    intro _ hd;have a:=jX (lo+(d+1)) (by lia) (by lia);rw[show lo+(d+1)-1=lo+d by lia]at a;have b:=aE.ne inj (show lo+d<lo+(d+1) by lia) (by lia);by_cases z:d=0
    ·subst z;rw[A4]at a b;lia
    ·have:=bS (by lia) (by lia);lia
  have aO:=this (m-1) (by lia) (by lia);rw[show lo+(m-1)=lo+m-1 by lia]at aO;rw[aV (by simpa using aO)];exact bt (h m p _ d8 dS aE H (λ_ _=>rfl) jX)
 rw[aZ ay];obtain rfl:m=1:=by lia
 refine bH (sW<|mF ?_);refine bH (kz (Q':=λc aK s'=>s=s'/\st=aK/\∃m,c=(aa,m,0)/\2<=m/\m<=jv/\∀j,lo+1<=j->j<lo+m->c1 key p j<c1 key p (j-1))
  (hJ (yE (λx c aK s'=>s=s'/\st=aK/\c=(aa,x,0)/\2<=x/\∀j,lo+1<=j->j<lo+x->c1 key p j<c1 key p (j-1)) jv ?cS _ _ _ _ _ (by lia) ?cM ⟨rfl,rfl,rfl,cp _,λj b6 dz=>by
   obtain rfl:j=lo+1:=by lia
   exact G4⟩)) ?qP)
 case cS=>
  rintro x c aK s' ag ⟨rfl,rfl,rfl,h8,i7⟩;dsimp only;refine bH (yD av aE (by lia) (by lia) H ?_);dsimp only;by_cases aY:c1 key p (lo+x)<c1 key p (lo+x-1)
  ·rw[aV (by simpa using aY),aZ (by lia)];refine bt ⟨rfl,rfl,rfl,by lia,λj b6 dz=>?_⟩;by_cases e:j=lo+x
   ·subst e;exact aY
   ·exact i7 j b6 (by lia)
  ·rw[aZ (by simpa using aY)];refine bH (yD av aE (by lia) (by lia) H ?_);dsimp only;have b:=aE.ne inj (show lo+x-1<lo+x by lia) (by lia);rw[aV (by rw[x1];lia)];exact bt ⟨rfl,rfl,x,rfl,h8,by lia,i7⟩
 case cM=>
  rintro c aK s' ⟨rfl,rfl,rfl,h8,i7⟩;rw[show 1+1+(jv-(1+1))=jv by lia]at i7 ⊢;exact⟨rfl,rfl,jv,rfl,by lia,cp _,i7⟩
 case qP=>
  rintro c aK s' ⟨rfl,rfl,k,rfl,k1,k2,k3⟩;dsimp only;rw[aZ (by lia)];refine bH (Xi H ?_);intro b1 a6;have qJ:=aE.rev lo (lo+k);have g:∀i,(vr p lo<|lo+k)[i]?=if lo<=i/\i<lo+k then p[lo+(lo+k)-1-i]? else p[i]?:=λi=>by
   unfold vr;rw[getElem?_mirror_all (by rw[aE.size];lia)]
  have bO:∀i,lo<=i->i<lo+k->c1 key (vr p lo<|lo+k) i=c1 key p (lo+(lo+k)-1-i):=λi a b=>vR (by rw[g,aV ⟨a,b⟩]);refine bH (kz (asc (vr p lo<|lo+k) b1 k qJ a6 (by lia) k2 λj b6 dz=>?_) ?_)
  ·rw[bO _ (by lia) (by lia),bO _ (by lia) (by lia)];have:=k3 (lo+(lo+k)-1-(j-1)) (by lia) (by lia);rw[show lo+(lo+k)-1-(j-1)-1=lo+(lo+k)-1-j by lia]at this;lia
  ·rintro c aK s' ⟨rfl,rfl,e6,rfl,bz,cR,ed,hR⟩;dsimp only;exact bt (h e6 _ _ (by lia) cR qJ a6 (λi ao=>by rw[g,aZ (by lia)]) ed)
end
section
variable{prog:cc}{w:bN}{A:cj}{E:aj->aA->Prop}{bj:jM}{it:Array cw}{key:Nat->Int}{n:Nat}{s:aA}{pend:Array (Nat×Nat×Nat)}
noncomputable def lr(key:Nat->Int)(p:Array Nat)(lo m:Nat):Prop:=∀i j,lo<=i->i<=j->j<lo+m->c1 key p i<=c1 key p j
theorem Nx{p:Array Nat}{lo m:Nat}(h:∀j,lo+1<=j->j<lo+m->c1 key p (j-1)<=c1 key p j):lr key p lo m:=by
 intro i j ao i2 bx;obtain⟨d,rfl⟩:∃d,j=i+d:=⟨j-i,by lia⟩;clear i2;induction d with
 |zero=>exact vg _
 |succ d bS=>
  have a:=bS (by lia);have b:=h (i+(d+1)) (by lia) bx;rw[show i+(d+1)-1=i+d by lia]at b;lia
theorem Xm(av:kx n key (iO prog w A bj it) s){p:Array Nat}(aE:eO n p){lo m r1:Nat}(hz:lo+m<=n)(O:1<=r1)(hm:r1<=m)(up:lr key p lo r1){st:cL}(H:hU bj it pend st p){Q:Bool->cL->aA->Prop}(h:∀eu aK,eO n eu->hU bj it pend aK eu->(∀i,i<lo->eu[i]?=p[i]?)->lr key eu lo m->Q af aK s):
  kasC (a' prog w) A E (binarySort' lo m r1) Q st s:=by
 rw[binarySort'_eq];rw[show max r1 1=r1 by lia];with_unfolding_all refine bH (kz (Q':=λc aK s'=>s=s'/\c=(aa,())/\∃q,eO n q/\hU bj it pend aK q/\(∀i,i<lo->q[i]?=p[i]?)/\lr key q lo m)
  (hJ (yE (λx c aK s'=>s=s'/\c=(aa,())/\1<=x/\∃q,eO n q/\hU bj it pend aK q/\(∀i,i<lo->q[i]?=p[i]?)/\lr key q lo x) m ?step _ _ _ _ _ (by lia) ?fin ⟨rfl,rfl,O,p,aE,H,λ_ _=>rfl,up⟩)) ?after)
 case after=>
  rintro c aK s' ⟨rfl,rfl,q,bz,cR,ed,hR⟩;exact bt (h q _ bz cR ed hR)
 case fin=>
  rintro c aK s' ⟨rfl,rfl,h8,q,bz,cR,ed,hR⟩;rw[show r1+(m-r1)=m by lia]at hR;exact⟨rfl,rfl,q,bz,cR,ed,hR⟩
 case step=>
  rintro k c aK s' aY ⟨rfl,rfl,k1,q,bk,ak,fr,up⟩;dsimp only;have Xn:∀i,lo<=i->i<lo+0->c1 key q i<=c1 key q (lo+k):=λi a b=>by lia
  have Xo:∀i,lo+k<=i->i<lo+k->c1 key q (lo+k)<=c1 key q i:=λi a b=>by lia
  refine bH (kz (Q':=λc b1 s'=>s=s'/\aK=b1/\∃l r,c=(aa,l,r)/\l<=k/\(∀i,lo<=i->i<lo+l->c1 key q i<=c1 key q (lo+k))/\(∀i,lo+l<=i->i<lo+k->c1 key q (lo+k)<=c1 key q i))
   (hJ (yE (λx c b1 s'=>s=s'/\aK=b1/\∃l r,c=(aa,l,r)/\l<=r/\r<=k/\r-l<=k-x/\(∀i,lo<=i->i<lo+l->c1 key q i<=c1 key q (lo+k))/\(∀i,lo+r<=i->i<lo+k->c1 key q (lo+k)<=c1 key q i)) k ?s2 _ _ _ _ _ (by lia) ?f2 ⟨rfl,rfl,0,k,rfl,by lia,by lia,by lia,Xn,Xo⟩)) ?a2)
  case f2=>
   rintro c b1 s' ⟨rfl,rfl,l,r,rfl,cO,d1,Xp,vZ,v3⟩;exact⟨rfl,rfl,l,r,rfl,by lia,vZ,λi x y=>v3 i (by lia) y⟩
  case s2=>
   rintro x c b1 s' ag ⟨rfl,rfl,l,r,rfl,cO,d1,Xp,vZ,v3⟩;dsimp only;by_cases e:l >= r
   ·rw[aV e];exact bt ⟨rfl,rfl,l,r,rfl,by lia,vZ,λi x y=>v3 i (by lia) y⟩
   rw[aZ e];have d8:l<=(l+r)/2:=by lia
   have dS:(l+r)/2<r:=by lia
   have jX:(l+r)/2-l<=k-(x+1):=by lia
   have kA:r-((l+r)/2+1)<=k-(x+1):=by lia
   generalize (l+r)/2=mid at d8 dS jX kA ⊢;refine bH (yD av bk (by lia) (by lia) ak ?_);dsimp only;by_cases jV:c1 key q (lo+k)<c1 key q (lo+mid)
   ·rw[aV (by simpa using jV)];refine bt ⟨rfl,rfl,l,mid,rfl,d8,by lia,jX,vZ,λi x y=>?_⟩;have:=up (lo+mid) i (by lia) x y;lia
   ·rw[aZ (by simpa using jV)];refine bt ⟨rfl,rfl,mid+1,r,rfl,by lia,d1,kA,λi x y=>?_,v3⟩;have:=up i (lo+mid) x (by lia) (by lia);lia
  case a2=>
   rintro c b1 s' ⟨rfl,rfl,l,r,rfl,cO,vZ,v3⟩;dsimp only;refine bH (Xj ak ?_);intro fS cY;have g:∀i,(xX q (lo+k)<|lo+k-(lo+l))[i]?=if i=lo+l then q[lo+k]? else if lo+l<i/\i<=lo+k then q[i-1]? else q[i]?:=λi=>by
    have:=getElem?_bubble (xs:=q) (src:=lo+k) (by rw[bk.size];lia) (lo+k-(lo+l)) (by lia) i
    rwa [show lo+k-(lo+k-(lo+l))=lo+l by lia]at this
   have bO:∀i,c1 key (xX q (lo+k)<|lo+k-(lo+l)) i=if i=lo+l then c1 key q (lo+k) else if lo+l<i/\i<=lo+k then c1 key q (i-1) else c1 key q i:=λi=>by
    have g:=g i;by_cases e:i=lo+l
    ·rw[aV e]at g ⊢;exact vR g
    ·rw[aZ e]at g ⊢;by_cases aG:lo+l<i/\i<=lo+k
     ·rw[aV aG]at g ⊢;exact vR g
     ·rw[aZ aG]at g ⊢;exact vR g
   refine bt ⟨rfl,rfl,by lia,_,bk.W3 _ _,cY,λi ao=>by rw[g,aZ (by lia),aZ (by lia)];exact fr i ao,Nx λj x y=>?_⟩;rw[bO,bO];by_cases di:j-1=lo+l
   ·rw[aV di,aZ (by lia),aV (by lia)];exact v3 (j-1) (by lia) (by lia)
   ·rw[aZ di];by_cases eh:j=lo+l
    ·rw[aV eh,aZ (by lia)];exact vZ (j-1) (by lia) (by lia)
    ·rw[aZ eh];by_cases gA:lo+l<j-1
     ·rw[aV (by lia),aV (by lia)];exact up _ _ (by lia) (by lia) (by lia)
     ·rw[aZ (by lia),aZ (by lia)];exact up _ _ (by lia) (by lia) (by lia)
end
section
variable{prog:cc}{w:bN}{A:cj}{E:aj->aA->Prop}{bj:jM}{it:Array cw}{key:Nat->Int}{n:Nat}{s:aA}{pend:Array (Nat×Nat×Nat)}
noncomputable def fG(key:Nat->Int)(p:Array Nat):Nat->List (Nat×Nat×Nat)->Nat->Prop
 |a,[],b=>a=b
 |a,(x,l,_)::t,b=>x=a/\0<l/\lr key p x l/\fG key p (a+l) t b
variable{p:Array Nat}
theorem fG.le:∀{t:List (Nat×Nat×Nat)}{a b:Nat},fG key p a t b->a+t.length<=b
 |[],a,b,h=>by rw[show b=a from h.symm];exact cp _
 | (x,l,_)::t,a,b,h=>by
  have:=h.2.2.2.le;have:=h.2.1;rw[eS];lia
theorem fG.congr{q:Array Nat}:∀{t:List (Nat×Nat×Nat)}{a b:Nat},fG key p a t b->(∀i,a<=i->i<b->c1 key q i=c1 key p i)->fG key q a t b
 |[],a,b,h,_=>h
 | (x,l,_)::t,a,b,h,g=>by
  have:=h.2.2.2.le;obtain⟨rfl,U,aL,aU⟩:=h;refine⟨rfl,U,λi j ao i2 bx=>?_,aU.congr λi a b=>g i (by lia) b⟩;rw[g i ao (by lia),g j (by lia) (by lia)];exact aL i j ao i2 bx
theorem fG.app{p:Array Nat}:∀{t u:List (Nat×Nat×Nat)}{a b:Nat},fG key p a (t++u) b↔∃c,fG key p a t c/\fG key p c u b
 |[],u,a,b=>⟨λh=>⟨a,rfl,h⟩,λ⟨c,e,h⟩=>by rw[show a=c from e];exact h⟩
 | (x,l,z)::t,u,a,b=>by
  show (x=a/\0<l/\lr key p x l/\fG key p (a+l) (t++u) b)↔_;rw[fG.app];constructor
  ·rintro⟨O,U,aL,c,aU,c0⟩;exact⟨c,⟨O,U,aL,aU⟩,c0⟩
  ·rintro⟨c,⟨O,U,aL,aU⟩,c0⟩;exact⟨O,U,aL,c,aU,c0⟩
theorem Xq{α:Type}{l:List α}{i:Nat}(h:i+1<l.length):∃b' x y ct,l=b'++x::y::ct/\b'.length=i:=by
 refine⟨l.take i,l[i]'(by lia),l[i+1],l.drop<|i+2,?_,by rw[ir];lia⟩;have ay:=qj (l:=l) (i:=i) (by lia);have aG:=qj (l:=l) (i:=i+1) h;rw[<-aG,<-ay,hr]
theorem Cp(l:List Nat)(i:Nat):c1 key l.toArray i=key (l.getD i 0):=by unfold c1;rw[qK]
theorem G5(av:kx n key (iO prog w A bj it) s){p:Array Nat}(aE:eO n p){st:cL}(H:hU bj it pend st p){lo i:Nat}(ao:i+1<pend.size)(R:fG key p 0 pend.toList lo)(Wg:lo<=n){Q:Bool->cL->aA->Prop}(h:∀qQ eu aK,eO n eu->hU bj it qQ aK eu->qQ.size+1=pend.size->fG key eu 0 qQ.toList lo->(∀i,lo<=i->c1 key eu i=c1 key p i)->Q af aK s):kasC (a' prog w) A E (Bu i) Q st s:=by
 obtain⟨b',⟨sa,na,pw⟩,⟨dC,nb,pw2⟩,ct,e,rfl⟩:=Xq (l:=pend.toList) (i:=i) (by simpa using ao);rw[e]at R;obtain⟨c,dr,rfl,Xr,v5,rfl,Xs,qR,cI⟩:=fG.app.mp R;have d1:=cI.le;have v7:pend=(b'++(sa,na,pw)::(sa+na,nb,pw2)::ct).toArray:=by rw[<-e]
 have Xt:p.size=n:=aE.size;have Xu:∀x∈p.toList,x<n:=λx ag=>iK.mp (aE.mem_iff.mp ag);have kB:∀i,c1 key p i=key (p.toList.getD i 0):=λi=>Cp p.toList i;have bW:p.toList.length=n:=by rw[eT,Xt]
 have Ny:∀a m,a+m<=n->lr key p a m->dn key ((p.toList.drop a).take m):=λa m hz h=>by
  refine sN.mpr λi j ao bx i2=>?_;have hT:=ao;have r2:=bx;rw[ir,iu,bW]at hT r2;have:=h (a+i) (a+j) (by lia) (by lia) (by lia);rw[kB,kB]at this;rw[AM,u7,AM,u7];rw[du,du,fg (by lia),fg (by lia)]at this;exact this
 refine Xd av (lp:=p.toList) Xu (i:=b'.length) (sa:=sa) (na:=na) (nb:=nb) (pw:=pw) (pw2:=pw2) H.k (by rw[H.a];apply ph;simp) H.f (by rw[H.p,v7];simp) (by rw[H.p,v7];simp) Xr Xs (by lia) (Ny _ _ (by lia) v5) (Ny _ _ (by lia) qR) ?_;intro mid aK k1 f1 dF d8 dS a1;have Cq:mid.length=na+nb:=by rw[d8.length_eq,ir,iu,bW];lia
 have Co:p.toList.take sa++(p.toList.drop sa).take (na+nb)++p.toList.drop (sa+(na+nb))=p.toList:=by rw[vS,hr]
 have qJ:eO n (p.toList.take sa++mid++p.toList.drop (sa+(na+nb))).toArray:=by
  show (p.toList.take sa++mid++p.toList.drop (sa+(na+nb))).Perm (range n);refine List.Perm.trans (g8 _<|fK _ d8) ?_;rw[Co];exact aE
 have js:(p.toList.take sa).length=sa:=by rw[ir,bW];lia
 have Xv:∀i,i<sa->c1 key (p.toList.take sa++mid++p.toList.drop (sa+(na+nb))).toArray i=c1 key p i:=λi ao=>by
  rw[Cp,kB];congr 1;rw[du,du,bY,qi (by lia),sQ,aV ao]
 have Nz:∀i,sa+(na+nb)<=i->c1 key (p.toList.take sa++mid++p.toList.drop (sa+(na+nb))).toArray i=c1 key p i:=λi ao=>by
  rw[Cp,kB];congr 1;rw[du,du,qh (by rw[eZ];lia),ry,eZ,js,Cq];congr 2;lia
 have NA:∀i,sa<=i->i<sa+(na+nb)->c1 key (p.toList.take sa++mid++p.toList.drop (sa+(na+nb))).toArray i=key (mid.getD (i-sa) 0):=λi O U=>by
  rw[Cp];congr 1;rw[du,du,bY,qh (by lia),js,qi (by lia)]
 have Xw:((b'++(sa,na,pw)::(sa+na,nb,pw2)::ct).toArray.setIfInBounds b'.length (sa,na+nb,pw)).eraseIdxIfInBounds (b'.length+1)=(b'++(sa,na+nb,pw)::ct).toArray:=by
  rw[Kl,List.set_append_right _ _<|cp _,EY,List.set_cons_zero];rw[Kk,List.eraseIdx_append_of_length_le (by lia),show b'.length+1-b'.length=1 by lia];rfl
 refine h ((b'++(sa,na+nb,pw)::ct).toArray) _ aK qJ ⟨k1,by rw[a1];apply ph;simp,by rw[dF,H.p,v7,Xw],f1⟩ (by rw[v7];simp;lia) ?_ (λi ao=>Nz i (by lia));have Xx:fG key p (sa+(na+nb)) ct lo:=by rw[<-xJ];exact cI
 refine fG.app.mpr ⟨sa,dr.congr λi _ b=>Xv i b,rfl,by lia,λi j O U aL=>?_,Xx.congr λi a b=>Nz i a⟩
 ·rw[NA i O (by lia),NA j (by lia) aL];exact tI dS (by lia) (by lia)
end
section
variable{prog:cc}{w:bN}{A:cj}{E:aj->aA->Prop}{bj:jM}{it:Array cw}{key:Nat->Int}{n:Nat}{s:aA}{pend:Array (Nat×Nat×Nat)}
variable{p:Array Nat}
theorem fG.same:∀{t u:List (Nat×Nat×Nat)}{a b:Nat},fG key p a t b->(t.map λx=>(x.1,x.2.1))=(u.map λx=>(x.1,x.2.1))->fG key p a u b
 |[],[],a,b,h,_=>h
 |[],_::_,a,b,h,e=>by cases e
 |_::_,[],a,b,h,e=>by cases e
 | (x,l,z)::t,(mW,tR,l1)::u,a,b,h,e=>by
  rw[dQ,dQ]at e;injection e with ay aG;injection ay with bT eH;dsimp only at bT eH;subst bT;subst eH;exact⟨h.1,h.2.1,h.2.2.1,h.2.2.2.same aG⟩
theorem NB(xs:Array (Nat×Nat×Nat))(i z:Nat):(xs.toList.map λx=>(x.1,x.2.1))=((xs.modify i λx=>(x.1,x.2.1,z)).toList.map λx=>(x.1,x.2.1)):=by
 apply u9;intro j;rw[gJ,gJ,gV,gV,Array.getElem?_modify];split
 ·rw[Option.map_map];rfl
 ·rfl
theorem lr.congr{q:Array Nat}{lo m:Nat}(h:lr key p lo m)(g:∀i,lo<=i->c1 key q i=c1 key p i):lr key q lo m:=λi j a b c=>by
 rw[g i a,g j (by lia)];exact h i j a b c
variable{Q:Unit->cL->aA->Prop}
theorem Xy(av:kx n key (iO prog w A bj it) s)(inj:∀i j,i<n->j<n->key i=key j->i=j)(U:2<=n)(G6:∀eu aK,eO n eu->k' key eu n->arrOf aK=eu.map (cy it)->kT aK=aa->Q () aK s):kasC (a' prog w) A E sortRuns' Q (Bw bj it (range n).toArray) s:=by
 rw[sortRuns'_eq];refine bH (mJ ?_);dsimp only;have hsz:(arrOf<|Bw bj it (range n).toArray).size=n:=by
  show ((range n).toArray.map<|cy it).size=n;simp
 simp only[hsz];refine bH (kz (Q':=λc aK s'=>s=s'/\c=(aa,n)/\∃pend p,eO n p/\hU bj it pend aK p/\fG key p 0 pend.toList n)
  (hJ (i3 (λx c aK s'=>s=s'/\∃lo pend p,c=(aa,lo)/\x<=lo/\lo<=n/\eO n p/\hU bj it pend aK p/\fG key p 0 pend.toList lo) ?step _ 0 _ _ _ ?fin ⟨rfl,0,#[],(range n).toArray,rfl,cp _,by lia,List.Perm.refl _,⟨rfl,rfl,rfl,rfl⟩,rfl⟩)) ?after)
 case fin=>
  rintro c aK s' ⟨rfl,lo,pend,p,rfl,a,b,d,e,f⟩;have:lo=n:=by lia
  subst this;exact⟨rfl,rfl,pend,p,d,e,f⟩
 case after=>
  rintro c aK s' ⟨rfl,rfl,pend,p,aE,H,R⟩;dsimp only;refine bH (kz (Q':=λc aK s'=>s=s'/\c=(aa,())/\∃p,eO n p/\k' key p n/\arrOf aK=p.map (cy it)/\kT aK=aa)
   (hJ (i3 (λx c aK s'=>s=s'/\c=(aa,())/\∃pend p,eO n p/\hU bj it pend aK p/\fG key p 0 pend.toList n/\pend.size+x<=n) ?s2 _ 0 _ _ _ ?f2 ⟨rfl,rfl,pend,p,aE,H,R,by have:=R.le;rw[eT]at this;lia⟩)) ?a2)
  case a2=>
   rintro c aK s' ⟨rfl,rfl,p,a,b,c,d⟩;exact bt (G6 p _ a b c d)
  case f2=>
   rintro c aK s' ⟨rfl,rfl,pend,p,aE,H,R,ag⟩;have e:pend.toList=[]:=xy (by rw[eT];lia);rw[e]at R;have:0=n:=R;lia
  case s2=>
   rintro x c aK s' ⟨rfl,rfl,pend,p,aE,H,R,ag⟩;refine bH (mJ ?_);by_cases e:(hL aK).size<=1
   ·rw[aV e];refine bt ⟨rfl,rfl,p,aE,?_,H.a,H.f⟩;rw[H.p]at e;have rV:pend.toList.length<=1:=by rw[eT];exact e
    match aF:pend.toList,rV with
    |[],_=>
     rw[aF]at R;have:0=n:=R;lia
    |[(x,l,z)],_=>
     rw[aF]at R;obtain⟨rfl,_,pM,l'⟩:=R;have:0+l=n:=l';exact λi j i2 bx=>pM i j (lR _) i2 (by lia)
    |_::_::_,h=>exact absurd h (by simp)
   ·rw[aZ e];rw[H.p]at e;have Xz:∀idx,idx+1<pend.size->kasC (a' prog w) A E (Bu idx) (λb b1 s2=>b=af/\s=s2/\∃pend p,eO n p/\hU bj it pend b1 p/\fG key p 0 pend.toList n/\pend.size+(x+1)<=n) aK s:=λidx XA=>
     G5 av aE H XA R (cp _) λqQ eu NC a b c d fr=>⟨rfl,rfl,qQ,eu,a,b,d,by lia⟩;refine bH (kz (Xz _ ?_) ?_)
    ·rw[H.p];have:∀(c:Prop) [Decidable c],(if c then pend.size-2-1 else pend.size-2)+1<pend.size:=λc _=>by split<;>lia
     exact this _
    ·rintro b b1 s2 ⟨rfl,rfl,dD⟩;rw[aZ (by decide)];exact bt ⟨rfl,rfl,dD⟩
 case step=>
  rintro x c aK s' ⟨rfl,lo,pend,p,rfl,h8,i7,aE,H,R⟩;dsimp only;by_cases di:lo >= n
  ·rw[aV di];have:lo=n:=by lia
   subst this;exact bt ⟨rfl,rfl,pend,p,aE,H,R⟩
  rw[aZ di];refine bH (Xk av inj aE (by lia) (by lia) H ?_);intro m dF cb d8 dS qS H1 XB v5;have v5:=Nx v5;have dr:fG key dF 0 pend.toList lo:=R.congr λi _ b=>vR (XB i b);dsimp only;by_cases eh:m<Bv n n 0
  ·rw[aV eh];refine bH (sW<|mF ?_);have ND:m<=min (n-lo) (Bv n n 0):=by lia
   have XC:min (n-lo) (Bv n n 0)<=n-lo:=by lia
   generalize min (n-lo) (Bv n n 0)=v8 at ND XC ⊢;refine bH (Xm av qS (by lia) d8 ND v5 H1 ?_);intro bI b1 mU a6 XD qR;have cI:fG key bI 0 pend.toList lo:=dr.congr λi _ b=>vR (XD i b);rw[aZ (by decide)];refine bH (mJ ?_);rcases XE:(hL b1).back? with _|⟨s1,jY,dG⟩
   ·dsimp only;refine bH (lQ ?_);refine bt ⟨rfl,lo+v8,pend.push (lo,v8,0),bI,rfl,by lia,by lia,mU,⟨a6.k,a6.a,by show (hL b1).push _=_;rw[a6.p],a6.f⟩,?_⟩;rw[xN];exact fG.app.mpr ⟨lo,cI,rfl,by lia,qR,rfl⟩
   ·dsimp only;refine bH (kz (Q':=λc aK s'=>s=s'/\c=(aa,())/\∃pend p,eO n p/\hU bj it pend aK p/\fG key p 0 pend.toList lo/\lr key p lo (v8))
     (hJ<|i3 (λx c aK s'=>s=s'/\c=(aa,())/\∃pend p,eO n p/\hU bj it pend aK p/\fG key p 0 pend.toList lo/\lr key p lo (v8)) ?_ _ 0 _ _ _ (λ_ _ _ z=>z) ⟨rfl,rfl,pend,bI,mU,a6,cI,qR⟩) ?_)
    ·rintro y c aK s' ⟨rfl,rfl,pend,p,aE,H,R,A⟩;refine bH (mJ ?_);by_cases e:(hL aK).size>1
     ·rw[aV e];rcases aJ:(hL aK)[(hL aK).size-2]? with _|⟨a,b,XF⟩
      ·dsimp only;exact bt ⟨rfl,rfl,pend,p,aE,H,R,A⟩
      ·dsimp only;split
       ·exact bt ⟨rfl,rfl,pend,p,aE,H,R,A⟩
       ·refine bH (G5 av aE H (by rw[H.p]at e ⊢;lia) R (by lia) ?_);intro qQ eu NC a b c d fr;rw[aZ (by decide)];exact bt ⟨rfl,rfl,qQ,eu,a,b,d,A.congr fr⟩
     ·rw[aZ e];dsimp only;exact bt ⟨rfl,rfl,pend,p,aE,H,R,A⟩
    ·rintro c aK s' ⟨rfl,rfl,pend,p,aE,H,R,A⟩;dsimp only;refine bH (lQ ?_);refine bH (lQ ?_);refine bt ⟨rfl,lo+v8,(pend.modify (pend.size-1) _).push (lo,v8,0),p,rfl,by lia,by lia,aE,⟨H.k,H.a,by show ((hL aK).modify ((hL aK).size-1) _).push _=_;rw[H.p],H.f⟩,?_⟩;rw[xN];exact fG.app.mpr ⟨lo,R.same<|NB _ _ _,rfl,by lia,A,rfl⟩
  ·rw[aZ eh];have mU:=qS;have a6:=H1;have cI:=dr;have qR:=v5;revert mU a6 cI qR;generalize dF=bI;generalize cb=b1;intro mU a6 cI qR;refine bH (mJ ?_);rcases XE:(hL b1).back? with _|⟨s1,jY,dG⟩
   ·dsimp only;refine bH (lQ ?_);refine bt ⟨rfl,lo+m,pend.push (lo,m,0),bI,rfl,by lia,by lia,mU,⟨a6.k,a6.a,by show (hL b1).push _=_;rw[a6.p],a6.f⟩,?_⟩;rw[xN];exact fG.app.mpr ⟨lo,cI,rfl,by lia,qR,rfl⟩
   ·dsimp only;refine bH (kz (Q':=λc aK s'=>s=s'/\c=(aa,())/\∃pend p,eO n p/\hU bj it pend aK p/\fG key p 0 pend.toList lo/\lr key p lo (m))
     (hJ<|i3 (λx c aK s'=>s=s'/\c=(aa,())/\∃pend p,eO n p/\hU bj it pend aK p/\fG key p 0 pend.toList lo/\lr key p lo (m)) ?_ _ 0 _ _ _ (λ_ _ _ z=>z) ⟨rfl,rfl,pend,bI,mU,a6,cI,qR⟩) ?_)
    ·rintro y c aK s' ⟨rfl,rfl,pend,p,aE,H,R,A⟩;refine bH (mJ ?_);by_cases e:(hL aK).size>1
     ·rw[aV e];rcases aJ:(hL aK)[(hL aK).size-2]? with _|⟨a,b,XF⟩
      ·dsimp only;exact bt ⟨rfl,rfl,pend,p,aE,H,R,A⟩
      ·dsimp only;split
       ·exact bt ⟨rfl,rfl,pend,p,aE,H,R,A⟩
       ·refine bH (G5 av aE H (by rw[H.p]at e ⊢;lia) R (by lia) ?_);intro qQ eu NC a b c d fr;rw[aZ (by decide)];exact bt ⟨rfl,rfl,qQ,eu,a,b,d,A.congr fr⟩
     ·rw[aZ e];dsimp only;exact bt ⟨rfl,rfl,pend,p,aE,H,R,A⟩
    ·rintro c aK s' ⟨rfl,rfl,pend,p,aE,H,R,A⟩;dsimp only;refine bH (lQ ?_);refine bH (lQ ?_);refine bt ⟨rfl,lo+m,(pend.modify (pend.size-1) _).push (lo,m,0),p,rfl,by lia,by lia,aE,⟨H.k,H.a,by show ((hL aK).modify ((hL aK).size-1) _).push _=_;rw[H.p],H.f⟩,?_⟩;rw[xN];exact fG.app.mpr ⟨lo,R.same<|NB _ _ _,rfl,by lia,A,rfl⟩
theorem XG(av:kx n key (iO prog w A bj it) s)(inj:∀i j,i<n->j<n->key i=key j->i=j)(U:2<=n)(up:n<1001\/∀j,1<=j->j<n->key (j-1)<=key j)(G6:∀eu aK,eO n eu->k' key eu n->arrOf aK=eu.map (cy it)->kT aK=aa->Q () aK s):kasC (a' prog w) A E sortRuns' Q (Bw bj it (range n).toArray) s:=Xy av inj U G6
end
end L2
namespace L2
open PySem PySem.Spec PyProof.Rows
section
variable{X:a4}{pins:List (ar×bE)}{σ:St}{H:aM}{s:aA}{h':br}
variable{ch:List ar}{t':Nat}
theorem Inv.XH{T:ar}{xs:List V}(I:Inv X pins σ H s)(hj:∀b∈ch,od X pins H b)(k:∀b o,b∉ch->s.heap.get? b=J o->h'.get? b=J o)(dM:s.heap.objs.size<=T)(new:g9 X.prog X.w (upd H T<|.tup xs) h' T (.tup xs)):Inv X pins σ (upd H T<|.tup xs) {s with heap:=h',toks:=t'}:=by
 have h_:H T=aa:=I.bw.fresh dM;have Cr:∀b o,s.heap.get? b=J o->b≠T:=λb o e=>eB (hs (c8 e) dM);have yF:∀b u,H b=J u->b∉ch:=λb u e z=>by rw[(hj b z).1]at e;cases e
 refine I.step (g':=s.gens) (d':=s.drawn) (ch:=ch) (λb ae=>⟨(hj b ae).2.2.2.1,(hj b ae).2.1,(hj b ae).2.2.2.2.1,(hj b ae).2.2.2.2.2⟩) (λb o _ _ av e _=>k b o av e) (λb o _ _ av e _=>⟨o.slots,k b o av e⟩)
  (λb o _ e n=>by rw[eb (Cr b o e)];exact n) (λb o av e=>⟨o,k b o av e⟩) (λb a3 e=>by rw[eb (km e h_)];exact e) (λb o u e=>by rw[eb (km e h_)];exact e)
  (λb ps e=>⟨#[],by rw[eb (km e h_),e];simp⟩) (λm hm=>?_) (λa o e=>?_) I.bare
 ·obtain⟨o,es,ep,aS,r⟩:=hm;exact⟨o,es,ep,k _ o (λz=>(hj _ z).2.1 rfl) aS,r⟩
 ·by_cases az:a=T
  ·subst az;rw[hy]at e;cases e;exact new
  ·rw[eb az]at e;refine (I.bw a o e).lX (λb u ae q=>k b u ?_ q) (λb q=>by rw[eb (km q h_)];exact q) λb a3 q=>by rw[eb (km q h_)];exact q
   rcases ae with z|z
   ·rw[z];exact yF a o e
   ·exact yF b _ z
theorem Inv.XI(I:Inv X pins σ H s)(hj:∀b∈ch,od X pins H b)(k:∀b o,b∉ch->s.heap.get? b=J o->h'.get? b=J o):Inv X pins σ H {s with heap:=h',toks:=t'}:=by
 have yF:∀b u,H b=J u->b∉ch:=λb u e z=>by rw[(hj b z).1]at e;cases e
 refine I.step (g':=s.gens) (d':=s.drawn) (ch:=ch) (λb ae=>⟨(hj b ae).2.2.2.1,(hj b ae).2.1,(hj b ae).2.2.2.2.1,(hj b ae).2.2.2.2.2⟩) (λb o _ _ av e _=>k b o av e) (λb o _ _ av e _=>⟨o.slots,k b o av e⟩)
  (λb o _ _ n=>n) (λb o av e=>⟨o,k b o av e⟩) (λb a3 e=>e) (λb o u e=>e) (λb ps e=>⟨#[],by rw[e];simp⟩) (λm hm=>?_) (λa o e=>?_) I.bare
 ·obtain⟨o,es,ep,aS,r⟩:=hm;exact⟨o,es,ep,k _ o (λz=>(hj _ z).2.1 rfl) aS,r⟩
 ·refine (I.bw a o e).lX (λb u ae q=>k b u ?_ q) (λb q=>q) λb a3 q=>q;rcases ae with z|z
  ·rw[z];exact yF a o e
  ·exact yF b _ z
end
section
variable{prog:cc}{w:bN}{A:cj}{E:aj->aA->Prop}{s:aA}
variable{it t:ar}{i:Nat}{items:Array aj}{Q:aj->aA->Prop}
theorem G7{x:aj}(hit:s.heap.IsTupleIter it t i)(cE:s.heap.IsTuple t items)(ag:items[i]?=J x)(q:∀h',h'.IsTupleIter it t (i+1)->br.SameBut it s.heap h'->Q x {s with heap:=h'}):wpAny (a' prog w) A (b8.SmallTypes.nextOf<|.ref it) Q E s:=by
 obtain⟨o,f1,f2,d6⟩:=id hit;obtain⟨ol,g1,_,nl,g2⟩:=cE;unfold b8.SmallTypes.nextOf;refine aH (o' (name:=aQ.ofString "__next__") hit.typeIs A_<|kh A_ hit.typeIs Lh ?z<|Lg _)
 case z=>
  show wpAny _ _ (field (.ref it) 0 >>= _) _ _ s;refine aH (kQ f1 d6 (x:=.ref t) rfl ?_);show wpAny _ _ (if (aj.ref t==aj.none)=af then _ else _) _ _ s;rw[aZ (show ¬ (aj.ref t==aj.none)=af by intro z;cases z)];show wpAny _ _ (field (.ref it) 1 >>= _) _ _ s;refine aH (kQ f1 d6 (x:=.int i 0) rfl ?_);show wpAny _ _ (xU (.ref t) >>= _) _ _ s;refine aH (mE g1 g2 ?_);simp only[rC,ag];refine aH (sM f1 d6 (by simp) (ba ⟨x,rfl,ba (q _ ⟨_,sU _ f1<|Fl<|vh d6 _,(Fm ..).trans f2,by rw[vh d6];simp[gv]⟩<|qq ..)⟩))
theorem NE(dD:A.handled=aa)(hit:s.heap.IsTupleIter it t i)(cE:s.heap.IsTuple t items)(ag:items[i]?=aa)(q:∀h' e,br.ExtBut it s.heap h'->(∃o,h'.get? e=J o/\o.cls=.type "StopIteration")->E (.ref e) {s with heap:=h'}):wpAny (a' prog w) A (b8.SmallTypes.nextOf<|.ref it) Q E s:=by
 obtain⟨o,f1,f2,d6⟩:=id hit;obtain⟨ol,g1,_,nl,g2⟩:=cE;unfold b8.SmallTypes.nextOf;refine aH (o' (name:=aQ.ofString "__next__") hit.typeIs A_<|kh A_ hit.typeIs Lh ?z<|Lg _)
 case z=>
  show wpAny _ _ (field (.ref it) 0 >>= _) _ _ s;refine aH (kQ f1 d6 (x:=.ref t) rfl ?_);show wpAny _ _ (if (aj.ref t==aj.none)=af then _ else _) _ _ s;rw[aZ (show ¬ (aj.ref t==aj.none)=af by intro z;cases z)];show wpAny _ _ (field (.ref it) 1 >>= _) _ _ s;refine aH (kQ f1 d6 (x:=.int i 0) rfl ?_);show wpAny _ _ (xU (.ref t) >>= _) _ _ s;refine aH (mE g1 g2 ?_);simp only[rC,ag];refine aH (mF (aH (sM f1 d6 (by simp) ?_)));show wpAny _ _ (vo (.type "StopIteration") [] >>= _) _ _ _;apply aH;simp only[vo,Fs];refine aH (jG (aH (m:=vp _ _) (AA (a:=aj.none) (by first|rfl|(simp only[vp];rfl)) (jG ?_ (by size_fits)))) (by size_fits));simp only[raiseNew];apply aH;apply Ep;rw[show A.in1.handled=aa from dD];refine aH (m:=pure _) (ba<|Eu ?_);exact q _ _ (((qq ..).extBut.push _).push _) ⟨_,fw _ rfl,rfl⟩
end
section
variable{prog:cc}{w:bN}{A:cj}{E:aj->aA->Prop}{s:aA}
variable{h h':br}{a:ar}
theorem m3{t:ar}{i:Nat}(x:h.IsTupleIter a t i)(k:∀o,h.get? a=J o->h'.get? a=J o):h'.IsTupleIter a t i:=let ⟨o,e,r⟩:=x;⟨o,k o e,r⟩
variable{xs:Array aj}
theorem v9(x:h.IsTuple a xs)(k:∀o,h.get? a=J o->h'.get? a=J o):h'.IsTuple a xs:=let ⟨o,e,r⟩:=x;⟨o,k o e,r⟩
variable{a b:aj}{k1 k2:Nat}{a3:Array aj}
theorem XJ{z TI TO d2 e8 b' ct:ar}{x y:aj}{Q:aj->aA->Prop}(D:Bo z TI TO d2 e8 b' ct)(hz:ny s.heap z TI TO .none)(G8:lU s.heap TI (.ref d2) (.ref e8))(G9:lU s.heap TO a b)(O:s.heap.IsTupleIter d2 b' k1)(U:s.heap.IsTupleIter e8 ct k2)(tS:s.heap.IsTuple b' xs)(oq:s.heap.IsTuple ct a3)(ag:xs[k1]?=J x)(aw:a3[k2]?=J y)(fE:∀h',ny h' z TI TO (gv s.heap.objs.size)->lU h' TO x y->h'.IsTupleIter d2 b' (k1+1)->h'.IsTupleIter e8 ct (k2+1)->lU h' s.heap.objs.size x y->
   (∀c o,c≠z->c≠TO->c≠d2->c≠e8->s.heap.get? c=J o->h'.get? c=J o)->Q (.ref s.heap.objs.size) {s with heap:=h'}):
  wpAny (a' prog w) A (b8.«zip.__next__» ⟨[.ref z],[]⟩) (λfin s'=>∃v,fin=.done (.ret v)/\Q v s') E s:=by
 show wpAny _ _ (field (.ref z) 2 >>= _) _ _ _;refine aH (kQ hz rfl (x:=.bool aD) rfl ?_);show wpAny _ _ (field (.ref z) 3 >>= _) _ _ _;refine aH (kQ hz rfl (x:=.ref TI) rfl<|aH<|mE G8 rfl ?_);show wpAny _ _ (b8.SmallTypes.ownedTupleIsFree (.ref z) >>= _) _ _ _;apply aH;unfold b8.SmallTypes.ownedTupleIsFree;refine aH (kQ hz rfl (x:=.none) rfl<|ba ?_);simp only[lW];refine aH (mF (aH (kQ hz rfl (x:=.ref TO) rfl (aH (uX hz (by simp) λb6 dG s1=>?_)))));replace dG:ny b6 z TI TO .ellipsis:=dG;apply aH;simp only[EN,KD,AW,KH];refine aH (aH<|Ax ?_);show wpAny _ _ (b8.SmallTypes.nextOf (.ref d2) >>= _) _ _ _;refine aH (G7 (s:={s with heap:=b6}) (m3 O λo e=>s1.extBut _ o D.i1z e) (v9 tS λo e=>s1.extBut _ o D.l1z e) ag λdz a2 s2=>ba ?_);have o2:lU dz TO a b:=s2.extBut _ _ D.TOi1 (s1.extBut _ _ D.TOz G9);refine aH (mE (s:={s with heap:=dz}) o2 rfl<|aH<|Eg (s:={s with heap:=dz}) o2 λlq o3 s3=>?_);replace o3:lU lq TO x b:=o3;refine aH (AB<|ba<|aH<|aH<|Ax ?_);show wpAny _ _ (b8.SmallTypes.nextOf (.ref e8) >>= _) _ _ _;refine aH (G7 (s:={s with heap:=lq}) (m3 U λo e=>s3.extBut _ o D.TOi2.symm<|s2.extBut _ o D.i12.symm<|s1.extBut _ o D.i2z e) (v9 oq λo e=>s3.extBut _ o D.l2TO<|s2.extBut _ o D.l2i1<|s1.extBut _ o D.l2z e) aw λm2 l' s4=>ba ?_);have o4:lU m2 TO x b:=s4.extBut _ _ D.TOi2 o3;refine aH (mE (s:={s with heap:=m2}) o4 rfl<|aH<|Eg (s:={s with heap:=m2}) o4 λjZ o5 s5=>?_);replace o5:lU jZ TO x y:=o5;refine aH (AB<|ba<|ba<|aH<|mE (s:={s with heap:=jZ}) o5 rfl<|aH<|Kc ?_);have hsz:jZ.objs.size=s.heap.objs.size:=by rw[s5.1,s4.1,s3.1,s2.1,s1.1]
 have NF:ny jZ z TI TO .ellipsis:=s5.extBut _ _ D.TOz.symm (s4.extBut _ _ D.i2z.symm<|s3.extBut _ _ D.TOz.symm<|s2.extBut _ _ D.i1z.symm dG);have k5:∀c o,c≠z->c≠TO->c≠d2->c≠e8->s.heap.get? c=J o->jZ.get? c=J o:=λc o di eh gA nL e=>s5.extBut _ _ eh (s4.extBut _ _ nL<|s3.extBut _ _ eh<|s2.extBut _ _ gA<|s1.extBut _ _ di e);have cO:jZ.IsTupleIter d2 b' (k1+1):=m3 a2 λo e=>s5.extBut _ o D.TOi1.symm (s4.extBut _ o D.i12<|s3.extBut _ o D.TOi1.symm e);have d1:jZ.IsTupleIter e8 ct (k2+1):=m3 l' λo e=>s5.extBut _ o D.TOi2.symm e;have NG:z<jZ.objs.size:=c8 NF;show wpAny _ _ (b8.SmallTypes.ownedTupleHandOut (.ref z) (.ref jZ.objs.size) >>= _) _ _ _;apply aH;unfold b8.SmallTypes.ownedTupleHandOut;have XK:ny (jZ.push {cls:=.type "tuple",data:=.seq #[x,y]}) z TI TO .ellipsis:=dc _ NF;refine aH (uX XK (by simp) λXL G' rM=>?_);replace G':ny XL z TI TO (gv jZ.objs.size):=G';refine uX G' (by simp) λCs Ct oA=>?_;replace Ct:ny Cs z TI TO (gv jZ.objs.size):=Ct;have up:∀c o,c≠z->jZ.get? c=J o->Cs.get? c=J o:=λc o di e=>oA.extBut _ _ di (rM.extBut _ _ di<|dc _ e);have i8:lU Cs jZ.objs.size x y:=oA.extBut _ _ (s6 NG) (rM.extBut _ _ (s6 NG)<|fw _ rfl);rw[hsz]at Ct i8;refine ba ⟨_,rfl,?_⟩;show Q (.ref jZ.objs.size) _;rw[hsz];exact fE Cs Ct (up _ _ D.TOz o5) (m3 cO λo e=>up _ o D.i1z e) (m3 d1 λo e=>up _ o D.i2z e) i8 λc o di eh gA nL e=>up c o di (k5 c o di eh gA nL e)
theorem XM{z TI TO d2 e8 b' ct:ar}{Q:PySem.Fin->aA->Prop}(dD:A.handled=aa)(D:Bo z TI TO d2 e8 b' ct)(hz:ny s.heap z TI TO .none)(G8:lU s.heap TI (.ref d2) (.ref e8))(G9:lU s.heap TO a b)(O:s.heap.IsTupleIter d2 b' k1)(U:s.heap.IsTupleIter e8 ct k2)(tS:s.heap.IsTuple b' xs)(oq:s.heap.IsTuple ct a3)(qH:xs[k1]?=aa\/a3[k2]?=aa)(fl:∀h' e,(∀c o,c≠z->c≠TO->c≠d2->c≠e8->s.heap.get? c=J o->h'.get? c=J o)->(∃o,h'.get? e=J o/\o.cls=.type "StopIteration")->E (.ref e) {s with heap:=h'}):
  wpAny (a' prog w) A (b8.«zip.__next__» ⟨[.ref z],[]⟩) Q E s:=by
 show wpAny _ _ (field (.ref z) 2 >>= _) _ _ _;refine aH (kQ hz rfl (x:=.bool aD) rfl ?_);show wpAny _ _ (field (.ref z) 3 >>= _) _ _ _;refine aH (kQ hz rfl (x:=.ref TI) rfl<|aH<|mE G8 rfl ?_);show wpAny _ _ (b8.SmallTypes.ownedTupleIsFree (.ref z) >>= _) _ _ _;apply aH;unfold b8.SmallTypes.ownedTupleIsFree;refine aH (kQ hz rfl (x:=.none) rfl<|ba ?_);simp only[lW];refine aH (mF (aH (kQ hz rfl (x:=.ref TO) rfl (aH (uX hz (by simp) λb6 dG s1=>?_)))));replace dG:ny b6 z TI TO .ellipsis:=dG;apply aH;simp only[EN,KD,AW,KH];refine aH (aH<|Ax ?_);show wpAny _ _ (b8.SmallTypes.nextOf (.ref d2) >>= _) _ _ _;cases ag:xs[k1]? with
 |none=>
  refine aH (NE (s:={s with heap:=b6}) dD (m3 O λo e=>s1.extBut _ o D.i1z e) (v9 tS λo e=>s1.extBut _ o D.l1z e) ag λdz e s2 ⟨cz,ay,aG⟩=>?_);have dH:ny dz z TI TO .ellipsis:=s2 _ _ D.i1z.symm dG;have tT:e≠z:=λq=>by subst q;rw[dH]at ay;cases ay;simp at aG
  refine uX dH (by simp) λlq _ s3=>fl lq e (λc o di _ gA _ q=>s3.extBut _ _ di<|s2 _ _ gA<|s1.extBut _ _ di q) ⟨cz,s3.extBut _ _ tT ay,aG⟩
 |some x=>
  have aw:a3[k2]?=aa:=by
   rcases qH with h|h
   ·rw[ag]at h;cases h
   ·exact h
  refine aH (G7 (s:={s with heap:=b6}) (m3 O λo e=>s1.extBut _ o D.i1z e) (v9 tS λo e=>s1.extBut _ o D.l1z e) ag λdz a2 s2=>ba ?_);have o2:lU dz TO a b:=s2.extBut _ _ D.TOi1 (s1.extBut _ _ D.TOz G9);refine aH (mE (s:={s with heap:=dz}) o2 rfl<|aH<|Eg (s:={s with heap:=dz}) o2 λlq o3 s3=>?_);refine aH (AB<|ba<|aH<|aH<|Ax ?_);show wpAny _ _ (b8.SmallTypes.nextOf (.ref e8) >>= _) _ _ _;refine aH (NE (s:={s with heap:=lq}) dD (m3 U λo e=>s3.extBut _ o D.TOi2.symm<|s2.extBut _ o D.i12.symm<|s1.extBut _ o D.i2z e) (v9 oq λo e=>s3.extBut _ o D.l2TO<|s2.extBut _ o D.l2i1<|s1.extBut _ o D.l2z e) aw λm2 e s4 ⟨cz,ay,aG⟩=>?_);have yG:ny m2 z TI TO .ellipsis:=s4 _ _ D.i2z.symm (s3.extBut _ _ D.TOz.symm<|s2.extBut _ _ D.i1z.symm dG);have tT:e≠z:=λq=>by subst q;rw[yG]at ay;cases ay;simp at aG
  refine uX yG (by simp) λjZ _ s5=>fl jZ e (λc o di eh gA nL q=>s5.extBut _ _ di<|s4 _ _ nL<|s3.extBut _ _ eh<|s2.extBut _ _ gA<|s1.extBut _ _ di q) ⟨cz,s5.extBut _ _ tT ay,aG⟩
end
variable{s:aA}{cG:cI}{caps fx fix:List Nat}{own ps:List aQ}{iter tg c e b a:bM}{body:List cg}{E:Ends}{l2 σ:St}{fd:iN}{x:aQ}{n qG:Nat}{vs xs:List V}{ds:List ah}{C B A R bp F1 bB G F:List ar}{Q:dN}{r es:List bM}{t':TT}{X:a4}{a6 H1 ak H:aM}{v:V}{p:ar}{pos:dk}{K:PySem.W.Frag}
noncomputable def oF(h:br)(b' ct:ar):br:=((((h.push {cls:=.type "tuple_iterator",data:=.fields #[.ref b',.int 0 0]}).push {cls:=.type "tuple_iterator",data:=.fields #[.ref ct,.int 0 0]}).push
 {cls:=.type "tuple",data:=.seq #[.ref h.objs.size,.ref (h.push {cls:=.type "tuple_iterator",data:=.fields #[.ref b',.int 0 0]}).objs.size]}).push {cls:=.type "tuple",data:=.seq #[.none,.none]})
theorem At(b' ct:ar)(xs a3:Array aj):
    Meets (b8.«zip.__new__» ⟨[.type "zip", .ref b',.ref ct],[]⟩) (λ_ R s => s.heap.IsTuple b' xs /\ s.heap.IsTuple ct a3 /\
      R (.ok<|.ret<|.ref (oF s.heap b' ct).objs.size) {s with heap:=(oF s.heap b' ct).push {cls:=.type "zip", data:=.fields #[.none,.bool aD,.bool aD,.ref ((s.heap.push {cls:=.type "tuple_iterator", data:=.fields #[.ref b',.int 0 0]}).push {cls:=.type "tuple_iterator", data:=.fields #[.ref ct,.int 0 0]}).objs.size,
        .ref (((s.heap.push {cls:=.type "tuple_iterator", data:=.fields #[.ref b',.int 0 0]}).push {cls:=.type "tuple_iterator", data:=.fields #[.ref ct,.int 0 0]}).push
  {cls:=.type "tuple", data:=.seq #[.ref s.heap.objs.size,.ref (s.heap.push {cls:=.type "tuple_iterator", data:=.fields #[.ref b',.int 0 0]}).objs.size]}).objs.size]} }) :=
  .of_wp λprog w A R s h => by
    obtain ⟨aE,g,d,tk,os⟩:=s;obtain ⟨bz,cR,h⟩:=h;have Cu:=sub_zip;have d8:br.IsTuple (aA.heap ⟨aE,g,d,tk,os⟩) b' xs:=bz;have dS:br.IsTuple (aA.heap ⟨aE.push {cls:=.type "tuple_iterator", data:=.fields #[.ref b',.int 0 0]}, g,d,tk,os⟩) ct a3:=v9 cR λo e => dc _ e
    wp_walk using wpAny_pyIter_tuple d8,wpAny_pyIter_tuple dS
    exact ⟨_,rfl,h⟩
noncomputable def Cv(K:PySem.W.Frag)(a b:ar):nF:=
 ⟨λi H=>∃xs a3 x y,dh K H a xs/\dh K H b a3/\xs[i]?=J x/\a3[i]?=J y,
  λi H v ak=>∃T x y,H T=aa/\v=.ref T/\ak=upd H T (.tup [x,y])/\(∀xs,dh K H a xs->xs[i]?=J x)/\(∀a3,dh K H b a3->a3[i]?=J y),
  λi H=>∃xs a3,dh K H a xs/\dh K H b a3/\(xs.length<=i\/a3.length<=i)⟩
noncomputable def NH(a b z TI TO d2 e8:ar)(i:Nat)(h:br):Prop:=ny h z TI TO .none/\lU h TI (.ref d2) (.ref e8)/\(∃p q,lU h TO p q)/\h.IsTupleIter d2 a i/\h.IsTupleIter e8 b i
theorem XN{P:cc}{w:bN}(a b z TI TO d2 e8:ar)(D:Bo z TI TO d2 e8 a b):
  Turn P w K (.Tuple es qG pos) (Cv K a b) [z,TI,TO,d2,e8] z (NH a b z TI TO d2 e8) where
 mem:=by simp
 obj:=λi h st c av=>by
  obtain⟨O,U,⟨p,q,aL⟩,⟨o4,eH,_,XO⟩,⟨o5,ia,_,XP⟩⟩:=st;simp only[cK,xD,lV]at av;rcases av with rfl|rfl|rfl|rfl|rfl
  ·exact⟨_,O,λv e=>by cases e⟩
  ·exact⟨_,U,λv e=>by cases e⟩
  ·exact⟨_,aL,λv e=>by cases e⟩
  ·exact⟨_,eH,λv e=>by rw[XO]at e;cases e⟩
  ·exact⟨_,ia,λv e=>by rw[XP]at e;cases e⟩
 keep:=λi h h' st k=>by
  obtain⟨O,U,⟨p,q,aL⟩,aU,c0⟩:=st;exact⟨k z (by simp) _ O,k TI (by simp) _ U,⟨p,q,k TO (by simp) _ aL⟩,m3 aU λo e=>k d2 (by simp) o e,m3 c0 λo e=>k e8 (by simp) o e⟩
 item:=by
  intro X hB hw hK av i pins s σ H E I hf st aJ;subst hB hw hK;obtain⟨xs,a3,x,y,bz,cR,h8,Cw⟩:=aJ;obtain⟨aP,b0,p,hz⟩:=I.tuple bz;obtain⟨kZ,Cx,bI,vV⟩:=I.tuple cR;obtain⟨u,bZ,gN⟩:=b0.get h8;obtain⟨i6,XQ,XR⟩:=Cx.get Cw;have there:=st;obtain⟨O,U,⟨cT,nH,aL⟩,aU,c0⟩:=st;have dM:s.TypeIs (.ref z) "zip" := ⟨_,O,rfl⟩;unfold jL;refine aH (u2 (o' (name:=aQ.ofString "__next__") dM Ba (kh Ba dM Ls
   (XJ (Q:=λv s'=>wpAny (a' X.prog X.w) X.A (pure<|J v) (λr s1=>∃u,r=J u/\wpAny (a' X.prog X.w) X.A (xS (.Tuple es qG pos) (.ref z) u) (λ_ s2=>∃x ak,Inv X pins σ ak s2/\c_ x u/\(Cv X.K a b).ya i H x ak/\NH a b z TI TO d2 e8 (i+1) s2.heap/\∀b∈[z,TI,TO,d2,e8],ak b=aa) E s1) E s')
    D O U aL aU c0 (show s.heap.IsTuple a aP.toArray from p) (show s.heap.IsTuple b kZ.toArray from bI) (x:=u) (y:=i6) (by simpa using bZ) (by simpa using XQ) λh' g1 g2 g3 eM nM gO=>ba ⟨_,rfl,?_⟩) (Lq _))));refine wpAny_letOwnedTupleGo_zip g1 λv' XS dC=>?_;have lt:∀c∈[z,TI,TO,d2,e8],c<s.heap.objs.size:=λc av=>by
   obtain⟨O,U,⟨p,q,aL⟩,⟨o4,eH,_⟩,⟨o5,ia,_⟩⟩:=there;simp only[cK,xD,lV]at av;rcases av with rfl|rfl|rfl|rfl|rfl
   ·exact c8 O
   ·exact c8 U
   ·exact c8 aL
   ·exact c8 eH
   ·exact c8 ia
  have fk:∀c o,c∉[z,TI,TO,d2,e8]->s.heap.get? c=J o->v'.get? c=J o:=λc o av e=>by
   simp only[cK,xD,lV,not_or]at av;exact dC.extBut _ _ av.1 (gO c o av.1 av.2.2.1 av.2.2.2.1 av.2.2.2.2 e)
  have XT:s.heap.objs.size≠z:=s6 (lt z (by simp));have h_:H s.heap.objs.size=aa:=I.bw.fresh (cp _);refine⟨.ref s.heap.objs.size,upd H s.heap.objs.size<|.tup [x,y],I.XH (t':=s.toks) hf fk (cp _) ⟨by show 2<=sizeLine;decide,[u,i6],.cons gN<|.cons XR .nil,?_⟩,rfl,⟨_,x,y,h_,rfl,rfl,λzs hz=>?_,λzs hz=>?_⟩,?_,λc av=>?_⟩
  ·exact⟨_,dC.extBut _ _ XT nM,rfl,0,rfl⟩
  ·rw[I.FP hz bz];exact h8
  ·rw[I.FP hz cR];exact Cw
  ·exact⟨XS,dC.extBut _ _ D.TIz<|gO _ _ D.TIz D.TITO D.TIi1 D.TIi2 U,⟨_,_,dC.extBut _ _ D.TOz g2⟩,m3 g3 λo e=>dC.extBut _ o D.i1z e,m3 eM λo e=>dC.extBut _ o D.i2z e⟩
  ·rw[eb (eB<|lt c av)];exact (hf c av).1
 done:=by
  intro X hB hw hK av i pins s σ H E I hf st aJ;subst hB hw hK;obtain⟨xs,a3,bz,cR,qH⟩:=aJ;obtain⟨aP,b0,p,hz⟩:=I.tuple bz;obtain⟨kZ,Cx,bI,vV⟩:=I.tuple cR;obtain⟨O,U,⟨cT,nH,aL⟩,aU,c0⟩:=st;have dM:s.TypeIs (.ref z) "zip" := ⟨_,O,rfl⟩;have b':=b0.length;have ct:=Cx.length;unfold jL;refine aH (u2 (o' (name:=aQ.ofString "__next__") dM Ba (kh Ba dM Ls
   (XM (I.ok.hd av) D O U aL aU c0 (show s.heap.IsTuple a aP.toArray from p) (show s.heap.IsTuple b kZ.toArray from bI) (by
    rcases qH with h|h
    ·exact .inl (by simp;lia)
    ·exact .inr (by simp;lia)) λh' e gO ⟨o,aS,v_⟩=>?_) (Lq _))))
  refine aH (xr (T := "StopIteration") (b:=af) ⟨o,aS,v_⟩ Em<|ba ⟨rfl,I.XI (t':=s.toks) hf λc o av e=>?_⟩);simp only[cK,xD,lV,not_or]at av;exact gO c o av.1 av.2.2.1 av.2.2.2.1 av.2.2.2.2 e
 self:=λ_ _ _ _ _ st h=>J8 st.1 h
section
variable{X:a4}
noncomputable def XU(K:PySem.W.Frag)(cP:gX):TI:=λσ H R=>cP σ H λvs H1=>∃a b,vs=[.ref a,.ref b]/\(∃xs,dh K H1 a xs)/\(∃a3,dh K H1 b a3)/\R (Cv K a b) H1
theorem XV{cP:gX}{p:dk}{ps:dk}(aJ:fo X "zip")(hm:X.mg "zip" = aa)(az:iS X [a,b] cP)(aq:cx [a,b] X.env=[(aD,de a X.env),(aD,de b X.env)]:=by rfl)(m4:cx [b] X.env=[(aD,de b X.env)]:=by rfl):
  pG X (.Tuple es qG ps) (.Call (.Name "zip" p) [a,b] [] pos) (XU X.K cP):=by
 intro pins s σ H R I h;refine Call_ (tl I aJ hm boot_zip (A9 (cQ (az pos pins s σ H _ I h) λus s1 ⟨vs,H1,bG,a9,bz⟩=>?_) (by rw[aq,m4]) (by rw[m4];rfl)));obtain⟨b',ct,e,⟨xs,ag⟩,⟨a3,aw⟩,q⟩:=bz;subst e;cases a9 with
 |cons r iV=>
  cases iV with
  |cons cG iV=>
   cases iV;cases r;cases cG;obtain⟨aP,b0,p,hz⟩:=bG.tuple ag;obtain⟨kZ,Cx,bI,vV⟩:=bG.tuple aw;have G4:b'<s1.heap.objs.size:=by obtain⟨o,e,_⟩:=p;exact c8 e
   have XW:ct<s1.heap.objs.size:=by obtain⟨o,e,_⟩:=bI;exact c8 e
   refine callType_new F.called_zip (by decide) (F.typeCall_zip_2 _ _) (F.newCall_zip_2 _ _) (λobj=>F.args_object_init_3 obj _ _) F.entry_zip_new (At b' ct aP.toArray kZ.toArray) ⟨p,bI,?_⟩;have dG:(s1.heap.push {cls:=.type "tuple_iterator",data:=.fields #[.ref b',.int 0 0]}).objs.size=s1.heap.objs.size+1:=pf ..;have dH:((s1.heap.push {cls:=.type "tuple_iterator",data:=.fields #[.ref b',.int 0 0]}).push {cls:=.type "tuple_iterator",data:=.fields #[.ref ct,.int 0 0]}).objs.size=s1.heap.objs.size+2:=by rw[pf,dG]
   have j1:(((s1.heap.push {cls:=.type "tuple_iterator",data:=.fields #[.ref b',.int 0 0]}).push {cls:=.type "tuple_iterator",data:=.fields #[.ref ct,.int 0 0]}).push
    {cls:=.type "tuple",data:=.seq #[.ref s1.heap.objs.size,.ref (s1.heap.push {cls:=.type "tuple_iterator",data:=.fields #[.ref b',.int 0 0]}).objs.size]}).objs.size=s1.heap.objs.size+3:=by rw[pf,dH]
   have yG:(oF s1.heap b' ct).objs.size=s1.heap.objs.size+4:=by unfold oF;rw[pf,j1]
   show _/\_;refine⟨⟨_,fw _ rfl,rfl⟩,J8 (TI:=s1.heap.objs.size+2) (TO:=s1.heap.objs.size+3) (f0:=.none) ?_ ?_⟩
   ·rw[dH,j1];exact fw _ rfl
   ·rw[dH,j1,yG];have nM:((oF s1.heap b' ct).push {cls:=.type "zip",data:=.fields #[.none,.bool aD,.bool aD,.ref<|s1.heap.objs.size+2,.ref<|s1.heap.objs.size+3]}).get? (s1.heap.objs.size+4)=J {cls:=.type "zip",data:=.fields #[.none,.bool aD,.bool aD,.ref<|s1.heap.objs.size+2,.ref<|s1.heap.objs.size+3]}:=by rw[<-yG];exact fw _ rfl
    have eM:((oF s1.heap b' ct).push {cls:=.type "zip",data:=.fields #[.none,.bool aD,.bool aD,.ref<|s1.heap.objs.size+2,.ref<|s1.heap.objs.size+3]}).get? (s1.heap.objs.size+3)=J {cls:=.type "tuple",data:=.seq #[.none,.none]}:=by
     rw[<-j1];exact dc _ (fw _ rfl)
    have g3:((oF s1.heap b' ct).push {cls:=.type "zip",data:=.fields #[.none,.bool aD,.bool aD,.ref<|s1.heap.objs.size+2,.ref<|s1.heap.objs.size+3]}).get? (s1.heap.objs.size+2)=J {cls:=.type "tuple",data:=.seq #[.ref s1.heap.objs.size,.ref<|s1.heap.objs.size+1]}:=by
     rw[<-dH,<-dG];exact dc _ (dc _<|fw _ rfl)
    have g2:((oF s1.heap b' ct).push {cls:=.type "zip",data:=.fields #[.none,.bool aD,.bool aD,.ref<|s1.heap.objs.size+2,.ref<|s1.heap.objs.size+3]}).get? (s1.heap.objs.size+1)=J {cls:=.type "tuple_iterator",data:=.fields #[.ref ct,.int 0 0]}:=by
     rw[<-dG];exact dc _ (dc _<|dc _<|fw _ rfl)
    have g1:((oF s1.heap b' ct).push {cls:=.type "zip",data:=.fields #[.none,.bool aD,.bool aD,.ref<|s1.heap.objs.size+2,.ref<|s1.heap.objs.size+3]}).get? s1.heap.objs.size=J {cls:=.type "tuple_iterator",data:=.fields #[.ref b',.int 0 0]}:=
     dc _ (dc _<|dc _<|dc _<|fw _ rfl);have fk:∀c o,s1.heap.get? c=J o->((oF s1.heap b' ct).push {cls:=.type "zip",data:=.fields #[.none,.bool aD,.bool aD,.ref<|s1.heap.objs.size+2,.ref<|s1.heap.objs.size+3]}).get? c=J o:=λc o e=>
     dc _ (dc _<|dc _<|dc _<|dc _ e);generalize ((oF s1.heap b' ct).push {cls:=.type "zip",data:=.fields #[.none,.bool aD,.bool aD,.ref<|s1.heap.objs.size+2,.ref<|s1.heap.objs.size+3]})=c0 at g1 g2 g3 eM nM fk ⊢;have D:Bo (s1.heap.objs.size+4) (s1.heap.objs.size+2) (s1.heap.objs.size+3) s1.heap.objs.size (s1.heap.objs.size+1) b' ct:=PySem.W.ktu_apart _ _ _ G4 XW;refine⟨_,_,_,_,H1,rfl,bG.kept (t':=s1.toks) fk,XN b' ct _ _ _ _ _ D,⟨nM,g3,⟨_,_,eM⟩,⟨_,g1,rfl,rfl⟩,⟨_,g2,rfl,rfl⟩⟩,λc av=>?_,q⟩;have:s1.heap.objs.size<=c:=by
     simp only[cK,xD,lV]at av;rcases av with rfl|rfl|rfl|rfl|rfl
     ·exact sY _ _
     ·exact sY _ _
     ·exact sY _ _
     ·exact cp _
     ·exact sY _ _
    exact bG.BL this (bG.bw.fresh this)
end
noncomputable def NI(K:PySem.W.Frag)(H:aM)(x:V)(T:String)(b:Bool):Prop:=
 (∃i,x=.int i/\((T = "int" /\ b=af)\/(T = "tuple" /\ b=aD)\/(T = "str" /\ b=aD)\/(T = "bool" /\ b=aD)\/(T = "list" /\ b=aD)))\/
 (∃i,x=.aR i/\((T = "bool" /\ b=af)\/(T = "int" /\ b=af)\/(T = "tuple" /\ b=aD)\/(T = "str" /\ b=aD)\/(T = "list" /\ b=aD)))\/
 (∃i,x=.str i/\((T = "str" /\ b=af)\/(T = "int" /\ b=aD)\/(T = "tuple" /\ b=aD)\/(T = "bool" /\ b=aD)\/(T = "list" /\ b=aD)))\/
 (∃a xs,x=.ref a/\dh K H a xs/\((T = "tuple" /\ b=af)\/(T = "int" /\ b=aD)\/(T = "str" /\ b=aD)\/(T = "bool" /\ b=aD)\/(T = "list" /\ b=aD)))\/
 (∃a xs,x=.ref a/\er K H a xs/\((T = "list" /\ b=af)\/(T = "int" /\ b=aD)\/(T = "str" /\ b=aD)\/(T = "bool" /\ b=aD)\/(T = "tuple" /\ b=aD)))
section
variable{X:a4}
theorem XX:bv X (.builtin "isinstance") (λxs H Q=>∃x T b,xs=[x,.ty T]/\NI X.K H x T b/\Q (.aR b) H):=by
 intro pins s σ H xs us Q I r h;obtain⟨x,T,b,rfl,ao,q⟩:=h;cases r with
 |cons r iV=>
  cases iV with
  |cons cG iV=>
   cases iV;cases cG;have f0:∀{b:Bool},Q (.aR b) H->gi X pins σ Q (.bool b) s:=λ{b} q=>⟨.aR b,H,I,rfl,q⟩;have f1:∀{b:Bool},Q (.aR b) H->gi X pins σ Q (.bool b) {s with toks:=s.toks+1}:=λ{b} q=>⟨.aR b,H,I.tok _,rfl,q⟩;rcases ao with ⟨i,rfl,ao⟩|⟨i,rfl,ao⟩|⟨i,rfl,ao⟩|⟨a,xs,rfl,aq,ao⟩|⟨a,xs,rfl,aq,ao⟩
   ·obtain⟨t,rfl⟩:=r;rcases ao with ⟨rfl,rfl⟩|⟨rfl,rfl⟩|⟨rfl,rfl⟩|⟨rfl,rfl⟩|⟨rfl,rfl⟩
    ·exact IsiPair.int_int (f0 q)
    ·exact IsiPair.int_tuple (f1 q)
    ·exact IsiPair.int_str (f1 q)
    ·exact IsiPair.int_bool (f1 q)
    ·exact IsiPair.int_list (f1 q)
   ·cases r;rcases ao with ⟨rfl,rfl⟩|⟨rfl,rfl⟩|⟨rfl,rfl⟩|⟨rfl,rfl⟩|⟨rfl,rfl⟩
    ·exact IsiPair.bool_bool (f0 q)
    ·exact IsiPair.bool_int (f0 q)
    ·exact IsiPair.bool_tuple (f1 q)
    ·exact IsiPair.bool_str (f1 q)
    ·exact IsiPair.bool_list (f1 q)
   ·obtain⟨t,rfl⟩:=r;rcases ao with ⟨rfl,rfl⟩|⟨rfl,rfl⟩|⟨rfl,rfl⟩|⟨rfl,rfl⟩|⟨rfl,rfl⟩
    ·exact IsiPair.str_str (f0 q)
    ·exact IsiPair.str_int (f1 q)
    ·exact IsiPair.str_tuple (f1 q)
    ·exact IsiPair.str_bool (f1 q)
    ·exact IsiPair.str_list (f1 q)
   ·cases r;obtain⟨aP,b0,⟨o,aS,av,_⟩,hz⟩:=I.tuple aq;rcases ao with ⟨rfl,rfl⟩|⟨rfl,rfl⟩|⟨rfl,rfl⟩|⟨rfl,rfl⟩|⟨rfl,rfl⟩
    ·exact IsiPair.tuple_tuple aS av (f0 q)
    ·exact IsiPair.tuple_int aS av (f1 q)
    ·exact IsiPair.tuple_str aS av (f1 q)
    ·exact IsiPair.tuple_bool aS av (f1 q)
    ·exact IsiPair.tuple_list aS av (f1 q)
   ·cases r;obtain⟨aP,b0,p,hz⟩:=I.list aq;obtain⟨o,aS,av,_⟩:=p.isList;rcases ao with ⟨rfl,rfl⟩|⟨rfl,rfl⟩|⟨rfl,rfl⟩|⟨rfl,rfl⟩|⟨rfl,rfl⟩
    ·exact IsiPair.list_list aS av (f0 q)
    ·exact IsiPair.list_int aS av (f1 q)
    ·exact IsiPair.list_str aS av (f1 q)
    ·exact IsiPair.list_bool aS av (f1 q)
    ·exact IsiPair.list_tuple aS av (f1 q)
theorem XY:∀{bs:List Bool}{us:List aj},cZ (bs.map V.aR) us->∀(i:Nat) (v:aj),us[i]?=J v->∃b,bs[i]?=J b/\v=aj.bool b:=by
 intro bs us r i v h;have aF:=r.length;rw[b3]at aF;have ao:i<bs.length:=by rw[aF];exact (iJ.mp h).1
 obtain⟨u,bZ,gN⟩:=r.get (i:=i) (x:=V.aR bs[i]) (by simp[ao]);rw[h]at bZ;cases bZ;exact⟨bs[i],by simp[ao],gN⟩
theorem XZ(av:X.calm=af):bv X (.builtin "all") (λxs H Q=>∃l bs,xs=[.ref l]/\H l=J (.lst<|List.map V.aR bs)/\Q (.aR<|bs.all id) H):=by
 intro pins s σ H xs us Q I r h;obtain⟨l,bs,rfl,aF,q⟩:=h;obtain⟨u,rfl,gN⟩:=mR r;cases gN;obtain⟨z,aP,n,b0,e⟩:=I.bw l _ aF;have NJ:s.heap.IsList l aP.toArray:=⟨_,e,rfl,n,rfl⟩;refine call_all_walk (J2 NJ ⟨s.heap.objs.size,[s.heap.objs.size,l],[s.heap.objs.size],aP.toArray.size,_,_,λi=>(bs[i]?).getD af,rfl,qr.list (A:=X.A.in1) (I.ok.hd av) _ l (eB<|c8 e) aP.toArray,
  ⟨⟨_,fw _ rfl,rfl,rfl⟩,NJ.push _⟩,λi v s' Q' r3 hB fE=>?_,λh' tk aY=>?_⟩)
 ·obtain⟨b,eG,rfl⟩:=XY b0 i v (by simpa using hB);simp only[eG,xw]at fE;exact ru fE
 ·have rV:aP.toArray.size=bs.length:=by
   have:=b0.length;rw[b3]at this;rw[dY,this]
  rw[rV,LSm.range_all];exact⟨.aR _,H,I.kept<|LSm.kept_iter aY,rfl,q⟩
theorem X0:fp X (iM .Mult) (vE IntMulOk λi j=>.int<|i*j):=BR λ_ _ _ _ _ _ _ av q=>mul_int q av
end
inductive aC where
 | im (d:ah)
 | fH
 | e2 (ds:List ah)
 | lst (ds:List ah)
 | eN (kvs:List (Key×ah))
 | a8 (kvs:List (List ah×ah))
 | k4 (xs:List aC)
 | Cy (ks:List (List ah)) (xs:List aC)
 | wa (xs:List aC)
 | obj (C:ar) (ns:List aQ) (xs:List aC)
variable{op:List aC->Option aC}{f:aC->aC->Option aC}{o:Option aC}{d:aC}
noncomputable abbrev bq:=List (Option aC)
variable{D' D:bq}{h:List aC->bq->Option bq}
noncomputable abbrev hV{bj:Type}(H:aM):List (bj×ah)->List (bj×V)->Prop:=hi λp q=>p.1=q.1/\dR H p.2 q.2
theorem hV.mono{bj:Type}{l:List (bj×ah)}{m:List (bj×V)}(t:vv H ak)(h:hV H l m):hV ak l m:=hi.BB h λ_ _ z=>⟨z.1,z.2.mono t⟩
structure hW(H ak:aM):Prop where
 tup:vv H ak
 fO:∀a o u,H a=J (.fO o u)->ak a=J (.fO o u)
mutual
noncomputable def Own(H:aM):aC->V->List ar->Prop
 |.im d,v,F=>dR H d v/\F=[]
 |.fH,_,F=>F=[]
 |.e2 ds,v,F=>∃a xs o,v=.ref a/\H a=J (.fO o<|.lst xs)/\cq H ds xs/\F=[]
 |.lst ds,v,F=>∃a xs,v=.ref a/\H a=J (.lst xs)/\cq H ds xs/\F=[a]
 |.eN kvs,v,F=>∃a fi,v=.ref a/\H a=J (.eN fi)/\hV H kvs fi/\F=[a]
 |.a8 kvs,v,F=>∃a fi,v=.ref a/\H a=J (.a8 fi)/\hV H kvs fi/\F=[a]
 |.k4 ds,v,F=>∃a xs G,v=.ref a/\H a=J (.lst xs)/\e9 H ds xs G/\F=a::G
 |.Cy ks ds,v,F=>∃a fi G,v=.ref a/\H a=J (.a8 fi)/\fi.map (·.1)=ks/\e9 H ds (fi.map (·.2)) G/\F=a::G
 |.wa ds,v,F=>∃a xs,v=.ref a/\H a=J (.tup xs)/\e9 H ds xs F
 |.obj C ns ds,v,F=>∃a kl fs G,v=.ref a/\H a=J (.ins C kl fs)/\fs.map (·.1)=ns/\e9 H ds (fs.map (·.2)) G/\F=a::G
noncomputable def e9(H:aM):List aC->List V->List ar->Prop
 |[],vs,F=>vs=[]/\F=[]
 |d::ds,vs,F=>∃v r F1 bp,vs=v::r/\Own H d v F1/\e9 H ds r bp/\F=F1++bp
end
mutual
theorem Own.mono{H ak:aM}(t:hW H ak):∀{d:aC}{v:V}{F:List ar},Own H d v F->(∀a∈F,∀o,H a=J o->ak a=J o)->Own ak d v F
 |.im d,v,F,h,_=>⟨h.1.mono t.tup,h.2⟩
 |.fH,v,F,h,_=>h
 |.e2 ds,v,F,h,_=>by
  obtain⟨a,xs,o,rfl,O,U,rfl⟩:=h;exact⟨a,xs,o,rfl,t.fO _ _ _ O,U.mono t.tup,rfl⟩
 |.lst ds,v,F,h,k=>by
  obtain⟨a,xs,rfl,O,U,rfl⟩:=h;exact⟨a,xs,rfl,k a (.head _) _ O,U.mono t.tup,rfl⟩
 |.eN kvs,v,F,h,k=>by
  obtain⟨a,xs,rfl,O,U,rfl⟩:=h;exact⟨a,xs,rfl,k a (.head _) _ O,U.mono t.tup,rfl⟩
 |.a8 kvs,v,F,h,k=>by
  obtain⟨a,xs,rfl,O,U,rfl⟩:=h;exact⟨a,xs,rfl,k a (.head _) _ O,U.mono t.tup,rfl⟩
 |.k4 ds,v,F,h,k=>by
  obtain⟨a,xs,G,rfl,O,U,rfl⟩:=h;exact⟨a,xs,G,rfl,k a (.head _) _ O,e9.mono t U λb ae=>k b<|.tail _ ae,rfl⟩
 |.Cy ks ds,v,F,h,k=>by
  obtain⟨a,xs,G,rfl,O,aY,U,rfl⟩:=h;exact⟨a,xs,G,rfl,k a (.head _) _ O,aY,e9.mono t U λb ae=>k b<|.tail _ ae,rfl⟩
 |.wa ds,v,F,h,k=>by
  obtain⟨a,xs,rfl,O,U⟩:=h;exact⟨a,xs,rfl,t.tup a xs O,e9.mono t U k⟩
 |.obj C ns ds,v,F,h,k=>by
  obtain⟨a,kl,fs,G,rfl,O,aY,U,rfl⟩:=h;exact⟨a,kl,fs,G,rfl,k a (.head _) _ O,aY,e9.mono t U λb ae=>k b<|.tail _ ae,rfl⟩
theorem e9.mono{H ak:aM}(t:hW H ak):∀{ds:List aC}{vs:List V}{F:List ar},e9 H ds vs F->(∀a∈F,∀o,H a=J o->ak a=J o)->e9 ak ds vs F
 |[],vs,F,h,_=>h
 |d::ds,vs,F,h,k=>by
  obtain⟨v,r,F1,bp,rfl,O,U,rfl⟩:=h;exact⟨v,r,F1,bp,rfl,Own.mono t O λa az=>k a<|fD _ az,e9.mono t U λa az=>k a<|fR _ az,rfl⟩
end
noncomputable def jw(H:aM)(a:ar):Prop:=∃o,H a=J o/\(∀xs,o≠.tup xs)/\∀p u,o≠.fO p u
mutual
theorem Own.chg{H:aM}:∀{d:aC}{v:V}{F:List ar},Own H d v F->∀a∈F,jw H a
 |.im d,v,F,h,a,az=>by rw[h.2]at az;cases az
 |.fH,v,F,h,a,az=>by rw[show F=[] from h]at az;cases az
 |.e2 ds,v,F,h,b,ae=>by
  obtain⟨a,xs,o,rfl,O,U,rfl⟩:=h;cases ae
 |.lst ds,v,F,h,b,ae=>by
  obtain⟨a,xs,rfl,O,U,rfl⟩:=h;rw[c2.mp ae];exact⟨_,O,(λ_ e=>by cases e),(λ_ _ e=>by cases e)⟩
 |.eN kvs,v,F,h,b,ae=>by
  obtain⟨a,xs,rfl,O,U,rfl⟩:=h;rw[c2.mp ae];exact⟨_,O,(λ_ e=>by cases e),(λ_ _ e=>by cases e)⟩
 |.a8 kvs,v,F,h,b,ae=>by
  obtain⟨a,xs,rfl,O,U,rfl⟩:=h;rw[c2.mp ae];exact⟨_,O,(λ_ e=>by cases e),(λ_ _ e=>by cases e)⟩
 |.k4 ds,v,F,h,b,ae=>by
  obtain⟨a,xs,G,rfl,O,U,rfl⟩:=h;rcases cK.mp ae with rfl|ae
  ·exact⟨_,O,(λ_ e=>by cases e),(λ_ _ e=>by cases e)⟩
  ·exact e9.chg U b ae
 |.Cy ks ds,v,F,h,b,ae=>by
  obtain⟨a,xs,G,rfl,O,aY,U,rfl⟩:=h;rcases cK.mp ae with rfl|ae
  ·exact⟨_,O,(λ_ e=>by cases e),(λ_ _ e=>by cases e)⟩
  ·exact e9.chg U b ae
 |.wa ds,v,F,h,b,ae=>by
  obtain⟨a,xs,rfl,O,U⟩:=h;exact e9.chg U b ae
 |.obj C ns ds,v,F,h,b,ae=>by
  obtain⟨a,kl,fs,G,rfl,O,aY,U,rfl⟩:=h;rcases cK.mp ae with rfl|ae
  ·exact⟨_,O,(λ_ e=>by cases e),(λ_ _ e=>by cases e)⟩
  ·exact e9.chg U b ae
theorem e9.chg{H:aM}:∀{ds:List aC}{vs:List V}{F:List ar},e9 H ds vs F->∀a∈F,jw H a
 |[],vs,F,h,a,az=>by rw[h.2]at az;cases az
 |d::ds,vs,F,h,a,az=>by
  obtain⟨v,r,F1,bp,rfl,O,U,rfl⟩:=h;rcases e3.mp az with az|az
  ·exact Own.chg O a az
  ·exact e9.chg U a az
end
theorem e9.length:∀{ds:List aC}{vs:List V}{F:List ar},e9 H ds vs F->ds.length=vs.length
 |[],vs,F,h=>by rw[h.1];rfl
 |d::ds,vs,F,h=>by
  obtain⟨v,r,F1,bp,rfl,O,U,rfl⟩:=h;rw[eS,eS,U.length]
theorem cq.length:∀{ds:List ah}{vs:List V},cq H ds vs->ds.length=vs.length
 |[],vs,h=>by rw[show vs=[] from h];rfl
 |d::ds,vs,h=>by
  obtain⟨v,r,rfl,O,U⟩:=h;rw[eS,eS,U.length]
noncomputable def r4(H:aM):Option aC->Option V->List ar->Prop
 |none,_,F=>F=[]
 |some d,x,F=>∃v,x=J v/\Own H d v F
noncomputable def b2(H:aM):bq->St->List ar->Prop
 |[],σ,F=>σ=[]/\F=[]
 |o::D,σ,F=>∃x r F1 bp,σ=x::r/\r4 H o x F1/\b2 H D r bp/\F=F1++bp
structure bR(H:aM)(F:List ar)(ak:aM)(bB:List ar):Prop where
 keep:∀a o,H a=J o->a∉F->ak a=J o
 sub:∀a∈bB,a∈F\/H a=aa
 au:bB.Nodup
 tup:hW H ak
 grow:∀a o,H a=J o->∃cA,ak a=J cA
theorem r4.mono(t:hW H ak):∀{o:Option aC}{x:Option V}{F:List ar},r4 H o x F->(∀a∈F,∀o,H a=J o->ak a=J o)->r4 ak o x F
 |none,_,_,h,_=>h
 |some d,x,F,h,k=>by
  obtain⟨v,rfl,h⟩:=h;exact⟨v,rfl,h.mono t k⟩
theorem b2.mono{H ak:aM}(t:hW H ak):∀{D:bq}{σ:St}{F:List ar},b2 H D σ F->(∀a∈F,∀o,H a=J o->ak a=J o)->b2 ak D σ F
 |[],σ,F,h,_=>h
 |o::D,σ,F,h,k=>by
  obtain⟨x,r,F1,bp,rfl,O,U,rfl⟩:=h;exact⟨x,r,F1,bp,rfl,O.mono t λa az=>k a<|fD _ az,b2.mono t U λa az=>k a<|fR _ az,rfl⟩
theorem r4.chg:∀{o:Option aC}{x:Option V}{F:List ar},r4 H o x F->∀a∈F,jw H a
 |none,_,F,h,a,az=>by rw[show F=[] from h]at az;cases az
 |some d,x,F,h,a,az=>by
  obtain⟨v,rfl,h⟩:=h;exact h.chg a az
theorem b2.chg{H:aM}:∀{D:bq}{σ:St}{F:List ar},b2 H D σ F->∀a∈F,jw H a
 |[],σ,F,h,a,az=>by rw[h.2]at az;cases az
 |o::D,σ,F,h,a,az=>by
  obtain⟨x,r,F1,bp,rfl,O,U,rfl⟩:=h;rcases e3.mp az with az|az
  ·exact O.chg a az
  ·exact b2.chg U a az
theorem b2.len{H:aM}:∀{D:bq}{σ:St}{F:List ar},b2 H D σ F->D.length=σ.length
 |[],σ,F,h=>by rw[h.1];rfl
 |o::D,σ,F,h=>by
  obtain⟨x,r,F1,bp,rfl,O,U,rfl⟩:=h;rw[eS,eS,b2.len U]
noncomputable def aC.fy:aC->Bool
 |.im _=>af
 |.e2 _=>af
 |_=>aD
theorem Own.fy(h:Own H d v F)(c:d.fy=af):F=[]:=by
 cases d with
 |im d=>exact h.2
 |e2 ds=>obtain⟨a,xs,o,rfl,O,U,rfl⟩:=h;rfl
 |_=>cases c
theorem b2.out{H:aM}:∀{D:bq}{σ:St}{F:List ar}{i:Nat}{d:aC},b2 H D σ F->D[i]?=J (J d)->∃v F1 bp,σ[i]?=J (J v)/\Own H d v F1/\b2 H (D.set i<|J .fH) σ bp/\(bp++F1).Perm F
 |[],σ,F,i,d,h,e=>by simp at e
 |o::D,σ,F,0,d,h,e=>by
  obtain⟨x,r,F1,bp,rfl,O,U,rfl⟩:=h;simp at e;subst e;obtain⟨v,rfl,O⟩:=O;exact⟨v,F1,bp,rfl,O,⟨J v,r,[],bp,rfl,⟨v,rfl,rfl⟩,U,rfl⟩,ek⟩
 |o::D,σ,F,i+1,d,h,e=>by
  obtain⟨x,r,F1,bp,rfl,O,U,rfl⟩:=h;obtain⟨v,qT,qU,g1,g2,g3,eM⟩:=b2.out (i:=i) U (by simpa using e);refine⟨v,qT,F1++qU,by simpa using g1,g2,⟨x,r,F1,qU,rfl,O,g3,rfl⟩,?_⟩;rw[bY];exact fK _ eM
theorem b2.put{H:aM}:∀{D:bq}{σ:St}{F:List ar}{i:Nat}{d:aC}{v:V}{G:List ar},b2 H D σ F->Own H d v G->i<D.length->∃F1 bp,b2 H (D.set i<|J d) (σ.set i<|J v) F1/\(F1++bp).Perm (F++G)
 |[],σ,F,i,d,v,G,h,w,l=>by simp at l
 |o::D,σ,F,0,d,v,G,h,w,l=>by
  obtain⟨x,r,F1,bp,rfl,O,U,rfl⟩:=h;refine⟨G++bp,F1,⟨J v,r,G,bp,rfl,⟨v,rfl,w⟩,U,rfl⟩,?_⟩;refine ek.trans ?_;rw[bY];exact fK _ ek
 |o::D,σ,F,i+1,d,v,G,h,w,l=>by
  obtain⟨x,r,F1,bp,rfl,O,U,rfl⟩:=h;obtain⟨qT,qU,g1,g2⟩:=b2.put (i:=i) U w (by simpa using l);refine⟨F1++qT,qU,⟨x,_,F1,qT,rfl,O,g1,rfl⟩,?_⟩;rw[bY,bY];exact fK _ g2
theorem b2.fy{i:Nat}(h:b2 H D σ F)(e:D[i]?=J (J d))(c:d.fy=af):∃v,σ[i]?=J (J v)/\Own H d v []:=by
 obtain⟨v,F1,bp,g1,g2,_⟩:=h.out e;obtain rfl:=g2.fy c;exact⟨v,g1,g2⟩
theorem X1{i:Nat}(h:σ[i]?=J (J v)):σ.set i (J v)=σ:=by
 refine u9 λj=>?_;by_cases e:i=j
 ·subst e;rw[h,AG (iJ.mp h).1]
 ·rw[rv e]
theorem b2.back{i:Nat}(h:b2 H D σ F)(w:Own H d v G)(bb:σ[i]?=J (J v)):∃F1 bp,b2 H (D.set i<|J d) σ F1/\(F1++bp).Perm (F++G):=by
 have l:i<D.length:=by rw[h.len];exact (iJ.mp bb).1
 obtain⟨F1,bp,O,U⟩:=h.put (i:=i) w l;rw[X1 bb]at O;exact⟨F1,bp,O,U⟩
theorem hW.of(f:x5 H ak)(g:∀a o u,H a=J (.fO o u)->ak a=J (.fO o u)):hW H ak:=⟨⟨f,g⟩,g⟩
theorem AC(H:aM):hW H H:=⟨⟨λ_ _ e=>e,λ_ _ _ e=>e⟩,λ_ _ _ e=>e⟩
theorem hW.trans(a:hW H H1)(b:hW H1 a6):hW H a6:=⟨⟨λx xs e=>b.tup.t x xs<|a.tup.t x xs e,λx o u e=>b.fO x o u<|a.fO x o u e⟩,λx o u e=>b.fO x o u<|a.fO x o u e⟩
theorem bR.refl(h:bB.Nodup)(s:∀a∈bB,a∈F):bR H F H bB:=⟨λ_ _ e _=>e,λa az=>.inl<|s a az,h,AC H,λ_ o e=>⟨o,e⟩⟩
theorem bR.perm(h:F.Nodup)(p:bB.Perm F):bR H F H bB:=bR.refl ((p.nodup_iff).mpr h) λa az=>p.mem_iff.mp az
theorem bR.trans(a:bR H F H1 (F1++R))(b:bR H1 F1 a6 bp)(cr:∀x∈R,jw H1 x):bR H F a6 (bp++R):=by
 have au:=eA.mp a.au;have al:∀x∈bp,x∉R:=λx ag aO=>by
  rcases b.sub x ag with h|h
  ·exact au.2.2 x h x aO rfl
  ·obtain⟨o,e,_⟩:=cr x aO;rw[e]at h;cases h
 refine⟨λx o e ag=>?_,λx ag=>?_,eA.mpr ⟨b.au,au.2.1,λx ag y aw e=>al x ag<|e ▸ aw⟩,a.tup.trans b.tup,λx o e=>let ⟨cA,b7⟩:=a.grow x o e;b.grow x cA b7⟩
 ·refine b.keep x o (a.keep x o e ag) λO=>?_;rcases a.sub x (fD _ O) with h|h
  ·exact ag h
  ·rw[e]at h;cases h
 ·rcases e3.mp ag with ag|ag
  ·rcases b.sub x ag with h|h
   ·exact a.sub x (fD _ h)
   ·refine .inr ?_;cases e:H x with
    |none=>rfl
    |some o=>
     obtain⟨cA,b7⟩:=a.grow x o e;rw[b7]at h;cases h
  ·exact a.sub x (fR _ ag)
theorem eg.tupS(s:eg H ak):hW H ak:=⟨⟨λa xs e=>s a _ e,λa o u e=>s a _ e⟩,λa o u e=>s a _ e⟩
theorem X2{a b:ar}{o u:iQ}(e:H b=J o)(h:H a=aa):L2.upd H a u b=J o:=by rw[eb (km e h)];exact e
theorem eg.upd(s:eg H ak){a:ar}{o:iQ}(h:ak a=aa):eg H (L2.upd ak a o):=λb u e=>X2 (s b u e) h
noncomputable abbrev M(α:Type):=bq->Option (α×bq)
variable{ge:M aC}{eo k:M Bool}
inductive cH where
 | bK (i:Nat)
 | dE (d:aC)
variable{c4 ga:M cH}{g:M (List cH)}
noncomputable def e'(D:bq):cH->Option aC
 |.bK i=>(D[i]?).getD aa
 |.dE d=>J d
noncomputable def mc(H:aM)(σ:St):cH->V->List ar->Prop
 |.bK i,v,R=>σ[i]?=J (J v)/\R=[]
 |.dE d,v,R=>Own H d v R
noncomputable def qV(g:M aC):TE:=λσ H Q=>∃D F r D',b2 H D σ F/\F.Nodup/\g D=J (r,D')/\∀v ak bB R,b2 ak D' σ bB->Own ak r v R->bR H F ak (bB++R)->Q v ak
noncomputable def oG(g:M cH):TE:=λσ H Q=>∃D F r D',b2 H D σ F/\F.Nodup/\g D=J (r,D')/\∀v ak bB R,b2 ak D' σ bB->mc ak σ r v R->bR H F ak (bB++R)->Q v ak
noncomputable def nN(g:M Bool):TT:=λσ H Q=>∃D F b D',b2 H D σ F/\F.Nodup/\g D=J (b,D')/\∀ak bB,b2 ak D' σ bB->bR H F ak bB->Q b ak
noncomputable def dP(X:a4)(e:bM)(g:M aC):Prop:=∀ ⦃p⦄,FO X e (qV g) p
noncomputable def gp(X:a4)(e:bM)(g:M cH):Prop:=∀ ⦃p⦄,FO X e (oG g) p
noncomputable def lu(X:a4)(e:bM)(g:M Bool):Prop:=∀ ⦃p⦄,L5 X e (nN g) p
theorem fV{t t':TE}(h:cF X e t)(i:∀σ H Q,t' σ H Q->t σ H Q):cF X e t':=λpins s σ H Q I hw=>h pins s σ H Q I (i σ H Q hw)
theorem Cz{t:TT}(h:kV X e t)(i:∀σ H Q,t' σ H Q->t σ H Q):kV X e t':=λpins s σ H Q I hw=>h pins s σ H Q I (i σ H Q hw)
theorem mc.mono{r:cH}(h:mc H σ r v R)(t:hW H ak)(k:∀a∈R,∀o,H a=J o->ak a=J o):mc ak σ r v R:=by
 cases r with
 |bK i=>exact h
 |dE d=>exact Own.mono t h k
theorem mc.chg{r:cH}(h:mc H σ r v R):∀a∈R,jw H a:=by
 cases r with
 |bK i=>intro a az;rw[h.2]at az;cases az
 |dE d=>exact Own.chg h
noncomputable def ho(H:aM)(d:aC)(v:V):Prop:=∃R,Own H d v R
theorem mc.read{r:cH}(h:mc H σ r v R)(st:b2 H D σ F)(e:e' D r=J d):ho H d v:=by
 cases r with
 |dE d'=>cases e;exact⟨R,h⟩
 |bK i=>
  have b7:D[i]?=J (J d):=by
   have:(D[i]?).getD aa=J d:=e;cases q:D[i]? with
   |none=>rw[q]at this;cases this
   |some o=>rw[q]at this;rw[show o=J d from this]
  obtain⟨jm,F1,bp,g1,g2,_⟩:=st.out b7;rw[h.1]at g1;cases g1;exact⟨F1,g2⟩
@[simp] noncomputable def g_(i:Nat):M aC:=λD=>match D[i]? with
 |some (J d)=>if d.fy=af then J (d,D) else J (d,D.set i<|J .fH)
 |_=>aa
noncomputable def aN(d:ah):M aC:=λD=>J (.im d,D)
@[simp] noncomputable def ax(i:Nat):M cH:=λD=>match D[i]? with
 |some (J _)=>J (.bK i,D)
 |_=>aa
@[simp] noncomputable def ai(g:M aC):M cH:=λD=>(g D).map λp=>(.dE p.1,p.2)
section
variable{X:a4}
variable{i:Nat}
theorem lx(h:cF X e (qz i)):dP X e (g_ i):=by
 refine fV h λσ H Q ⟨D,F,r,D',st,au,aJ,q⟩=>?_;unfold g_ at aJ;split at aJ
 ·rename_i d hd;split at aJ
  ·rename_i av;cases aJ;obtain⟨v,O,U⟩:=st.fy hd av;exact⟨v,O,q v H F [] st U (by rw[c5];exact bR.perm au (List.Perm.refl _))⟩
  ·cases aJ;obtain⟨v,F1,bp,O,U,aL,aU⟩:=st.out hd;exact⟨v,O,q v H bp F1 aL U<|bR.perm au aU⟩
 ·cases aJ
theorem X3(h:cF X e (qz i)):gp X e (ax i):=by
 refine fV h λσ H Q ⟨D,F,r,D',st,au,aJ,q⟩=>?_;unfold ax at aJ;split at aJ
 ·rename_i d hd;cases aJ;obtain⟨v,F1,bp,O,U,aL,aU⟩:=st.out hd;exact⟨v,O,q v H F [] st ⟨O,rfl⟩ (by rw[c5];exact bR.perm au (List.Perm.refl _))⟩
 ·cases aJ
theorem a0{g:M aC}(h:dP X e g):gp X e (ai g):=by
 refine fV h λσ H Q ⟨D,F,r,D',st,au,aJ,q⟩=>?_;unfold ai at aJ;obtain⟨⟨cG,D1⟩,O,U⟩:=dK.mp aJ;cases U;exact⟨D,F,cG,_,st,au,O,q⟩
theorem CA{d:ah}(h:cF X e (tj v))(hd:∀H,dR H d v):dP X e (aN d):=by
 refine fV h λσ H Q ⟨D,F,r,D',st,au,aJ,q⟩=>?_;cases aJ;exact q v H F [] st ⟨hd H,rfl⟩ (by rw[c5];exact bR.perm au (List.Perm.refl _))
theorem m5{i:Int}{j pos}:dP X (.Constant (.int i) j pos) (aN<|.int i):=CA TY λ_=>rfl
theorem md{b:Bool}{j pos}:dP X (.Constant (.bool b) j pos) (aN<|.aR b):=CA TZ λ_=>rfl
theorem two{D1 D2:bq}{x y:cH}{K:V->V->aM->Prop}(st:b2 H D σ F)(au:F.Nodup)(az:ga D=J (x,D1))(ae:c4 D1=J (y,D2))(k:∀v u ak bB dr cI,b2 ak D2 σ bB->mc ak σ x v dr->mc ak σ y u cI->bR H F ak ((bB++cI)++dr)->K v u ak):oG ga σ H λv H1=>oG c4 σ H1 λu a6=>K v u a6:=by
 refine⟨D,F,x,D1,st,au,az,λv H1 F1 dr cb o1 s1=>⟨D1,F1,y,D2,cb,(eA.mp s1.au).1,ae,λu a6 bp cI b1 o2 s2=>?_⟩⟩;refine k v u a6 bp dr cI b1 (o1.mono s2.tup λa az o e=>s2.keep a o e λh=>?_) o2 (s1.trans s2 o1.chg);exact (eA.mp s1.au).2.2 a h a az rfl
theorem bR.new{R':List ar}(a:bR H F H1 (F1++R))(s:eg H1 a6)(au:R'.Nodup)(fr:∀x∈R',H1 x=aa)(c:∀x∈F1,jw H1 x):bR H F a6 (F1++R'):=by
 refine⟨λx o e ag=>s _ _<|a.keep x o e ag,λx ag=>?_,eA.mpr ⟨(eA.mp a.au).1,au,λx ag y aw e=>?_⟩,a.tup.trans s.tupS,λx o e=>let ⟨cA,b7⟩:=a.grow x o e;⟨cA,s _ _ b7⟩⟩
 ·rcases e3.mp ag with ag|ag
  ·exact a.sub x (fD _ ag)
  ·refine .inr ?_;cases e:H x with
   |none=>rfl
   |some o=>
    obtain⟨cA,b7⟩:=a.grow x o e;rw[fr x ag]at b7;cases b7
 ·subst e;obtain⟨o,e,_⟩:=c x ag;rw[fr x aw]at e;cases e
noncomputable def ha(X:a4)(f:aj->aj->gK aj)(op:aC->aC->Option aC):Prop:=
 fp X f λx y H Q=>∃cS cM d,ho H cS x/\ho H cM y/\op cS cM=J d/\∀v ak R,eg H ak->Own ak d v R->R.Nodup->(∀a∈R,H a=aa)->Q v ak
@[simp] noncomputable def aT(op:aC->aC->Option aC)(ga c4:M cH):M aC:=λD=>(ga D).bind λp=>(c4 p.2).bind λq=>(e' q.2 p.1).bind λcS=>(e' q.2 q.1).bind λcM=>(op cS cM).map λd=>(d,q.2)
theorem CB{op:aC->aC->Option aC}(h:qV (aT op ga c4) σ H Q):
  oG ga σ H λx H1=>oG c4 σ H1 λy a6=>∃cS cM d,ho a6 cS x/\ho a6 cM y/\op cS cM=J d/\∀v ak R,eg a6 ak->Own ak d v R->R.Nodup->(∀a∈R,a6 a=aa)->Q v ak:=by
 obtain⟨D,F,r,D',st,au,aJ,q⟩:=h;unfold aT at aJ;obtain⟨⟨x,D1⟩,az,aJ⟩:=cv.mp aJ;obtain⟨⟨y,D2⟩,ae,aJ⟩:=cv.mp aJ;obtain⟨cS,O,aJ⟩:=cv.mp aJ;obtain⟨cM,U,aJ⟩:=cv.mp aJ;obtain⟨d,aL,aJ⟩:=dK.mp aJ;cases aJ;refine two st au az ae λv u a6 bp dr cI b1 o1 o2 s2=>⟨cS,cM,_,o1.read b1 O,o2.read b1 U,aL,λw cY R s3 ow wb fr=>?_⟩;rw[bY]at s2;exact q w cY bp R (b1.mono s3.tupS λa _ o e=>s3 a o e) ow (s2.new s3 wb fr b1.chg)
theorem dt{op:Operator}(aS:ha X (iM op) f)(az:gp X a ga)(ae:gp X b c4):dP X (.BinOp a op b pos) (aT f ga c4):=
 fV (UE aS az ae) λ_ _ _ h=>CB h
variable{op:vi}
theorem me(aS:ha X (fM op) f)(az:gp X a ga)(ae:gp X b c4)(hm:vl op b=aD):dP X (.Compare a [op] [b] pos) (aT f ga c4):=
 fV (UV aS az ae hm) λ_ _ _ h=>CB h
theorem X4(aS:mT X (λx y H Q=>∃cS cM d,ho H cS x/\ho H cM y/\f cS cM=J d/\∀v ak R,eg H ak->Own ak d v R->R.Nodup->(∀a∈R,H a=aa)->Q v ak))(az:gp X a ga)(ae:gp X b c4)(aq:no b):dP X (.Subscript a b pos) (aT f ga c4):=
 fV (Vz aS az ae aq) λ_ _ _ h=>CB h
@[simp] noncomputable def r5:aC->Option Bool
 |.im (.aR b)=>J b
 |_=>aa
@[simp] noncomputable def b9(g:M aC):M Bool:=λD=>(g D).bind λp=>(r5 p.1).map λb=>(b,p.2)
theorem yH{b:Bool}(h:r5 d=J b):d=.im (.aR b):=by
 unfold r5 at h;split at h
 ·cases h;rfl
 ·cases h
theorem ib(aS:ha X (fM op) f)(az:gp X a ga)(ae:gp X b c4)(hm:vl op b=aD):lu X (.Compare a [op] [b] pos) (b9<|aT f ga c4):=by
 refine Cz (UW aS az ae hm) λσ H Q ⟨D,F,c,D',st,au,aJ,q⟩=>?_;refine CB ⟨D,F,.im<|.aR c,D',st,au,?_,λv ak bB R aK ow s=>⟨c,ow.1,q ak bB aK (by rw[ow.2,c5]at s;exact s)⟩⟩;obtain⟨p,O,U⟩:=cv.mp aJ;obtain⟨c',aL,aU⟩:=dK.mp U;cases aU;rw[O,<-yH aL]
@[simp] noncomputable def fW(g:M Bool):M Bool:=λD=>(g D).map λp=>(!p.1,p.2)
variable{g:M Bool}
theorem ly(h:lu X a g):lu X (.UnaryOp .Not a pos) (fW g):=by
 refine Cz (T5 h) λσ H Q ⟨D,F,c,D',st,au,aJ,q⟩=>?_;obtain⟨p,O,U⟩:=dK.mp aJ;cases U;exact⟨D,F,p.1,_,st,au,O,q⟩
@[simp] noncomputable def fX(g h:M Bool):M Bool:=λD=>(g D).bind λp=>if p.1=af then h p.2 else J (aD,p.2)
@[simp] noncomputable def ic(g h:M Bool):M Bool:=λD=>(g D).bind λp=>if p.1=af then J (af,p.2) else h p.2
variable{Q:Bool->aM->Prop}{h:M Bool}
theorem NK(w:nN (fX g h) σ H Q):Ma (nN g) (nN h) σ H Q:=by
 obtain⟨D,F,c,D',st,au,aJ,q⟩:=w;obtain⟨⟨b,D1⟩,O,U⟩:=cv.mp aJ;refine⟨D,F,b,D1,st,au,O,λH1 F1 cb s1=>?_⟩;cases b with
 |true=>
  rw[aV rfl];rw[aV rfl]at U;exact⟨D1,F1,c,D',cb,s1.au,U,λa6 bp b1 s2=>q a6 bp b1 (by
   have:=bR.trans (R:=[]) (by rw[c5];exact s1) s2 (λx ag=>nomatch ag)
   rwa [c5]at this)⟩
 |false=>
  rw[aZ e1]at U ⊢;cases U;exact q H1 F1 cb s1
theorem X5(w:nN (ic g h) σ H Q):Mb (nN g) (nN h) σ H Q:=by
 obtain⟨D,F,c,D',st,au,aJ,q⟩:=w;obtain⟨⟨b,D1⟩,O,U⟩:=cv.mp aJ;refine⟨D,F,b,D1,st,au,O,λH1 F1 cb s1=>?_⟩;cases b with
 |false=>
  rw[aZ e1]at U ⊢;exact⟨D1,F1,c,D',cb,s1.au,U,λa6 bp b1 s2=>q a6 bp b1 (by
   have:=bR.trans (R:=[]) (by rw[c5];exact s1) s2 (λx ag=>nomatch ag)
   rwa [c5]at this)⟩
 |true=>
  rw[aV rfl]at U ⊢;cases U;exact q H1 F1 cb s1
noncomputable def jx(X:a4)(e:bM)(g:M Bool):Prop:=∀ ⦃p⦄,L6 X e (nN g) p
theorem NL{t:TT}(h:ob X e t)(i:∀σ H Q,t' σ H Q->t σ H Q):ob X e t':=λtm pins s σ H Q I hw=>h tm pins s σ H Q I (i σ H Q hw)
theorem NM(h:lu X a g):jx X (.BoolOp .And [a] pos) g:=T2 h
theorem r6(h:lu X a g):jx X (.BoolOp .Or [a] pos) g:=xL h
theorem CC(h:lu X a g)(ae:jx X (.BoolOp .And (b::r) pos) k):jx X (.BoolOp .And (a::b::r) pos) (fX g k):=NL (T3 h ae) λ_ _ _ w=>NK w
theorem pP(h:lu X a g)(ae:jx X (.BoolOp .Or (b::r) pos) k):jx X (.BoolOp .Or (a::b::r) pos) (ic g k):=NL (T4 h ae) λ_ _ _ w=>X5 w
theorem jx.pQ(h:jx X e g):lu X e g:=ob.pt h
@[simp] noncomputable def hX(g:M Bool):M aC:=λD=>(g D).map λp=>(.im<|.aR p.1,p.2)
theorem G_(h:dP X e (hX g)):cF X e λσ H Q=>nN g σ H λb ak=>Q (.aR b) ak:=by
 refine fV h λσ H Q ⟨D,F,c,D',st,au,aJ,q⟩=>⟨D,F,.im<|.aR c,D',st,au,by unfold hX;rw[aJ];rfl,λv ak bB R aK ow s=>?_⟩;rw[show v=.aR c from ow.1];exact q ak bB aK (by rw[ow.2,c5]at s;exact s)
theorem NN(h:cF X e λσ H Q=>nN g σ H λb ak=>Q (.aR b) ak):dP X e (hX g):=by
 refine fV h λσ H Q ⟨D,F,r,D',st,au,aJ,q⟩=>?_;obtain⟨p,O,U⟩:=dK.mp aJ;cases U;exact⟨D,F,p.1,_,st,au,O,λak bB aK s=>q _ ak bB [] aK ⟨rfl,rfl⟩ (by rw[c5];exact s)⟩
theorem g4{g:M aC}(h:dP X e g):dP X e (hX<|b9 g):=by
 refine fV h λσ H Q ⟨D,F,r,D',st,au,aJ,q⟩=>?_;obtain⟨p,O,U⟩:=dK.mp aJ;obtain⟨eu,aL,aU⟩:=cv.mp O;obtain⟨c,c0,cU⟩:=dK.mp aU;cases cU;cases U;exact⟨D,F,eu.1,_,st,au,aL,by rw[yH c0];exact q⟩
theorem NO(h:dP X a (hX g)):dP X (.UnaryOp .Not a pos) (hX<|fW g):=by
 refine NN (fV (T'<|G_ h) λσ H Q ⟨D,F,c,D',st,au,aJ,q⟩=>?_);obtain⟨p,O,U⟩:=dK.mp aJ;cases U;exact⟨D,F,p.1,_,st,au,O,λak bB aK s=>⟨_,rfl,q ak bB aK s⟩⟩
theorem qW{op}{g:M aC}(h:dP X a g):dP X (.BoolOp op [a] pos) g:=T8 h
theorem lz(h:dP X a (hX g))(ae:dP X (.BoolOp .And (b::r) pos) (hX k)):dP X (.BoolOp .And (a::b::r) pos) (hX<|fX g k):=by
 refine NN (fV (T9 (G_ h)<|G_ ae) λσ H Q w=>?_);have:=NK w;obtain⟨D,F,c,D',st,au,aJ,q⟩:=this;exact⟨D,F,c,D',st,au,aJ,λak bB aK s=>⟨c,rfl,q ak bB aK s⟩⟩
theorem bR.seq(a:bR H F H1 F1)(b:bR H1 F1 a6 bp):bR H F a6 bp:=by
 have:=bR.trans (R:=[]) (by rw[c5];exact a) b (λx ag=>nomatch ag)
 rwa [c5]at this
end
noncomputable def pR(H:aM)(σ:St):List cH->List V->List ar->Prop
 |[],vs,R=>vs=[]/\R=[]
 |o::os,vs,R=>∃v r dr cI,vs=v::r/\mc H σ o v dr/\pR H σ os r cI/\R=dr++cI
noncomputable def kX(g:M (List cH)):gX:=λσ H Q=>∃D F r D',b2 H D σ F/\F.Nodup/\g D=J (r,D')/\∀vs ak bB R,b2 ak D' σ bB->pR ak σ r vs R->bR H F ak (bB++R)->Q vs ak
noncomputable def i9(X:a4)(es:List bM)(g:M (List cH)):Prop:=∀ ⦃p⦄,L7 X es (kX g) p
theorem NP{t t':gX}(h:iS X es t)(i:∀σ H Q,t' σ H Q->t σ H Q):iS X es t':=λpos pins s σ H Q I hw=>h pos pins s σ H Q I (i σ H Q hw)
noncomputable def aW:M (List cH):=λD=>J ([],D)
@[simp] noncomputable def aB(g:M cH)(h:M (List cH)):M (List cH):=λD=>(g D).bind λp=>(h p.2).map λq=>(p.1::q.1,q.2)
theorem bR.oH(s:bR H F ak A)(p:A.Perm B):bR H F ak B:=⟨s.keep,λa az=>s.sub a<|p.mem_iff.mpr az,(p.nodup_iff).mp s.au,s.tup,s.grow⟩
theorem bR.less(s:bR H F ak A)(p:(B++C).Perm A):bR H F ak B:=
 ⟨s.keep,λa az=>s.sub a<|p.mem_iff.mp<|fD _ az,(eA.mp<|(p.nodup_iff).mpr s.au).1,s.tup,s.grow⟩
section
variable{X:a4}
theorem tU:i9 X [] aW:=by
 refine NP yf λσ H Q ⟨D,F,r,D',st,au,aJ,q⟩=>?_;cases aJ;exact q [] H F [] st ⟨rfl,rfl⟩ (by rw[c5];exact bR.perm au (List.Perm.refl _))
theorem cW{g:M cH}{h:M (List cH)}(he:gp X e g)(aO:i9 X es h)(aq:cx (e::es) X.env=(aD,de e X.env)::cx es X.env:=by rfl):i9 X (e::es) (aB g h):=by
 refine NP (qE he aO aq) λσ H Q ⟨D,F,r,D',st,au,aJ,q⟩=>?_;obtain⟨⟨x,D1⟩,O,U⟩:=cv.mp aJ;obtain⟨⟨a3,D2⟩,aL,aU⟩:=dK.mp U;cases aU;refine⟨D,F,x,D1,st,au,O,λv H1 F1 dr cb o1 s1=>⟨D1,F1,a3,_,cb,(eA.mp s1.au).1,aL,λvs a6 bp cI b1 o2 s2=>?_⟩⟩;refine q (v::vs) a6 bp (dr++cI) b1 ⟨v,vs,dr,cI,rfl,o1.mono s2.tup λa az o e=>s2.keep a o e λh=>?_,o2,rfl⟩ ((s1.trans s2 o1.chg).oH ?_)
 ·exact (eA.mp s1.au).2.2 a h a az rfl
 ·rw[bY];exact fK _ ek
end
noncomputable def j2(D:bq):List cH->Option (List aC)
 |[]=>J []
 |o::os=>(e' D o).bind λd=>(j2 D os).map λds=>d::ds
noncomputable def r7(H:aM):List aC->List V->Prop
 |[],vs=>vs=[]
 |d::ds,vs=>∃v r,vs=v::r/\ho H d v/\r7 H ds r
theorem pR.read{H:aM}{D:bq}{σ:St}{F:List ar}(st:b2 H D σ F):∀{os:List cH}{vs:List V}{R:List ar}{ds:List aC},pR H σ os vs R->j2 D os=J ds->r7 H ds vs
 |[],_,_,_,h,e=>by cases e;exact h.1
 |o::os,_,_,_,h,e=>by
  obtain⟨v,r,dr,cI,rfl,O,U,rfl⟩:=h;obtain⟨d,ay,aG⟩:=cv.mp e;obtain⟨ds,bT,eH⟩:=dK.mp aG;cases eH;exact⟨v,r,rfl,O.read st ay,pR.read st U bT⟩
noncomputable def gB:List cH->bq->Option (List aC×bq)
 |[],D=>J ([],D)
 |.dE d::os,D=>(gB os D).map λp=>(d::p.1,p.2)
 |.bK i::os,D=>(g_ i D).bind λp=>(gB os p.2).map λq=>(p.1::q.1,q.2)
theorem NQ{i:Nat}(st:b2 H D σ F)(h:g_ i D=J (d,D')):∃v F1 R,σ[i]?=J (J v)/\Own H d v R/\b2 H D' σ F1/\(F1++R).Perm F:=by
 unfold g_ at h;split at h
 ·rename_i e hd;split at h
  ·rename_i av;cases h;obtain⟨v,O,U⟩:=st.fy hd av;exact⟨v,F,[],O,U,st,by rw[c5]⟩
  ·cases h;obtain⟨v,F1,bp,O,U,aL,aU⟩:=st.out hd;exact⟨v,bp,F1,O,U,aL,aU⟩
 ·cases h
theorem pS:(A++(B++C)).Perm (B++(A++C)):=by
 rw[<-bY,<-bY];exact g8 _ ek
theorem r8{H:aM}{σ:St}:∀{os:List cH}{vs:List V}{R F:List ar}{D D':bq}{ds:List aC},b2 H D σ F->pR H σ os vs R->gB os D=J (ds,D')->∃F1 dr,b2 H D' σ F1/\e9 H ds vs dr/\(F1++dr).Perm (F++R)
 |[],_,_,F,_,_,_,st,h,e=>by
  cases e;exact⟨F,[],st,⟨h.1,rfl⟩,by rw[h.2]⟩
 |.dE d::os,_,_,F,D,_,_,st,h,e=>by
  obtain⟨v,r,dr,cI,rfl,O,U,rfl⟩:=h;rw[gB]at e;obtain⟨p,bT,eH⟩:=dK.mp e;cases eH;obtain⟨F1,lA,g1,g2,g3⟩:=r8 (D':=p.2) (ds:=p.1) st U bT;exact⟨F1,dr++lA,g1,⟨v,r,dr,lA,rfl,O,g2,rfl⟩,pS.trans<|(fK _ g3).trans pS⟩
 |.bK i::os,_,_,F,D,_,_,st,h,e=>by
  obtain⟨v,r,dr,cI,rfl,⟨O,rfl⟩,U,rfl⟩:=h;rw[gB]at e;obtain⟨⟨d,D1⟩,ay,aG⟩:=cv.mp e;obtain⟨p,bT,eH⟩:=dK.mp aG;cases eH;obtain⟨jm,F1,lA,g1,g2,g3,eM⟩:=NQ st ay;rw[O]at g1;cases g1;obtain⟨bp,pT,k1,k2,k3⟩:=r8 (D':=p.2) (ds:=p.1) g3 U bT;refine⟨bp,lA++pT,k1,⟨v,r,lA,pT,rfl,g2,k2,rfl⟩,pS.trans<|(fK _ k3).trans ?_⟩;rw[<-bY];exact g8 _ (ek.trans eM)
@[simp] noncomputable def m6:List cH->List aC->bq->bq
 |.bK i::os,d::ds,D=>m6 os ds (match D[i]? with|some (J .fH)=>D.set i (J d)|_=>D)
 |.dE _::os,_::ds,D=>m6 os ds D
 |_,_,D=>D
theorem CD{H mf:aM}{σ:St}:∀{os:List cH}{ds:List aC}{vs:List V}{R F S:List ar}{D:bq},b2 H D σ F->pR mf σ os vs S->e9 H ds vs R->∃F1 dr,b2 H (m6 os ds D) σ F1/\(F1++dr).Perm (F++R)
 |[],ds,_,R,F,_,D,st,_,_=>⟨F,R,by unfold m6;exact st,List.Perm.refl _⟩
 |.dE _::os,[],_,R,F,_,D,st,_,_=>⟨F,R,by unfold m6;exact st,List.Perm.refl _⟩
 |.bK _::os,[],_,R,F,_,D,st,_,_=>⟨F,R,by unfold m6;exact st,List.Perm.refl _⟩
 |.dE _::os,d::ds,_,R,F,_,D,st,h,w=>by
  obtain⟨v,r,Ha,Hb,rfl,O,U,rfl⟩:=h;obtain⟨jm,cG,dr,cI,e,ee,ec,rfl⟩:=w;cases e;obtain⟨F1,lA,g1,g2⟩:=CD (D:=D) st U ec;refine⟨F1,dr++lA,by rw[m6];exact g1,pS.trans<|(fK _ g2).trans pS⟩
 |.bK i::os,d::ds,_,R,F,_,D,st,h,w=>by
  obtain⟨v,r,Ha,Hb,rfl,⟨O,_⟩,U,rfl⟩:=h;obtain⟨jm,cG,dr,cI,e,ee,ec,rfl⟩:=w;cases e;rw[m6];split
  ·obtain⟨F1,G,g1,g2⟩:=st.back ee O;obtain⟨bp,lA,k1,k2⟩:=CD g1 U ec;refine⟨bp,lA++G,k1,?_⟩;rw[<-bY,<-bY];refine (g8 _ k2).trans ?_;rw[bY];refine (fK _ ek).trans ?_;rw[<-bY];exact g8 _ g2
  ·obtain⟨F1,lA,g1,g2⟩:=CD st U ec;exact⟨F1,dr++lA,g1,pS.trans<|(fK _ g2).trans pS⟩
noncomputable def j3:List aC->Option (List ah)
 |[]=>J []
 |.im d::ds=>(j3 ds).map λr=>d::r
 |_::_=>aa
@[simp] noncomputable def CE(ds:List aC):aC:=match j3 ds with
 |some is=>.im (.tup is)
 |none=>.wa ds
@[simp] noncomputable def CF(ds:List aC):aC:=match j3 ds with
 |some is=>.lst is
 |none=>.k4 ds
theorem Hc{H:aM}:∀{ds:List aC}{vs:List V}{R:List ar}{is:List ah},e9 H ds vs R->j3 ds=J is->cq H is vs/\R=[]
 |[],_,_,_,h,e=>by cases e;exact h
 |.im d::ds,_,_,_,h,e=>by
  obtain⟨v,r,dr,cI,rfl,⟨O,rfl⟩,U,rfl⟩:=h;rw[j3]at e;obtain⟨p,bT,eH⟩:=dK.mp e;cases eH;obtain⟨g1,rfl⟩:=Hc U bT;exact⟨⟨v,r,rfl,O,g1⟩,rfl⟩
 |.fH::_,_,_,_,_,e=>by rw[j3]at e;cases e;all_goals (intro _ z;cases z)
 |.e2 _::_,_,_,_,_,e=>by rw[j3]at e;cases e;all_goals (intro _ z;cases z)
 |.lst _::_,_,_,_,_,e=>by rw[j3]at e;cases e;all_goals (intro _ z;cases z)
 |.eN _::_,_,_,_,_,e=>by rw[j3]at e;cases e;all_goals (intro _ z;cases z)
 |.a8 _::_,_,_,_,_,e=>by rw[j3]at e;cases e;all_goals (intro _ z;cases z)
 |.k4 _::_,_,_,_,_,e=>by rw[j3]at e;cases e;all_goals (intro _ z;cases z)
 |.Cy _ _::_,_,_,_,_,e=>by rw[j3]at e;cases e;all_goals (intro _ z;cases z)
 |.wa _::_,_,_,_,_,e=>by rw[j3]at e;cases e;all_goals (intro _ z;cases z)
 |.obj _ _ _::_,_,_,_,_,e=>by rw[j3]at e;cases e;all_goals (intro _ z;cases z)
@[simp] noncomputable def d9(g:M (List cH)):M aC:=λD=>(g D).bind λp=>(gB p.1 p.2).bind λq=>if q.1.length<=100000 then J (CE q.1,q.2) else aa
@[simp] noncomputable def hY(g:M (List cH)):M aC:=λD=>(g D).bind λp=>(gB p.1 p.2).bind λq=>if q.1.length<=100000 then J (CF q.1,q.2) else aa
theorem X6{ds:List aC}(s:eg H ak)(h:e9 H ds vs R)(e:ak p=J (.tup vs)):∃R',Own ak (CE ds) (.ref p) R'/\R'=R:=by
 unfold CE;split
 ·rename_i is ao;obtain⟨g1,rfl⟩:=Hc h ao;exact⟨[],⟨⟨p,vs,rfl,e,g1.mono s.tupS.tup⟩,rfl⟩,rfl⟩
 ·exact⟨R,⟨p,vs,rfl,e,h.mono s.tupS λa _ o q=>s a o q⟩,rfl⟩
theorem X7{ds:List aC}(s:eg H ak)(h:e9 H ds vs R)(e:ak p=J (.lst vs)):Own ak (CF ds) (.ref p) (p::R):=by
 unfold CF;split
 ·rename_i is ao;obtain⟨g1,rfl⟩:=Hc h ao;exact⟨p,vs,rfl,e,g1.mono s.tupS.tup,rfl⟩
 ·exact⟨p,vs,R,rfl,e,h.mono s.tupS λa _ o q=>s a o q,rfl⟩
theorem r9(h:n<=100000):n<=sizeLine:=hh h (by decide)
theorem bR.add{o:iQ}(a:bR H F H1 A)(fr:H1 p=aa)(c:∀x∈A,jw H1 x):bR H F (upd H1 p o) (A++[p]):=by
 have s:eg H1 (upd H1 p o):=(eg.refl H1).upd fr;have:=bR.new (R:=[]) (R':=[p]) (by rw[c5];exact a) s (h4 _ _) (λx ag=>by rw[c2.mp ag];exact fr) c;exact this
theorem bR.same(a:bR H F H1 A)(s:eg H1 a6):bR H F a6 A:=
 ⟨λx o e ag=>s _ _<|a.keep x o e ag,a.sub,a.au,a.tup.trans s.tupS,λx o e=>let ⟨cA,b7⟩:=a.grow x o e;⟨cA,s _ _ b7⟩⟩
section
variable{X:a4}
theorem gq{h8}(h:i9 X es g):dP X (.Tuple es h8 pos) (d9 g):=by
 refine fV (U_ h) λσ H Q ⟨D,F,r,D',st,au,aJ,q⟩=>?_;obtain⟨⟨os,D1⟩,O,U⟩:=cv.mp aJ;obtain⟨⟨ds,D2⟩,aL,aU⟩:=cv.mp U;refine⟨D,F,os,D1,st,au,O,λvs H1 F1 dr cb o1 s1=>?_⟩;obtain⟨bp,cI,b1,ow,pm⟩:=r8 cb o1 aL;split at aU
 ·rename_i aF;cases aU;have hv:vs.length<=100000:=by rw[<-ow.length];exact aF
  refine⟨r9 hv,λp aE=>?_⟩;have s:eg H1 (upd H1 p<|.tup vs):=(eg.refl H1).upd aE;obtain⟨R',g1,rfl⟩:=X6 s ow hy;exact q _ _ bp R' (b1.mono s.tupS λa _ o e=>s a o e) g1 ((s1.oH pm.symm).same s)
 ·cases aU
theorem m7(h:i9 X es g):dP X (.List es pos) (hY g):=by
 refine fV (Va h) λσ H Q ⟨D,F,r,D',st,au,aJ,q⟩=>?_;obtain⟨⟨os,D1⟩,O,U⟩:=cv.mp aJ;obtain⟨⟨ds,D2⟩,aL,aU⟩:=cv.mp U;refine⟨D,F,os,D1,st,au,O,λvs H1 F1 dr cb o1 s1=>?_⟩;obtain⟨bp,cI,b1,ow,pm⟩:=r8 cb o1 aL;split at aU
 ·rename_i aF;cases aU;have hv:vs.length<=100000:=by rw[<-ow.length];exact aF
  refine⟨r9 hv,λp aE=>?_⟩;have s:eg H1 (upd H1 p<|.lst vs):=(eg.refl H1).upd aE;have g1:=X7 s ow (p:=p) hy;refine q _ _ bp (p::cI) (b1.mono s.tupS λa _ o e=>s a o e) g1 (((s1.oH pm.symm).add aE λx ag=>?_).oH ?_)
  ·rcases e3.mp ag with ag|ag
   ·exact b1.chg x ag
   ·exact ow.chg x ag
  ·rw[bY];exact fK _ ek
 ·cases aU
noncomputable def nO(X:a4)(f:aj)(op:List aC->Option aC):Prop:=
 bv X f λxs H Q=>∃ds d,r7 H ds xs/\op ds=J d/\∀v ak R,eg H ak->Own ak d v R->R.Nodup->(∀a∈R,H a=aa)->Q v ak
@[simp] noncomputable def cV(op:List aC->Option aC)(g:M (List cH)):M aC:=λD=>(g D).bind λp=>(j2 p.2 p.1).bind λds=>(op ds).map λd=>(d,p.2)
theorem NR(h:qV (cV op g) σ H Q):
  kX g σ H λxs H1=>∃ds d,r7 H1 ds xs/\op ds=J d/\∀v ak R,eg H1 ak->Own ak d v R->R.Nodup->(∀a∈R,H1 a=aa)->Q v ak:=by
 obtain⟨D,F,r,D',st,au,aJ,q⟩:=h;obtain⟨⟨os,D1⟩,O,U⟩:=cv.mp aJ;obtain⟨ds,aL,aU⟩:=cv.mp U;obtain⟨d,c0,cU⟩:=dK.mp aU;cases cU;refine⟨D,F,os,D1,st,au,O,λvs H1 F1 dr cb o1 s1=>⟨ds,_,o1.read cb aL,c0,λv a6 R s2 ow wb fr=>?_⟩⟩;exact q v a6 F1 R (cb.mono s2.tupS λa _ o e=>s2 a o e) ow (s1.new s2 wb fr cb.chg)
variable{p:dk}
theorem fz{id:String}(av:nO X (.builtin id) op)(aJ:fo X x)(hm:X.mg x=aa)(bb:gL x=J (.builtin id))(az:i9 X (e::es) g)(bo:x ≠ "__name__" := by decide)(iY:(x==("__debug__" : aQ))=aD:=by decide)(he:cx (e::es) X.env=(aD,de e X.env)::cx es X.env:=by rfl)(fT:(ht pos<|cx es X.env).any (·.1)=aD:=by rfl):
  dP X (.Call (.Name x p) (e::es) [] pos) (cV op g):=fV (lm av aJ hm bb az bo iY he fT) λ_ _ _ h=>NR h
theorem oI{T:String}(av:nO X (.type T) op)(aJ:fo X x)(hm:X.mg x=aa)(bb:gL x=J (.type T))(az:i9 X (e::es) g)(bo:x ≠ "__name__" := by decide)(iY:(x==("__debug__" : aQ))=aD:=by decide)(he:cx (e::es) X.env=(aD,de e X.env)::cx es X.env:=by rfl)(fT:(ht pos<|cx es X.env).any (·.1)=aD:=by rfl):
  dP X (.Call (.Name x p) (e::es) [] pos) (cV op g):=fV (Ve av aJ hm bb az bo iY he fT) λ_ _ _ h=>NR h
noncomputable abbrev d_:=List aC->Option (aC×List aC)
noncomputable def nP(n:Nat)(G:d_):pH:=λvs H Q _=>vs.length=n/\∃ds F r outs,e9 H ds vs F/\F.Nodup/\G ds=J (r,outs)/\∀v ak R R',Own ak r v R->e9 ak outs vs R'->bR H F ak (R++R')->Q v ak
@[simp] noncomputable def am(n:Nat)(G:d_)(g:M (List cH)):M aC:=λD=>(g D).bind λp=>if p.1.length=n then (gB p.1 p.2).bind λq=>(G q.1).map λr=>(r.1,m6 p.1 r.2 q.2) else aa
theorem pR.length{H:aM}{σ:St}:∀{os:List cH}{vs:List V}{R:List ar},pR H σ os vs R->os.length=vs.length
 |[],_,_,h=>by rw[h.1];rfl
 |o::os,_,_,h=>by
  obtain⟨v,r,dr,cI,rfl,O,U,rfl⟩:=h;rw[eS,eS,pR.length U]
theorem sw{G:d_}{E:hP}(h:qV (am n G g) σ H Q):Gd (nP n G) [] E (kX g) σ H Q:=by
 obtain⟨D,F,r,D',st,au,aJ,q⟩:=h;obtain⟨⟨os,D1⟩,O,U⟩:=cv.mp aJ;split at U
 ·rename_i bo;obtain⟨⟨ds,D2⟩,aL,aU⟩:=cv.mp U;obtain⟨⟨cG,outs⟩,c0,cU⟩:=dK.mp aU;cases cU;refine⟨D,F,os,D1,st,au,O,λvs H1 F1 dr cb o1 s1=>?_⟩;obtain⟨bp,cI,b1,ow,pm⟩:=r8 cb o1 aL;have s2:=s1.oH (pm.symm.trans ek);rw[c5];refine⟨by rw[<-o1.length];exact bo,ds,cI,_,outs,ow,(eA.mp s2.au).1,c0,λv cY R R' ee ec s3=>?_⟩;have s4:=s2.trans s3 b1.chg;have CG:∀a∈bp,a∉cI:=λa az ae=>(eA.mp s2.au).2.2 a ae a az rfl;have fS:b2 cY D2 σ bp:=b1.mono s3.tup λa az o e=>s3.keep a o e (CG a az);obtain⟨gC,lA,fA,yI⟩:=CD fS o1 ec;refine q v cY gC R fA ee (s4.less (C:=lA) ?_);refine List.Perm.trans ?_ ek;rw[bY];refine (fK _ ek).trans ?_;rw[<-bY];refine (g8 _ yI).trans ?_;rw[bY];exact fK _ ek
 ·cases U
end
section
variable{X:a4}
variable{k:Nat}
theorem NS{G:d_}{f:ar}{p:dk}(F:iX X.prog X.w X.K X.mg X.base k9 k f fd ps (nP n G))(aO:gb k X.A)(aJ:fo X x)(hm:X.mg x=J (.ref f))(aY:PySem.W.keepIn X.K (.ref f)=af)(ae:kY X.K fd ps [])(az:i9 X (e::es) g)(iY:(x==("__debug__" : aQ))=aD:=by decide)(he:cx (e::es) X.env=(aD,de e X.env)::cx es X.env:=by rfl)(fT:(ht pos<|cx es X.env).any (·.1)=aD:=by rfl):
  dP X (.Call (.Name x p) (e::es) [] pos) (am n G g):=fV (Mw F aO aJ hm aY ae .nil Gy az iY he fT) λ_ _ _ h=>sw h
inductive tV where
 | bC|fQ (d:aC)|eF|dA
noncomputable abbrev b5:=bq->Option (tV×bq)
noncomputable def d3(fix:List Nat)(σ bc:St):Prop:=bc.length=σ.length/\∀i∈fix,bc[i]?=σ[i]?
theorem d3.refl:d3 fix σ σ:=⟨rfl,λ_ _=>rfl⟩
theorem d3.trans{eW:St}(a:d3 fix σ l2)(b:d3 fix l2 eW):d3 fix σ eW:=⟨b.1.trans a.1,λi ao=>(b.2 i ao).trans<|a.2 i ao⟩
theorem d3.set{j:Nat}{v:Option V}(h:j∉fix):d3 fix σ (σ.set j v):=⟨xE,λi ao=>rv λe=>h (by rw[e];exact ao)⟩
noncomputable def yJ(fix:List Nat)(E:Ends)(σ:St)(H:aM)(F:List ar)(D':bq):tV->Prop
 |.bC=>∀bc ak bB,d3 fix σ bc->b2 ak D' bc bB->bR H F ak bB->E.bC bc ak
 |.eF=>∀bc ak bB,d3 fix σ bc->b2 ak D' bc bB->bR H F ak bB->E.eF bc ak
 |.dA=>∀bc ak bB,d3 fix σ bc->b2 ak D' bc bB->bR H F ak bB->E.dA bc ak
 |.fQ d=>∀v bc ak bB R,d3 fix σ bc->b2 ak D' bc bB->Own ak d v R->bR H F ak (bB++R)->E.fQ v ak
noncomputable def tW(fix:List Nat)(g:b5):gM:=λE σ H=>∃D F bf D',b2 H D σ F/\F.Nodup/\g D=J (bf,D')/\yJ fix E σ H F D' bf
noncomputable def i_(X:a4)(fix:List Nat)(st:cg)(g:b5):Prop:=∀ ⦃p⦄,L8 X st (tW fix g) p
noncomputable def j4(X:a4)(fix:List Nat)(kC:List cg)(g:b5):Prop:=∀ ⦃p⦄,L9 X kC (tW fix g) p
variable{t':gM}
theorem oJ{st:cg}{t:gM}(h:jR X st t)(i:∀E σ H,t' E σ H->t E σ H):jR X st t':=λpins s σ H D I hw=>h pins s σ H D I (i D σ H hw)
theorem r'{st:List cg}{t:gM}(h:iT X st t)(i:∀E σ H,t' E σ H->t E σ H):iT X st t':=λpins s σ H D I hw=>h pins s σ H D I (i D σ H hw)
theorem yJ.on{bf:tV}(h:yJ fix E σ H F D' bf)(fx:d3 fix σ l2)(s:bR H F H1 F1):yJ fix E l2 H1 F1 D' bf:=by
 cases bf with
 |bC=>exact λbc ak bB f st s'=>h bc ak bB (fx.trans f) st (s.seq s')
 |eF=>exact λbc ak bB f st s'=>h bc ak bB (fx.trans f) st (s.seq s')
 |dA=>exact λbc ak bB f st s'=>h bc ak bB (fx.trans f) st (s.seq s')
 |fQ d=>exact λv bc ak bB R f st ow s'=>h v bc ak bB R (fx.trans f) st ow (s.seq s')
noncomputable def hb:b5:=λD=>J (.bC,D)
@[simp] noncomputable def ap(g h:b5):b5:=λD=>(g D).bind λp=>match p.1 with
 |.bC=>h p.2
 |bf=>J (bf,p.2)
theorem ja:j4 X fix [] hb:=by
 refine r' Uc λE σ H ⟨D,F,bf,D',st,au,aJ,q⟩=>?_;cases aJ;exact q σ H F d3.refl st (bR.perm au<|List.Perm.refl _)
variable{g:b5}
theorem dg{st:cg}(h:i_ X fix st g):j4 X fix [st] g:=Ud h
theorem X8{h:b5}(w:tW fix (ap g h) E σ H):Mc (tW fix g) (tW fix h) E σ H:=by
 obtain⟨D,F,bf,D',st,au,aJ,q⟩:=w;obtain⟨⟨f1,D1⟩,O,U⟩:=cv.mp aJ;cases f1 with
 |bC=>exact⟨D,F,.bC,D1,st,au,O,λbc ak bB fx aK s=>⟨D1,bB,bf,D',aK,s.au,U,q.on fx s⟩⟩
 |eF=>cases U;exact⟨D,F,.eF,D1,st,au,O,q⟩
 |dA=>cases U;exact⟨D,F,.dA,D1,st,au,O,q⟩
 |fQ d=>cases U;exact⟨D,F,.fQ d,D1,st,au,O,q⟩
theorem c7{st:cg}{kC:List cg}{h:b5}(O:i_ X fix st g)(U:j4 X fix kC h):j4 X fix (st::kC) (ap g h):=r' (io O U) λ_ _ _ w=>X8 w
noncomputable def NT:b5:=λ_=>aa
theorem X9{st:cg}:i_ X fix st NT:=oJ Ui λ_ _ _ ⟨_,_,_,_,_,_,h,_⟩=>by cases h
@[simp] noncomputable def mh(g:M aC):b5:=λD=>(g D).map λp=>(.bC,p.2)
variable{g:M aC}
theorem tX(h:dP X e g)(aq:s9 e aa pos.line X.env=pure aD:=by rfl):i_ X fix (.Expr e pos) (mh g):=by
 refine oJ (Md h aq) λE σ H ⟨D,F,bf,D',st,au,aJ,q⟩=>?_;obtain⟨⟨r,D1⟩,O,U⟩:=dK.mp aJ;cases U;exact⟨D,F,r,_,st,au,O,λv ak bB R aK ow s=>q σ ak bB d3.refl aK<|s.less<|List.Perm.refl _⟩
@[simp] noncomputable def d4(g:M aC):b5:=λD=>(g D).map λp=>(.fQ p.1,p.2)
theorem eI(h:dP X e g):i_ X fix (.Return (J e) pos) (d4 g):=by
 refine oJ (Me h) λE σ H ⟨D,F,bf,D',st,au,aJ,q⟩=>?_;obtain⟨⟨r,D1⟩,O,U⟩:=dK.mp aJ;cases U;exact⟨D,F,r,_,st,au,O,λv ak bB R aK ow s=>q v σ ak bB R d3.refl aK ow s⟩
@[simp] noncomputable def fY(c:M Bool)(a b:b5):b5:=λD=>(c D).bind λp=>if p.1=af then a p.2 else b p.2
variable{c4:b5}
theorem jb{a b:List cg}{ga:b5}(av:lu X c eo)(az:j4 X fix a ga)(ae:j4 X fix b c4):i_ X fix (.If c a b pos) (fY eo ga c4):=by
 refine oJ (Mf av az ae) λE σ H ⟨D,F,bf,D',st,au,aJ,q⟩=>?_;obtain⟨⟨t,D1⟩,O,U⟩:=cv.mp aJ;refine⟨D,F,t,D1,st,au,O,λH1 F1 cb s1=>?_⟩;cases t with
 |true=>
  rw[aV rfl]at U ⊢;exact⟨D1,F1,bf,D',cb,s1.au,U,q.on d3.refl s1⟩
 |false=>
  rw[aZ e1]at U ⊢;exact⟨D1,F1,bf,D',cb,s1.au,U,q.on d3.refl s1⟩
@[simp] noncomputable def dI(i:Nat)(g:M aC):b5:=λD=>(g D).bind λp=>if i<p.2.length then J (.bC,p.2.set i<|J p.1) else aa
variable{i:Nat}
theorem fB{pos':dk}(dT:X.N.Nodup)(ao:X.N[i]?=J x)(ag:Loc X.env.scope x)(he:dP X e g)(hf:i∉fix)(aq:s9 e (J<|.Name x pos') pos.line X.env=pure aD:=by rfl)(ti:X.fn x=af\/X.env.scope.names.lookup x=J .local:=by first|exact .inl rfl|exact .inr rfl|assumption):i_ X fix (.Assign [.Name x pos'] e pos) (dI i g):=by
 refine oJ (Uq dT ao ag he aq ti) λE σ H ⟨D,F,bf,D',st,au,aJ,q⟩=>?_;obtain⟨⟨r,D1⟩,O,U⟩:=cv.mp aJ;split at U
 ·rename_i aF;cases U;refine⟨D,F,r,_,st,au,O,λv H1 F1 R cb ow s1=>?_⟩;obtain⟨bp,cI,b1,pm⟩:=cb.put (i:=i) ow aF;exact q _ H1 bp (d3.set hf) b1 (s1.less pm)
 ·cases U
noncomputable abbrev hE:=aC->bq->Option bq
noncomputable def Hd(fix:List Nat)(g:hE):jq:=λv σ H Q=>∃D F d R D',b2 H D σ F/\Own H d v R/\(F++R).Nodup/\g d D=J D'/\∀bc ak bB,d3 fix σ bc->b2 ak D' bc bB->bR H (F++R) ak bB->Q bc ak
noncomputable def pU(X:a4)(fix:List Nat)(e:bM)(g:hE):Prop:=∀ ⦃p⦄,Mg X e (Hd fix g) p
theorem He{t t':jq}(h:oc X e t)(i:∀v σ H Q,t' v σ H Q->t v σ H Q):oc X e t':=λpins s σ H x v Q I r hw=>h pins s σ H x v Q I r (i x σ H Q hw)
@[simp] noncomputable def b_(i:Nat):hE:=λd D=>if i<D.length then J (D.set i<|J d) else aa
theorem eX(dT:X.N.Nodup)(ao:X.N[i]?=J x)(ag:Loc X.env.scope x)(hf:i∉fix)(ti:X.fn x=af\/X.env.scope.names.lookup x=J .local:=by first|exact .inl rfl|exact .inr rfl|assumption):pU X fix (.Name x pos) (b_ i):=by
 refine He (FU dT ao ag ti) λv σ H Q ⟨D,F,d,R,D',st,ow,au,aJ,q⟩=>?_;unfold b_ at aJ;split at aJ
 ·rename_i aF;cases aJ;obtain⟨bp,cI,b1,pm⟩:=st.put (i:=i) ow aF;exact q _ H bp (d3.set hf) b1 ((bR.perm au<|List.Perm.refl _).less pm)
 ·cases aJ
noncomputable def X'(fix:List Nat)(g:List aC->bq->Option bq):pF:=λvs σ H Q=>∃D F ds R D',b2 H D σ F/\e9 H ds vs R/\(F++R).Nodup/\g ds D=J D'/\∀bc ak bB,d3 fix σ bc->b2 ak D' bc bB->bR H (F++R) ak bB->Q bc ak
noncomputable def CH(X:a4)(fix:List Nat)(es:List bM)(g:List aC->bq->Option bq):Prop:=∀ ⦃p⦄,Mh X es (X' fix g) p
@[simp] noncomputable def hZ:List aC->bq->Option bq
 |[],D=>J D
 |_,_=>aa
@[simp] noncomputable def ew(g:hE)(h:List aC->bq->Option bq):List aC->bq->Option bq
 |d::ds,D=>(g d D).bind (h ds)
 |_,_=>aa
theorem NU{t t':pF}(h:tp X es t)(i:∀v σ H Q,t' v σ H Q->t v σ H Q):tp X es t':=λpins s σ H xs vs Q I r hw=>h pins s σ H xs vs Q I r (i xs σ H Q hw)
theorem pV:CH X fix [] hZ:=by
 refine NU Mi λvs σ H Q ⟨D,F,ds,R,D',st,ow,au,aJ,q⟩=>?_;cases ds with
 |cons d ds=>cases aJ
 |nil=>
  cases aJ;exact⟨ow.1,q σ H F d3.refl st<|(bR.perm au<|List.Perm.refl _).less<|List.Perm.refl _⟩
theorem iz{g:hE}(O:pU X fix e g)(U:CH X fix es h)(aq:(jK (e::es) X.env).map (·.2)=lT e X.env::(jK es X.env).map (·.2):=by rfl):CH X fix (e::es) (ew g h):=by
 refine NU (FV O U aq) λvs σ H Q ⟨D,F,ds,R,D',st,ow,au,aJ,q⟩=>?_;cases ds with
 |nil=>cases aJ
 |cons d ds=>
  obtain⟨v,r,dr,cI,rfl,ee,ec,rfl⟩:=ow;obtain⟨D1,g1,g2⟩:=cv.mp (show (g d D).bind (h ds)=J D' from aJ);have oK:((F++dr)++cI).Nodup:=by rw[bY];exact au
  refine⟨v,r,rfl,D,F,d,dr,D1,st,ee,(eA.mp oK).1,g1,λl2 H1 F1 fx cb s1=>?_⟩;have CG:∀a∈cI,a∉F++dr:=λa az ae=>(eA.mp oK).2.2 a ae a az rfl;have Hf:e9 H1 ds r cI:=ec.mono s1.tup λa az o e=>s1.keep a o e (CG a az);have s2:bR H (F++(dr++cI)) H1 (F1++cI):=by
   refine⟨λa o e az=>s1.keep a o e λh=>az ?_,λa az=>?_,eA.mpr ⟨s1.au,(eA.mp oK).2.1,λa az b ae e=>?_⟩,s1.tup,s1.grow⟩
   ·rw[<-bY];exact fD _ h
   ·rcases e3.mp az with az|az
    ·rcases s1.sub a az with h|h
     ·left;rw[<-bY];exact fD _ h
     ·exact .inr h
    ·left;rw[<-bY];exact fR _ az
   ·subst e;rcases s1.sub a az with h|h
    ·exact CG a ae h
    ·obtain⟨o,e,_⟩:=ec.chg a ae;rw[e]at h;cases h
  exact⟨D1,F1,ds,cI,D',cb,Hf,s2.au,g2,λeW a6 bp tY b1 s3=>q eW a6 bp (fx.trans tY) b1<|s2.seq s3⟩
@[simp] noncomputable def hF(n:Nat)(h:List aC->bq->Option bq):hE:=λd D=>match d with
 |.im (.tup is)=>if is.length=n then h (is.map .im) D else aa
 |.wa ds=>if ds.length=n then h ds D else aa
 |_=>aa
theorem NV{H:aM}:∀{is:List ah}{vs:List V},cq H is vs->e9 H (is.map .im) vs []
 |[],vs,h=>⟨h,rfl⟩
 |d::is,vs,h=>by
  obtain⟨v,r,rfl,O,U⟩:=h;exact⟨v,r,[],[],rfl,⟨O,rfl⟩,NV U,rfl⟩
theorem pW(av:X.calm=af)(aq:CH X fix es h)(bo:(jK es X.env).length=n:=by rfl)(gj:(jK es X.env).findIdx? (·.1)=aa:=by rfl):pU X fix (.Tuple es k pos) (hF n h):=by
 refine He (Um av aq bo gj) λv σ H Q ⟨D,F,d,R,D',st,ow,au,aJ,q⟩=>?_;unfold hF at aJ;split at aJ
 ·rename_i is;split at aJ
  ·rename_i aF;obtain⟨⟨a,xs,rfl,O,U⟩,rfl⟩:=ow;exact⟨a,xs,rfl,dh.of O,by rw[<-U.length];exact aF,D,F,_,[],D',st,NV U,au,aJ,q⟩
  ·cases aJ
 ·rename_i ds;split at aJ
  ·rename_i aF;obtain⟨a,xs,rfl,O,U⟩:=ow;exact⟨a,xs,rfl,dh.of O,by rw[<-U.length];exact aF,D,F,_,R,D',st,U,au,aJ,q⟩
  ·cases aJ
 ·cases aJ
@[simp] noncomputable def iA(g:M aC)(h:hE):b5:=λD=>(g D).bind λp=>(h p.1 p.2).map λD'=>(.bC,D')
theorem oL{h:hE}(he:dP X e g)(aJ:pU X fix tg h)(aq:Bf [tg] e pos.line X.env=pure aD:=by rfl)(hw:Bg [tg] e X.env=pure aa:=by rfl)(O:(jK [tg] X.env).map (·.2)=[lT tg X.env]:=by rfl):i_ X fix (.Assign [tg] e pos) (iA g h):=by
 refine oJ (Up he aJ aq hw O) λE σ H ⟨D,F,bf,D',st,au,gD,q⟩=>?_;obtain⟨⟨r,D1⟩,g1,g2⟩:=cv.mp gD;obtain⟨D2,g3,eM⟩:=dK.mp g2;cases eM;exact⟨D,F,r,D1,st,au,g1,λv H1 F1 R cb ow s1=>⟨D1,F1,r,R,_,cb,ow,s1.au,g3,λbc ak bB fx aK s2=>q bc ak bB fx aK<|s1.seq s2⟩⟩
@[simp] noncomputable def yK(i j:Nat)(g:M (List cH)):b5:=λD=>(g D).bind λp=>(gB p.1 p.2).bind λq=>match q.1 with
 |[cS,cM]=>if i<q.2.length/\j<q.2.length then J (.bC,(q.2.set i<|J cS).set j<|J cM) else aa
 |_=>aa
noncomputable def pX(c:M Bool)(b:b5):Nat->b5
 |0=>λ_=>aa
 |n+1=>λD=>(c D).bind λp=>if p.1=af then (b p.2).bind λq=>match q.1 with
  |.bC=>pX c b n q.2
  |.dA=>pX c b n q.2
  |.eF=>J (.bC,q.2)
  |.fQ d=>J (.fQ d,q.2) else J (.bC,p.2)
theorem NW(n:Nat)(aE:vk (a' X.prog X.w) X.A X.env X.dw)(av:lu X c eo)(ae:j4 X fix body c4):i_ X fix (.While c body [] pos) (pX eo c4 n):=by
 refine oJ (Ut aE av ae) λE σ H ⟨D,F,bf,D',st,au,aJ,q⟩=>?_;refine⟨λm bc ak=>∃hp bB,b2 ak hp bc bB/\d3 fix σ bc/\bR H F ak bB/\pX eo c4 m hp=J (bf,D'),⟨n,D,F,st,d3.refl,bR.perm au<|List.Perm.refl _,aJ⟩,?_⟩;rintro m l2 H1 ⟨D1,F1,cb,yL,s1,w⟩;cases m with
 |zero=>cases w
 |succ m=>
  rw[pX]at w;obtain⟨⟨t,D2⟩,ee,ec⟩:=cv.mp w;refine⟨D1,F1,t,D2,cb,s1.au,ee,λa6 bp b1 s2=>?_⟩;cases t with
  |false=>
   rw[aZ e1]at ec ⊢;cases ec;exact q l2 a6 bp yL b1 (s1.seq s2)
  |true=>
   rw[aV rfl]at ec ⊢;obtain⟨⟨f,da⟩,gk,iB⟩:=cv.mp ec;refine⟨λbc ak=>∃hp bB,b2 ak hp bc bB/\d3 fix σ bc/\bR H F ak bB/\pX eo c4 m hp=J (bf,D'),λbc ak h=>⟨m,xI m,h⟩,D2,bp,f,da,b1,s2.au,gk,?_⟩;cases f with
   |bC=>exact λbc ak bB fx aK s'=>⟨da,bB,aK,yL.trans fx,(s1.seq s2).seq s',iB⟩
   |dA=>exact λbc ak bB fx aK s'=>⟨da,bB,aK,yL.trans fx,(s1.seq s2).seq s',iB⟩
   |eF=>
    cases iB;exact λbc ak bB fx aK s'=>q bc ak bB (yL.trans fx) aK ((s1.seq s2).seq s')
   |fQ d=>
    cases iB;exact λv bc ak bB R fx aK ow s'=>q v bc ak bB R (yL.trans fx) aK ow ((s1.seq s2).seq s')
structure r_(cm:nF)(H:aM)(R:List ar)(ds:List ah):Prop where
 go:∀ak,hW H ak->(∀a∈R,∀o,H a=J o->ak a=J o)->∀(i:Nat) (d:ah),ds[i]?=J d->cm.go i ak/\∀x sb,cm.ya i ak x sb->eg ak sb/\dR sb d x
 stop:∀ak,hW H ak->(∀a∈R,∀o,H a=J o->ak a=J o)->cm.stop ds.length ak
noncomputable def yM(H:aM)(σ:St)(R:List ar):Option (Nat×aC)->Prop
 |none=>True
 |some (i,d)=>∃v,σ[i]?=J (J v)/\Own H d v R
noncomputable def Hg(g:M (List ah×Option (Nat×aC))):TI:=λσ H CI=>∃D F r D',b2 H D σ F/\F.Nodup/\g D=J (r,D')/\∀cm ak bB R,b2 ak D' σ bB->r_ cm ak R r.1->yM ak σ R r.2->(∀a∈R,jw ak a)->bR H F ak (bB++R)->CI cm ak
noncomputable def tZ(X:a4)(tg iter:bM)(g:M (List ah×Option (Nat×aC))):Prop:=∀ ⦃p⦄,Mk X tg iter (Hg g) p
theorem Hh{t t':TI}(h:pG X tg iter t)(i:∀σ H R,t' σ H R->t σ H R):pG X tg iter t':=λpins s σ H R I hw=>h pins s σ H R I (i σ H R hw)
noncomputable def fZ(tg:hE)(b:b5):List ah->b5
 |[]=>λD=>J (.bC,D)
 |x::r=>λD=>(tg (.im x) D).bind λD1=>(b D1).bind λq=>match q.1 with
  |.bC=>fZ tg b r q.2
  |.dA=>fZ tg b r q.2
  |.eF=>J (.bC,q.2)
  |.fQ d=>J (.fQ d,q.2)
@[simp] noncomputable def qX:Option (Nat×aC)->bq->bq
 |none,D=>D
 |some (i,d),D=>match D[i]? with
  |some (J .fH)=>D.set i (J d)
  |_=>D
@[simp] noncomputable def kD(g:M (List ah×Option (Nat×aC)))(tg:hE)(b:b5):b5:=λD=>(g D).bind λp=>(fZ tg b p.1.1 p.2).map λq=>(q.1,qX p.1.2 q.2)
theorem Hi{o:Option (Nat×aC)}(st:b2 H D σ F)(h:yM H σ R o):∃F1 G,b2 H (qX o D) σ F1/\(F1++G).Perm (F++R):=by
 cases o with
 |none=>exact⟨F,R,st,List.Perm.refl _⟩
 |some p=>
  obtain⟨i,d⟩:=p;obtain⟨v,O,U⟩:=h;unfold qX;dsimp only;split
  ·exact st.back U O
  ·exact⟨F,R,st,List.Perm.refl _⟩
noncomputable def t2(fx:List Nat):Option (Nat×aC)->Prop
 |none=>True
 |some (i,_)=>i∈fx
theorem X_{g:M (List ah×Option (Nat×aC))}{gt:hE}(aE:vk (a' X.prog X.w) X.A X.env X.dw)(av:X.calm=af)(ao:tZ X tg iter g)(aJ:pU X fx tg gt)(ae:j4 X fx body c4)(hf:∀i∈fix,i∈fx)(aq:∀D r D',g D=J (r,D')->t2 fx r.2)(CJ:jR X (.For tg iter body [] pos) (Ml (Hg g) (Hd fx gt)<|tW fx c4)):i_ X fix (.For tg iter body [] pos) (kD g gt c4):=by
 refine oJ CJ λE σ H ⟨D,F,bf,D',st,au,gD,q⟩=>?_;obtain⟨⟨⟨ds,o⟩,D1⟩,O,U⟩:=cv.mp gD;obtain⟨⟨f,D2⟩,aL,aU⟩:=dK.mp U;cases aU;refine⟨D,F,(ds,o),D1,st,au,O,λcm H1 F1 R cb it ln CK s1=>?_⟩;have Ya:t2 fx o:=aq D _ _ O;have t4:=eA.mp s1.au;have keepR:∀{a6:aM}{bp:List ar},bR H1 F1 a6 bp->∀a∈R,∀u,H1 a=J u->a6 a=J u:=λs a az u e=>s.keep a u e λh=>t4.2.2 a h a az rfl;have NX:∀{a6:aM}{bp:List ar}{eW:St},bR H1 F1 a6 bp->d3 fx σ eW->yM a6 eW R o:=λ{a6 bp eW} s f=>by
  cases o with
  |none=>trivial
  |some p=>
   obtain⟨i,d⟩:=p;obtain⟨v,ay,aG⟩:=ln;exact⟨v,(f.2 i Ya).trans ay,aG.mono s.tup<|keepR s⟩
 have wc:∀{eW:St},d3 fx σ eW->d3 fix σ eW:=λf=>⟨f.1,λi ao=>f.2 i<|hf i ao⟩;have leave:∀{eW:St}{a6:aM}{bp:List ar}{D2:bq},yJ fix E σ H F (qX o D2) .bC->d3 fx σ eW->b2 a6 D2 eW bp->bR H1 F1 a6 bp->E.bC eW a6:=λ{eW a6 bp D2} q f b1 s2=>by
  obtain⟨gC,G,fS,pm⟩:=Hi b1 (NX s2 f);exact q eW a6 gC (wc f) fS ((s1.trans s2 CK).less pm)
 refine⟨λi m bc ak=>m+i=ds.length/\∃hp bB,d3 fx σ bc/\b2 ak hp bc bB/\bR H1 F1 ak bB/\fZ gt c4 (ds.drop i) hp=J (f,D2),⟨ds.length,rfl,D1,F1,d3.refl,cb,bR.perm t4.1<|List.Perm.refl _,aL⟩,?_⟩;rintro i m bc ak ⟨hm,hp,bB,m8,aK,s',hw⟩;by_cases gy:i<ds.length
 ·obtain⟨yN,aw⟩:=it.go ak s'.tup (keepR s') i ds[i] (by simp[gy]);rw[qj gy,fZ]at hw;obtain⟨da,ee,ec⟩:=cv.mp hw;obtain⟨⟨f2,hG⟩,gk,iB⟩:=cv.mp ec;refine .inr ⟨yN,λeW a6=>(m-1)+(i+1)=ds.length/\∃hp bB,d3 fx σ eW/\b2 a6 hp eW bB/\bR H1 F1 a6 bB/\fZ gt c4 (ds.drop<|i+1) hp=J (f,D2),λeW a6 h=>⟨m-1,by lia,h⟩,λx a6 ag=>?_⟩;obtain⟨g5,yO⟩:=aw x a6 ag;have b1:=aK.mono g5.tupS λa _ o e=>g5 a o e;have s2:=s'.same g5;refine⟨hp,bB,.im ds[i],[],da,b1,⟨yO,rfl⟩,by rw[c5];exact s2.au,ee,λjS cY gC mi fS qY=>?_⟩;have s3:bR H1 F1 cY gC:=s2.seq (by rw[c5]at qY;exact qY);refine⟨da,gC,f2,hG,fS,s3.au,gk,?_⟩;cases f2 with
  |bC=>exact λpY fF gR lB fA s4=>⟨by lia,hG,gR,(m8.trans mi).trans lB,fA,s3.seq s4,iB⟩
  |dA=>exact λpY fF gR lB fA s4=>⟨by lia,hG,gR,(m8.trans mi).trans lB,fA,s3.seq s4,iB⟩
  |eF=>
   cases iB;exact λpY fF gR lB fA s4=>leave q ((m8.trans mi).trans lB) fA (s3.seq s4)
  |fQ d=>
   cases iB;intro v pY fF gR pT lB fA Hj s4;have s5:=s3.seq s4;have l3:=(m8.trans mi).trans lB;obtain⟨sd,CL,hk,qZ⟩:=Hi (R:=R) fA (NX s5 l3);refine q v pY fF sd pT (wc l3) hk Hj ((s1.trans s5 CK).less (C:=CL) ?_);rw[bY];refine (fK sd ek).trans ?_;rw[<-bY];refine (g8 pT qZ).trans ?_;rw[bY,bY];exact fK _ ek
 ·have ao:i=ds.length:=by lia
  subst ao;refine .inl ⟨it.stop ak s'.tup<|keepR s',?_⟩;rw[u5 (cp _)]at hw;cases hw;exact leave q m8 aK s'
end
section
variable{X:a4}
variable{gt:hE}
theorem q0{g:M (List ah×Option (Nat×aC))}{c4:b5}(aE:vk (a' X.prog X.w) X.A X.env X.dw)(av:X.calm=af)(ao:tZ X tg iter g)(aJ:pU X fx tg gt)(ae:j4 X fx body c4)(hf:∀i∈fix,i∈fx)(aq:∀D r D',g D=J (r,D')->t2 fx r.2)(Hk:∀x,rD iter X.env x=pure x:=by intro _;rfl):i_ X fix (.For tg iter body [] pos) (kD g gt c4):=
 X_ aE av ao aJ ae hf aq (Mn aE av ao aJ ae Hk)
noncomputable def Yb(K:PySem.W.Frag)(js:TE):TI:=λσ H R=>js σ H λx H1=>∃a,x=.ref a/\(((∃xs,er K H1 a xs)/\R (yb K a) H1)\/((∃xs,dh K H1 a xs)/\R (BM K a) H1))
variable{l:bM}
theorem NY{js:TE}(aF:cF X l js):pG X tg l (Yb X.K js):=by
 intro pins s σ H R I h;refine cQ (aF pins s σ H _ I h) λv s1 ⟨x,H1,bG,a9,bz⟩=>?_;obtain⟨a,e,q⟩:=bz;subst e;cases a9;rcases q with ⟨⟨xs,bk⟩,q⟩|⟨⟨xs,bk⟩,q⟩
 ·obtain⟨aP,b0,p,hz⟩:=bG.list bk;refine J2 p.isList ?_;refine⟨s1.heap.objs.size,[s1.heap.objs.size],_,_,H1,rfl,bG.kept (t':=s1.toks) λb o e=>dc _ e,Uu a _,⟨_,fw _ rfl,rfl,rfl⟩,λb ae=>?_,q⟩;have e:b=s1.heap.objs.size:=by simpa using ae
  subst e;exact bG.BL (cp _) (bG.bw.fresh<|cp _)
 ·obtain⟨aP,b0,p,hz⟩:=bG.tuple bk;refine wpAny_pyIter_tuple (show s1.heap.IsTuple a aP.toArray from p) ?_;refine⟨s1.heap.objs.size,[s1.heap.objs.size],_,_,H1,rfl,bG.kept (t':=s1.toks) λb o e=>dc _ e,Uv a _,⟨_,fw _ rfl,rfl,rfl⟩,λb ae=>?_,q⟩;have e:b=s1.heap.objs.size:=by simpa using ae
  subst e;exact bG.BL (cp _) (bG.bw.fresh<|cp _)
theorem cq.get{H:aM}:∀{ds:List ah}{vs:List V}{i:Nat}{d:ah},cq H ds vs->ds[i]?=J d->∃v,vs[i]?=J v/\dR H d v
 |[],_,_,_,_,e=>by simp at e
 |d::ds,_,0,_,h,e=>by
  obtain⟨v,r,rfl,O,U⟩:=h;simp at e;subst e;exact⟨v,rfl,O⟩
 |d::ds,_,i+1,_,h,e=>by
  obtain⟨v,r,rfl,O,U⟩:=h;obtain⟨u,g1,g2⟩:=cq.get (i:=i) U (by simpa using e);exact⟨u,by simpa using g1,g2⟩
variable{a:ar}
theorem Hl(h:H a=J (.lst xs))(hd:cq H ds xs):r_ (yb K a) H [a] ds where
 go:=λak t k i d e=>by
  obtain⟨v,g1,g2⟩:=hd.get e;have h':=er.of (K:=K) (k a (.head _) _ h);refine⟨⟨xs,v,h',g1⟩,λx sb ⟨ay,aG⟩=>?_⟩;subst ay;rw[aG xs h']at g1;cases g1;exact⟨eg.refl _,g2.mono t.tup⟩
 stop:=λak t k=>⟨xs,er.of<|k a (.head _) _ h,by rw[<-hd.length];exact cp _⟩
theorem Yc{o:bE}(h:H a=J (.fO o<|.lst xs))(hd:cq H ds xs):r_ (yb K a) H [] ds where
 go:=λak t k i d e=>by
  obtain⟨v,g1,g2⟩:=hd.get e;have h':er K ak a xs:=.inl (.inr ⟨o,t.fO _ _ _ h⟩);refine⟨⟨xs,v,h',g1⟩,λx sb ⟨ay,aG⟩=>?_⟩;subst ay;rw[aG xs h']at g1;cases g1;exact⟨eg.refl _,g2.mono t.tup⟩
 stop:=λak t k=>⟨xs,.inl<|.inr ⟨o,t.fO _ _ _ h⟩,by rw[<-hd.length];exact cp _⟩
theorem Yd(h:H a=J (.tup xs))(hd:cq H ds xs):r_ (BM K a) H [] ds where
 go:=λak t k i d e=>by
  obtain⟨v,g1,g2⟩:=hd.get e;have h':=dh.of (K:=K) (t.tup a _ h);refine⟨⟨xs,v,h',g1⟩,λx sb ⟨ay,aG⟩=>?_⟩;subst ay;rw[aG xs h']at g1;cases g1;exact⟨eg.refl _,g2.mono t.tup⟩
 stop:=λak t k=>⟨xs,dh.of<|t.tup a _ h,by rw[<-hd.length];exact cp _⟩
noncomputable abbrev jc:=M (List ah×Option (Nat×aC))
@[simp] noncomputable def oM(d:aC):Option (List ah):=match d with
 |.im (.tup ds)=>J ds
 |.lst ds=>J ds
 |.e2 ds=>J ds
 |_=>aa
@[simp] noncomputable def eQ(g:M cH):jc:=λD=>(g D).bind λp=>match p.1 with
 |.dE d=>(oM d).map λds=>((ds,aa),p.2)
 |.bK i=>(g_ i p.2).bind λq=>(oM q.1).map λds=>((ds,if q.1.fy=af then aa else J (i,q.1)),q.2)
theorem NZ(w:Own H d v R)(e:oM d=J ds):
  ∃a,v=.ref a/\(((∃xs,er K H a xs)/\r_ (yb K a) H R ds)\/((∃xs,dh K H a xs)/\r_ (BM K a) H R ds)):=by
 unfold oM at e;split at e
 ·cases e;obtain⟨⟨a,xs,rfl,O,U⟩,rfl⟩:=w;exact⟨a,rfl,.inr ⟨⟨xs,dh.of O⟩,Yd O U⟩⟩
 ·cases e;obtain⟨a,xs,rfl,O,U,rfl⟩:=w;exact⟨a,rfl,.inl ⟨⟨xs,er.of O⟩,Hl O U⟩⟩
 ·cases e;obtain⟨a,xs,o,rfl,O,U,rfl⟩:=w;exact⟨a,rfl,.inl ⟨⟨xs,.inl<|.inr ⟨o,O⟩⟩,Yc O U⟩⟩
 ·cases e
theorem iC{g:M cH}(h:gp X l g):tZ X tg l (eQ g):=by
 refine Hh (NY h) λσ H CI ⟨D,F,r,D',st,au,aJ,q⟩=>?_;obtain⟨⟨x,D1⟩,O,U⟩:=cv.mp aJ;refine⟨D,F,x,D1,st,au,O,λv H1 F1 R cb o1 s1=>?_⟩;cases x with
 |dE d=>
  obtain⟨ds,aL,aU⟩:=dK.mp U;cases aU;obtain⟨a,rfl,dD⟩:=NZ (K:=X.K) o1 aL;refine⟨a,rfl,?_⟩;rcases dD with ⟨ag,it⟩|⟨ag,it⟩
  ·exact .inl ⟨ag,q _ H1 F1 R cb it trivial (Own.chg o1) s1⟩
  ·exact .inr ⟨ag,q _ H1 F1 R cb it trivial (Own.chg o1) s1⟩
 |bK i=>
  obtain⟨⟨d,D2⟩,aL,aU⟩:=cv.mp U;obtain⟨ds,c0,cU⟩:=dK.mp aU;cases cU;obtain⟨jm,bp,cI,g1,g2,g3,eM⟩:=NQ cb aL;obtain⟨o1,rfl⟩:=o1;rw[o1]at g1;cases g1;rw[c5]at s1;have s2:=s1.oH eM.symm;obtain⟨a,rfl,dD⟩:=NZ (K:=X.K) g2 c0;have ln:yM H1 σ cI (if d.fy=af then aa else J (i,d)):=by
   split
   ·trivial
   ·exact⟨_,o1,g2⟩
  refine⟨a,rfl,?_⟩;rcases dD with ⟨ag,it⟩|⟨ag,it⟩
  ·exact .inl ⟨ag,q _ H1 bp cI g3 it ln g2.chg s2⟩
  ·exact .inr ⟨ag,q _ H1 bp cI g3 it ln g2.chg s2⟩
theorem Ye{g:M aC}:∀D r D',eQ (ai g) D=J (r,D')->t2 fx r.2:=by
 intro D r D' h;obtain⟨⟨x,D1⟩,O,U⟩:=cv.mp h;unfold ai at O;obtain⟨p,aL,aU⟩:=dK.mp O;cases aU;obtain⟨ds,c0,cU⟩:=dK.mp U;cases cU
 trivial
variable{i:Nat}
theorem wd(ao:i∈fx):∀D r D',eQ (ax i) D=J (r,D')->t2 fx r.2:=by
 intro D r D' h;obtain⟨⟨x,D1⟩,O,U⟩:=cv.mp h;unfold ax at O;split at O
 ·cases O;obtain⟨⟨d,D2⟩,aL,aU⟩:=cv.mp U;obtain⟨ds,c0,cU⟩:=dK.mp aU;cases cU;show t2 fx (if d.fy=af then aa else J (i,d));split
  ·trivial
  ·exact ao
 ·cases O
noncomputable def mj(lo:Int)(n:Nat):List ah:=(range n).map λ(k:Nat)=>ah.int (lo+(k:Int))
theorem Yf{lo:Int}:r_ (BN lo n) H [] (mj lo n) where
 go:=λak t k i d e=>by
  have ao:i<n:=by
   have:=(iJ.mp e).1
   rwa [mj,b3,pd]at this
  refine⟨ao,λx sb ⟨ay,aG⟩=>?_⟩;subst ay;rw[mj,gJ,Ku ao]at e;cases e;exact⟨eg.refl _,aG⟩
 stop:=λak t k=>by
  show n<=_;rw[mj,b3,pd];exact cp _
noncomputable def yP(i:Int):Prop := -1000000<=i/\i<=1000000
noncomputable instance (i:Int):Decidable (yP i):=inferInstanceAs (Decidable<|_/\_)
@[simp] noncomputable def se(g:M (List cH)):jc:=λD=>(g D).bind λp=>(j2 p.2 p.1).bind λds=>match ds with
 |[.im (.int j)]=>if yP j then J ((mj 0 j.toNat,aa),p.2) else aa
 |_=>aa
theorem Hm{d:ah}(h:r7 H [.im d] vs):∃v,vs=[v]/\dR H d v:=by
 obtain⟨v,r,rfl,⟨R,O,_⟩,U⟩:=h;cases (show r=[] from U);exact⟨v,rfl,O⟩
theorem Yg{d e:ah}(h:r7 H [.im d,.im e] vs):∃v u,vs=[v,u]/\dR H d v/\dR H e u:=by
 obtain⟨v,r,rfl,⟨R,O,_⟩,U⟩:=h;obtain⟨u,rfl,aL⟩:=Hm U;exact⟨v,u,rfl,O,aL⟩
theorem N0{a:bM}{p:dk}(aJ:fo X "range")(hm:X.mg "range" = aa)(az:i9 X [a] g)(aq:cx [a] X.env=[(aD,de a X.env)]:=by rfl):tZ X tg (.Call (.Name "range" p) [a] [] pos) (se g):=by
 refine Hh (Uz aJ hm az aq) λσ H CI ⟨D,F,r,D',st,au,gD,q⟩=>?_;obtain⟨⟨os,D1⟩,O,U⟩:=cv.mp gD;obtain⟨ds,aL,aU⟩:=cv.mp U;refine⟨D,F,os,D1,st,au,O,λvs H1 F1 dr cb o1 s1=>?_⟩;have cN:=o1.read cb aL;split at aU
 ·rename_i j;split at aU
  ·rename_i bx;cases aU;obtain⟨v,rfl,e⟩:=Hm cN;cases (show v=.int j from e);exact⟨j,rfl,by have:=bx.1;lia,by have:=bx.2;lia,q _ H1 F1 [] cb Yf trivial (λa az=>nomatch az) (by rw[c5];exact s1.less (List.Perm.refl _))⟩
  ·cases aU
 ·cases aU
theorem N1:∀D r D',se g D=J (r,D')->t2 fx r.2:=by
 intro D r D' h;obtain⟨⟨os,D1⟩,O,U⟩:=cv.mp h;obtain⟨ds,aL,aU⟩:=cv.mp U;split at aU
 ·split at aU
  ·cases aU;trivial
  ·cases aU
 ·cases aU
noncomputable def CM(X:a4)(ifs:List bM)(g:M Bool):Prop:=∀ ⦃p⦄,M3 X ifs (nN g) p
noncomputable def gE:M Bool:=λD=>J (af,D)
theorem oN:CM X [] gE:=by
 intro pins s σ H Q I ⟨D,F,b,D',st,au,aJ,q⟩;cases aJ;exact WC pins s σ H Q I (q H F st<|bR.perm au<|List.Perm.refl _)
theorem yQ{g:M Bool}(h:lu X c g):CM X [c] g:=WD h
@[simp] noncomputable def pZ(caps:List Nat)(D:bq):bq:=caps.map λi=>D.getD i aa
noncomputable def p0:List Nat->bq->bq
 |[],D=>D
 |i::r,D=>p0 r (match D[i]? with|some (J _)=>D.set i (J .fH)|_=>D)
@[simp] noncomputable def m9:List Nat->bq->bq->bq
 |i::r,o::C,D=>m9 r C (D.set i o)
 |_,_,D=>D
noncomputable def kE(own:Nat)(tg:hE)(c:M Bool)(e:M aC): List ah -> List ah -> bq -> Option (List ah × bq)
  |[],acc,C => J (acc,C)
  |x :: r,acc,C => (tg (.im x)<|List.replicate own aa ++ C).bind λD1 => (c D1).bind λp => if p.1=af then (e p.2).bind λq => match q.1 with
      |.im d => if acc.length<100000 then kE own tg c e r (acc ++ [d]) (q.2.drop own) else aa
      |_ => aa
    else kE own tg c e r acc (p.2.drop own)
@[simp] noncomputable def eJ(own:Nat)(caps:List Nat)(lC:jc)(tg:hE)(c:M Bool)(e:M aC):M aC:=λD=>(lC D).bind λp=>(kE own tg c e p.1.1 []<|pZ caps p.2).map λq=>(.lst q.1,qX p.1.2<|m9 caps q.2 p.2)
noncomputable def yR(own n:Nat):List Nat:=(range n).map (·+own)
theorem Yh(h:D[i]?=J o):D.getD i aa=o:=by rw[du,h];rfl
theorem b2.void(st:b2 H D σ F)(i:Nat):∃F1 bp,b2 H (match D[i]? with|some (J _)=>D.set i (J .fH)|_=>D) σ F1/\r4 H (D.getD i aa) (σ.getD i aa) bp/\(F1++bp).Perm F:=by
 split
 ·rename_i d hd;obtain⟨v,F1,bp,O,U,aL,aU⟩:=st.out hd;refine⟨bp,F1,aL,?_,aU⟩;rw[Yh hd,du,O];exact⟨v,rfl,U⟩
 ·rename_i bo;refine⟨F,[],st,?_,by rw[c5]⟩;have:D.getD i aa=aa:=by
   rw[du];cases e:D[i]? with
   |none=>rfl
   |some o=>
    cases o with
    |none=>rfl
    |some d=>exact absurd e (bo d)
  rw[this];exact rfl
theorem N2{H:aM}{σ:St}:∀{caps:List Nat}{D:bq}{F:List ar},caps.Nodup->b2 H D σ F->∃F1 bp,b2 H (p0 caps D) σ F1/\b2 H (pZ caps D) (caps.map λi=>σ.getD i aa) bp/\(F1++bp).Perm F
 |[],D,F,_,st=>⟨F,[],st,⟨rfl,rfl⟩,by rw[c5]⟩
 |i::r,D,F,au,st=>by
  obtain⟨F1,bp,O,U,aL⟩:=st.void i;have bo:=lO.mp au;obtain⟨gC,gR,g1,g2,g3⟩:=N2 (caps:=r) bo.2 O;refine⟨gC,bp++gR,g1,⟨_,_,bp,gR,rfl,U,?_,rfl⟩,pS.trans<|(fK _ g3).trans<|ek.trans aL⟩;have e:pZ r (match D[i]? with|some (J _)=>D.set i (J .fH)|_=>D)=pZ r D:=by
   unfold pZ;refine xB λj bx=>?_;split
   ·rw[du,du,rv];rintro rfl;exact bo.1 bx
   ·rfl
  rw[e]at g2;exact g2
theorem b2.Yi(st:b2 H D σ F)(h:r4 H o (σ.getD i aa) G):∃F1 bp,b2 H (D.set i o) σ F1/\(F1++bp).Perm (F++G):=by
 cases o with
 |some d=>
  obtain⟨v,e,w⟩:=h;refine st.back w ?_;rw[du]at e;cases q:σ[i]? with
  |none=>rw[q]at e;cases e
  |some x=>rw[q]at e;rw[show x=J v from e]
 |none=>
  cases (show G=[] from h);rw[c5];by_cases ao:i<D.length
  ·cases q:D[i]? with
   |none=>exact absurd (List.getElem?_eq_none_iff.mp q) (by lia)
   |some x=>
    cases x with
    |none=>
     refine⟨F,[],?_,by rw[c5]⟩;have:D.set i aa=D:=by
      refine u9 λj=>?_;by_cases e:i=j
      ·subst e;rw[q,AG ao]
      ·rw[rv e]
     rw[this];exact st
    |some d=>
     obtain⟨v,F1,bp,O,U,aL,aU⟩:=st.out q;have gen:∀{D:bq}{σ:St}{F:List ar}{i:Nat},b2 H D σ F->∃F1 bp,b2 H (D.set i aa) σ F1/\(F1++bp).Perm F:=by
      intro D;induction D with
      |nil=>intro σ F i st;exact⟨F,[],by simpa using st,by rw[c5]⟩
      |cons o D bS=>
       intro σ F i st;obtain⟨x,r,A,B,rfl,s1,s2,rfl⟩:=st;cases i with
       |zero=>exact⟨B,A,⟨x,r,[],B,rfl,rfl,s2,rfl⟩,ek⟩
       |succ i=>
        obtain⟨C,E,di,eh⟩:=bS (i:=i) s2;refine⟨A++C,E,⟨x,r,A,C,rfl,s1,di,rfl⟩,?_⟩;rw[bY];exact fK _ eh
     exact gen st
  ·refine⟨F,[],?_,by rw[c5]⟩;rw[List.set_eq_of_length_le (by lia)];exact st
theorem sK{H:aM}{σ:St}:∀{caps:List Nat}{C D:bq}{F G:List ar},b2 H D σ F->b2 H C (caps.map λi=>σ.getD i aa) G->∃F1 bp,b2 H (m9 caps C D) σ F1/\(F1++bp).Perm (F++G)
 |[],C,D,F,G,st,_=>⟨F,G,by cases C<;>exact st,List.Perm.refl _⟩
 |i::r,[],D,F,G,st,h=>⟨F,G,st,List.Perm.refl _⟩
 |i::r,o::C,D,F,G,st,h=>by
  obtain⟨x,t,qT,qU,e,O,U,rfl⟩:=h;cases e;obtain⟨F1,A,g1,g2⟩:=st.Yi O;obtain⟨bp,B,k1,k2⟩:=sK (caps:=r) (C:=C) g1 U;refine⟨bp,B++A,k1,?_⟩;rw[<-bY,<-bY];refine (g8 A k2).trans ?_;rw[bY];refine (fK F1 ek).trans ?_;rw[<-bY];exact g8 _ g2
theorem AT:∀{caps:List Nat}{C D:bq},caps.length=C.length->caps.Nodup->m9 caps C (p0 caps D)=m9 caps C D:=by
 have comm:∀{r:List Nat}{C D:bq}{i:Nat}{o:Option aC},i∉r->m9 r C (D.set i o)=(m9 r C D).set i o:=by
  intro r;induction r with
  |nil=>intro C D i o _;cases C<;>rfl
  |cons j r bS=>
   intro C D i o h;cases C with
   |nil=>rfl
   |cons c C=>
    have bx:i≠j:=λe=>h (by rw[e];exact .head _);show m9 r C ((D.set i o).set j c)=(m9 r C<|D.set j c).set i o;rw[ER _ _ bx,bS λz=>h<|.tail _ z]
 have Hn:∀{r:List Nat}{D:bq}{i:Nat}{o:Option aC},i∉r->p0 r (D.set i o)=(p0 r D).set i o:=by
  intro r;induction r with
  |nil=>intro D i o _;rfl
  |cons j r bS=>
   intro D i o h;have bx:i≠j:=λe=>h (by rw[e];exact .head _);show p0 r (match (D.set i o)[j]? with|some (J _)=>(D.set i o).set j (J .fH)|_=>D.set i o)=(p0 r (match D[j]? with|some (J _)=>D.set j (J .fH)|_=>D)).set i o;rw[rv bx];cases D[j]? with
   |none=>exact bS λz=>h (.tail _ z)
   |some q=>
    cases q with
    |none=>exact bS λz=>h (.tail _ z)
    |some d=>
     show p0 r ((D.set i o).set j<|J .fH)=_;rw[ER _ _ bx];exact bS λz=>h (.tail _ z)
 intro caps;induction caps with
 |nil=>intro C D _ _;cases C<;>rfl
 |cons i r bS=>
  intro C D aF au;have bo:=lO.mp au;cases C with
  |nil=>cases aF
  |cons c C=>
   have hv:r.length=C.length:=by simpa using aF
   show m9 r C ((p0 r (match D[i]? with|some (J _)=>D.set i (J .fH)|_=>D)).set i c)=m9 r C (D.set i c);split
   ·rw[Hn bo.1,AZ,<-Hn bo.1,bS hv bo.2]
   ·rw[<-Hn bo.1,bS hv bo.2]
theorem N3{H:aM}{D:bq}{r:St}{F:List ar}(h:b2 H D r F):∀{own:List aQ},b2 H (List.replicate own.length aa++D) (own.map (λ_=>aa)++r) F
 |[]=>h
 |x::own=>⟨aa,_,[],F,rfl,rfl,N3 h (own:=own),rfl⟩
theorem Ho{H:aM}:∀{n:Nat}{D:bq}{σ:St}{F:List ar},b2 H D σ F->∃F1 bp,b2 H (D.drop n) (σ.drop n) F1/\(F1++bp).Perm F
 |0,D,σ,F,h=>⟨F,[],h,by rw[c5]⟩
 |n+1,[],σ,F,h=>by
  cases h.1;exact⟨[],F,⟨rfl,rfl⟩,List.Perm.refl _⟩
 |n+1,o::D,σ,F,h=>by
  obtain⟨x,r,A,B,rfl,O,U,rfl⟩:=h;obtain⟨F1,bp,g1,g2⟩:=Ho (n:=n) U;exact⟨F1,bp++A,g1,by rw[<-bY];exact (g8 A g2).trans ek⟩
theorem bR.both(a:bR H F H1 (F1++R)):bR H F H1 F1:=a.less (List.Perm.refl _)
theorem cq.snoc:∀{ds:List ah}{vs:List V}{d:ah}{v:V},cq H ds vs->dR H d v->cq H (ds++[d]) (vs++[v])
 |[],vs,d,v,h,w=>by cases (show vs=[] from h);exact⟨v,[],rfl,w,rfl⟩
 |e::ds,vs,d,v,h,w=>by
  obtain⟨u,r,rfl,O,U⟩:=h;exact⟨u,r++[v],rfl,O,U.snoc w⟩
variable{lC:jc}
theorem N4(au:caps.Nodup)(h:qV (eJ own.length caps lC gt eo ge) σ H Q):
  B7 own caps (Hg lC) (λ_=>Hd (yR own.length caps.length) gt) (λ_=>nN eo) (λ_=>qV ge) σ H Q:=by
 obtain⟨D,F,r,D',st,Yj,gD,q⟩:=h;obtain⟨⟨⟨xs,o⟩,D1⟩,O,U⟩:=cv.mp gD;obtain⟨⟨ds,C'⟩,aL,aU⟩:=dK.mp U;cases aU;refine⟨D,F,(xs,o),D1,st,Yj,O,λcm H1 F1 R cb it ln CK s1 Y=>?_⟩;obtain⟨j5,we,fI,sc,pm⟩:=N2 au cb;have s2:bR H F H1 (we++(j5++R)):=s1.oH (by
  refine (g8 R pm.symm).trans ?_;rw[bY];exact pS)
 have m':=eA.mp s2.au;have Yk:∀x∈j5++R,jw H1 x:=λx ag=>by
  rcases e3.mp ag with ag|ag
  ·exact fI.chg x ag
  ·exact CK x ag
 have CN:∀{a6:aM}{bp:List ar},bR H1 we a6 bp->∀a∈j5++R,∀u,H1 a=J u->a6 a=J u:=λs a az u e=>s.keep a u e λh=>m'.2.2 a h a az rfl;refine⟨λi m a3 ak=>m+i=xs.length/\∃acc C t5,b2 ak C (caps.map λi=>σ.getD i aa) t5/\C.length=caps.length/\bR H1 we ak t5/\cq ak acc a3/\kE own.length gt eo ge (xs.drop i) acc C=J (ds,C'),
  ⟨xs.length,rfl,[],pZ caps D1,we,sc,by rw[pZ,b3],bR.perm m'.1<|List.Perm.refl _,rfl,aL⟩,?_⟩;rintro i m a3 ak ⟨hm,acc,C,t5,N5,Yl,s',CO,hw⟩;by_cases gy:i<xs.length
 ·obtain⟨yN,aw⟩:=it.go ak s'.tup (λa az=>CN s' a<|fR _ az) i xs[i] (by simp[gy]);rw[qj gy,kE]at hw;obtain⟨da,ee,ec⟩:=cv.mp hw;obtain⟨⟨b,hG⟩,gk,iB⟩:=cv.mp ec;refine .inr ⟨yN,λN6 a6=>(m-1)+(i+1)=xs.length/\∃acc C t5,b2 a6 C (caps.map λi=>σ.getD i aa) t5/\C.length=caps.length/\bR H1 we a6 t5/\cq a6 acc N6/\kE own.length gt eo ge (xs.drop<|i+1) acc C=J (ds,C'),λN6 a6 h=>⟨m-1,by lia,h⟩,λx a6 ag=>?_⟩;obtain⟨g5,yO⟩:=aw x a6 ag;have Ym:=N5.mono g5.tupS λa _ o e=>g5 a o e;have N7:=s'.same g5;have CP:=CO.mono g5.tupS.tup;refine⟨List.replicate own.length aa++C,t5,.im xs[i],[],da,N3 Ym,⟨yO,rfl⟩,by rw[c5];exact N7.au,ee,λjS cY gC mi fS qY=>⟨λj v bx=>?_,?_⟩⟩
  ·
   have hlen:own.length<=j:=by
    by_cases Yn:j<own.length
    ·rw[ou,qi (by simpa using Yn),gJ]at bx;cases e:own[j]? with
     |none=>rw[e]at bx;cases bx
     |some z=>rw[e]at bx;cases bx
    ·lia
   have agx:j<own.length+caps.length:=by
    have:=(iJ.mp bx).1
    rwa [ou,eZ,b3,b3]at this
   have hm:j∈yR own.length caps.length:=e0.mpr ⟨j-own.length,iK.mpr (by lia),by lia⟩;exact (mi.2 j hm).trans bx
  ·have s3:bR H1 we cY gC:=N7.seq (by rw[c5]at qY;exact qY);have CP:=CP.mono qY.tup.tup;have N8:jS.drop own.length=caps.map λi=>σ.getD i aa:=by
    have agy:=fS.len;refine u9 λj=>?_;by_cases bx:j<caps.length
    ·have hm:j+own.length∈yR own.length caps.length:=e0.mpr ⟨j,iK.mpr bx,rfl⟩;have:=mi.2 _ hm;rw[ry,A5,this,ou,qh (by simp),b3,Nat.add_sub_cancel]
    ·have b':jS.length<=own.length+caps.length:=by
      rw[mi.1,ou,eZ,b3,b3];exact cp _
     rw[xA (by rw[iu];lia),xA (by rw[b3];lia)]
   have N9:jS.length=own.length+caps.length:=by rw[mi.1,ou,eZ,b3,b3]
   refine⟨da,gC,b,hG,fS,s3.au,gk,λfF gR fA s4=>?_⟩;have s5:=s3.seq s4;dsimp only at iB ⊢;cases b with
   |false=>
    rw[aZ e1]at iB ⊢;obtain⟨sd,CL,hk,qZ⟩:=Ho (n:=own.length) fA;rw[N8]at hk;exact⟨by lia,acc,hG.drop own.length,sd,hk,by rw[iu,fA.len,N9];lia,s5.less qZ,CP.mono s4.tup.tup,iB⟩
   |true=>
    rw[aV rfl]at iB ⊢;obtain⟨⟨v,N'⟩,Yo,wg⟩:=cv.mp iB;dsimp only at wg;split at wg
    ·rename_i d;split at wg
     ·rename_i aF;refine⟨hG,gR,.im d,N',fA,s5.au,Yo,λu oe sd N_ hk ow og=>?_⟩;obtain⟨Yp,rfl⟩:=ow;rw[c5]at og;have ox:=(CP.mono s4.tup.tup).mono og.tup.tup;refine⟨A2 (show a3.length<=100000 by rw[<-ox.length];lia) (by decide),?_⟩;obtain⟨Yq,agz,Oa,Yr⟩:=Ho (n:=own.length) hk;rw[N8]at Oa;exact⟨by lia,acc++[d],N'.drop own.length,Yq,Oa,by rw[iu,hk.len,N9];lia,(s5.seq og).less Yr,ox.snoc Yp,wg⟩
     ·cases wg
    ·cases wg
 ·have ao:i=xs.length:=by lia
  subst ao;refine .inl ⟨it.stop ak s'.tup<|λa az=>CN s' a<|fR _ az,λyS Ob=>?_⟩;rw[u5 (cp _),kE]at hw;cases hw;have Ys:b2 ak (p0 caps D1) σ j5:=fI.mono s'.tup λa az=>CN s' a (fD _ az);obtain⟨gR,wh,fA,yI⟩:=sK Ys N5;rw[AT (by rw[Yl]) au]at fA;have Yt:yM ak σ R o:=by
   cases o with
   |none=>trivial
   |some p=>
    obtain⟨i,d⟩:=p;obtain⟨v,ay,aG⟩:=ln;exact⟨v,ay,aG.mono s'.tup λa az=>CN s' a<|fR _ az⟩
  obtain⟨sd,CL,hk,qZ⟩:=Hi (R:=R) fA Yt;have g5:eg ak (upd ak yS<|.lst a3):=(eg.refl ak).upd Ob;have s5:bR H F ak sd:=(s2.trans s' Yk).less (C:=CL++wh) (by
   rw[<-bY];refine (g8 wh qZ).trans ?_;rw[bY];refine (fK gR ek).trans ?_;rw[<-bY];refine (g8 R yI).trans ?_;rw[bY];exact pS)
  exact q _ _ sd [yS] (hk.mono g5.tupS λa _ o e=>g5 a o e) ⟨yS,a3,rfl,hy,CO.mono g5.tupS.tup,rfl⟩ (s5.add Ob hk.chg)
theorem lD{elt:bM}{ifs:List bM}{scope:iL}(av:X.calm=af)(S:mV X scope own caps)(au:caps.Nodup)(ao:tZ X tg iter lC)(aJ:∀Y,pU (X.i0 (i1 X own caps) scope Y) (yR own.length caps.length) tg gt)(cE:∀Y,CM (X.i0 (i1 X own caps) scope Y) ifs eo)(he:∀Y,dP (X.i0 (i1 X own caps) scope Y) elt ge)(aq:∀x,rD iter X.env x=pure x:=by intro _;rfl):dP X (.ListComp elt [⟨tg,iter,ifs,0⟩] scope pos) (eJ own.length caps lC gt eo ge):=
 fV (WW av S ao aJ cE he aq) λσ H Q h=>N4 au h
end
@[simp] noncomputable def dL(fix:List Nat):List aC->bq->Nat->List aC
 |d::ds,o::D,j=>(if d.fy=af then d else if j∈fix then o.getD .fH else .fH)::dL fix ds D (j+1)
 |d::ds,[],j=>(if d.fy=af then d else .fH)::dL fix ds [] (j+1)
 |[],_,_=>[]
@[simp] noncomputable def eR(n m:Nat)(fix:List Nat)(g:b5):d_:=λds=>if ds.length=n then match g (ds.map J++List.replicate (m-n) aa) with
 |some (.fQ r,D)=>J (r,dL fix ds D 0)
 |some (.bC,D)=>J (.im .bu,dL fix ds D 0)
 |_=>aa else aa
theorem Hp{H:aM}:∀{ds:List aC}{vs:List V}{F:List ar}{m:Nat},e9 H ds vs F->b2 H (ds.map J++List.replicate m aa) (vs.map J++List.replicate m aa) F
 |[],vs,F,m,h=>by
  obtain⟨rfl,rfl⟩:=h;show b2 H (List.replicate m aa) (List.replicate m aa) [];induction m with
  |zero=>exact⟨rfl,rfl⟩
  |succ m bS=>exact⟨aa,_,[],[],rfl,rfl,bS,rfl⟩
 |d::ds,vs,F,m,h=>by
  obtain⟨v,r,F1,bp,rfl,O,U,rfl⟩:=h;exact⟨J v,_,F1,bp,rfl,⟨v,rfl,O⟩,Hp U,rfl⟩
theorem Hq{H ak:aM}{fix:List Nat}(t:hW H ak):∀{ds:List aC}{vs:List V}{kF:List ar}{D:bq}{σ:St}{F:List ar}{j0:Nat},e9 H ds vs kF->b2 ak D σ F->(∀(j:Nat) (v:V),(j0+j)∈fix->vs[j]?=J v->σ[j]?=J (J v))->
  ∃R G,e9 ak (dL fix ds D j0) vs R/\(R++G).Perm F
 |[],vs,kF,D,σ,F,j0,h,st,_=>⟨[],F,by unfold dL;exact⟨h.1,rfl⟩,List.Perm.refl _⟩
 |d::ds,vs,kF,[],σ,F,j0,h,st,k=>by
  obtain⟨v,r,A,B,rfl,O,U,rfl⟩:=h;obtain⟨rfl,rfl⟩:=st;obtain⟨R,G,g1,g2⟩:=Hq (D:=[]) (σ:=[]) (F:=[]) (j0:=j0+1) t U ⟨rfl,rfl⟩ λj v bx bb=>by
   have:=k (j+1) v (by rw[show j0+(j+1)=j0+1+j by lia];exact bx) (by simpa using bb);simp at this
  rw[dL];refine⟨R,G,⟨v,r,[],R,rfl,?_,g1,rfl⟩,g2⟩;split
  ·rename_i av;have:=O.mono t λa az=>by rw[O.fy av]at az;cases az
   rw[O.fy av]at this;exact this
  ·exact rfl
 |d::ds,vs,kF,o::D,σ,F,j0,h,st,k=>by
  obtain⟨v,r,A,B,rfl,O,U,rfl⟩:=h;obtain⟨x,s,C,E,rfl,s1,s2,rfl⟩:=st;obtain⟨R,G,g1,g2⟩:=Hq (D:=D) (σ:=s) (j0:=j0+1) t U s2 λj v bx bb=>by
   have:=k (j+1) v (by rw[show j0+(j+1)=j0+1+j by lia];exact bx) (by simpa using bb);simpa using this
  rw[dL];split
  ·rename_i av;have hm:=O.mono t λa az=>by rw[O.fy av]at az;cases az
   rw[O.fy av]at hm;refine⟨R,G++C,⟨v,r,[],R,rfl,hm,g1,rfl⟩,?_⟩;rw[<-bY];exact (g8 C g2).trans ek
  ·split
   ·rename_i hf;have ag:x=J v:=by
     have:=k 0 v hf rfl;simpa using this
    subst ag;cases o with
    |none=>
     refine⟨R,G++C,⟨v,r,[],R,rfl,rfl,g1,rfl⟩,?_⟩;rw[<-bY];exact (g8 C g2).trans ek
    |some e=>
     obtain⟨jm,ay,w⟩:=s1;cases ay;refine⟨C++R,G,⟨v,r,C,R,rfl,w,g1,rfl⟩,?_⟩;rw[bY];exact fK _ g2
   ·refine⟨R,G++C,⟨v,r,[],R,rfl,rfl,g1,rfl⟩,?_⟩;rw[<-bY];exact (g8 C g2).trans ek
section
variable{P:cc}{w:bN}{K:PySem.W.Frag}{mg:aQ->Option aj}{base:br}
theorem Oc{qual:aQ}{st:cg}{f:ar}{N:List aQ}{k:Nat}{g:b5}(F:jT K x qual st f fd)(S:fq N ps (c3 st))(bo:ps.length=n)(Od:∀i∈fix,i<n)(ae:∀(cf:aj) (A:cj) (outer:List fL) (s:aA) (H:aM) (E:hP),gb k (A.deeper<|mL qual (c3 st) s.heap.objs.size f cf)->j4 (l5 k9 P w K mg base N qual (c3 st) f cf A outer s H E).vD fix (k8 st) g):
  iX P w K mg base k9 (k+1) f fd ps (nP n<|eR n N.length fix g):=by
 refine F.ok S (λvs H Q E h=>h.1.trans bo.symm) (λcf A outer s H vs Q E aO h=>⟨_,ae cf A outer s H E aO,?_⟩);obtain⟨aF,ds,kF,r,outs,ow,au,aJ,q⟩:=h;have wi:ds.length=n:=ow.length.trans aF;unfold eR at aJ;rw[aV wi]at aJ;have st:=Hp (m:=N.length-n) ow;have es:start N vs=vs.map J++List.replicate (N.length-n) aa:=by unfold start;rw[aF]
 rw[es];have fin:∀{bc:St}{ak:aM}{bB:List ar}{D':bq}{v:V}{R:List ar},dL fix ds D' 0=outs->d3 fix (vs.map J++List.replicate (N.length-n) aa) bc->b2 ak D' bc bB->Own ak r v R->bR H kF ak (bB++R)->Q v ak:=λ{bc ak bB D' v R} CQ fx aK wr s'=>by
  obtain⟨cI,G,g1,g2⟩:=Hq (fix:=fix) (j0:=0) s'.tup ow aK λj v bx bb=>by
   rw[Nat.zero_add]at bx;rw[fx.2 j bx,qi (by rw[b3];exact (iJ.mp bb).1),gJ,bb];rfl
  rw[CQ]at g1;refine q v ak R cI wr g1 (s'.less (C:=G) ?_);rw[bY];exact (fK R g2).trans ek
 split at aJ
 ·rename_i cG D' e;cases aJ;exact⟨_,kF,.fQ r,D',st,au,e,λv bc ak bB R fx aK wr s'=>fin rfl fx aK wr s'⟩
 ·rename_i D' e;cases aJ;exact⟨_,kF,.bC,D',st,au,e,λbc ak bB fx aK s'=>fin rfl fx aK ⟨rfl,rfl⟩ (by rw[c5];exact s')⟩
 ·cases aJ
end
noncomputable def Out(H:aM)(d:aC)(Q:dN):Prop:=∀v ak R,eg H ak->Own ak d v R->R.Nodup->(∀a∈R,H a=aa)->Q v ak
theorem Out.Oe{d:ah}(q:Out H (.im d) Q)(s:eg H ak)(h:dR ak d v):Q v ak:=q v ak [] s ⟨h,rfl⟩ qo (λa az=>nomatch az)
theorem Out.i{d:ah}(q:Out H (.im d) Q)(h:dR H d v):Q v H:=q.Oe (eg.refl H) h
theorem Out.l(q:Out H (.lst ds) Q)(aE:H p=aa)(h:cq H ds xs):Q (.ref p) (upd H p<|.lst xs):=by
 have s:eg H (upd H p<|.lst xs):=(eg.refl H).upd aE;exact q _ _ [p] s ⟨p,xs,rfl,hy,h.mono s.tupS.tup,rfl⟩ (h4 _ _) λa az=>by rw[c2.mp az];exact aE
theorem Out.t(q:Out H (.im<|.tup ds) Q)(aE:H p=aa)(h:cq H ds xs):Q (.ref p) (upd H p<|.tup xs):=by
 have s:eg H (upd H p<|.tup xs):=(eg.refl H).upd aE;exact q.Oe s ⟨p,xs,rfl,hy,h.mono s.tupS.tup⟩
section
variable{X:a4}
theorem fp.imp{f:aj->aj->gK aj}{r:cI}(h:fp X f r)(i:∀x y H Q,cG x y H Q->r x y H Q):fp X f cG:=λpins s σ H x y v u Q I bU cu dD=>h pins s σ H x y v u Q I bU cu (i x y H Q dD)
theorem bv.imp{f:aj}{r cG:List V->aM->dN->Prop}(h:bv X f r)(i:∀xs H Q,cG xs H Q->r xs H Q):bv X f cG:=λpins s σ H xs us Q I bU dD=>h pins s σ H xs us Q I bU (i xs H Q dD)
theorem mT.imp{r:cI}(h:mT X r)(i:∀x y H Q,cG x y H Q->r x y H Q):mT X cG:=λay aG pins s σ H x y v u Q I bU cu dD=>h ay aG pins s σ H x y v u Q I bU cu (i x y H Q dD)
theorem ho.i{d:ah}(h:ho H (.im d) v):dR H d v:=h.elim λ_ w=>w.1
end
noncomputable abbrev ie:=aC->aC->Option aC
@[simp] noncomputable def m_(C:Int->Int->Bool)(g:Int->Int->ah):ie:=λa b=>match a,b with
 |.im (.int i),.im (.int j)=>if C i j=af then J (.im<|g i j) else aa
 |_,_=>aa
theorem Of{C:Int->Int->Bool}{g:Int->Int->ah}{a b:aC}(h:m_ C g a b=J d):∃i j,a=.im (.int i)/\b=.im (.int j)/\C i j=af/\d=.im (g i j):=by
 unfold m_ at h;split at h
 ·rename_i i j;split at h
  ·rename_i av;cases h;exact⟨i,j,rfl,rfl,av,rfl⟩
  ·cases h
 ·cases h
section
variable{X:a4}
variable{f:aj->aj->gK aj}{g:Int->Int->V}{h:Int->Int->ah}
theorem CR{C:Int->Int->Prop}{B:Int->Int->Bool}(o:fp X f (vE C g))(ef:∀i j,B i j=af->C i j)(aJ:∀H i j,dR H (h i j)<|g i j):ha X f (m_ B h):=
 o.imp λx y H Q ⟨cS,cM,d,a9,bF,e,q⟩=>by
  obtain⟨i,j,rfl,rfl,av,rfl⟩:=Of e;exact⟨i,j,a9.i,bF.i,ef i j av,Out.i q<|aJ H i j⟩
theorem yT(o:fp X f (qB g))(aJ:∀H i j,dR H (h i j)<|g i j):ha X f (m_ (λ_ _=>af) h):=
 o.imp λx y H Q ⟨cS,cM,d,a9,bF,e,q⟩=>by
  obtain⟨i,j,rfl,rfl,av,rfl⟩:=Of e;exact⟨i,j,a9.i,bF.i,Out.i q<|aJ H i j⟩
@[simp] noncomputable def p1:ie:=m_ (λ_ _=>af) λi j=>.int (i-j)
noncomputable def j6(i j:Int):Bool:=!(decide (b8.Int.intBits i>Bp)&&decide (b8.Int.intBits j>Bp)&&b8.Int.intTooBig (b8.Int.intBits i+b8.Int.intBits j))
@[simp] noncomputable def gf:ie:=m_ j6 λi j=>.int (i*j)
@[simp] noncomputable def t6:ie:=m_ (λ_ j=>decide (0<j/\j<1073741824)) λi j=>.int (i/j)
@[simp] noncomputable def h1:ie:=m_ (λ_ j=>decide (0<j)) λi j=>.int (i%j)
@[simp] noncomputable def sf:ie:=m_ (λi j=>decide (0<=j/\j<=1000000/\i.natAbs<2^64)) λi j=>.int (i^j.toNat)
@[simp] noncomputable def sg:ie:=m_ (λ_ _=>af) λi j=>.aR (decide (i<j))
@[simp] noncomputable def gS:ie:=m_ (λ_ _=>af) λi j=>.aR (decide (i<=j))
@[simp] noncomputable def wj:ie:=m_ (λ_ _=>af) λi j=>.aR (decide (j<i))
@[simp] noncomputable def Og:ie:=m_ (λ_ _=>af) λi j=>.aR (decide (j<=i))
theorem t7:ha X (iM .Sub) p1:=yT UJ λ_ _ _=>rfl
theorem ml:ha X (iM .Mult) gf:=CR X0 (λi j h=>by unfold j6 at h;unfold IntMulOk;rw[EV]at h;rw[h];exact e1) λ_ _ _=>rfl
theorem Oh:ha X (iM .FloorDiv) t6:=CR UK (λi j h=>show 0<j/\j<1073741824 from gg h) λ_ _ _=>rfl
theorem q1:ha X (iM .Mod) h1:=CR UL (λi j h=>gg h) λ_ _ _=>rfl
theorem CS:ha X (iM .Pow) sf:=CR UM (λi j h=>show 0<=j/\j<=1000000/\i.natAbs<2^64 from gg h) λ_ _ _=>rfl
theorem Hr:ha X (fM .Lt) sg:=yT UQ λ_ _ _=>rfl
theorem sh:ha X (fM .LtE) gS:=yT UR λ_ _ _=>rfl
theorem Yu:ha X (fM .Gt) wj:=yT US λ_ _ _=>rfl
theorem Yv:ha X (fM .GtE) Og:=yT UT λ_ _ _=>rfl
theorem Yw:fp X (iM .Add) (λx y H Q=>∃a b a3,x=.ref a/\y=.ref b/\dh X.K H a []/\dh X.K H b a3/\Q (.ref b) H):=by
 intro pins s σ H x y v u Q I bU cu h;obtain⟨a,b,a3,rfl,rfl,az,ae,q⟩:=h;cases bU;cases cu;obtain⟨aP,a9,dF,_⟩:=I.tuple az;obtain⟨kZ,bF,bI,_⟩:=I.tuple ae;have e:aP=[]:=a9.BZ.mpr rfl;subst e;obtain⟨⟨cls,dd,data,bK⟩,aS,av,n,hd⟩:=id dF;obtain⟨⟨Vh,vG,data2,vH⟩,ts,tu,n2,hd2⟩:=id bI;simp only at av hd tu hd2;subst av hd tu hd2;exact Er ⟨_,aS,rfl⟩ ⟨_,ts,rfl⟩ Ei Eo Fg Ff (E_ _ _) (tuple_addW0 a b _ _ n n2 dd vG bK vH rfl) ⟨aS,ts,.ref b,H,I,rfl,q⟩
@[simp] noncomputable def eK:ie:=λa b=>match a,b with
 |.im (.int i),.im (.int j)=>J (.im<|.int<|i+j)
 |.im (.tup x),.im (.tup y)=>if x.length+y.length<=100000 then J (.im<|.tup<|x++y) else aa
 |.lst x,.lst y=>if x.length+y.length<=100000 then J (.lst<|x++y) else aa
 |.im (.str x),.im (.str y)=>if x.length+y.length<=100000 then J (.im<|.str<|x++y) else aa
 |_,_=>aa
theorem cq.app:∀{a b:List ah}{x y:List V},cq H a x->cq H b y->cq H (a++b) (x++y)
 |[],b,x,y,h,k=>by cases (show x=[] from h);exact k
 |d::a,b,x,y,h,k=>by
  obtain⟨v,r,rfl,O,U⟩:=h;exact⟨v,r++y,rfl,O,U.app k⟩
theorem cq.nil{H:aM}{a:List ah}(h:cq H a []):a=[]:=by
 cases a with
 |nil=>rfl
 |cons d a=>obtain⟨_,_,e,_⟩:=h;cases e
theorem h2:ha X (iM .Add) eK:=by
 refine (UI.or<|Yw.or<|Vy.or<|V4.or U2).imp λx y H Q ⟨cS,cM,d,a9,bF,e,q⟩=>?_;unfold eK at e;split at e
 ·cases e;exact .inl ⟨_,_,a9.i,bF.i,Out.i q rfl⟩
 ·rename_i a b;split at e
  ·rename_i aF;cases e;obtain⟨p,xs,rfl,O,U⟩:=a9.i;obtain⟨eu,a3,rfl,aL,aU⟩:=bF.i;refine .inr ?_;by_cases ag:xs=[]
   ·subst ag;cases U.nil;exact .inl ⟨p,eu,a3,rfl,rfl,dh.of O,dh.of aL,Out.i q ⟨eu,a3,rfl,aL,aU⟩⟩
   ·refine .inr (.inl ⟨p,eu,xs,a3,rfl,rfl,dh.of O,dh.of aL,ag,r9 (by rw[<-U.length,<-aU.length];exact aF),λaw=>?_,λaw n bo=>Out.t q bo<|U.app aU⟩);subst aw;cases aU.nil;rw[c5]at q;exact Out.i q ⟨p,xs,rfl,O,U⟩
  ·cases e
 ·rename_i a b;split at e
  ·rename_i aF;cases e;obtain⟨_,p,xs,rfl,O,U,_⟩:=a9;obtain⟨_,eu,a3,rfl,aL,aU,_⟩:=bF;exact .inr (.inr (.inr (.inl ⟨p,eu,xs,a3,rfl,rfl,O,aL,r9 (by rw[<-U.length,<-aU.length];exact aF),λn bo=>Out.l q bo<|U.app aU⟩)))
  ·cases e
 ·rename_i a b;split at e
  ·rename_i aF;cases e;exact .inr (.inr<|.inr<|.inr ⟨a,b,a9.i,bF.i,r9 aF,Out.i q rfl⟩)
  ·cases e
 ·cases e
theorem Yx(n:Nat){A:cj}{x y:ah}{u v:aj}(gw:ah.bW n x=af)(bO:ah.bW n y=af)(bZ:A.units+n+2<c6)(ag:fN s.heap x u)(aw:fN s.heap y v):SeqAt.RcAt A s u v (dy x y):=by
 cases x with
 |bu=>
  cases (show u=.none from ag);cases y with
  |bu=>cases (show v=.none from aw);exact SS
  |aR b=>cases (show v=.bool b from aw);exact SU b
  |int j=>obtain⟨t,rfl⟩:=aw;exact S2 j t
  |str z=>obtain⟨t,rfl⟩:=aw;exact S3 z t
  |tup ds=>obtain⟨a,o,items,m,rfl,O,U,aL,_⟩:=aw;exact SO ⟨o,O,U,m,aL⟩ (by lia)
  |fn a=>cases n<;>cases bO
  |bf a=>cases n<;>cases bO
  |fd=>cases n<;>cases bO
 |aR b=>
  cases (show u=.bool b from ag);cases y with
  |bu=>cases (show v=.none from aw);exact SV b
  |aR c=>cases (show v=.bool c from aw);exact SW b c
  |int j=>obtain⟨t,rfl⟩:=aw;exact S4 b j t
  |str z=>obtain⟨t,rfl⟩:=aw;exact S5 b z t
  |tup ds=>obtain⟨a,o,items,m,rfl,O,U,aL,_⟩:=aw;exact SP b ⟨o,O,U,m,aL⟩ (by lia)
  |fn a=>cases n<;>cases bO
  |bf a=>cases n<;>cases bO
  |fd=>cases n<;>cases bO
 |int i=>
  obtain⟨t0,rfl⟩:=ag;cases y with
  |bu=>cases (show v=.none from aw);exact S6 i t0
  |aR c=>cases (show v=.bool c from aw);exact S7 i t0 c
  |int j=>obtain⟨t,rfl⟩:=aw;exact S' i t0 j t
  |str z=>obtain⟨t,rfl⟩:=aw;exact S_ i t0 z t
  |tup ds=>obtain⟨a,o,items,m,rfl,O,U,aL,_⟩:=aw;exact SX i t0 ⟨o,O,U,m,aL⟩ (by lia)
  |fn a=>cases n<;>cases bO
  |bf a=>cases n<;>cases bO
  |fd=>cases n<;>cases bO
 |str i=>
  obtain⟨t0,rfl⟩:=ag;cases y with
  |bu=>cases (show v=.none from aw);exact S8 i t0
  |aR c=>cases (show v=.bool c from aw);exact S9 i t0 c
  |int j=>obtain⟨t,rfl⟩:=aw;exact Ta i t0 j t
  |str z=>obtain⟨t,rfl⟩:=aw;exact Tb i t0 z t
  |tup ds=>obtain⟨a,o,items,m,rfl,O,U,aL,_⟩:=aw;exact SY i t0 ⟨o,O,U,m,aL⟩ (by lia)
  |fn a=>cases n<;>cases bO
  |bf a=>cases n<;>cases bO
  |fd=>cases n<;>cases bO
 |fn a=>cases n<;>cases gw
 |bf a=>cases n<;>cases gw
 |fd=>cases n<;>cases gw
 |tup ds=>
  cases n with
  |zero=>cases gw
  |succ n=>
  obtain⟨a,o,items,m,rfl,O,U,aL,aU⟩:=ag;have cP:s.heap.IsTuple a items:=⟨o,O,U,m,aL⟩;cases y with
  |bu=>cases (show v=.none from aw);exact SQ cP (by lia)
  |aR c=>cases (show v=.bool c from aw);exact SR c cP (by lia)
  |int j=>obtain⟨t,rfl⟩:=aw;exact S0 j t cP (by lia)
  |str z=>obtain⟨t,rfl⟩:=aw;exact S1 z t cP (by lia)
  |fn a=>cases bO
  |bf a=>cases bO
  |fd=>cases bO
  |tup es=>
   obtain⟨b,cA,jN,e6,rfl,g1,g2,g3,eM⟩:=aw;have eU:s.heap.IsTuple b jN:=⟨cA,g1,g2,e6,g3⟩;have b':=aU.length;have ct:=eM.length;have nB:items.toList.length=items.size:=by simp
   have x3:jN.toList.length=jN.size:=by simp
   rw[nB]at b';rw[x3]at ct;have q:=LI (A:=A) (e:=λj=>dy (ds.getD j .bu)<|es.getD j .bu) cP eU (by lia) λj b6 dz=>by
    obtain⟨cS,ay,a9⟩:=aU.get (j:=j) (v:=items[j]) (by rw[gV];simp[b6]);obtain⟨cM,aG,bF⟩:=eM.get (j:=j) (v:=jN[j]) (by rw[gV];simp[dz]);rw[du,ay,du,aG];exact nA n (n' gw ay) (n' bO aG) (by show A.units+1+n+1<c6;lia) a9 bF
   rw[<-b',<-ct,x2 (ds:=ds) (es:=es) (λj x y a b=>by rw[du,a,du,b];rfl)]at q;rw[dy];exact q
@[simp] noncomputable def vEq:ie:=λa b=>match a,b with
 |.im x,.im y=>if (ah.bW 8 x&&ah.bW 8 y)=af then J (.im<|.aR<|dy x y) else aa
 |.lst x,.lst y=>if (ah.eC 8 x&&ah.eC 8 y)=af then J (.im<|.aR<|hx x y) else aa
 |_,_=>aa
theorem Hs:∀{x y:List ah},x.length≠y.length->hx x y=aD
 |[],[],h=>absurd rfl h
 |[],_::_,_=>rfl
 |_::_,[],_=>rfl
 |a::x,b::y,h=>by
  rw[hx,Hs (λe=>h (by rw[eS,eS,e])),KO]
theorem wk{pins:List (ar×bE)}(I:Inv X pins σ H s){a:ar}{xs:List V}{ds:List ah}(O:H a=J (.lst xs))(U:cq H ds xs):∃aP:List aj,s.heap.IsList a aP.toArray/\fh s.heap ds aP/\aP.length=ds.length:=by
 obtain⟨z,aP,n,b0,e⟩:=I.bw a _ O;have:=U.hS I.bw b0;exact⟨aP,⟨_,e,rfl,n,rfl⟩,this,this.length.symm⟩
theorem mm(bZ:X.A.units+20<c6):ha X (fM .Eq) vEq:=by
 intro pins s σ H x y v u Q I bU cu ⟨cS,cM,d,a9,bF,e,q⟩;unfold vEq at e;split at e
 ·rename_i a b;split at e
  ·rename_i aE;cases e;rw[dv]at aE;exact Yx 8 aE.1 aE.2 (by lia) (a9.i.hS I.bw bU) (bF.i.hS I.bw cu) X.prog X.w _ _ ⟨.aR _,H,I,rfl,Out.i q rfl⟩
  ·cases e
 ·rename_i a b;split at e
  ·rename_i aE;cases e;rw[dv]at aE;obtain⟨_,p,xs,rfl,O,U,_⟩:=a9;obtain⟨_,eu,a3,rfl,aL,aU,_⟩:=bF;cases bU;cases cu;obtain⟨d2,b',v1,jY⟩:=wk I O U;obtain⟨e8,ct,v2,n2⟩:=wk I aL aU;by_cases aF:a.length=b.length
   ·have:=Tc (A:=X.A) (e:=λj=>dy (a.getD j .bu)<|b.getD j .bu) b' ct (by rw[dY,dY,jY,n2];exact aF) (by lia) λj b6 dz=>by
     obtain⟨cS,ay,a9⟩:=v1.get (j:=j) (v:=d2.toArray[j]) (by simp at b6;simp[b6]);obtain⟨cM,aG,bF⟩:=v2.get (j:=j) (v:=e8.toArray[j]) (by simp at dz;simp[dz]);rw[du,ay,du,aG];exact nA 8 (n' aE.1 ay) (n' aE.2 aG) (by show X.A.units+1+8+1<c6;lia) a9 bF
    refine this X.prog X.w _ _ ⟨.aR _,H,I,rfl,?_⟩;have ia:=x2 (ds:=a) (es:=b) (e:=λj=>dy (a.getD j .bu)<|b.getD j .bu) (λj x y a b=>by rw[du,a,du,b];rfl);rw[<-aF,K1,pq,EX]at ia;rw[dY,jY,ia];exact Out.i q rfl
   ·refine SN (A:=X.A) b' ct (by rw[dY,dY,jY,n2];simpa using aF) (by lia) X.prog X.w _ _ ⟨.aR _,H,I,rfl,?_⟩;rw[Hs aF]at q;exact Out.i q rfl
  ·cases e
 ·cases e
end
section
variable{X:a4}
theorem Yy(n:Nat){A:cj}{x y:ah}{u v:aj}(gw:ah.bW n x=af)(bO:ah.bW n y=af)(bZ:A.units+n+2<c6)(ag:fN s.heap x u)(aw:fN s.heap y v):SeqAt.RcNeAt A s u v (!dy x y):=by
 cases x with
 |bu=>
  cases (show u=.none from ag);cases y with
  |bu=>cases (show v=.none from aw);exact Ti
  |aR b=>cases (show v=.bool b from aw);exact Tj b
  |int j=>obtain⟨t,rfl⟩:=aw;exact Tt j t
  |str z=>obtain⟨t,rfl⟩:=aw;exact Tu z t
  |tup ds=>obtain⟨a,o,items,m,rfl,O,U,aL,_⟩:=aw;exact Te ⟨o,O,U,m,aL⟩ (by lia)
  |fn a=>cases n<;>cases bO
  |bf a=>cases n<;>cases bO
  |fd=>cases n<;>cases bO
 |aR b=>
  cases (show u=.bool b from ag);cases y with
  |bu=>cases (show v=.none from aw);exact Tn b
  |aR c=>cases (show v=.bool c from aw);exact To b c
  |int j=>obtain⟨t,rfl⟩:=aw;exact Tv b j t
  |str z=>obtain⟨t,rfl⟩:=aw;exact Tw b z t
  |tup ds=>obtain⟨a,o,items,m,rfl,O,U,aL,_⟩:=aw;exact Tf b ⟨o,O,U,m,aL⟩ (by lia)
  |fn a=>cases n<;>cases bO
  |bf a=>cases n<;>cases bO
  |fd=>cases n<;>cases bO
 |int i=>
  obtain⟨t0,rfl⟩:=ag;cases y with
  |bu=>cases (show v=.none from aw);exact Tx i t0
  |aR c=>cases (show v=.bool c from aw);exact Tz i t0 c
  |int j=>obtain⟨t,rfl⟩:=aw;exact TC i t0 j t
  |str z=>obtain⟨t,rfl⟩:=aw;exact TF i t0 z t
  |tup ds=>obtain⟨a,o,items,m,rfl,O,U,aL,_⟩:=aw;exact Tp i t0 ⟨o,O,U,m,aL⟩ (by lia)
  |fn a=>cases n<;>cases bO
  |bf a=>cases n<;>cases bO
  |fd=>cases n<;>cases bO
 |str i=>
  obtain⟨t0,rfl⟩:=ag;cases y with
  |bu=>cases (show v=.none from aw);exact TA i t0
  |aR c=>cases (show v=.bool c from aw);exact TB i t0 c
  |int j=>obtain⟨t,rfl⟩:=aw;exact TG i t0 j t
  |str z=>obtain⟨t,rfl⟩:=aw;exact TH i t0 z t
  |tup ds=>obtain⟨a,o,items,m,rfl,O,U,aL,_⟩:=aw;exact Tq i t0 ⟨o,O,U,m,aL⟩ (by lia)
  |fn a=>cases n<;>cases bO
  |bf a=>cases n<;>cases bO
  |fd=>cases n<;>cases bO
 |fn a=>cases n<;>cases gw
 |bf a=>cases n<;>cases gw
 |fd=>cases n<;>cases gw
 |tup ds=>
  cases n with
  |zero=>cases gw
  |succ n=>
  obtain⟨a,o,items,m,rfl,O,U,aL,aU⟩:=ag;have cP:s.heap.IsTuple a items:=⟨o,O,U,m,aL⟩;cases y with
  |bu=>cases (show v=.none from aw);exact Tg cP (by lia)
  |aR c=>cases (show v=.bool c from aw);exact Th c cP (by lia)
  |int j=>obtain⟨t,rfl⟩:=aw;exact Tr j t cP (by lia)
  |str z=>obtain⟨t,rfl⟩:=aw;exact Ts z t cP (by lia)
  |fn a=>cases bO
  |bf a=>cases bO
  |fd=>cases bO
  |tup es=>
   obtain⟨b,cA,jN,e6,rfl,g1,g2,g3,eM⟩:=aw;have eU:s.heap.IsTuple b jN:=⟨cA,g1,g2,e6,g3⟩;have b':=aU.length;have ct:=eM.length;have nB:items.toList.length=items.size:=by simp
   have x3:jN.toList.length=jN.size:=by simp
   rw[nB]at b';rw[x3]at ct;have q:=TJ (A:=A) (e:=λj=>dy (ds.getD j .bu)<|es.getD j .bu) cP eU (by lia) λj b6 dz=>by
    obtain⟨cS,ay,a9⟩:=aU.get (j:=j) (v:=items[j]) (by rw[gV];simp[b6]);obtain⟨cM,aG,bF⟩:=eM.get (j:=j) (v:=jN[j]) (by rw[gV];simp[dz]);rw[du,ay,du,aG];exact nA n (n' gw ay) (n' bO aG) (by show A.units+1+n+1<c6;lia) a9 bF
   rw[<-b',<-ct,x2 (ds:=ds) (es:=es) (λj x y a b=>by rw[du,a,du,b];rfl)]at q;rw[dy];exact q
@[simp] noncomputable def lE:ie:=λa b=>match a,b with
 |.im x,.im y=>if (ah.bW 8 x&&ah.bW 8 y)=af then J (.im<|.aR<|!dy x y) else aa
 |.lst x,.lst y=>if (ah.eC 8 x&&ah.eC 8 y)=af then J (.im<|.aR<|!hx x y) else aa
 |_,_=>aa
theorem yU(bZ:X.A.units+20<c6):ha X (fM .NotEq) lE:=by
 intro pins s σ H x y v u Q I bU cu ⟨cS,cM,d,a9,bF,e,q⟩;unfold lE at e;split at e
 ·rename_i a b;split at e
  ·rename_i aE;cases e;rw[dv]at aE;exact Yy 8 aE.1 aE.2 (by lia) (a9.i.hS I.bw bU) (bF.i.hS I.bw cu) X.prog X.w _ _ ⟨.aR _,H,I,rfl,Out.i q rfl⟩
  ·cases e
 ·rename_i a b;split at e
  ·rename_i aE;cases e;rw[dv]at aE;obtain⟨_,p,xs,rfl,O,U,_⟩:=a9;obtain⟨_,eu,a3,rfl,aL,aU,_⟩:=bF;cases bU;cases cu;obtain⟨d2,b',v1,jY⟩:=wk I O U;obtain⟨e8,ct,v2,n2⟩:=wk I aL aU;by_cases aF:a.length=b.length
   ·have:=TK (A:=X.A) (e:=λj=>dy (a.getD j .bu)<|b.getD j .bu) b' ct (by rw[dY,dY,jY,n2];exact aF) (by lia) λj b6 dz=>by
     obtain⟨cS,ay,a9⟩:=v1.get (j:=j) (v:=d2.toArray[j]) (by simp at b6;simp[b6]);obtain⟨cM,aG,bF⟩:=v2.get (j:=j) (v:=e8.toArray[j]) (by simp at dz;simp[dz]);rw[du,ay,du,aG];exact nA 8 (n' aE.1 ay) (n' aE.2 aG) (by show X.A.units+1+8+1<c6;lia) a9 bF
    refine this X.prog X.w _ _ ⟨.aR _,H,I,rfl,?_⟩;have ia:=x2 (ds:=a) (es:=b) (e:=λj=>dy (a.getD j .bu)<|b.getD j .bu) (λj x y a b=>by rw[du,a,du,b];rfl);rw[<-aF,K1,pq,EX]at ia;rw[dY,jY,ia];exact Out.i q rfl
   ·refine Td (A:=X.A) b' ct (by rw[dY,dY,jY,n2];simpa using aF) (by lia) X.prog X.w _ _ ⟨.aR _,H,I,rfl,?_⟩;rw[Hs aF]at q;exact Out.i q rfl
  ·cases e
 ·cases e
@[simp] noncomputable def CT(n:Bool):ie:=λa b=>match a,b with
 |.im x,.im .bu=>J (.im<|.aR<|n != decide (x=.bu))
 |.im (.aR x),.im (.aR y)=>J (.im<|.aR<|n != (x==y))
 |_,_=>aa
theorem Yz{d:ah}(h:dR H d v):decide (v=.bu)=decide (d=.bu):=by
 cases d with
 |bu=>cases (show v=.bu from h);rfl
 |aR b=>cases (show v=.aR b from h);rfl
 |int b=>cases (show v=.int b from h);rfl
 |str b=>cases (show v=.str b from h);rfl
 |fn b=>cases (show v=.ref b from h);rfl
 |tup ds=>obtain⟨a,xs,rfl,_⟩:=h;rfl
 |bf ds=>obtain⟨a,xs,o,rfl,_⟩:=h;rfl
 |fd=>obtain⟨a,o,rfl,_⟩:=h;rfl
theorem YA:fp X (fM .IsNot) (λx y H Q=>∃a b,x=.aR a/\y=.aR b/\Q (.aR<|!(a==b)) H):=by
 intro pins s σ H x y v u Q I bU cu ⟨a,b,ay,aG,q⟩;subst ay aG;cases bU;cases cu;refine wpAny_isNot_plain (by cases a<;>cases b<;>rfl) ⟨.aR<|!(a==b),H,I,?_,q⟩;cases a<;>cases b<;>rfl
theorem YB:ha X (fM .IsNot) (CT af):=by
 refine (UU.or YA).imp λx y H Q ⟨cS,cM,d,a9,bF,e,q⟩=>?_;unfold CT at e;split at e
 ·rename_i a;cases e;refine .inl ⟨bF.i,?_⟩;rw[Yz a9.i];refine Out.i q ?_;show _=_;rw[KQ]
 ·cases e;refine .inr ⟨_,_,a9.i,bF.i,Out.i q ?_⟩;show _=_;rw[KQ]
 ·cases e
noncomputable def gT{bj:Type}[DecidableEq bj](kvs:List (bj×ah))(k:bj):Option ah:=(kvs.find? λp=>decide (p.1=k)).map (·.2)
theorem wm{bj:Type}[DecidableEq bj]{H:aM}{k:bj}:∀{kvs:List (bj×ah)}{fi:List (bj×V)},hV H kvs fi->(∀d,gT kvs k=J d->∃v,k6 fi k=J v/\dR H d v)/\(gT kvs k=aa->k6 fi k=aa)
 |_,_,.nil=>⟨(λd e=>by cases e),(λ_=>rfl)⟩
 |_,_,.cons (a:=p) (b:=q) h t=>by
  obtain⟨O,U⟩:=wm (k:=k) t;by_cases e:p.1=k
  ·have b7:q.1=k:=h.1.symm.trans e;refine⟨λd hd=>?_,λbo=>?_⟩
   ·have:∀r,gT (p::r) k=J p.2:=λr=>by simp[gT,n6,e]
    rw[this]at hd;cases hd;exact⟨q.2,B0 b7,h.2⟩
   ·have:∀r,gT (p::r) k=J p.2:=λr=>by simp[gT,n6,e]
    rw[this]at bo;cases bo
  ·have b7:¬ q.1=k:=λz=>e (h.1.trans z);have:∀r,gT (p::r) k=gT r k:=λr=>by simp[gT,n6,e]
   rw[this,B1 b7];exact⟨O,U⟩
@[simp] noncomputable def bX:ie:=λa b=>match a,b with
 |.im (.tup ds),.im (.int i)=>(gZ ds i).map .im
 |.lst ds,.im (.int i)=>(gZ ds i).map .im
 |.e2 ds,.im (.int i)=>(gZ ds i).map .im
 |.a8 kvs,.im (.tup k)=>if ah.keys 7 k=af then (gT kvs k).map .im else aa
 |.eN kvs,.im (.int i)=>(gT kvs<|.inl i).map .im
 |.eN kvs,.im (.str i)=>(gT kvs<|.inr i).map .im
 |_,_=>aa
theorem YC(bZ:X.A.units+20<c6):mT X (λx y H Q=>∃a v,x=.ref a/\ca H a y (J v)/\Q v H):=by
 intro value slice pins s σ H x y v u Q I bU cu ⟨a,z,e,g,q⟩ aq;subst e;cases bU;exact tail_any (V9 I g) PySem.F.slot_dict_getitem.lookup (V6 bZ I g cu λgh s3 f_ oo=>⟨z,H,f_,oo,q⟩) aq
theorem Ht{i:Int}{d:ah}(h:cq H ds xs)(e:gZ ds i=J d):∃v,gZ xs i=J v/\dR H d v:=by
 unfold gZ at e ⊢;rw[<-h.length];obtain⟨j,ay,aG⟩:=cv.mp e;obtain⟨v,g1,g2⟩:=h.get aG;exact⟨v,by rw[ay];exact g1,g2⟩
theorem YD(bZ:X.A.units+20<c6):mT X (λx y H Q=>∃cS cM d,ho H cS x/\ho H cM y/\bX cS cM=J d/\∀v ak R,eg H ak->Own ak d v R->R.Nodup->(∀a∈R,H a=aa)->Q v ak):=by
 refine (VC.or<|VD.or<|YC bZ).imp λx y H Q ⟨cS,cM,d,a9,bF,e,q⟩=>?_;unfold bX at e;split at e
 ·obtain⟨d',ay,aG⟩:=dK.mp e;cases aG;obtain⟨p,xs,rfl,O,U⟩:=a9.i;obtain⟨v,g1,g2⟩:=Ht U ay;exact .inr (.inl ⟨p,xs,_,v,rfl,bF.i,dh.of O,g1,Out.i q g2⟩)
 ·obtain⟨d',ay,aG⟩:=dK.mp e;cases aG;obtain⟨_,p,xs,rfl,O,U,_⟩:=a9;obtain⟨v,g1,g2⟩:=Ht U ay;exact .inl ⟨p,xs,_,v,rfl,bF.i,er.of O,g1,Out.i q g2⟩
 ·obtain⟨d',ay,aG⟩:=dK.mp e;cases aG;obtain⟨_,p,xs,o,rfl,O,U,_⟩:=a9;obtain⟨v,g1,g2⟩:=Ht U ay;exact .inl ⟨p,xs,_,v,rfl,bF.i,.inl<|.inr ⟨o,O⟩,g1,Out.i q g2⟩
 ·rename_i kvs k;split at e
  ·rename_i aY;obtain⟨d',ay,aG⟩:=dK.mp e;cases aG;obtain⟨_,p,fi,rfl,O,U,_⟩:=a9;obtain⟨v,g1,g2⟩:=(wm U).1 d' ay;obtain⟨b,xs,rfl,k1,k2⟩:=bF.i;exact .inr (.inr ⟨p,v,rfl,by rw[<-g1];exact ca.t O ⟨aY,b,xs,rfl,k1,k2⟩,Out.i q g2⟩)
  ·cases e
 ·rename_i kvs i;obtain⟨d',ay,aG⟩:=dK.mp e;cases aG;obtain⟨_,p,fi,rfl,O,U,_⟩:=a9;obtain⟨v,g1,g2⟩:=(wm U).1 d' ay;refine .inr (.inr ⟨p,v,rfl,?_,Out.i q g2⟩);rw[show y=d5 (.inl i) from bF.i,<-g1];exact ca.k O
 ·rename_i kvs i;obtain⟨d',ay,aG⟩:=dK.mp e;cases aG;obtain⟨_,p,fi,rfl,O,U,_⟩:=a9;obtain⟨v,g1,g2⟩:=(wm U).1 d' ay;refine .inr (.inr ⟨p,v,rfl,?_,Out.i q g2⟩);rw[show y=d5 (.inr i) from bF.i,<-g1];exact ca.k O
 ·cases e
end
end L2
namespace et
open PySem PySem.Spec PyProof.Rows
section
variable{prog:cc}{w:bN}{A:cj}{E:aj->aA->Prop}{s:aA}
theorem YE{t bK:ar}{aP:Array aj}{dE hl:aj}{lo ao:Option Int}{Q:aj->aA->Prop}(p:pk s.heap t aP)(aq:s.heap.IsSliceOf bK dE hl .none)(bW:pj dE lo)(pu:pj hl ao)(h0:df aP.size 0 lo=0)(O:df aP.size aP.size ao=aP.size)(q:Q (.ref t) s):wpAny (a' prog w) A (rF (.ref t)<|.ref bK) Q E s:=by
 obtain⟨os,aS,av,hd⟩:=id aq;have ty:s.TypeIs (.ref bK) "slice" := ⟨os,aS,av⟩;unfold rF;try with_reducible refine ki ?_
 first|refine aH (ba ?_)|skip
 refine aH (JZ p.typeIs (by decide) ?_);refine aH (o' (name:=aQ.ofString "__getitem__") p.typeIs ve<|kh ve p.typeIs K9 ?_<|K_ _ _);show wpAny _ _ (b8.Tuple.tupleItemsOf (.ref t) >>= _) _ _ s;refine aH (Lc p ?_);refine aH (u4 ty ?_);rw[aV (by decide)];refine aH (MH aq bW pu ?_);rw[h0,O];show wpAny _ _ (if (((0:Nat):Int)==0&&(1:Int)==1&&(aP.size-0)==aP.size)=af then _ else _) _ _ s;rw[aV (by simp)];refine aH (m:=b8.Tuple.tupleIsExact _) (aH<|u4 p.typeIs<|ba ?_);show wpAny _ _ (if (aj.type "tuple" == aj.type "tuple")=af then _ else _) _ _ s;rw[aV (by decide)];exact aH (mF<|ba ⟨_,rfl,ba q⟩)
end
end et
namespace L2
open PySem PySem.Spec PyProof.Rows
section
variable{X:a4}
@[simp] noncomputable def oO(g:M aC):M aC:=λD=>(g D).bind λp=>match p.1 with
 |.im (.int i)=>J (.im<|.int<|-i,p.2)
 |_=>aa
variable{g:M aC}{pos:dk}
theorem CU{a:bM}(h:dP X a g):dP X (.UnaryOp .USub a pos) (oO g):=by
 refine fV (UF UO h) λσ H Q ⟨D,F,r,D',st,au,aJ,q⟩=>?_;obtain⟨⟨x,D1⟩,O,U⟩:=cv.mp aJ;refine⟨D,F,x,D1,st,au,O,λv H1 F1 R cb ow s1=>?_⟩;dsimp only at U;split at U
 ·rename_i i;cases U;exact⟨i,ow.1,q _ H1 F1 [] cb ⟨rfl,rfl⟩ (by rw[c5];exact s1.both)⟩
 ·cases U
noncomputable def YF(g:M (Option Int)):TO:=λσ H Q=>∃D F l D',b2 H D σ F/\F.Nodup/\g D=J (l,D')/\∀ak bB,b2 ak D' σ bB->bR H F ak bB->Q l ak
noncomputable def CV(X:a4)(e:Option bM)(g:M (Option Int)):Prop:=∀ ⦃p⦄,MI X e (YF g) p
theorem Oi{e:Option bM}{t t':TO}(h:vJ X e t)(i:∀σ H Q,t' σ H Q->t σ H Q):vJ X e t':=λpins s σ H Q I hw=>h pins s σ H Q I (i σ H Q hw)
noncomputable def nQ:M (Option Int):=λD=>J (aa,D)
@[simp] noncomputable def oP(g:M aC):M (Option Int):=λD=>(g D).bind λp=>match p.1 with
 |.im (.int i)=>J (J i,p.2)
 |_=>aa
theorem yV:CV X aa nQ:=by
 refine Oi Vr λσ H Q ⟨D,F,r,D',st,au,aJ,q⟩=>?_;cases aJ;exact q H F st (bR.perm au<|List.Perm.refl _)
variable{e:bM}
theorem yW(h:dP X e g):CV X (J e) (oP g):=by
 refine Oi (Vs h) λσ H Q ⟨D,F,r,D',st,au,aJ,q⟩=>?_;obtain⟨⟨x,D1⟩,O,U⟩:=cv.mp aJ;refine⟨D,F,x,D1,st,au,O,λv H1 F1 R cb ow s1=>?_⟩;dsimp only at U;split at U
 ·rename_i i;cases U;exact⟨i,ow.1,q H1 F1 cb s1.both⟩
 ·cases U
noncomputable def ce{α:Type}(xs:List α)(lo ao:Option Int):List α:=(xs.drop<|et.df xs.length 0 lo).take (et.df xs.length xs.length ao-et.df xs.length 0 lo)
variable{H:aM}
theorem cq.drop:∀{ds:List ah}{xs:List V} (n:Nat),cq H ds xs->cq H (ds.drop n) (xs.drop n)
 |ds,xs,0,h=>h
 |[],xs,n+1,h=>by cases (show xs=[] from h);exact rfl
 |d::ds,xs,n+1,h=>by
  obtain⟨v,r,rfl,O,U⟩:=h;exact U.drop n
theorem cq.take:∀{ds:List ah}{xs:List V} (n:Nat),cq H ds xs->cq H (ds.take n) (xs.take n)
 |ds,xs,0,h=>rfl
 |[],xs,n+1,h=>by cases (show xs=[] from h);exact rfl
 |d::ds,xs,n+1,h=>by
  obtain⟨v,r,rfl,O,U⟩:=h;exact⟨v,_,rfl,O,U.take n⟩
theorem cq.cut{ds:List ah}{xs:List V}(lo ao:Option Int)(h:cq H ds xs):cq H (ce ds lo ao) (rP xs lo ao):=by
 unfold ce rP;rw[h.length];exact (h.drop _).take _
@[simp] noncomputable def si(d:aC)(lo ao:Option Int):Option aC:=match d with
 |.im (.tup ds)=>J (.im<|.tup<|ce ds lo ao)
 |.lst ds=>J (.lst<|ce ds lo ao)
 |.e2 ds=>J (.lst<|ce ds lo ao)
 |_=>aa
noncomputable def YG(K:PySem.W.Frag):V->Option Int->Option Int->aM->dN->Prop:=λx lo ao H Q=>∃a xs,x=.ref a/\dh K H a xs/\et.df xs.length 0 lo=0/\et.df xs.length xs.length ao=xs.length/\Q (.ref a) H
theorem YH:yi X (λx lo ao H Q=>∃d r,ho H d x/\si d lo ao=J r/\Out H r Q):=by
 have all:yi X (YG X.K):=by
  intro pins s σ H x v dE hl lo ao bK Q I bU aq bW pu h;obtain⟨a,xs,rfl,ag,h0,O,q⟩:=h;cases bU;obtain⟨aP,r,cE,hz⟩:=I.tuple ag;have hlen:aP.toArray.size=xs.length:=by rw[dY];exact r.length.symm
  exact⟨"tuple",_,ve.lookup,cE.typeIs,et.YE cE aq bW pu (by rw[hlen];exact h0) (by rw[hlen];exact O) ⟨.ref a,H,I,rfl,q⟩⟩
 intro pins s σ H x v dE hl lo ao bK Q I bU aq bW pu ⟨d,r,cN,e,q⟩;unfold si at e;split at e
 ·rename_i ds;cases e;obtain⟨p,xs,rfl,O,U⟩:=cN.i;by_cases hw:et.df xs.length 0 lo=0/\et.df xs.length xs.length ao=xs.length
  ·refine all pins s σ H _ v dE hl lo ao bK Q I bU aq bW pu ⟨p,xs,rfl,dh.of O,hw.1,hw.2,Out.i q ⟨p,xs,rfl,O,?_⟩⟩;have:ce ds lo ao=ds:=by
    unfold ce;rw[U.length,hw.1,hw.2,pe,EZ,<-U.length,u']
   rw[this];exact U
  ·exact Vw pins s σ H _ v dE hl lo ao bK Q I bU aq bW pu ⟨p,xs,rfl,dh.of O,hw,λn bo=>Out.t q bo<|U.cut lo ao⟩
 ·cases e;obtain⟨_,p,xs,rfl,O,U,_⟩:=cN;exact MM pins s σ H _ v dE hl lo ao bK Q I bU aq bW pu ⟨p,xs,rfl,er.of O,λn bo=>Out.l q bo<|U.cut lo ao⟩
 ·cases e;obtain⟨_,p,xs,o,rfl,O,U,_⟩:=cN;exact MM pins s σ H _ v dE hl lo ao bK Q I bU aq bW pu ⟨p,xs,rfl,.inl<|.inr ⟨o,O⟩,λn bo=>Out.l q bo<|U.cut lo ao⟩
 ·cases e
@[simp] noncomputable def nc(g:M cH)(l h:M (Option Int)):M aC:=λD=>(g D).bind λp=>(l p.2).bind λq=>(h q.2).bind λr=>(e' r.2 p.1).bind λd=>(si d q.1 r.1).map λd'=>(d',r.2)
theorem yX{lo ao:Option bM}{g:M cH}{gl Oj:M (Option Int)}{bI:dk}(he:gp X e g)(aF:CV X lo gl)(dD:CV X ao Oj):dP X (.Subscript e (.Slice lo ao aa bI) pos) (nc g gl Oj):=by
 refine fV (Vu YH he aF dD) λσ H Q ⟨D,F,r,D',st,au,aJ,q⟩=>?_;obtain⟨⟨x,D1⟩,O,U⟩:=cv.mp aJ;obtain⟨⟨l,D2⟩,aL,aU⟩:=cv.mp U;obtain⟨⟨u,da⟩,c0,cU⟩:=cv.mp aU;obtain⟨d,Hu,YI⟩:=cv.mp cU;obtain⟨d',YJ,YK⟩:=dK.mp YI;cases YK;refine⟨D,F,x,D1,st,au,O,λv H1 F1 R cb o1 s1=>⟨D1,F1,l,D2,cb,(eA.mp s1.au).1,aL,λa6 bp b1 s2=>⟨D2,bp,u,da,b1,s2.au,c0,λcY gC fS s3=>?_⟩⟩⟩;have s4:=s2.seq s3;have o3:mc cY σ x v R:=o1.mono s4.tup λa az o e=>s4.keep a o e λh=>(eA.mp s1.au).2.2 a h a az rfl;have s5:=s1.trans s4 o1.chg;exact⟨d,_,o3.read fS Hu,YJ,λw fF pT og ow wb fr=>q w fF gC pT (fS.mono og.tupS λa _ o e=>og a o e) ow<|s5.new og wb fr fS.chg⟩
noncomputable abbrev oQ:=List aC->Option aC
@[simp] noncomputable def f3:oQ:=λds=>match ds with
 |[.im (.tup x)]=>J (.im<|.int x.length)
 |[.lst x]=>J (.im<|.int x.length)
 |[.e2 x]=>J (.im<|.int x.length)
 |[.k4 x]=>J (.im<|.int x.length)
 |[.eN x]=>J (.im<|.int x.length)
 |[.im (.str x)]=>if x.length<=100000 then J (.im<|.int x.length) else aa
 |_=>aa
variable{vs:List V}
theorem j7{d:aC}(h:r7 H [d] vs):∃v,vs=[v]/\ho H d v:=by
 obtain⟨v,r,rfl,O,U⟩:=h;cases (show r=[] from U);exact⟨v,rfl,O⟩
theorem Ol{d e:aC}(h:r7 H [d,e] vs):∃v u,vs=[v,u]/\ho H d v/\ho H e u:=by
 obtain⟨v,r,rfl,O,U⟩:=h;obtain⟨u,rfl,aL⟩:=j7 U;exact⟨v,u,rfl,O,aL⟩
theorem hV.length{bj:Type}{l:List (bj×ah)}{m:List (bj×V)}(h:hV H l m):l.length=m.length:=hi.length h
theorem jy:nO X (.builtin "len") f3:=by
 refine (VK.or<|VL.or Wq).imp λxs H Q ⟨ds,d,cN,e,q⟩=>?_;unfold f3 at e;split at e
 ·cases e;obtain⟨v,rfl,h⟩:=j7 cN;obtain⟨p,xs,rfl,O,U⟩:=h.i;exact .inl ⟨p,xs,rfl,.inr<|dh.of O,by rw[<-U.length];exact Out.i q rfl⟩
 ·cases e;obtain⟨v,rfl,_,p,xs,rfl,O,U,_⟩:=j7 cN;exact .inl ⟨p,xs,rfl,.inl<|er.of O,by rw[<-U.length];exact Out.i q rfl⟩
 ·cases e;obtain⟨v,rfl,_,p,xs,o,rfl,O,U,_⟩:=j7 cN;exact .inl ⟨p,xs,rfl,.inl<|.inl<|.inr ⟨o,O⟩,by rw[<-U.length];exact Out.i q rfl⟩
 ·cases e;obtain⟨v,rfl,_,p,xs,G,rfl,O,U,_⟩:=j7 cN;exact .inl ⟨p,xs,rfl,.inl<|er.of O,by rw[<-U.length];exact Out.i q rfl⟩
 ·cases e;obtain⟨v,rfl,_,p,fi,rfl,O,U,_⟩:=j7 cN;exact .inr (.inr ⟨p,fi,rfl,O,by rw[<-U.length];exact Out.i q rfl⟩)
 ·split at e
  ·rename_i aF;cases e;obtain⟨v,rfl,h⟩:=j7 cN;cases (show v=_ from h.i);exact .inr (.inl ⟨_,rfl,r9 aF,Out.i q rfl⟩)
  ·cases e
 ·cases e
@[simp] noncomputable def nR:oQ:=λds=>match ds with
 |[d]=>(oM d).map λx=>.im (.tup x)
 |_=>aa
@[simp] noncomputable def sj:oQ:=λds=>match ds with
 |[d]=>(oM d).map .lst
 |_=>aa
theorem t8:nO X (.type "tuple") nR:=by
 refine VN.imp λxs H Q ⟨ds,d,cN,e,q⟩=>?_;unfold nR at e;split at e
 ·obtain⟨x,ay,aG⟩:=dK.mp e;cases aG;obtain⟨v,rfl,h⟩:=j7 cN;unfold oM at ay;split at ay
  ·cases ay;obtain⟨p,xs,rfl,O,U⟩:=h.i;exact⟨p,xs,rfl,.inr ⟨dh.of O,Out.i q ⟨p,xs,rfl,O,U⟩⟩⟩
  ·cases ay;obtain⟨_,p,xs,rfl,O,U,_⟩:=h;exact⟨p,xs,rfl,.inl ⟨er.of O,λl aF=>Out.t q aF U⟩⟩
  ·cases ay;obtain⟨_,p,xs,o,rfl,O,U,_⟩:=h;exact⟨p,xs,rfl,.inl ⟨.inl<|.inr ⟨o,O⟩,λl aF=>Out.t q aF U⟩⟩
  ·cases ay
 ·cases e
theorem Hv:nO X (.type "list") sj:=by
 refine VM.imp λxs H Q ⟨ds,d,cN,e,q⟩=>?_;unfold sj at e;split at e
 ·obtain⟨x,ay,aG⟩:=dK.mp e;cases aG;obtain⟨v,rfl,h⟩:=j7 cN;unfold oM at ay;split at ay
  ·cases ay;obtain⟨p,xs,rfl,O,U⟩:=h.i;exact⟨p,xs,rfl,.inr<|dh.of O,λl aF=>Out.l q aF U⟩
  ·cases ay;obtain⟨_,p,xs,rfl,O,U,_⟩:=h;exact⟨p,xs,rfl,.inl<|er.of O,λl aF=>Out.l q aF U⟩
  ·cases ay;obtain⟨_,p,xs,o,rfl,O,U,_⟩:=h;exact⟨p,xs,rfl,.inl<|.inl<|.inr ⟨o,O⟩,λl aF=>Out.l q aF U⟩
  ·cases ay
 ·cases e
@[simp] noncomputable def vInt:oQ:=λds=>match ds with
 |[.im (.int i)]=>J (.im<|.int i)
 |[.im (.aR b)]=>J (.im<|.int<|if b then 1 else 0)
 |_=>aa
theorem YL:nO X (.type "int") vInt:=by
 refine U5.imp λxs H Q ⟨ds,d,cN,e,q⟩=>?_;unfold vInt at e;split at e
 ·cases e;obtain⟨v,rfl,h⟩:=j7 cN;cases (show v=_ from h.i);exact .inl ⟨_,rfl,Out.i q rfl⟩
 ·cases e;obtain⟨v,rfl,h⟩:=j7 cN;cases (show v=_ from h.i);exact .inr ⟨_,rfl,Out.i q rfl⟩
 ·cases e
@[simp] noncomputable def CW:oQ:=λds=>match ds with
 |[.im (.int i),.im<|.int j]=>J (.im<|.int<|if j>i then j else i)
 |_=>aa
@[simp] noncomputable def CY:oQ:=λds=>match ds with
 |[.im (.int i),.im<|.int j]=>J (.im<|.int<|if j<i then j else i)
 |_=>aa
theorem YM(av:X.calm=af):nO X (.builtin "max") CW:=by
 refine (U3 av).imp λxs H Q ⟨ds,d,cN,e,q⟩=>?_;unfold CW at e;split at e
 ·cases e;obtain⟨v,u,rfl,h,k⟩:=Ol cN;cases (show v=_ from h.i);cases (show u=_ from k.i);exact⟨_,_,rfl,Out.i q rfl⟩
 ·cases e
theorem YN(av:X.calm=af):nO X (.builtin "min") CY:=by
 refine (U4 av).imp λxs H Q ⟨ds,d,cN,e,q⟩=>?_;unfold CY at e;split at e
 ·cases e;obtain⟨v,u,rfl,h,k⟩:=Ol cN;cases (show v=_ from h.i);cases (show u=_ from k.i);exact⟨_,_,rfl,Out.i q rfl⟩
 ·cases e
@[simp] noncomputable def t9:List ah->Option (List Bool)
 |[]=>J []
 |.aR b::ds=>(t9 ds).map λr=>b::r
 |_::_=>aa
theorem Om{H:aM}:∀{ds:List ah}{xs:List V}{bs:List Bool},cq H ds xs->t9 ds=J bs->xs=bs.map V.aR
 |[],xs,bs,h,e=>by cases e;exact h
 |.aR b::ds,xs,bs,h,e=>by
  obtain⟨v,r,rfl,O,U⟩:=h;rw[t9]at e;obtain⟨p,ay,aG⟩:=dK.mp e;cases aG;cases (show v=.aR b from O);rw[Om U ay];rfl
 |.bu::_,_,_,_,e=>by cases e
 |.int _::_,_,_,_,e=>by cases e
 |.str _::_,_,_,_,e=>by cases e
 |.tup _::_,_,_,_,e=>by cases e
 |.fn _::_,_,_,_,e=>by cases e
 |.bf _::_,_,_,_,e=>by cases e
 |.fd::_,_,_,_,e=>by cases e
@[simp] noncomputable def nd:oQ:=λds=>match ds with
 |[.lst x]=>(t9 x).map λbs=>.im (.aR<|bs.all id)
 |_=>aa
theorem t_(av:X.calm=af):nO X (.builtin "all") nd:=by
 refine (XZ av).imp λxs H Q ⟨ds,d,cN,e,q⟩=>?_;unfold nd at e;split at e
 ·obtain⟨x,ay,aG⟩:=dK.mp e;cases aG;obtain⟨v,rfl,_,p,xs,rfl,O,U,_⟩:=j7 cN;rw[Om U ay]at O;exact⟨p,x,rfl,O,Out.i q rfl⟩
 ·cases e
end
section
variable{X:a4}
@[simp] noncomputable def Hw(T:String)(d:aC):Option Bool:=
 if T = "int" then match d with
  |.im (.int _)=>J af
  |.im (.aR _)=>J af
  |.im (.str _)=>J aD
  |.im (.tup _)=>J aD
  |.im .bu=>J aD
  |.lst _=>J aD
  |.im (.bf _)=>J aD
  |.im .fd=>J aD
  |.a8 _=>J aD
  |.eN _=>J aD
  |_=>aa
 else if T = "bool" then match d with
  |.im (.int _)=>J aD
  |.im (.aR _)=>J af
  |.im (.str _)=>J aD
  |.im (.tup _)=>J aD
  |.im .bu=>J aD
  |.lst _=>J aD
  |.im (.bf _)=>J aD
  |.im .fd=>J aD
  |.a8 _=>J aD
  |.eN _=>J aD
  |_=>aa
 else if T = "str" then match d with
  |.im (.int _)=>J aD
  |.im (.aR _)=>J aD
  |.im (.str _)=>J af
  |.im (.tup _)=>J aD
  |.im .bu=>J aD
  |.lst _=>J aD
  |.im (.bf _)=>J aD
  |.im .fd=>J aD
  |.a8 _=>J aD
  |.eN _=>J aD
  |_=>aa
 else if T = "tuple" then match d with
  |.im (.int _)=>J aD
  |.im (.aR _)=>J aD
  |.im (.str _)=>J aD
  |.im (.tup _)=>J af
  |.im .bu=>J aD
  |.lst _=>J aD
  |.im (.bf _)=>J aD
  |.im .fd=>J aD
  |.a8 _=>J aD
  |.eN _=>J aD
  |_=>aa
 else aa
variable{pins:List (ar×bE)}{H:aM}{s:aA}
theorem sk{σ:St}(I:Inv X pins σ H s){a:ar}(h:(∃k,H a=J (.a8 k))\/∃k,H a=J (.eN k)):∃o,s.heap.get? a=J o/\o.cls=.type "dict" := by
 rcases h with ⟨k,h⟩|⟨k,h⟩
 ·obtain⟨_,_,xs,_,o,es,ep,O,U,_⟩:=(show g9 X.prog X.w H s.heap a (.a8 k) from I.bw a _ h);exact⟨o,O,U.1⟩
 ·obtain⟨_,_,vs,_,o,es,ep,O,U,_⟩:=(show g9 X.prog X.w H s.heap a (.eN k) from I.bw a _ h);exact⟨o,O,U.1⟩
theorem CZ{σ:St}(I:Inv X pins σ H s){a:ar}{p:bE}(h:H a=J (.fO p<|.a8 [])):∃o,s.heap.get? a=J o/\o.cls=.type "dict" := by
 obtain⟨_,_,_,xs,_,o,es,ep,O,U,_⟩:=(show g9 X.prog X.w H s.heap a (.fO p<|.a8 []) from I.bw a _ h);exact⟨o,O,U.1⟩
theorem YO:bv X (.builtin "isinstance") (λxs H Q=>∃x T d b,xs=[x,.ty T]/\ho H d x/\Hw T d=J b/\Q (.aR b) H):=by
 intro pins s σ H xs us Q I r h;obtain⟨x,T,d,b,rfl,cN,ao,q⟩:=h;have Hx:=r;cases r with
 |cons r iV=>
  cases iV with
  |cons cG iV=>
   cases iV;cases cG;have f1:∀{b:Bool},Q (.aR b) H->gi X pins σ Q (.bool b) {s with toks:=s.toks+1}:=λ{b} q=>⟨.aR b,H,I.tok _,rfl,q⟩;have nS:∀{a:ar},(∃o,s.heap.get? a=J o/\o.cls=.type "dict")->(T = "int" \/ T = "bool" \/ T = "str" \/ T = "tuple")->b=aD->wpAny (a' X.prog X.w) X.A (call (.builtin "isinstance") [.ref a,.type T]) (gi X pins σ Q) X.dw s:=by
    rintro a ⟨o,aS,av⟩ dM rfl;rcases dM with rfl|rfl|rfl|rfl
    ·exact IsiPair.dict_int aS av (f1 q)
    ·exact IsiPair.dict_bool aS av (f1 q)
    ·exact IsiPair.dict_str aS av (f1 q)
    ·exact IsiPair.dict_tuple aS av (f1 q)
   have C0:(T = "int" \/ T = "bool" \/ T = "str" \/ T = "tuple")->b=aD->wpAny (a' X.prog X.w) X.A (call (.builtin "isinstance") [.none,.type T]) (gi X pins σ Q) X.dw s:=by
    rintro dM rfl;rcases dM with rfl|rfl|rfl|rfl
    ·exact IsiPair.NoneType_int (f1 q)
    ·exact IsiPair.NoneType_bool (f1 q)
    ·exact IsiPair.NoneType_str (f1 q)
    ·exact IsiPair.NoneType_tuple (f1 q)
   have hq:NI X.K H x T b->wpAny (a' X.prog X.w) X.A (call (.builtin "isinstance") [_,.type T]) (gi X pins σ Q) X.dw s:=λdD=>XX pins s σ H _ _ Q I Hx ⟨x,T,b,rfl,dD,q⟩;unfold Hw at ao;split at ao
   ·rename_i dM;subst dM;split at ao
    ·cases ao;exact hq (.inl ⟨_,cN.i,.inl ⟨rfl,rfl⟩⟩)
    ·cases ao;exact hq (.inr<|.inl ⟨_,cN.i,.inr<|.inl ⟨rfl,rfl⟩⟩)
    ·cases ao;exact hq (.inr<|.inr<|.inl ⟨_,cN.i,.inr<|.inl ⟨rfl,rfl⟩⟩)
    ·cases ao;obtain⟨a,xs,e,O,U⟩:=cN.i;exact hq (.inr<|.inr<|.inr<|.inl ⟨a,xs,e,dh.of O,.inr<|.inl ⟨rfl,rfl⟩⟩)
    ·cases ao;cases (show x=.bu from cN.i);cases r;exact C0 (.inl rfl) rfl
    ·cases ao;obtain⟨_,a,xs,e,O,U,_⟩:=cN;exact hq (.inr<|.inr<|.inr<|.inr ⟨a,xs,e,er.of O,.inr<|.inl ⟨rfl,rfl⟩⟩)
    ·cases ao;obtain⟨a,xs,o,e,O,U⟩:=cN.i;exact hq (.inr<|.inr<|.inr<|.inr ⟨a,xs,e,.inl<|.inr ⟨o,O⟩,.inr<|.inl ⟨rfl,rfl⟩⟩)
    ·cases ao;obtain⟨a,o,rfl,O⟩:=cN.i;cases r;exact nS (CZ I O) (.inl rfl) rfl
    ·cases ao;obtain⟨_,a,xs,rfl,O,U,_⟩:=cN;cases r;exact nS (sk I<|.inl ⟨_,O⟩) (.inl rfl) rfl
    ·cases ao;obtain⟨_,a,xs,rfl,O,U,_⟩:=cN;cases r;exact nS (sk I<|.inr ⟨_,O⟩) (.inl rfl) rfl
    ·cases ao
   ·split at ao
    ·rename_i dM;subst dM;split at ao
     ·cases ao;exact hq (.inl ⟨_,cN.i,.inr<|.inr<|.inr<|.inl ⟨rfl,rfl⟩⟩)
     ·cases ao;exact hq (.inr<|.inl ⟨_,cN.i,.inl ⟨rfl,rfl⟩⟩)
     ·cases ao;exact hq (.inr<|.inr<|.inl ⟨_,cN.i,.inr<|.inr<|.inr<|.inl ⟨rfl,rfl⟩⟩)
     ·cases ao;obtain⟨a,xs,e,O,U⟩:=cN.i;exact hq (.inr<|.inr<|.inr<|.inl ⟨a,xs,e,dh.of O,.inr<|.inr<|.inr<|.inl ⟨rfl,rfl⟩⟩)
     ·cases ao;cases (show x=.bu from cN.i);cases r;exact C0 (.inr<|.inl rfl) rfl
     ·cases ao;obtain⟨_,a,xs,e,O,U,_⟩:=cN;exact hq (.inr<|.inr<|.inr<|.inr ⟨a,xs,e,er.of O,.inr<|.inr<|.inr<|.inl ⟨rfl,rfl⟩⟩)
     ·cases ao;obtain⟨a,xs,o,e,O,U⟩:=cN.i;exact hq (.inr<|.inr<|.inr<|.inr ⟨a,xs,e,.inl<|.inr ⟨o,O⟩,.inr<|.inr<|.inr<|.inl ⟨rfl,rfl⟩⟩)
     ·cases ao;obtain⟨a,o,rfl,O⟩:=cN.i;cases r;exact nS (CZ I O) (.inr<|.inl rfl) rfl
     ·cases ao;obtain⟨_,a,xs,rfl,O,U,_⟩:=cN;cases r;exact nS (sk I<|.inl ⟨_,O⟩) (.inr<|.inl rfl) rfl
     ·cases ao;obtain⟨_,a,xs,rfl,O,U,_⟩:=cN;cases r;exact nS (sk I<|.inr ⟨_,O⟩) (.inr<|.inl rfl) rfl
     ·cases ao
    ·split at ao
     ·rename_i dM;subst dM;split at ao
      ·cases ao;exact hq (.inl ⟨_,cN.i,.inr<|.inr<|.inl ⟨rfl,rfl⟩⟩)
      ·cases ao;exact hq (.inr<|.inl ⟨_,cN.i,.inr<|.inr<|.inr<|.inl ⟨rfl,rfl⟩⟩)
      ·cases ao;exact hq (.inr<|.inr<|.inl ⟨_,cN.i,.inl ⟨rfl,rfl⟩⟩)
      ·cases ao;obtain⟨a,xs,e,O,U⟩:=cN.i;exact hq (.inr<|.inr<|.inr<|.inl ⟨a,xs,e,dh.of O,.inr<|.inr<|.inl ⟨rfl,rfl⟩⟩)
      ·cases ao;cases (show x=.bu from cN.i);cases r;exact C0 (.inr<|.inr<|.inl rfl) rfl
      ·cases ao;obtain⟨_,a,xs,e,O,U,_⟩:=cN;exact hq (.inr<|.inr<|.inr<|.inr ⟨a,xs,e,er.of O,.inr<|.inr<|.inl ⟨rfl,rfl⟩⟩)
      ·cases ao;obtain⟨a,xs,o,e,O,U⟩:=cN.i;exact hq (.inr<|.inr<|.inr<|.inr ⟨a,xs,e,.inl<|.inr ⟨o,O⟩,.inr<|.inr<|.inl ⟨rfl,rfl⟩⟩)
      ·cases ao;obtain⟨a,o,rfl,O⟩:=cN.i;cases r;exact nS (CZ I O) (.inr<|.inr<|.inl rfl) rfl
      ·cases ao;obtain⟨_,a,xs,rfl,O,U,_⟩:=cN;cases r;exact nS (sk I<|.inl ⟨_,O⟩) (.inr<|.inr<|.inl rfl) rfl
      ·cases ao;obtain⟨_,a,xs,rfl,O,U,_⟩:=cN;cases r;exact nS (sk I<|.inr ⟨_,O⟩) (.inr<|.inr<|.inl rfl) rfl
      ·cases ao
     ·split at ao
      ·rename_i dM;subst dM;split at ao
       ·cases ao;exact hq (.inl ⟨_,cN.i,.inr<|.inl ⟨rfl,rfl⟩⟩)
       ·cases ao;exact hq (.inr<|.inl ⟨_,cN.i,.inr<|.inr<|.inl ⟨rfl,rfl⟩⟩)
       ·cases ao;exact hq (.inr<|.inr<|.inl ⟨_,cN.i,.inr<|.inr<|.inl ⟨rfl,rfl⟩⟩)
       ·cases ao;obtain⟨a,xs,e,O,U⟩:=cN.i;exact hq (.inr<|.inr<|.inr<|.inl ⟨a,xs,e,dh.of O,.inl ⟨rfl,rfl⟩⟩)
       ·cases ao;cases (show x=.bu from cN.i);cases r;exact C0 (.inr<|.inr<|.inr rfl) rfl
       ·cases ao;obtain⟨_,a,xs,e,O,U,_⟩:=cN;exact hq (.inr<|.inr<|.inr<|.inr ⟨a,xs,e,er.of O,.inr<|.inr<|.inr<|.inr ⟨rfl,rfl⟩⟩)
       ·cases ao;obtain⟨a,xs,o,e,O,U⟩:=cN.i;exact hq (.inr<|.inr<|.inr<|.inr ⟨a,xs,e,.inl<|.inr ⟨o,O⟩,.inr<|.inr<|.inr<|.inr ⟨rfl,rfl⟩⟩)
       ·cases ao;obtain⟨a,o,rfl,O⟩:=cN.i;cases r;exact nS (CZ I O) (.inr<|.inr<|.inr rfl) rfl
       ·cases ao;obtain⟨_,a,xs,rfl,O,U,_⟩:=cN;cases r;exact nS (sk I<|.inl ⟨_,O⟩) (.inr<|.inr<|.inr rfl) rfl
       ·cases ao;obtain⟨_,a,xs,rfl,O,U,_⟩:=cN;cases r;exact nS (sk I<|.inr ⟨_,O⟩) (.inr<|.inr<|.inr rfl) rfl
       ·cases ao
      ·cases ao
@[simp] noncomputable def lF(T:String)(g:M cH):M aC:=λD=>(g D).bind λp=>(e' p.2 p.1).bind λd=>(Hw T d).map λb=>(.im<|.aR b,p.2)
variable{x:aQ}{e:bM}{g:M cH}{pos:dk}
theorem nf{T:String}{p bI:dk}(aJ:fo X "isinstance")(hm:X.mg "isinstance" = aa)(bb:gL "isinstance" = J (.builtin "isinstance"))(YP:fo X x)(YQ:X.mg x=aa)(YR:gL x=J (.type T))(h:gp X e g)(bo:x ≠ "__name__" := by decide)(hd:(x==("__debug__" : aQ))=aD:=by decide)(he:cx [e,.Name x bI] X.env=(aD,de e X.env)::cx [.Name x bI] X.env:=by rfl)(m4:cx [.Name x bI] X.env=(aD,de (.Name x bI) X.env)::cx [] X.env:=by rfl)(fT:(ht pos<|cx [.Name x bI] X.env).any (·.1)=aD:=by rfl):dP X (.Call (.Name "isinstance" p) [e,.Name x bI] [] pos) (lF T g):=by
 refine fV (lm YO aJ hm bb (qE h (qE (L_ (v:=.ty T) YP YQ YR rfl bo hd) yf m4) he) (by decide) (by decide) he fT) λσ H Q ⟨D,F,r,D',st,au,gD,q⟩=>?_;obtain⟨⟨o,D1⟩,O,U⟩:=cv.mp gD;obtain⟨d,aL,aU⟩:=cv.mp U;obtain⟨b,c0,cU⟩:=dK.mp aU;cases cU;exact⟨D,F,o,D1,st,au,O,λv H1 F1 R cb o1 s1=>⟨v,T,d,b,rfl,o1.read cb aL,c0,q _ H1 F1 [] cb ⟨rfl,rfl⟩ (by rw[c5];exact s1.both)⟩⟩
@[simp] noncomputable def yY:aC->Option Bool
 |.im .bu=>J aD
 |.im (.aR b)=>J b
 |.im (.int i)=>J (i != 0)
 |.im (.str x)=>if x.length<=100000 then J ((x.length:Int) != 0) else aa
 |.im (.tup ds)=>J (!ds.isEmpty)
 |.lst ds=>J (!ds.isEmpty)
 |.e2 ds=>J (!ds.isEmpty)
 |.eN kvs=>J (!kvs.isEmpty)
 |_=>aa
theorem cq.emp{ds:List ah}{xs:List V}(h:cq H ds xs):(!xs.isEmpty)=!ds.isEmpty:=by
 cases ds with
 |nil=>cases (show xs=[] from h);rfl
 |cons d ds=>obtain⟨v,r,rfl,_⟩:=h;rfl
theorem YS{d:aC}{v:V}{b:Bool}(h:ho H d v)(e:yY d=J b):F' X.K v H b:=by
 unfold yY at e;split at e
 ·cases e;cases (show v=_ from h.i);rfl
 ·cases e;cases (show v=_ from h.i);rfl
 ·cases e;cases (show v=_ from h.i);rfl
 ·split at e
  ·rename_i aF;cases e;cases (show v=_ from h.i);exact⟨r9 aF,rfl⟩
  ·cases e
 ·cases e;obtain⟨p,xs,rfl,O,U⟩:=h.i;exact .inr (.inl ⟨xs,dh.of O,U.emp.symm⟩)
 ·cases e;obtain⟨_,p,xs,rfl,O,U,_⟩:=h;exact .inl ⟨xs,er.of O,U.emp.symm⟩
 ·cases e;obtain⟨_,p,xs,o,rfl,O,U,_⟩:=h;exact .inl ⟨xs,.inl<|.inr ⟨o,O⟩,U.emp.symm⟩
 ·cases e;obtain⟨_,p,fi,rfl,O,U,_⟩:=h;refine .inr (.inr ⟨fi,O,?_⟩);cases U<;>rfl
 ·cases e
@[simp] noncomputable def f5(g:M cH):M Bool:=λD=>(g D).bind λp=>(e' p.2 p.1).bind λd=>(yY d).map λb=>(b,p.2)
theorem jz(h:gp X e g)(he:∀whole,vj e X.env whole=(do let v <-whole;standAt e.pos;holding [v] (truthy v)):=by intro _;rfl):lu X e (f5 g):=by
 refine Cz (U1 h he) λσ H Q ⟨D,F,b,D',st,au,gD,q⟩=>?_;obtain⟨⟨o,D1⟩,O,U⟩:=cv.mp gD;obtain⟨d,aL,aU⟩:=cv.mp U;obtain⟨pI,c0,cU⟩:=dK.mp aU;cases cU;exact⟨D,F,o,D1,st,au,O,λv H1 F1 R cb o1 s1=>⟨_,YS (o1.read cb aL) c0,q H1 F1 cb s1.both⟩⟩
theorem p2{i:Int}{t:lS}(aJ:fo X x)(hm:X.mg x=J (.int i t))(hd:(x==("__debug__" : aQ))=aD:=by decide):dP X (.Name x pos) (aN<|.int i):=CA (BI (v:=.int i) aJ hm ⟨t,rfl⟩ hd) λ_=>rfl
theorem On{f:ar}(aJ:fo X x)(hm:X.mg x=J (.ref f))(hd:(x==("__debug__" : aQ))=aD:=by decide):dP X (.Name x pos) (aN<|.fn f):=CA (BI (v:=.ref f) aJ hm rfl hd) λ_=>rfl
end
variable{hn apos:dk}{o:bM}{id T:String}{name:aQ}{g:M (List cH)}{i:Nat}{ty:aC->Bool}{K:PySem.W.Frag}{cA:iQ}{a:ar}{H:aM}
theorem bR.chg{F F1:List ar}(az:a∈F)(c:jw H a)(au:F1.Nodup)(dC:∀x∈F1,x∈F):bR H F (upd H a cA) F1:=by
 obtain⟨o,e,cE,hf⟩:=c;refine⟨λx u ex ag=>?_,λx ag=>.inl<|dC x ag,au,hW.of (λx xs ex=>?_)<|λx p u ex=>?_,λx u ex=>?_⟩
 ·rw[eb (λz=>ag (by rw[z];exact az))];exact ex
 ·rw[eb]
  ·exact ex
  ·rintro rfl;rw[e]at ex;exact cE xs (Option.some.inj ex)
 ·rw[eb]
  ·exact ex
  ·rintro rfl;rw[e]at ex;exact hf p u (Option.some.inj ex)
 ·by_cases ag:x=a
  ·subst ag;exact⟨cA,hy⟩
  ·exact⟨u,(eb ag).trans ex⟩
theorem dR.ua(c:jw H a):vv H (upd H a cA):=(bR.chg (F:=[a]) (F1:=[]) (.head _) c qo<|λx ag=>nomatch ag).tup.tup
noncomputable def yZ(X:a4)(id:String)(mt:aC->List aC->Option (aC×aC)):Prop:=
 Gg X id λx vs H Q=>∃c ds r c' R S,Own H c x R/\e9 H ds vs S/\(R++S).Nodup/\mt c ds=J (r,c')/\∀v ak dr cI,Own ak r v dr->Own ak c' x cI->bR H (R++S) ak (dr++cI)->Q v ak
@[simp] noncomputable def p3:aC->Bool
 |.lst _=>af
 |.k4 _=>af
 |_=>aD
@[simp] noncomputable def lG(ty:aC->Bool)(i:Nat)(mt:aC->List aC->Option (aC×aC))(g:M (List cH)):M aC:=λD=>match D[i]? with
 |some (J kG)=>if ty kG=af then (g D).bind λp=>(gB p.1 p.2).bind λq=>match q.2[i]? with
   |some (J c)=>(mt c q.1).map λr=>(r.1,q.2.set i<|J r.2)
   |_=>aa
  else aa
 |_=>aa
theorem Oo{mt:aC->List aC->Option (aC×aC)}{σ:St}{Q:dN}(l6:∀H c x R,Own H c x R->ty c=af->rQ K T x H)(h:qV (lG ty i mt g) σ H Q):∃x,σ[i]?=J (J x)/\rQ K T x H/\kX g σ H λvs a6=>∃c ds r c' R S,Own a6 c x R/\e9 a6 ds vs S/\(R++S).Nodup/\mt c ds=J (r,c')/\∀v ak dr cI,Own ak r v dr->Own ak c' x cI->bR a6 (R++S) ak (dr++cI)->Q v ak:=by
 obtain⟨D,F,r,D',st,au,aJ,q⟩:=h;unfold lG at aJ;split at aJ
 ·rename_i kG wo;split at aJ
  ·rename_i cE;obtain⟨x,YT,YU,ag,rK,_,_⟩:=st.out wo;refine⟨x,ag,l6 H kG x _ rK cE,?_⟩;obtain⟨⟨os,D1⟩,O,U⟩:=cv.mp aJ;obtain⟨⟨ds,D2⟩,aL,aU⟩:=cv.mp U;refine⟨D,F,os,D1,st,au,O,λvs H1 F1 dr cb o1 s1=>?_⟩;obtain⟨bp,S,b1,ow,pm⟩:=r8 cb o1 aL;dsimp only at aU;split at aU
   ·rename_i c av;obtain⟨⟨cG,c'⟩,c0,cU⟩:=dK.mp aU;cases cU;obtain⟨mW,R,gC,kk,ee,fS,y0⟩:=b1.out av;rw[ag]at kk;cases kk;have s2:bR H F H1 ((R++S)++gC):=s1.oH (pm.symm.trans ((g8 S y0.symm).trans (by
     rw[bY];exact ek)))
    have m':=eA.mp s2.au;refine⟨c,ds,_,c',R,S,ee,ow,m'.1,c0,λv ak A B YV m6 s3=>?_⟩;have fA:b2 ak (D2.set i<|J .fH) σ gC:=fS.mono s3.tup λa az o e=>s3.keep a o e λh=>m'.2.2 a h a az rfl;obtain⟨gR,G,hk,qZ⟩:=fA.back m6 ag;rw[AZ]at hk;refine q v ak gR A hk YV ((s2.trans s3 fS.chg).less (C:=G) ?_);rw[bY];refine (fK gR ek).trans ?_;rw[<-bY];refine (g8 A qZ).trans ?_;rw[bY];refine ek.trans ?_;rw[bY];refine ek.trans ?_;rw[bY,bY];refine (fK A ?_);exact ek
   ·cases aU
  ·cases aJ
 ·cases aJ
section
variable{X:a4}
theorem ub:∀(H:aM) (c:aC) (x:V) (R:List ar),Own H c x R->p3 c=af->rQ K "list" x H:=by
 intro H c x R h e;cases c with
 |lst ds=>obtain⟨a,xs,rfl,O,_⟩:=h;exact .inl ⟨rfl,xs,er.of O⟩
 |k4 ds=>obtain⟨a,xs,G,rfl,O,_⟩:=h;exact .inl ⟨rfl,xs,er.of O⟩
 |_=>cases e
theorem wq{mt:aC->List aC->Option (aC×aC)}{e:bM}{es:List bM}(l6:∀H c x R,Own H c x R->ty c=af->rQ X.K T x H)(cT:Bj T)(slot:Slot T name id)(cE:tb (.builtin id)=pure (.type "method_descriptor"))(hm:yZ X id mt)(aS:cF X o (qz i))(az:i9 X (e::es) g)(tw:Bk o name X.env (de o X.env)=de o X.env:=by rfl)(Gh:((ht hn<|cx (e::es) X.env).all (λx=>!x.1)&&(backToKw hn<|keywordEach [] X.env).all (λx=>x.1.isSome)
   && decide ((e::es).length+([]:List xT).length+(if ([]:List xT).isEmpty then 0 else 1)<30))=af:=by rfl)(tx:(apos.endLine==hn.line)=af:=by rfl)(aq:cx (e::es) X.env=(aD,de e X.env)::cx es X.env:=by rfl)(Gi:(ht hn<|cx es X.env).any (·.1)=aD:=by rfl):
  dP X (.Call (.Attribute o name apos) (e::es) [] hn) (lG ty i mt g):=
 fV (VR cT slot cE hm aS az tw Gh tx aq Gi) λσ H Q h=>by
  obtain⟨x,ag,O,U⟩:=Oo l6 h;exact⟨x,ag,O,U⟩
theorem YW{mt:aC->List aC->Option (aC×aC)}(l6:∀H c x R,Own H c x R->ty c=af->rQ X.K T x H)(cT:Bj T)(slot:Slot T name id)(cE:tb (.builtin id)=pure (.type "method_descriptor"))(hm:yZ X id mt)(aS:cF X o (qz i))(tw:Bk o name X.env (de o X.env)=de o X.env:=by rfl)(tx:(apos.endLine==hn.line)=af:=by rfl):
  dP X (.Call (.Attribute o name apos) [] [] hn) (lG ty i mt aW):=
 fV (VQ cT slot cE hm aS tw tx) λσ H Q h=>by
  obtain⟨x,ag,O,U⟩:=Oo l6 h;refine⟨x,ag,O,?_⟩;obtain⟨D,F,r,D',st,au,aJ,q⟩:=U;cases aJ;exact q [] H F [] st ⟨rfl,rfl⟩ (by rw[c5];exact bR.perm au (List.Perm.refl _))
@[simp] noncomputable def oR:aC->List aC->Option (aC×aC):=λc ds=>match c,ds with
 |.lst xs,[.im d]=>if xs.length<100000 then J (.im .bu,.lst<|xs++[d]) else aa
 |_,_=>aa
theorem Hy{n:Nat}(h:n<100000):n<sizeLine:=hs h (by decide)
theorem Hz:yZ X "list.append" oR:=by
 intro pins s σ H x vs v us Q I bU b0 ⟨c,ds,r,c',R,S,oS,oT,au,e,q⟩;unfold oR at e;split at e
 ·split at e
  ·rename_i aF;cases e;obtain⟨a,a3,rfl,O,U,rfl⟩:=oS;obtain⟨y,t,Ha,Hb,rfl,⟨aw,rfl⟩,⟨rfl,rfl⟩,rfl⟩:=oT;have c:jw H a:=⟨_,O,(λ_ e=>by cases e),(λ_ _ e=>by cases e)⟩;refine VW pins s σ H _ _ v us Q I bU b0 ⟨a,a3,y,rfl,rfl,O,Hy (by rw[<-U.length];exact aF),q .bu _ [] [a] ⟨rfl,rfl⟩ ?_ (bR.chg (.head _) c (h4 _ _) λx ag=>by simpa using ag)⟩;exact⟨a,_,rfl,hy,(U.snoc aw).mono<|dR.ua c,rfl⟩
  ·cases e
 ·cases e
@[simp] noncomputable def HA:aC->List aC->Option (aC×aC):=λc ds=>match c,ds with
 |.lst xs,[]=>(xs.getLast?).map λd=>(.im d,.lst xs.dropLast)
 |_,_=>aa
theorem cq.last{ds:List ah}{xs:List V}{d:ah}(h:cq H ds xs)(e:ds.getLast?=J d):∃v,xs[xs.length-1]?=J v/\dR H d v/\cq H ds.dropLast xs.dropLast:=by
 rw[Ko]at e;obtain⟨v,g1,g2⟩:=h.get e;refine⟨v,by rw[<-h.length];exact g1,g2,?_⟩;rw[AH,AH,<-h.length];exact h.take _
theorem YX:yZ X "list.pop" HA:=by
 intro pins s σ H x vs v us Q I bU b0 ⟨c,ds,r,c',R,S,oS,oT,au,e,q⟩;unfold HA at e;split at e
 ·obtain⟨d,ay,aG⟩:=dK.mp e;cases aG;obtain⟨a,a3,rfl,O,U,rfl⟩:=oS;obtain⟨rfl,rfl⟩:=oT;obtain⟨y,g1,g2,g3⟩:=U.last ay;have c:jw H a:=⟨_,O,(λ_ e=>by cases e),(λ_ _ e=>by cases e)⟩;refine V1 pins s σ H _ _ v us Q I bU b0 ⟨a,a3,y,rfl,rfl,O,g1,q y _ [] [a] ⟨g2.mono<|dR.ua c,rfl⟩ ?_ (bR.chg (.head _) c (h4 _ _) λx ag=>by simpa using ag)⟩;exact⟨a,_,rfl,hy,g3.mono<|dR.ua c,rfl⟩
 ·cases e
@[simp] noncomputable def YY:aC->List aC->Option (aC×aC):=λc ds=>match c,ds with
 |.lst xs,[.im (.int i)]=>if 0<=i/\i<xs.length then (xs[i.toNat]?).map λd=>(.im d,.lst<|xs.eraseIdx i.toNat) else aa
 |_,_=>aa
@[simp] noncomputable def sl:aC->List aC->Option (aC×aC):=λc ds=>match c,ds with
 |.lst xs,[.lst a3]=>if xs.length+a3.length<=100000 then J (.im .bu,.lst<|xs++a3) else aa
 |_,_=>aa
theorem HB:yZ X "list.extend" sl:=by
 intro pins s σ H x vs v us Q I bU b0 ⟨c,ds,r,c',R,S,oS,oT,au,e,q⟩;unfold sl at e;split at e
 ·split at e
  ·rename_i aF;cases e;obtain⟨a,a3,rfl,O,U,rfl⟩:=oS;obtain⟨y,t,Ha,Hb,rfl,⟨b,zs,rfl,aL,aU,rfl⟩,⟨rfl,rfl⟩,rfl⟩:=oT;have c:jw H a:=⟨_,O,(λ_ e=>by cases e),(λ_ _ e=>by cases e)⟩;refine VY pins s σ H _ _ v us Q I bU b0 ⟨a,b,a3,zs,rfl,rfl,O,aL,r9 (by rw[<-U.length,<-aU.length];exact aF),q .bu _ [] [a] ⟨rfl,rfl⟩ ?_ (bR.chg (.head _) c (h4 _ _) λx ag=>by
    rw[qn]at ag;exact fD _ ag)⟩
   exact⟨a,_,rfl,hy,(U.app aU).mono<|dR.ua c,rfl⟩
  ·cases e
 ·cases e
noncomputable def C1(X:a4)(pt:aC->aC->aC->Option aC):Prop:=
 FR X λo i v H Q=>∃c k d c' R S,Own H c o R/\Own H k i []/\Own H d v S/\(R++S).Nodup/\pt c k d=J c'/\∀ak R',Own ak c' o R'->bR H (R++S) ak R'->Q ak
@[simp] noncomputable def q2(c k d:aC):Option aC:=match c,k,d with
 |.lst xs,.im<|.int i,.im d=>(qF xs.length i).map λj=>.lst (xs.set j d)
 |_,_,_=>aa
theorem cq.set{H:aM}{d:ah}{v:V}(w:dR H d v):∀{ds:List ah}{xs:List V} (n:Nat),cq H ds xs->cq H (ds.set n d) (xs.set n v)
 |[],xs,n,h=>by cases (show xs=[] from h);exact rfl
 |e::ds,xs,0,h=>by obtain⟨u,r,rfl,O,U⟩:=h;exact⟨v,r,rfl,w,U⟩
 |e::ds,xs,n+1,h=>by obtain⟨u,r,rfl,O,U⟩:=h;exact⟨u,_,rfl,O,cq.set w n U⟩
theorem Op:C1 X q2:=by
 intro pins s σ H o i v iU dO u Q I en tv b0 ⟨c,k,d,c',R,S,oS,oy,oT,au,e,q⟩;unfold q2 at e;split at e
 ·obtain⟨j,ay,aG⟩:=dK.mp e;cases aG;obtain⟨a,a3,rfl,O,U,rfl⟩:=oS;obtain⟨hd,rfl⟩:=oT;have c:jw H a:=⟨_,O,(λ_ e=>by cases e),(λ_ _ e=>by cases e)⟩;refine VG pins s σ H _ _ _ iU dO u Q I en tv b0 ⟨a,a3,_,j,rfl,oy.1,O,by rw[<-U.length];exact ay,q _ [a] ?_ (bR.chg (.head _) c (h4 _ _) λx ag=>by simpa using ag)⟩;exact⟨a,_,rfl,hy,(cq.set hd j U).mono<|dR.ua c,rfl⟩
 ·cases e
@[simp] noncomputable def nT(i:Nat)(kB:M aC)(pt:aC->aC->aC->Option aC):hE:=λd D=>match D[i]? with
 |some (J _)=>(kB D).bind λp=>if p.1.fy=af then match p.2[i]? with
   |some (J c)=>(pt c p.1 d).map λc'=>p.2.set i (J c')
   |_=>aa
  else aa
 |_=>aa
theorem uc{fix:List Nat}{k:bM}{kB:M aC}{pt:aC->aC->aC->Option aC}{pos:dk}(aS:cF X o (qz i))(aY:dP X k kB)(aE:C1 X pt)(az:∀v,lT (.Subscript o k pos) X.env v=(do
   let iU <-holding [v] (de o X.env)
   let dO <-holding [v,iU] (de k X.env)
   standAt pos
   holding [v,iU,dO] (Be iU dO v)
   release [v,iU,dO] []):=by intro _;rfl):pU X fix (.Subscript o k pos) (nT i kB pt):=by
 refine He (Uo aS aY aE az) λv σ H Q ⟨D,F,d,R,D',st,ow,au,aJ,q⟩=>?_;unfold nT at aJ;split at aJ
 ·rename_i kG wo;obtain⟨x,YT,YU,ag,rK,_,_⟩:=st.out wo;obtain⟨⟨HC,D1⟩,O,U⟩:=cv.mp aJ;split at U
  ·rename_i YZ;refine⟨x,ag,D,F,HC,D1,st,(eA.mp au).1,O,λdZ H1 F1 agA cb oy s1=>?_⟩;obtain rfl:=oy.fy YZ;rw[c5]at s1;have Y0:=eA.mp au;dsimp only at U;split at U
   ·rename_i c av;obtain⟨c',c0,cU⟩:=dK.mp U;cases cU;obtain⟨mW,Oq,gC,kk,ee,fS,y0⟩:=cb.out av;rw[ag]at kk;cases kk;have Y1:Own H1 d v R:=ow.mono s1.tup λa az o e=>s1.keep a o e λh=>Y0.2.2 a h a az rfl;have s2:bR H (F++R) H1 ((Oq++R)++gC):=by
     have fj:bR H (F++R) H (F++R):=bR.perm au (List.Perm.refl _);have:=bR.trans (F1:=F) (R:=R) fj s1 ow.chg;refine this.oH ((g8 R y0.symm).trans ?_);rw[bY];exact ek
    have m':=eA.mp s2.au;refine⟨c,HC,d,c',Oq,R,ee,oy,Y1,m'.1,c0,λak R' gh s3=>?_⟩;have fA:b2 ak (D1.set i<|J .fH) σ gC:=fS.mono s3.tup λa az o e=>s3.keep a o e λh=>m'.2.2 a h a az rfl;obtain⟨gR,G,hk,qZ⟩:=fA.back gh ag;rw[AZ]at hk;exact q σ ak gR d3.refl hk ((s2.trans s3 fS.chg).less<|qZ.trans ek)
   ·cases U
  ·cases U
 ·cases aJ
end
section
variable{prog:cc}{w:bN}{A:cj}{E:aj->aA->Prop}{s:aA}
end
section
variable{X:a4}
end
end L2
namespace L2
open PySem PySem.Spec PyProof.Rows PySem.W
variable{ns:List Int}{p:Array Nat}{α:Type}
theorem Y2(l:List α)(d:α):(range l.length).map (λi=>l.getD i d)=l:=by
 apply EO
 ·simp
 ·intro i O U;simp[List.getD,U]
theorem C2{l:List α}{d:α}(h:eO l.length p):(p.toList.map λi=>l.getD i d).Perm l:=by
 have:=A8 (λi=>l.getD i d) h;rw[Y2]at this;exact this
theorem C3{α β:Type}{F:α->β->Prop}:∀{l₁:List α}{vw:List β},l₁.length=vw.length->(∀(i:Nat) a b,l₁[i]?=J a->vw[i]?=J b->F a b)->hi F l₁ vw
 |[],[],_,_=>.nil
 |a::l,b::m,h,f=>.cons (f 0 a b rfl rfl) (C3 (by simpa using h) λi x y O U=>f (i+1) x y (by simpa using O) (by simpa using U))
 |[],_::_,h,_=>by simp at h
 |_::_,[],h,_=>by simp at h
section
variable{prog:cc}{w:bN}{A:cj}{E:aj->aA->Prop}{s:aA}{vs:List aj}
theorem HD{B:ar}{jA:Nat}{P:PySem.Fin->aA->Prop}(key:Nat->Int)(bj:jM)(aS:s.heap.get? B=J (hu "list" vs.toArray jA))(f6:2<=vs.length->∀cU:br,(∀b o,b≠B->s.heap.get? b=J o->cU.get? b=J o)->∀Q:jM->aA->Prop,Q bj {s with heap:=cU}->wpAny (a' prog w) A (Fx vs.toArray) Q E {s with heap:=cU})(HE:∀cU:br,(∀b o,b≠B->s.heap.get? b=J o->cU.get? b=J o)->kx vs.length key (iO prog w A bj<|vs.toArray.zip vs.toArray) {s with heap:=cU})(inj:∀i j,i<vs.length->j<vs.length->key i=key j->i=j)(up:vs.length<1001\/∀j,1<=j->j<vs.length->key (j-1)<=key j)(hz:vs.length<=1000)(h:∀(p:Array Nat) (h':br),eO vs.length p->k' key p vs.length->(∀b o,b≠B->s.heap.get? b=J o->h'.get? b=J o)->(∃e,h'.get? B=J (hu "list" (p.toList.map λi=>vs.getD i aj.none).toArray e))->
   P (.done<|.ret .none) {s with heap:=h'}):wpAny (a' prog w) A (b8.«list.sort» ⟨[.ref B],[]⟩) P E s:=by
 have Os:vs.length<=sizeLine:=hh hz (by decide);rw[list_sort_plain];have ef:B<s.heap.objs.size:=c8 aS;refine aH (listItems_at aS rfl (aH (Ld aS rfl ?_ (hsz:=by rw[dY];exact Os) (hsz2:=by show 0<=_;exact lR _))));have sm:=La aS (λ_=>#[]);generalize HF:(if (#[]:Array aj).size==vs.toArray.size then jA else jA+1)=ay at sm;refine aH (seqEpoch_at sm rfl (aH (Kc (aH<|Ay<|ki ?_) (by simpa using Os))));have jB:∀b o,b≠B->s.heap.get? b=J o->(((s.heap.update B<|bE.mapSeq λ_=>#[]).push<|hu "tuple" vs.toArray.toList.toArray 0).push<|hu "list" ([]:List aj).toArray 0).get? b=J o:=λb o ae e=>
  dc _ (dc _<|(qp _ _<|h5 ae).trans e);have o6:(((s.heap.update B<|bE.mapSeq λ_=>#[]).push<|hu "tuple" vs.toArray.toList.toArray 0).push<|hu "list" ([]:List aj).toArray 0).get? B=J (hu "list" #[] ay):=
  dc _ (dc _ sm);show wpAny (a' prog w) A _ P E {s with heap:=((s.heap.update B<|bE.mapSeq λ_=>#[]).push<|hu "tuple" vs.toArray.toList.toArray 0).push (hu "list" ([]:List aj).toArray 0)};generalize ((s.heap.update B<|bE.mapSeq λ_=>#[]).push<|hu "tuple" vs.toArray.toList.toArray 0).push (hu "list" ([]:List aj).toArray 0)=cU at jB o6 ⊢;have fin:∀(st:cL) (p:Array Nat),eO vs.length p->k' key p vs.length->arrOf st=p.map (cy<|vs.toArray.zip vs.toArray)->kT st=aa->
   wpAny (a' prog w) A (do
    let touched:=(<-seqEpoch B) != ay
    b8.List.listUpdate (.ref B) λ_=>(arrOf st).map (·.2)
    if let J e:=kT st then rule "list.sort.comparison-raised";throw e
    if touched then rule "list.sort.modified";raiseError "ValueError" "list modified during sort"
    ret .none) P E {s with heap:=cU}:=λst p a9 bF mQ oi=>by
  have out:=kat_snds (ks:=vs) (vs:=vs) rfl mQ;rw[out,oi];refine aH (seqEpoch_at (s:={s with heap:=cU}) o6 rfl (aH (Ld (s:={s with heap:=cU}) o6 rfl ?_ (hsz:=lR _) (hsz2:=by
   show (List.toArray<|p.toList.map λi=>vs.getD i aj.none).size<=_;rw[dY,b3,eT,a9.size];lia))))
  simp only[bne_self_eq_false,jI,hM];refine ba (h p _ a9 bF (λb o ae e=>(qp _ _<|h5 ae).trans<|jB b o ae e) ⟨_,La o6 λ_=>_⟩)
 dsimp only;by_cases U:vs.toArray.size<2
 ·rw[aV U,aV U];refine aH (ba ?_);rw[StateT.run_pure];apply aH;apply ba;have v':vs.length<2:=by simpa using U
  refine fin (cL.mk' general' (vs.toArray.zip vs.toArray) #[] 7 aa) (range vs.length).toArray (List.Perm.refl _) (λi j i2 bx=>?_) ?_ rfl
  ·have:i=j:=by lia
   subst this;exact vg _
  ·have:=kas_range (vs.toArray.zip vs.toArray);rw[show (vs.toArray.zip vs.toArray).size=vs.length by simp]at this;exact this.symm
 ·rw[aZ U,aZ U];have v':2<=vs.length:=by simpa using U
  refine aH (f6 v' cU jB _ ?_)
  ·have Y3:=HE cU jB;have Ot:=kas_range (vs.toArray.zip vs.toArray);rw[show (vs.toArray.zip vs.toArray).size=vs.length by simp]at Ot;have run:=XG (E:=E) (Q:=λ_ st s'=>s'={s with heap:=cU}/\∃p,eO vs.length p/\k' key p vs.length/\arrOf st=p.map (cy<|vs.toArray.zip vs.toArray)/\kT st=aa) Y3
    inj v' up λeu aK a b c d=>⟨rfl,eu,a,b,c,d⟩;unfold Bw at run;rw[Ot]at run;refine aH (ip run (λr s' aO=>?_) λ_ _ e=>e);obtain⟨u,st⟩:=r;obtain⟨rfl,p,a9,bF,mQ,oi⟩:=aO;exact fin st p a9 bF mQ oi
end
section
variable{X:a4}{pins:List (ar×bE)}{σ:L2.St}{H:aM}{s:aA}
theorem Ou(av:X.calm=af){a:ar}{a3:List V}{aP:List aj}{n:Nat}{T:String}{o:bE}{Q:dN}(key:Nat->Int)(bj:jM)(I:Inv X pins σ H s)(b0:cZ a3 aP)(dM:T = "list" \/ T = "tuple")(e:s.heap.get? a=J o)(aN:o.cls=.type T)(oB:o.data=.seq aP.toArray n)(hz:a3.length<=1000)(f6:2<=aP.length->∀(cU:br) (tk:Nat),(∀b o,s.heap.get? b=J o->cU.get? b=J o)->∀(A:cj) (E:aj->aA->Prop) (Q:jM->aA->Prop),Q bj {s with heap:=cU,toks:=tk}->wpAny (a' X.prog X.w) A (Fx aP.toArray) Q E {s with heap:=cU,toks:=tk})(HE:∀(cU:br) (tk:Nat),(∀b o,s.heap.get? b=J o->cU.get? b=J o)->kx aP.length key (iO X.prog X.w X.A.in1.in1 bj<|aP.toArray.zip aP.toArray) {s with heap:=cU,toks:=tk})(inj:∀i j,i<aP.length->j<aP.length->key i=key j->i=j)(up:aP.length<1001\/∀j,1<=j->j<aP.length->key (j-1)<=key j)(q:∀(p:Array Nat) l,eO aP.length p->k' key p aP.length->H l=aa->Q (.ref l) (upd H l<|.lst<|p.toList.map λi=>a3.getD i .bu)):
  wpAny (a' X.prog X.w) X.A (call (.builtin "sorted") [.ref a]) (gi X pins σ Q) X.dw s:=by
 have aF:a3.length=aP.length:=b0.length;have y1:aP.length<=sizeLine:=hh (by lia) (show 1000<=sizeLine by decide);refine Bb E' E7 E8 (E9 _) ?z
 case z=>
  unfold b8.«sorted»;refine aH (m:=Ft "sorted" 1 1 _) (ba (aH (wpAny_collect_seq a dM e aN oB (λh' q3=>?_) (by rw[dY];exact y1))));show wpAny _ _ (vn aP >>= _) _ _ _;refine aH (Ay ?_ y1);have so:(h'.push<|hu "list" aP.toArray 0).get? h'.objs.size=J (hu "list" aP.toArray 0):=fw _ rfl;have b9:∀b o,s.heap.get? b=J o->(h'.push<|hu "list" aP.toArray 0).get? b=J o:=λb o e=>dc _ (q3 b o e);have bG:Inv X pins σ H {s with heap:=h'}:=I.kept (t':=s.toks) q3;have y2:∀b o,s.heap.get? b=J o->b≠h'.objs.size:=λb o e=>eB (c8<|q3 b o e);refine aH (ki<|kh E5 ⟨_,so,rfl⟩ E4 ?y<|E6 _)
  case y=>
   refine HD (s:={s with heap:=h'.push (hu "list" aP.toArray 0)}) key bj so (λU cU jB Q bk=>f6 U cU s.toks (λb o eG=>jB b o (y2 b o eG)<|b9 b o eG) _ _ Q bk) (λcU jB=>HE cU s.toks λb o eG=>jB b o (y2 b o eG)<|b9 b o eG) inj up (by lia) λp U a9 bF k2 ⟨ud,y3⟩=>⟨_,rfl,ba ⟨_,rfl,?_⟩⟩;have y4:H h'.objs.size=aa:=bG.bw.fresh (cp _);have HG:∀b o,h'.get? b=J o->b≠h'.objs.size:=λb o e=>eB (c8 e);refine⟨.ref h'.objs.size,upd H h'.objs.size<|.lst<|p.toList.map λi=>a3.getD i .bu,?_,rfl,q p _ a9 bF y4⟩;refine bG.laid (t':=s.toks) (λb u e=>k2 b u (HG b u e)<|dc _ e) (cp _) ⟨?_,_,ud,?_,y3⟩
   ·rw[b3,eT,a9.size];lia
   ·refine C3 (by simp) λi v u O U=>?_;rw[gJ]at O U;cases oU:p.toList[i]? with
    |none=>rw[oU]at O;cases O
    |some k=>
     rw[oU]at O U;cases O;cases U;have aY:k<aP.length:=iK.mp (a9.mem_iff.mp<|iq oU);obtain⟨u,aL,aU⟩:=b0.get (i:=k) (x:=a3[k]'(by lia)) (by simp[show k<a3.length by lia]);rw[fg aY]at aL;have aL:=Option.some.inj aL;simp only[List.getD,fg aY,fg (show k<a3.length by lia),xw];rw[aL];exact aU
end
noncomputable def wt(ns:List Int)(i:Nat):Int:=ns.getD i 0
theorem Ov(au:ns.Nodup):∀i j,i<ns.length->j<ns.length->wt ns i=wt ns j->i=j:=λi j ao bx e=>by
 unfold wt at e;rw[du,du,fg ao,fg bx]at e;have b7:ns[i]=ns[j]:=e;rcases A3 i j with h|h|h
 ·exact absurd b7 ((sN.mp au) i j ao bx h)
 ·exact h
 ·exact absurd b7.symm ((sN.mp au) j i bx ao h)
theorem Y4(aE:eO ns.length p)(up:k' (wt ns) p ns.length)(au:ns.Nodup):(p.toList.map λi=>ns.getD i 0).Pairwise (· < ·):=by
 rw[sN];intro i j ao bx i2;have aq:=aE.size;have hT:i<ns.length:=by simpa [aq] using ao
 have r2:j<ns.length:=by simpa [aq] using bx
 have ne:=aE.ne (Ov au) i2 r2;have le:=up i j (by lia) r2;have g:∀k (aY:k<(p.toList.map λi=>ns.getD i 0).length),(p.toList.map λi=>ns.getD i 0)[k]=c1 (wt ns) p k:=λk aY=>by
  have g0:k<p.size:=by simpa using aY
  rw[Ky,K5];show _=ns.getD (p.getD k 0) 0;simp[Array.getD,g0]
 rw[g i ao,g j bx];lia
section
variable{X:a4}
theorem C4{H:aM}:∀{ns:List Int}{aP:List aj},cZ (ns.map V.int) aP->∀(i:Nat),i<ns.length->∃t,aP[i]?=J (.int (ns.getD i 0) t)
 |n::r,_,.cons a b,0,h=>by obtain⟨t,rfl⟩:=a;exact⟨t,rfl⟩
 |n::r,_,.cons a b,i+1,h=>by
  obtain⟨t,e⟩:=C4 (H:=H) b i (by simpa using h);exact⟨t,by simpa using e⟩
theorem Y5(av:X.calm=af):bv X (.builtin "sorted") (λxs H Q=>∃(a:ar) (ns:List Int),xs=[.ref a]/\H a=J (.lst<|ns.map V.int)/\ns.Nodup/\ns.length<=1000/\
  ∀l (C5:List Int),H l=aa->C5.Perm ns->C5.Pairwise (· < ·)->Q (.ref l) (upd H l<|.lst<|C5.map V.int)):=by
 intro pins s σ H xs us Q I r h;obtain⟨a,ns,rfl,az,au,hz,q⟩:=h;obtain⟨u,rfl,gN⟩:=mR r;cases gN;obtain⟨z,aP,n,b0,e⟩:=I.bw a _ az;have li:aP.length=ns.length:=by rw[<-b0.length,b3]
 refine Ou av (wt ns) oneType' I b0 (.inl rfl) e rfl rfl (by rw[b3];exact hz) (λU cU tk k A E Q bk=>?_) (λcU tk k=>?_) (by rw[li];exact Ov au) (.inl (by lia)) λp l a9 bF bf=>?_
 ·refine kas_kind (T:=aj.type "int") U (λv bb=>?_) (by decide) (by decide) bk;obtain⟨i,ao⟩:=AJ bb;obtain⟨t,cE⟩:=C4 (H:=H) b0 i (by rw[<-li];exact (iJ.mp ao).1);rw[ao]at cE;cases cE;exact LL rfl
 ·intro i j C ao bx q;obtain⟨t,O⟩:=C4 (H:=H) b0 i (by lia);obtain⟨u,U⟩:=C4 (H:=H) b0 j (by lia);unfold iO;rw[A0 rfl,A0 rfl,du,du,O,U];show wpAny _ _ (keyLt' oneType' (.int _ t)<|.int _ u) _ _ _;rw[keyLt'_oneType];exact oneLt_int q
 ·rw[li]at a9 bF;have aG:(p.toList.map λi=>(ns.map V.int).getD i .bu)=(p.toList.map λi=>ns.getD i 0).map V.int:=by
   rw[lP];refine xB λk aY=>?_;have g0:k<ns.length:=iK.mp (a9.mem_iff.mp aY);show (ns.map V.int).getD k .bu=V.int (ns.getD k 0);simp[List.getD,g0]
  rw[aG];exact q l _ bf (C2 a9) (Y4 a9 bF au)
end
end L2
namespace L2
open PySem PySem.Spec PyProof.Rows
section
variable{X:a4}
noncomputable def j8:List ah->List ah->List ah
 |x::xs,y::a3=>.tup [x,y]::j8 xs a3
 |_,_=>[]
theorem Ow:∀(xs a3:List ah),(j8 xs a3).length=min xs.length a3.length
 |[],a3=>by simp[j8]
 |x::xs,[]=>by simp[j8]
 |x::xs,y::a3=>by simp[j8,Ow xs a3]
theorem Ox:∀(xs a3:List ah) (i:Nat) (d:ah),(j8 xs a3)[i]?=J d->∃x y,xs[i]?=J x/\a3[i]?=J y/\d=.tup [x,y]
 |[],a3,i,d,h=>by simp[j8]at h
 |x::xs,[],i,d,h=>by simp[j8]at h
 |x::xs,y::a3,0,d,h=>by simp[j8]at h;exact⟨x,y,rfl,rfl,h.symm⟩
 |x::xs,y::a3,i+1,d,h=>by
  obtain⟨a,b,O,U,aL⟩:=Ox xs a3 i d (by simpa [j8] using h);exact⟨a,b,by simpa using O,by simpa using U,aL⟩
@[simp] noncomputable def p4(g:M (List cH)):jc:=λD=>(g D).bind λp=>(j2 p.2 p.1).bind λds=>match ds with
 |[.im (.tup x),.im<|.tup y]=>J ((j8 x y,aa),p.2)
 |_=>aa
theorem Y6{K:PySem.W.Frag}{H:aM}{a b:ar}{xs a3:List V}{ds es:List ah}(h:H a=J (.tup xs))(hd:cq H ds xs)(h':H b=J (.tup a3))(iP:cq H es a3):r_ (Cv K a b) H [] (j8 ds es) where
 go:=λak t k i d e=>by
  obtain⟨x,y,ay,aG,rfl⟩:=Ox ds es i d e;obtain⟨v,g1,g2⟩:=hd.get ay;obtain⟨u,k1,k2⟩:=iP.get aG;have bz:=dh.of (K:=K) (t.tup a _ h);have cR:=dh.of (K:=K) (t.tup b _ h');refine⟨⟨xs,a3,v,u,bz,cR,g1,k1⟩,λz sb ⟨T,mW,agB,f,tT,yk,Cw,Y7⟩=>?_⟩;subst tT yk;have dG:=Cw xs bz;have dH:=Y7 a3 cR;rw[g1]at dG;rw[k1]at dH;cases dG;cases dH;have s:eg ak (upd ak T<|.tup [v,u]):=(eg.refl ak).upd f;exact⟨s,T,[v,u],rfl,hy,⟨v,[u],rfl,(g2.mono t.tup).mono s.tupS.tup,u,[],rfl,(k2.mono t.tup).mono s.tupS.tup,rfl⟩⟩
 stop:=λak t k=>⟨xs,a3,dh.of<|t.tup a _ h,dh.of<|t.tup b _ h',by rw[Ow,<-hd.length,<-iP.length];lia⟩
theorem HH{a b:bM}{g:M (List cH)}{p pos:dk}{es:List bM}{qG:Nat}{ps:dk}(aJ:fo X "zip")(hm:X.mg "zip" = aa)(az:i9 X [a,b] g)(aq:cx [a,b] X.env=[(aD,de a X.env),(aD,de b X.env)]:=by rfl)(m4:cx [b] X.env=[(aD,de b X.env)]:=by rfl):
  tZ X (.Tuple es qG ps) (.Call (.Name "zip" p) [a,b] [] pos) (p4 g):=by
 refine Hh (XV aJ hm az aq m4) λσ H CI ⟨D,F,r,D',st,au,gD,q⟩=>?_;obtain⟨⟨os,D1⟩,O,U⟩:=cv.mp gD;obtain⟨ds,aL,aU⟩:=cv.mp U;refine⟨D,F,os,D1,st,au,O,λvs H1 F1 dr cb o1 s1=>?_⟩;have cN:=o1.read cb aL;split at aU
 ·cases aU;obtain⟨v,u,rfl,e,b7⟩:=Yg cN;obtain⟨a,xs,rfl,k1,k2⟩:=e;obtain⟨b,a3,rfl,k3,j9⟩:=b7;exact⟨a,b,rfl,⟨xs,dh.of k1⟩,⟨a3,dh.of k3⟩,q _ H1 F1 [] cb (Y6 k1 k2 k3 j9) trivial (λa az=>nomatch az) (by rw[c5];exact s1.both)⟩
 ·cases aU
@[simp] noncomputable def agC:oQ:=λds=>match ds with
 |[.im (.int i),.im<|.int j,.im<|.int k]=>J (.im<|.int<|min (min i j) k)
 |_=>aa
noncomputable def f8(lt:ah->ah->Bool)(x:ah):List ah->List ah
 |[]=>[x]
 |y::r=>if lt x y=af then x::y::r else y::f8 lt x r
noncomputable def j'(lt:ah->ah->Bool):List ah->List ah
 |[]=>[]
 |x::r=>f8 lt x (j' lt r)
noncomputable def ltI:ah->ah->Bool
 |.int i,.int j=>decide (i<j)
 |_,_=>aD
noncomputable def y5:List ah->Option (List Int)
 |[]=>J []
 |.int i::r=>(y5 r).map λs=>i::s
 |_::_=>aa
@[simp] noncomputable def HI:oQ:=λds=>match ds with
 |[.lst x]=>(y5 x).bind λns=>if ns.Nodup/\ns.length<=1000 then J (.lst<|j' ltI x) else aa
 |_=>aa
noncomputable def sq(x:Int):List Int->List Int
 |[]=>[x]
 |y::r=>if x<y then x::y::r else y::sq x r
noncomputable def wu:List Int->List Int
 |[]=>[]
 |x::r=>sq x (wu r)
theorem Oy(x:Int):∀l:List Int,f8 ltI (.int x) (l.map .int)=(sq x l).map .int
 |[]=>rfl
 |y::r=>by
  rw[dQ,f8,sq,ltI];by_cases h:x<y
  ·rw[aV (by simpa using h),aV h];rfl
  ·rw[aZ (by simpa using h),aZ h,Oy x r];rfl
theorem Oz:∀l:List Int,j' ltI (l.map .int)=(wu l).map .int
 |[]=>rfl
 |x::r=>by rw[dQ,j',Oz r,Oy];rfl
theorem HJ(x:Int):∀l:List Int,(sq x l).Perm (x::l)
 |[]=>List.Perm.refl _
 |y::r=>by
  rw[sq];split
  ·exact List.Perm.refl _
  ·exact ((HJ x r).cons y).trans (List.Perm.swap x y r)
theorem HK:∀l:List Int,(wu l).Perm l
 |[]=>List.Perm.refl _
 |x::r=>(HJ x _).trans ((HK r).cons x)
theorem OA(x:Int):∀l:List Int,l.Pairwise (·<=·)->(sq x l).Pairwise (·<=·)
 |[],_=>h4 _ _
 |y::r,h=>by
  obtain⟨O,U⟩:=kj.mp h;rw[sq];split
  ·rename_i Y8;refine kj.mpr ⟨λz hz=>?_,h⟩;rcases cK.mp hz with rfl|hz
   ·lia
   ·have:=O z hz;lia
  ·rename_i Y8;refine kj.mpr ⟨λz hz=>?_,OA x r U⟩;rcases cK.mp ((HJ x r).mem_iff.mp hz) with rfl|hz
   ·lia
   ·exact O z hz
theorem OB:∀l:List Int,(wu l).Pairwise (·<=·)
 |[]=>List.Pairwise.nil
 |x::r=>OA x _ (OB r)
theorem Y9{l:List Int}(h:l.Nodup):(wu l).Pairwise (· < ·):=by
 have O:=OB l;have U:(wu l).Nodup:=(HK l).nodup_iff.mpr h;exact Sm (λa b x y=>by lia) O U
theorem OC:∀{l m:List Int},l.Perm m->l.Pairwise (· < ·)->m.Pairwise (· < ·)->l=m
 |[],m,h,_,_=>h.nil_eq
 |a::l,[],h,_,_=>absurd h.length_eq (by simp)
 |a::l,b::m,h,aF,hm=>by
  have hv:=kj.mp aF;have HL:=kj.mp hm;have e:a=b:=by
   rcases cK.mp (h.mem_iff.mp<|.head _) with z|z
   ·exact z
   ·rcases cK.mp (h.mem_iff.mpr<|.head _) with y|y
    ·exact y.symm
    ·have O:=hv.1 b y;have U:=HL.1 a z;lia
  subst e;rw[OC h.cons_inv hv.2 HL.2]
theorem OD:∀{x:List ah}{ns:List Int},y5 x=J ns->x=ns.map .int
 |[],ns,h=>by cases h;rfl
 |.int i::r,ns,h=>by
  rw[y5]at h;obtain⟨s,O,rfl⟩:=dK.mp h;rw[OD O];rfl
 |.bu::_,_,h=>by cases h
 |.aR _::_,_,h=>by cases h
 |.str _::_,_,h=>by cases h
 |.tup _::_,_,h=>by cases h
 |.fn _::_,_,h=>by cases h
 |.bf _::_,_,h=>by cases h
 |.fd::_,_,h=>by cases h
theorem OE{H:aM}:∀{ns:List Int}{vs:List V},cq H (ns.map .int) vs->vs=ns.map V.int
 |[],vs,h=>h
 |n::r,vs,h=>by
  obtain⟨v,t,rfl,O,U⟩:=h;cases (show v=.int n from O);rw[OE U];rfl
theorem OF{H:aM}:∀ns:List Int,cq H (ns.map .int) (ns.map V.int)
 |[]=>rfl
 |n::r=>⟨.int n,_,rfl,rfl,OF r⟩
theorem Y'(av:X.calm=af)(bZ:X.A.units+20<c6):nO X (.builtin "sorted") HI:=by
 refine (Y5 av).imp λxs H Q ⟨ds,d,cN,e,q⟩=>?_;unfold HI at e;split at e
 ·rename_i x;obtain⟨ns,ay,aG⟩:=cv.mp e;split at aG
  ·rename_i bo;cases aG;obtain⟨v,rfl,_,p,xs,rfl,O,U,_⟩:=j7 cN;cases OD ay;cases OE U;refine⟨p,ns,rfl,O,bo.1,bo.2,λl C5 bf pm up=>?_⟩;rw[Oz]at q;rw[OC (pm.trans (HK ns).symm) up (Y9 bo.1)];exact Out.l q bf (OF _)
  ·cases aG
 ·cases e
theorem HM(bZ:X.A.units+20<c6):C1 X q2:=Op
end
end L2
namespace L2
open PySem
variable{a h g b:b5}{e:M aC}{own m n:Nat}{ds:List aC}{fix:List Nat}{o:Option (Nat×aC)}{xs:List ah}{d:aC}{D1 D:bq}{c:M Bool}{tg:hE}{α:Type}{j i:Int}
@[simp] theorem agD(d:ah)(D:bq):aN d D=J (.im d,D):=rfl
@[simp] theorem HN(D:bq):aW D=J ([],D):=rfl
@[simp] theorem agE(D:bq):hb D=J (.bC,D):=rfl
@[simp] theorem agF(D:bq):nQ D=J (aa,D):=rfl
@[simp] theorem agG(D:bq):gE D=J (af,D):=rfl
@[simp] theorem agH(d:ah):(aC.im d).fy=af:=rfl
@[simp] theorem agI(d:List ah):(aC.e2 d).fy=af:=rfl
@[simp] theorem GT(d:List ah):(aC.lst d).fy=aD:=rfl
@[simp] theorem agJ(d:List (List ah×ah)):(aC.a8 d).fy=aD:=rfl
@[simp] theorem agK(d:List (Key×ah)):(aC.eN d).fy=aD:=rfl
@[simp] theorem Y_(D:bq)(d:aC):e' D (.dE d)=J d:=rfl
@[simp] theorem OG(D:bq)(i:Nat):e' D (.bK i)=(D[i]?).getD aa:=rfl
@[simp] theorem HO(D:bq):j2 D []=J []:=rfl
@[simp] theorem HP(D:bq)(o:cH)(os:List cH):j2 D (o::os)=(e' D o).bind λd=>(j2 D os).map λds=>d::ds:=rfl
@[simp] theorem agL(D:bq):gB [] D=J ([],D):=rfl
@[simp] theorem agM(d:aC)(os:List cH)(D:bq):gB (.dE d::os) D=(gB os D).map λp=>(d::p.1,p.2):=rfl
@[simp] theorem agN(i:Nat)(os:List cH)(D:bq):gB (.bK i::os) D=(g_ i D).bind λp=>(gB os p.2).map λq=>(p.1::q.1,q.2):=rfl
@[simp] theorem agO:j3 []=J []:=rfl
@[simp] theorem agP(d:ah)(ds:List aC):j3 (.im d::ds)=(j3 ds).map λr=>d::r:=rfl
@[simp] theorem agQ(b:Bool):r5 (.im<|.aR b)=J b:=rfl
theorem ue(O : -(2^64)<j)(U:j<2^64):j6 i j=af:=by
 have:b8.Int.intBits j<=64:=Kh O U;have h':¬ (b8.Int.intBits j>Bp):=vd.mpr this;unfold j6;rw[bi h'];simp
theorem HQ(O : -(2^64)<i)(U:i<2^64):j6 i j=af:=by
 have:b8.Int.intBits i<=64:=Kh O U;have h':¬ (b8.Int.intBits i>Bp):=vd.mpr this;unfold j6;rw[bi h'];simp
theorem tz{xs:List α}(h:xs.length<=n):xs.take n=xs:=ED h
theorem OH(xs:List α)(k:Nat):ce xs (J (k:Int)) aa=xs.drop k:=by
 unfold ce;rw[et.ME,et.MD];by_cases h:k<=xs.length
 ·rw[vb h,tz (by rw[iu];lia)]
 ·rw[KZ (by lia),EY,AY,u5 (by lia)]
theorem OI(xs:List α)(k:Nat):ce xs aa (J (k:Int))=xs.take k:=by
 unfold ce;rw[et.ME,et.MD,pe,EZ];by_cases h:k<=xs.length
 ·rw[vb h]
 ·rw[KZ (by lia),u',tz (by lia)]
theorem Za(xs:List α):ce xs aa (J<|-1)=xs.dropLast:=by
 unfold ce et.df;simp only[pe,EZ];rw[aV (by decide),AH];congr 1;lia
theorem HR{xs:List α}{d:α}(h0:0<=i)(h:xs[i.toNat]?=J d):gZ xs i=J d:=by
 unfold gZ qF;have ao:i.toNat<xs.length:=(iJ.mp h).1;rw[aV h0,aV (by lia)];exact h
theorem Zb{xs:List α}{d:α}(h:xs.getLast?=J d):gZ xs (-1)=J d:=by
 rw[Ko]at h;have ao:xs.length-1<xs.length:=(iJ.mp h).1;unfold gZ qF;rw[aZ (by decide),aV (by lia)];show xs[(-1+(xs.length:Int)).toNat]?=J d;rw[show (-1+(xs.length:Int)).toNat=xs.length-1 by lia];exact h
theorem Zc(I:Nat->bq->Prop)(R:aC->bq->Prop):∀{xs:List ah}{D:bq},I 0 D->
  (∀(i:Nat) (x:ah) (D:bq),xs[i]?=J x->I i D->∃D1 bf D2,tg (.im x) D=J D1/\b D1=J (bf,D2)/\(((bf=.bC\/bf=.dA)/\I (i+1) D2)\/∃d,bf=.fQ d/\R d D2))->
  (∃D',fZ tg b xs D=J (.bC,D')/\I xs.length D')\/∃d D',fZ tg b xs D=J (.fQ d,D')/\R d D':=by
 intro xs;induction xs generalizing I with
 |nil=>intro D h0 _;exact .inl ⟨D,rfl,h0⟩
 |cons x r bS=>
  intro D h0 h;obtain⟨D1,bf,D2,O,U,aL⟩:=h 0 x D rfl h0;rcases aL with ⟨hf,l9⟩|⟨d,rfl,ig⟩
  ·have:=bS (λi=>I<|i+1) (D:=D2) l9 λi y D' aw HS=>h (i+1) y D' (by simpa using aw) HS;have e:fZ tg b (x::r) D=fZ tg b r D2:=by
    rw[fZ];dsimp only;rw[O];show (b D1).bind _=_;rw[U];rcases hf with rfl|rfl<;>rfl
   rw[e];exact this
  ·refine .inr ⟨d,D2,?_,ig⟩;rw[fZ];dsimp only;rw[O];show (b D1).bind _=_;rw[U];rfl
theorem OJ(I:Nat->bq->Prop){xs:List ah}{D:bq}(h0:I 0 D)(h:∀(i:Nat) (x:ah) (D:bq),xs[i]?=J x->I i D->∃D1 bf D2,tg (.im x) D=J D1/\b D1=J (bf,D2)/\(bf=.bC\/bf=.dA)/\I (i+1) D2):
  ∃D',fZ tg b xs D=J (.bC,D')/\I xs.length D':=by
 rcases Zc I (λ_ _=>False) h0 (λi x D ag l9=>by
  obtain⟨D1,bf,D2,O,U,aL,aU⟩:=h i x D ag l9;exact⟨D1,bf,D2,O,U,.inl ⟨aL,aU⟩⟩) with h|⟨_,_,_,h⟩
 ·exact h
 ·exact h.elim
theorem OK(I:Nat->bq->Prop)(OL:bq->Prop)(step:∀m D,I m D->∃t D1,c D=J (t,D1)/\(t=af->∃bf D2,b D1=J (bf,D2)/\(bf=.bC\/bf=.dA)/\∃e6,e6<m/\I e6 D2)/\(t=aD->OL D1)):
  ∀(n m:Nat) (D:bq),I m D->m<n->∃D',pX c b n D=J (.bC,D')/\OL D':=by
 intro n;induction n with
 |zero=>intro m D _ h;lia
 |succ n bS=>
  intro m D l9 hm;obtain⟨t,D1,O,U,aL⟩:=step m D l9;rw[pX];dsimp only;rw[O];cases t with
  |false=>exact⟨D1,rfl,aL rfl⟩
  |true=>
   obtain⟨bf,D2,aU,hf,e6,HL,HS⟩:=U rfl;obtain⟨D',c0,cU⟩:=bS e6 D2 HS (by lia);refine⟨D',?_,cU⟩;simp only[xx,lW,aU];rcases hf with rfl|rfl<;>exact c0
theorem Zd(xs:List α):xs.filter (λ_=>af)=xs:=List.filter_eq_self.mpr λ_ _=>rfl
theorem iD(e:g D=J (.bC,D1)):ap g h D=h D1:=by unfold ap;rw[e];rfl
theorem y6(e:g D=J (.fQ d,D1)):ap g h D=J (.fQ d,D1):=by unfold ap;rw[e];rfl
theorem OM{g:jc}{D2:bq}{bf:tV}(e:g D=J ((xs,o),D1))(h:fZ tg b xs D1=J (bf,D2)):kD g tg b D=J (bf,qX o D2):=by
 unfold kD;rw[e];show (fZ tg b xs D1).map _=_;rw[h];rfl
theorem Ze{r:aC}(aF:ds.length=n)(e:g (ds.map J++List.replicate (m-n) aa)=J (.fQ r,D)):eR n m fix g ds=J (r,dL fix ds D 0):=by
 unfold eR;rw[aV aF,e]
theorem C6{caps:List Nat}{lC:jc}{C':bq}{ds:List ah}(O:lC D=J ((xs,o),D1))(U:kE own tg c e xs [] (pZ caps D1)=J (ds,C')):eJ own caps lC tg c e D=J (.lst ds,qX o<|m9 caps C' D1):=by
 unfold eJ;rw[O];show (kE own tg c e xs []<|pZ caps D1).map _=_;rw[U];rfl
theorem bn{g:M aC}(e:g D=J (d,D1)):d4 g D=J (.fQ d,D1):=by unfold d4;rw[e];rfl
theorem ON{i:Nat}{g:M aC}(e:g D=J (d,D1))(h:i<D1.length):dI i g D=J (.bC,D1.set i<|J d):=by unfold dI;rw[e];show (if i<D1.length then _ else _)=_;rw[aV h]
theorem y7(e:c D=J (af,D1)):fY c a b D=a D1:=by unfold fY;rw[e];rfl
theorem C7(e:c D=J (aD,D1)):fY c a b D=b D1:=by unfold fY;rw[e];rfl
theorem oV(D:bq){r:aC}{outs:List aC}(aF:ds.length=n)(e:g (ds.map J++List.replicate (m-n) aa)=J (.fQ r,D))(aS:dL fix ds D 0=outs):eR n m fix g ds=J (r,outs):=by
 rw[Ze aF e,aS]
theorem uf{α:Type}{own:Nat}{tg:hE}{c:M Bool}{e:M aC}{C:bq}(jn:α->ah)(p:α->Bool)(f:α->ah):∀(xs:List α) (acc:List ah),(∀x∈xs,∃D1 D2,tg (.im<|jn x) (List.replicate own aa++C)=J D1/\c D1=J (p x,D2)/\(p x=aD->D2.drop own=C)/\(p x=af->∃da,e D2=J (.im<|f x,da)/\da.drop own=C))->
  acc.length+xs.length<=100000->kE own tg c e (xs.map jn) acc C=J (acc++(xs.filter p).map f,C)
 |[],acc,_,_=>by simp[kE]
 |x::r,acc,h,aF=>by
  obtain⟨D1,D2,O,U,aL,aU⟩:=h x (.head _);rw[eS]at aF;rw[dQ,kE,O];show (c D1).bind _=_;rw[U];show (if p x=af then _ else _)=_;cases aE:p x with
  |false=>
   rw[aZ e1];show kE own tg c e (r.map jn) acc (D2.drop own)=_;rw[aL aE,uf jn p f r acc (λy aw=>h y<|.tail _ aw) (by lia),Kz,aE];rfl
  |true=>
   obtain⟨da,c0,cU⟩:=aU aE;rw[aV rfl];show (e D2).bind _=_;rw[c0];show (if acc.length<100000 then kE own tg c e (r.map jn) (acc++[f x]) (da.drop own) else aa)=_;rw[aV (by lia),cU,uf jn p f r (acc++[f x]) (λy aw=>h y<|.tail _ aw) (by rw[eZ,qk];lia),Kz,aE];simp
theorem oW{C:bq}(jn:α->ah)(f:α->ah)(xs:List α)(h:∀x∈xs,∃D1 D2 da,tg (.im<|jn x) (List.replicate own aa++C)=J D1/\c D1=J (af,D2)/\e D2=J (.im<|f x,da)/\da.drop own=C)(aF:xs.length<=100000):kE own tg c e (xs.map jn) [] C=J (xs.map f,C):=by
 have:=uf (own:=own) (tg:=tg) (c:=c) (e:=e) (C:=C) jn (λ_=>af) f xs [] (λx ag=>by
  obtain⟨D1,D2,da,O,U,aL,aU⟩:=h x ag;exact⟨D1,D2,O,U,(λz=>by cases z),(λ_=>⟨da,aL,aU⟩)⟩) (by rw[KC];lia)
 rw[Zd]at this;exact this
end L2
namespace L2
open PySem PySem.Spec PyProof.Rows
section
variable{prog:cc}{w:bN}{A:cj}{E:aj->aA->Prop}{s:aA}
end
section
variable{X:a4}
end
section
variable{X:a4}
end
section
variable{X:a4}
noncomputable def y8:ah->Option Key
 |.int i=>J (.inl i)
 |.str x=>J (.inr x)
 |_=>aa
@[simp] theorem agR(i:Int):y8 (.int i)=J (.inl i):=rfl
@[simp] theorem agS(x:aQ):y8 (.str x)=J (.inr x):=rfl
noncomputable def OO:Key->ah
 |.inl i=>.int i
 |.inr x=>.str x
@[simp] theorem agT(i:Int):OO (.inl i)=.int i:=rfl
@[simp] theorem agU(x:aQ):OO (.inr x)=.str x:=rfl
theorem Zf{H:aM}{d:ah}{v:V}{k:Key}(h:dR H d v)(e:y8 d=J k):v=d5 k:=by
 cases d with
 |int i=>cases e;exact h
 |str x=>cases e;exact h
 |_=>cases e
noncomputable def mn{bj:Type}[DecidableEq bj](kvs:List (bj×ah))(k:bj)(d:ah):List (bj×ah):=
 if (kvs.any λdZ=>decide (dZ.1=k))=af then kvs.map (λdZ=>if dZ.1=k then (dZ.1,d) else dZ) else kvs++[(k,d)]
variable{bj:Type}
theorem hV.any[DecidableEq bj]{H:aM}{k:bj}{l:List (bj×ah)}{m:List (bj×V)}(h:hV H l m):(l.any λdZ=>decide (dZ.1=k))=(m.any λdZ=>decide (dZ.1=k)):=by
 unfold hV at h;induction h with
 |nil=>rfl
 |cons r _ bS=>rw[sT,sT,bS,r.1]
theorem hV.upd[DecidableEq bj]{H:aM}{k:bj}{d:ah}{v:V}(w:dR H d v){l:List (bj×ah)}{m:List (bj×V)}(h:hV H l m):hV H (l.map λdZ=>if dZ.1=k then (dZ.1,d) else dZ) (m.map λdZ=>if dZ.1=k then (dZ.1,v) else dZ):=by
 unfold hV at h;induction h with
 |nil=>exact .nil
 |@cons p q _ _ r _ bS=>
  rw[dQ,dQ];refine .cons ?_ bS;by_cases e:p.1=k
  ·have b7:q.1=k:=r.1.symm.trans e;rw[aV e,aV b7];exact⟨r.1,w⟩
  ·have b7:¬ q.1=k:=λz=>e (r.1.trans z);rw[aZ e,aZ b7];exact r
theorem Zg{α β:Type}{F:α->β->Prop}{l:List α}{m:List β}{a:α}{b:β}(h:hi F l m)(x:F a b):hi F (l++[a]) (m++[b]):=by
 induction h with
 |nil=>exact .cons x .nil
 |cons r _ bS=>exact .cons r bS
theorem hV.put[DecidableEq bj]{H:aM}{k:bj}{d:ah}{v:V}(w:dR H d v){l:List (bj×ah)}{m:List (bj×V)}(h:hV H l m):hV H (mn l k d) (l7 m k v):=by
 unfold mn l7;rw[h.any];split
 ·exact h.upd w
 ·exact Zg h ⟨rfl,w⟩
@[simp] noncomputable def HT:M aC:=λD=>J (.a8 [],D)
theorem OP{pos:dk}:dP X (.Dict [] [] pos) HT:=by
 refine fV Wa λσ H Q ⟨D,F,r,D',st,au,gD,q⟩ p aE=>?_;cases gD;have s:eg H (L2.upd H p<|.a8 []):=(eg.refl H).upd aE;have s1:bR H F H (F++[]):=by rw[c5];exact bR.perm au (List.Perm.refl _)
 exact q _ _ F [p] (st.mono s.tupS λa _ o e=>s a o e) ⟨p,[],rfl,hy,.nil,rfl⟩ (s1.new s (h4 _ _) (λa az=>by rw[c2.mp az];exact aE) st.chg)
@[simp] noncomputable def agV(kB wx:M aC):M aC:=λD=>(kB D).bind λp=>(wx p.2).bind λq=>match p.1,q.1 with
 |.im k,.im d=>(y8 k).map λcn=>(.eN [(cn,d)],q.2)
 |_,_=>aa
@[simp] noncomputable def kH(c k d:aC):Option aC:=match c,k,d with
 |.lst xs,.im<|.int i,.im d=>(qF xs.length i).map λj=>.lst (xs.set j d)
 |.eN kvs,.im k,.im d=>(y8 k).bind λcn=>if kvs.length<100000 then J (.eN<|mn kvs cn d) else aa
 |.a8 kvs,.im<|.tup k,.im d=>if ah.keys 7 k=af/\kvs.length<100000 then J (.a8<|mn kvs k d) else aa
 |_,_,_=>aa
theorem C8(bZ:X.A.units+20<c6):C1 X kH:=by
 intro pins s σ H o i v iU dO u Q I en tv b0 ⟨c,k,d,c',R,S,oS,oy,oT,au,e,q⟩;unfold kH at e;split at e
 ·exact Op pins s σ H o i v iU dO u Q I en tv b0 ⟨_,_,_,c',R,S,oS,oy,oT,au,e,q⟩
 ·obtain⟨cn,ay,aG⟩:=cv.mp e;split at aG
  ·rename_i aF;cases aG;obtain⟨a,a3,rfl,O,U,rfl⟩:=oS;obtain⟨hd,rfl⟩:=oT;have c:jw H a:=⟨_,O,(λ_ e=>by cases e),(λ_ _ e=>by cases e)⟩;cases en;have aw:=Zf oy.1 ay;subst aw;refine MR bZ I (tA.k O (by rw[<-U.length];exact Hy aF)) tv b0 λs' gW=>⟨_,gW,q _ [a] ?_ (bR.chg (.head _) c (h4 _ _) λx ag=>by simpa using ag)⟩;exact⟨a,_,rfl,hy,(hV.put hd U).mono<|dR.ua c,rfl⟩
  ·cases aG
 ·split at e
  ·rename_i aF;cases e;obtain⟨a,a3,rfl,O,U,rfl⟩:=oS;obtain⟨hd,rfl⟩:=oT;have c:jw H a:=⟨_,O,(λ_ e=>by cases e),(λ_ _ e=>by cases e)⟩;cases en;obtain⟨b,xs,rfl,k1,k2⟩:=oy.1;refine MR bZ I (tA.t O ⟨aF.1,b,xs,rfl,k1,k2⟩ (by rw[<-U.length];exact Hy aF.2)) tv b0 λs' gW=>⟨_,gW,q _ [a] ?_ (bR.chg (.head _) c (h4 _ _) λx ag=>by simpa using ag)⟩;exact⟨a,_,rfl,hy,(hV.put hd U).mono<|dR.ua c,rfl⟩
  ·cases e
 ·cases e
end
section
variable{X:a4}
noncomputable def OQ:cH->aC->Option (Nat×aC)
 |.bK i,d=>J (i,d)
 |.dE _,_=>aa
@[simp] theorem agW(i:Nat)(d:aC):OQ (.bK i) d=J (i,d):=rfl
@[simp] theorem agX(c d:aC):OQ (.dE c) d=aa:=rfl
end
section
variable{prog:cc}{w:bN}{A:cj}{E:aj->aA->Prop}{s:aA}
end
section
variable{X:a4}
end
section
variable{X:a4}
end
section
variable{prog:cc}{w:bN}{A:cj}{E:aj->aA->Prop}{s:aA}
end
section
variable{prog:cc}{w:bN}{A:cj}{E:aj->aA->Prop}{s:aA}
end
section
variable{X:a4}
end
section
variable{X:a4}
end
section
variable{X:a4}
end
section
variable{X:a4}
theorem Zh{OR:Nat}{x0:aQ}{pos' y9:dk}{tg iter elt:bM}{ifs:List bM}{scope:iL}{pos:dk}{own:List aQ}{caps:List Nat}{jr:TI}{g:ot->jq}{tt:ot->TT}{eV:ot->TE}(dT:X.N.Nodup)(HU:X.N[OR]?=J x0)(HV:Loc X.env.scope x0)(av:X.calm=af)(S:mV X scope own caps)(ao:pG X tg iter jr)(aJ:∀Y,oc (X.i0 (i1 X own caps) scope Y) tg<|g Y)(cE:∀Y,yo (X.i0 (i1 X own caps) scope Y) ifs<|tt Y)(he:∀Y,cF (X.i0 (i1 X own caps) scope Y) elt<|eV Y)(aq:∀x,rD iter X.env x=pure x:=by intro _;rfl)(HW:s9 (.ListComp elt [⟨tg,iter,ifs,0⟩] scope pos) (J<|.Name x0 pos') y9.line X.env=pure af:=by rfl)(y':X.fn x0=af\/X.env.scope.names.lookup x0=J .local:=by first|exact .inl rfl|exact .inr rfl|assumption):
  jR X (.Assign [.Name x0 pos'] (.ListComp elt [⟨tg,iter,ifs,0⟩] scope pos) y9) (FW (B7 own caps jr g tt eV)<|FT OR):=by
 intro pins s σ H yS I h;rw[exec_Assign_Name_used _ _ _ _ HW];refine aH (En<|aH ?_);show wpAny _ X.A (do let _ <-Fp (.ListComp elt [⟨tg,iter,ifs,0⟩] scope pos) scope X.env _ (vn []) aD (de iter X.env) (J<|lT (.Name x0 pos') X.env)) _ _ s;refine aH (ip (M5 (use:=J (lT (.Name x0 pos') X.env)) (Qp:=λ_ s'=>nE X pins yS .next s') av S ao aJ cE he aq I h λD C fF s4 m hQ bo f Ca Cb z p q=>?_) (λ_ s' bk=>ba<|ba bk) λ_ _ e=>e);show wpAny _ X.A (lT (.Name x0 pos') X.env<|.ref D) _ _ s4;refine JY (FN hQ dT HU HV (v:=.ref D) rfl (λs5 tq c0=>?_) y');obtain⟨a,Zi,az⟩:=c0;have Zj:C≠a:=by
  rcases az with rfl|az
  ·exact h5 Ca
  ·exact h5 (Cb _ _ az)
 exact⟨m,bo.sameBut Zi Zj,λh' dC=>⟨_,_,tq.turned (it:=C) (t':=s5.toks) (λb o ae e=>(dC.2 b ae).trans e) f (h5 Ca) (.inr z) Cb p,q⟩⟩
end
section
variable{X:a4}
theorem Zk{fix:List Nat}{i:Nat}{x0:aQ}{pos' y9:dk}{tg iter elt:bM}{ifs:List bM}{scope:iL}{pos:dk}{own:List aQ}{caps:List Nat}{lC:jc}{gt:hE}{eo:M Bool}{ge:M aC}(dT:X.N.Nodup)(HU:X.N[i]?=J x0)(HV:Loc X.env.scope x0)(av:X.calm=af)(S:mV X scope own caps)(au:caps.Nodup)(ao:tZ X tg iter lC)(aJ:∀Y,pU (X.i0 (i1 X own caps) scope Y) (yR own.length caps.length) tg gt)(cE:∀Y,CM (X.i0 (i1 X own caps) scope Y) ifs eo)(he:∀Y,dP (X.i0 (i1 X own caps) scope Y) elt ge)(hf:i∉fix)(aq:∀x,rD iter X.env x=pure x:=by intro _;rfl)(HW:s9 (.ListComp elt [⟨tg,iter,ifs,0⟩] scope pos) (J<|.Name x0 pos') y9.line X.env=pure af:=by rfl)(y':X.fn x0=af\/X.env.scope.names.lookup x0=J .local:=by first|exact .inl rfl|exact .inr rfl|assumption):
  i_ X fix (.Assign [.Name x0 pos'] (.ListComp elt [⟨tg,iter,ifs,0⟩] scope pos) y9) (dI i<|eJ own.length caps lC gt eo ge):=by
 refine oJ (Zh dT HU HV av S ao aJ cE he aq HW y') λE σ H ⟨D,F,bf,D',st,oK,gD,q⟩=>?_;obtain⟨⟨r,D1⟩,O,U⟩:=cv.mp gD;split at U
 ·rename_i aF;cases U;refine N4 au ⟨D,F,r,_,st,oK,O,λv H1 F1 R cb ow s1=>?_⟩;obtain⟨bp,cI,b1,pm⟩:=cb.put (i:=i) ow aF;exact q _ H1 bp (d3.set hf) b1 (s1.less pm)
 ·cases U
end
section
variable{X:a4}
noncomputable def OS:aC->aC
 |.lst x=>.im (.bf x)
 |.a8 []=>.im .fd
 |d=>d
@[simp] theorem agY(x:List ah):OS (.lst x)=.im (.bf x):=rfl
@[simp] theorem agZ(d:ah):OS (.im d)=.im d:=rfl
variable{k:Nat}{f:ar}{fd:iN}{ps:List aQ}{x:aQ}{p pos:dk}{e:bM}{es:List bM}
theorem Zl{CX:nG}{sp:pH}{E:hP}{qD:TE}{t:gX}{ds:List aj}{oj:List V}(F:iX X.prog X.w X.K X.mg X.base CX k f fd ps sp)(aO:gb k X.A)(bb:cF X (.Name x p) qD)(aY:PySem.W.keepIn X.K (.ref f)=af)(ae:kY X.K fd ps ds)(hd:cZ oj ds)(ag:BV CX X E)(az:iS X (e::es) t)(he:cx (e::es) X.env=(aD,de e X.env)::cx es X.env:=by rfl)(fT:(ht pos<|cx es X.env).any (·.1)=aD:=by rfl):
  cF X (.Call (.Name x p) (e::es) [] pos) (λσ H Q=>qD σ H λv H1=>v=.ref f/\Gd sp oj E t σ H1 Q):=by
 intro pins s σ H Q I h;refine uW (cQ (bb pins s σ H _ I h) λv s1 ⟨y,H1,bG,a9,ay,bz⟩=>?_);subst ay;cases a9;refine EU (h₀:=X.base) bG.ok.mod.vy aY (cQ (az pos pins s1 σ H1 _ bG bz) λus s2 ⟨vs,a6,dp,r,q⟩=>⟨dp.oa,?_⟩) he fT;exact Mv F aO ae hd ag dp r q
@[simp] noncomputable def y_(i:Nat)(f:ar)(n:Nat)(G:d_)(g:M (List cH)):M aC:=λD=>match D[i]? with
 |some (J<|.im<|.fn a)=>if a=f then am n G g D else aa
 |_=>aa
theorem Zm{i n:Nat}{G:d_}{g:M (List cH)}(F:iX X.prog X.w X.K X.mg X.base k9 k f fd ps (nP n G))(aO:gb k X.A)(bb:cF X (.Name x p) (qz i))(aY:PySem.W.keepIn X.K (.ref f)=af)(ae:kY X.K fd ps [])(az:i9 X (e::es) g)(he:cx (e::es) X.env=(aD,de e X.env)::cx es X.env:=by rfl)(fT:(ht pos<|cx es X.env).any (·.1)=aD:=by rfl):
  dP X (.Call (.Name x p) (e::es) [] pos) (y_ i f n G g):=by
 refine fV (Zl F aO bb aY ae .nil Gy az he fT) λσ H Q ⟨D,kF,r,D',st,au,aJ,q⟩=>?_;unfold y_ at aJ;split at aJ
 ·rename_i a hd;split at aJ
  ·rename_i az;subst az;obtain⟨v,F1,bp,O,U,aL,aU⟩:=st.out hd;exact⟨v,O,U.1,sw ⟨D,kF,r,D',st,au,aJ,q⟩⟩
  ·cases aJ
 ·cases aJ
end
end L2
namespace et
open PySem PySem.Spec PyProof.Rows
section
variable{prog:cc}{w:bN}{A:cj}{E:aj->aA->Prop}{s:aA}
end
end et
namespace L2
open PySem PySem.Spec PyProof.Rows
section
variable{X:a4}
end
variable{pos:dk}{c a:bM}{mM op:vi}{eo c4 ga:M cH}{nU f:ie}{Q:aj->aA->Prop}{b:Bool}{cM:aC}{u v:aj}{y x:V}{s:aA}{H:aM}{σ:St}{pins:List (ar×bE)}{d:ah}
theorem OT{h:br}:∀(n:Nat) {x y:ah}{v:aj},ah.bW n x=af->ah.bW n y=af->fN h x v->fN h y v->x=y
 |n,.bu,y,v,_,bO,ag,aw=>by
  cases (show v=.none from ag);cases y with
  |bu=>rfl
  |aR b=>cases aw
  |int j=>obtain⟨u,e⟩:=aw;cases e
  |str z=>obtain⟨u,e⟩:=aw;cases e
  |tup ds=>obtain⟨_,_,_,_,e,_⟩:=aw;cases e
  |fn a=>cases n<;>cases bO
  |bf a=>cases n<;>cases bO
  |fd=>cases n<;>cases bO
 |n,.aR b,y,v,_,bO,ag,aw=>by
  cases (show v=.bool b from ag);cases y with
  |bu=>cases aw
  |aR c=>cases aw;rfl
  |int j=>obtain⟨u,e⟩:=aw;cases e
  |str z=>obtain⟨u,e⟩:=aw;cases e
  |tup ds=>obtain⟨_,_,_,_,e,_⟩:=aw;cases e
  |fn a=>cases n<;>cases bO
  |bf a=>cases n<;>cases bO
  |fd=>cases n<;>cases bO
 |n,.int i,y,v,_,bO,ag,aw=>by
  obtain⟨t,rfl⟩:=ag;cases y with
  |bu=>cases aw
  |aR c=>cases aw
  |int j=>obtain⟨u,e⟩:=aw;injection e with e;rw[e]
  |str z=>obtain⟨u,e⟩:=aw;cases e
  |tup ds=>obtain⟨_,_,_,_,e,_⟩:=aw;cases e
  |fn a=>cases n<;>cases bO
  |bf a=>cases n<;>cases bO
  |fd=>cases n<;>cases bO
 |n,.str i,y,v,_,bO,ag,aw=>by
  obtain⟨t,rfl⟩:=ag;cases y with
  |bu=>cases aw
  |aR c=>cases aw
  |int j=>obtain⟨u,e⟩:=aw;cases e
  |str z=>obtain⟨u,e⟩:=aw;injection e with e;rw[e]
  |tup ds=>obtain⟨_,_,_,_,e,_⟩:=aw;cases e
  |fn a=>cases n<;>cases bO
  |bf a=>cases n<;>cases bO
  |fd=>cases n<;>cases bO
 |n+1,.tup ds,y,v,gw,bO,ag,aw=>by
  obtain⟨a,o,items,m,rfl,O,U,aL,aU⟩:=ag;cases y with
  |bu=>cases aw
  |aR c=>cases aw
  |int j=>obtain⟨u,e⟩:=aw;cases e
  |str z=>obtain⟨u,e⟩:=aw;cases e
  |fn a=>cases bO
  |bf a=>cases bO
  |fd=>cases bO
  |tup es=>
   obtain⟨vt,cA,jN,e6,e,g1,g2,g3,eM⟩:=aw;cases e;rw[O]at g1;cases g1;rw[aL]at g3;injection g3 with g3 _;subst g3;have all:∀(ds es:List ah) (vs:List aj),ah.eC n ds=af->ah.eC n es=af->fh h ds vs->fh h es vs->ds=es:=by
    intro ds;induction ds with
    |nil=>
     intro es vs _ _ a b;cases es with
     |nil=>rfl
     |cons e es=>obtain⟨_,_,q,_⟩:=b;rw[show vs=[] from a]at q;cases q
    |cons d ds bS=>
     intro es vs k1 k2 a b;obtain⟨v,r,rfl,a1,a2⟩:=a;cases es with
     |nil=>cases (show v::r=[] from b)
     |cons e es=>
      obtain⟨jm,cG,q,cO,d1⟩:=b;cases q;rw[ah.eC,dv]at k1 k2;rw[OT n k1.1 k2.1 a1 cO,bS es r k1.2 k2.2 a2 d1]
   rw[all ds es _ gw bO aU eM]
 |0,.tup _,_,_,k,_,_,_=>by cases k
 |n,.fn _,_,_,k,_,_,_=>by cases n<;>cases k
 |n,.bf _,_,_,k,_,_,_=>by cases n<;>cases k
 |n,.fd,_,_,k,_,_,_=>by cases n<;>cases k
open Classical in
noncomputable def ug(h:br)(d:ah)(v:aj):Bool:=if z:∃x,ah.bW 8 x=af/\fN h x v then dy z.choose d else aD
theorem za{h:br}{x:ah}(k:ah.bW 8 x=af)(i:fN h x v):ug h d v=dy x d:=by
 unfold ug;have z:∃x,ah.bW 8 x=af/\fN h x v:=⟨x,k,i⟩;rw[dif_pos z,OT 8 z.choose_spec.1 k z.choose_spec.2 i]
theorem zb{h:br}{d:ah}:∀{ds:List ah}{vs:List aj},ah.eC 8 ds=af->fh h ds vs->vs.any (ug h d)=ds.any λx=>dy x d
 |[],vs,_,e=>by rw[show vs=[] from e];rfl
 |x::ds,vs,k,e=>by
  obtain⟨v,r,rfl,O,U⟩:=e;rw[ah.eC,dv]at k;rw[sT,sT,za k.1 O,zb k.2 U]
theorem zc{h:br}:∀{ds:List ah}{vs:List aj}{v:aj},ah.eC 8 ds=af->fh h ds vs->v∈vs->∃x,ah.bW 8 x=af/\fN h x v
 |[],vs,v,_,e,m=>by rw[show vs=[] from e]at m;cases m
 |x::ds,vs,v,k,e,m=>by
  obtain⟨u,r,rfl,O,U⟩:=e;rw[ah.eC,dv]at k;rcases cK.mp m with rfl|m
  ·exact⟨x,k.1,O⟩
  ·exact zc k.2 U m
section
variable{X:a4}
noncomputable def jd(d:ah):aC->Option Bool
 |.im (.tup ds)=>if (ah.bW 8 d&&ah.eC 8 ds)=af then J (ds.any λx=>dy x d) else aa
 |.lst ds=>if (ah.bW 8 d&&ah.eC 8 ds)=af then J (ds.any λx=>dy x d) else aa
 |.a8 kvs=>match d with
  |.tup k=>if ah.keys 7 k=af then J (gT kvs k).isSome else aa
  |_=>aa
 |.eN kvs=>match d with
  |.int i=>J (gT kvs<|.inl i).isSome
  |.str x=>J (gT kvs<|.inr x).isSome
  |_=>aa
 |_=>aa
@[simp] theorem Zn(d:ah)(ds:List ah):jd d (.im<|.tup ds)=if (ah.bW 8 d&&ah.eC 8 ds)=af then J (ds.any λx=>dy x d) else aa:=rfl
@[simp] theorem Zo(d:ah)(ds:List ah):jd d (.lst ds)=if (ah.bW 8 d&&ah.eC 8 ds)=af then J (ds.any λx=>dy x d) else aa:=rfl
@[simp] theorem ag0(k:List ah)(kvs:List (List ah×ah)):jd (.tup k) (.a8 kvs)=if ah.keys 7 k=af then J (gT kvs k).isSome else aa:=rfl
@[simp] noncomputable def oX:ie:=λa b=>match a with
 |.im d=>(jd d b).map λr=>.im (.aR r)
 |_=>aa
@[simp] noncomputable def oY:ie:=λa b=>match a with
 |.im d=>(jd d b).map λr=>.im (.aR<|!r)
 |_=>aa
theorem wy{bj:Type}[DecidableEq bj]{H:aM}{k:bj}{kvs:List (bj×ah)}{fi:List (bj×V)}(h:hV H kvs fi):(k6 fi k).isSome=(gT kvs k).isSome:=by
 cases e:gT kvs k with
 |none=>rw[(wm h).2 e];rfl
 |some d=>obtain⟨v,O,_⟩:=(wm h).1 d e;rw[O];rfl
theorem Zp(bZ:X.A.units+20<c6)(I:Inv X pins σ H s)(bU:c_ x v)(cu:c_ y u)(d2:dR H d x)(bF:ho H cM y)(e:jd d cM=J b)(q:∀s',Inv X pins σ H s'->Q (.bool b) s'):wpAny (a' X.prog X.w) X.A (fM .In v u) Q X.dw s:=by
 unfold jd at e;split at e
 ·rename_i ds;split at e
  ·rename_i aE;cases e;rw[dv]at aE;obtain⟨a,xs,rfl,O,U⟩:=bF.i;cases cu;obtain⟨aP,b0,p,_⟩:=I.tuple (dh.of O);have dO:=U.hS I.bw b0;refine SeqAt.in_tupleAt (ug s.heap d) (show s.heap.IsTuple a aP.toArray from p) (λw hw=>?_) ?_
   ·obtain⟨z,dG,dH⟩:=zc aE.2 dO (by simpa using hw);rw[za dG dH];exact nA 8 dG aE.1 (by show X.A.units+1+8+1<c6;lia) dH (d2.hS I.bw bU)
   ·rw[AU,zb aE.2 dO];exact q s I
  ·cases e
 ·rename_i ds;split at e
  ·rename_i aE;cases e;rw[dv]at aE;obtain⟨_,a,xs,rfl,O,U,_⟩:=bF;cases cu;obtain⟨aP,p,dO,_⟩:=wk I O U;refine SeqAt.in_listAt (ug s.heap d) p (λw hw=>?_) ?_
   ·obtain⟨z,dG,dH⟩:=zc aE.2 dO (by simpa using hw);rw[za dG dH];exact nA 8 dG aE.1 (by show X.A.units+1+8+1<c6;lia) dH (d2.hS I.bw bU)
   ·rw[AU,zb aE.2 dO];exact q s I
  ·cases e
 ·rename_i kvs;split at e
  ·rename_i k;split at e
   ·rename_i aY;cases e;obtain⟨_,a,fi,rfl,O,U,_⟩:=bF;cases cu;obtain⟨b,a3,rfl,g1,g2⟩:=d2;rw[<-wy U]at q;exact Gn bZ I (ca.t O ⟨aY,b,a3,rfl,g1,g2⟩) bU q
   ·cases e
  ·cases e
 ·rename_i kvs;split at e
  ·rename_i i;cases e;obtain⟨_,a,fi,rfl,O,U,_⟩:=bF;cases cu;rw[<-wy U]at q;cases (show x=d5 (.inl i) from d2);exact Gn bZ I (ca.k O) bU q
  ·rename_i i;cases e;obtain⟨_,a,fi,rfl,O,U,_⟩:=bF;cases cu;rw[<-wy U]at q;cases (show x=d5 (.inr i) from d2);exact Gn bZ I (ca.k O) bU q
  ·cases e
 ·cases e
theorem zd(bZ:X.A.units+20<c6):ha X (fM .In) oX:=by
 intro pins s σ H x y v u Q I bU cu ⟨cS,cM,d,a9,bF,e,q⟩;unfold oX at e;split at e
 ·obtain⟨b,ay,aG⟩:=dK.mp e;cases aG;exact Zp bZ I bU cu a9.i bF ay λs' gW=>⟨.aR b,H,gW,rfl,Out.i q rfl⟩
 ·cases e
theorem Zq(bZ:X.A.units+20<c6)(I:Inv X pins σ H s)(bU:c_ x v)(cu:c_ y u)(d2:dR H d x)(bF:ho H cM y)(e:jd d cM=J b)(q:∀s',Inv X pins σ H s'->Q (.bool<|!b) s'):wpAny (a' X.prog X.w) X.A (fM .NotIn v u) Q X.dw s:=by
 unfold jd at e;split at e
 ·rename_i ds;split at e
  ·rename_i aE;cases e;rw[dv]at aE;obtain⟨a,xs,rfl,O,U⟩:=bF.i;cases cu;obtain⟨aP,b0,p,_⟩:=I.tuple (dh.of O);have dO:=U.hS I.bw b0;refine SeqAt.notIn_tupleAt (ug s.heap d) (show s.heap.IsTuple a aP.toArray from p) (λw hw=>?_) ?_
   ·obtain⟨z,dG,dH⟩:=zc aE.2 dO (by simpa using hw);rw[za dG dH];exact nA 8 dG aE.1 (by show X.A.units+1+8+1<c6;lia) dH (d2.hS I.bw bU)
   ·rw[AU,zb aE.2 dO];exact q s I
  ·cases e
 ·rename_i ds;split at e
  ·rename_i aE;cases e;rw[dv]at aE;obtain⟨_,a,xs,rfl,O,U,_⟩:=bF;cases cu;obtain⟨aP,p,dO,_⟩:=wk I O U;refine SeqAt.notIn_listAt (ug s.heap d) p (λw hw=>?_) ?_
   ·obtain⟨z,dG,dH⟩:=zc aE.2 dO (by simpa using hw);rw[za dG dH];exact nA 8 dG aE.1 (by show X.A.units+1+8+1<c6;lia) dH (d2.hS I.bw bU)
   ·rw[AU,zb aE.2 dO];exact q s I
  ·cases e
 ·rename_i kvs;split at e
  ·rename_i k;split at e
   ·rename_i aY;cases e;obtain⟨_,a,fi,rfl,O,U,_⟩:=bF;cases cu;obtain⟨b,a3,rfl,g1,g2⟩:=d2;rw[<-wy U]at q;exact Gp bZ I (ca.t O ⟨aY,b,a3,rfl,g1,g2⟩) bU q
   ·cases e
  ·cases e
 ·rename_i kvs;split at e
  ·rename_i i;cases e;obtain⟨_,a,fi,rfl,O,U,_⟩:=bF;cases cu;rw[<-wy U]at q;cases (show x=d5 (.inl i) from d2);exact Gp bZ I (ca.k O) bU q
  ·rename_i i;cases e;obtain⟨_,a,fi,rfl,O,U,_⟩:=bF;cases cu;rw[<-wy U]at q;cases (show x=d5 (.inr i) from d2);exact Gp bZ I (ca.k O) bU q
  ·cases e
 ·cases e
theorem HX(bZ:X.A.units+20<c6):ha X (fM .NotIn) oY:=by
 intro pins s σ H x y v u Q I bU cu ⟨cS,cM,d,a9,bF,e,q⟩;unfold oY at e;split at e
 ·obtain⟨b,ay,aG⟩:=dK.mp e;cases aG;exact Zq bZ I bU cu a9.i bF ay λs' gW=>⟨.aR<|!b,H,gW,rfl,Out.i q rfl⟩
 ·cases e
@[simp] noncomputable def je(f nU:ie)(ga c4 eo:M cH):M aC:=λD=>(ga D).bind λp=>(c4 p.2).bind λq=>(e' q.2 p.1).bind λcS=>(e' q.2 q.1).bind λcM=>(f cS cM).bind λd=>(r5 d).bind λk=>
 if k=af then (eo q.2).bind λr=>(e' r.2 q.1).bind λuh=>(e' r.2 r.1).bind λqP=>(nU uh qP).bind λz=>(r5 z).map λb=>(.im<|.aR b,r.2) else J (.im<|.aR aD,q.2)
theorem OU{Q:dN}(h:qV (je f nU ga c4 eo) σ H Q):
  F9 (λx y H Q=>∃cS cM d,ho H cS x/\ho H cM y/\f cS cM=J d/\Out H d Q) (λx y H Q=>∃cS cM d,ho H cS x/\ho H cM y/\nU cS cM=J d/\Out H d Q) (oG ga) (oG c4) (oG eo) σ H Q:=by
 obtain⟨D,F,r,D',st,au,aJ,q⟩:=h;obtain⟨⟨o1,D1⟩,O,aJ⟩:=cv.mp aJ;obtain⟨⟨o2,D2⟩,U,aJ⟩:=cv.mp aJ;obtain⟨cS,aL,aJ⟩:=cv.mp aJ;obtain⟨cM,aU,aJ⟩:=cv.mp aJ;obtain⟨d,c0,aJ⟩:=cv.mp aJ;obtain⟨k,cU,hK⟩:=cv.mp aJ;have hd:=yH cU;subst hd;refine⟨D,F,o1,D1,st,au,O,λx H1 F1 dr cb ee s1=>⟨D1,F1,o2,D2,cb,(eA.mp s1.au).1,U,λy a6 bp cI b1 ec s2=>?_⟩⟩;have Zr:mc a6 σ o1 x dr:=ee.mono s2.tup λa az o e=>s2.keep a o e λh=>(eA.mp s1.au).2.2 a h a az rfl;refine⟨cS,cM,_,Zr.read b1 aL,ec.read b1 aU,c0,λv cY lA g5 ow wb fr=>?_⟩;obtain⟨rfl,rfl⟩:=(show v=.aR k/\lA=[] from ow);refine⟨k,rfl,?_⟩;have ui:=s1.trans s2 ee.chg;rw[bY]at ui;have mb:=ui.new g5 qo (λa az=>nomatch az) b1.chg;have fS:b2 cY D2 σ bp:=b1.mono g5.tupS λa _ o e=>g5 a o e;cases k with
 |false=>
  rw[aZ e1]at hK ⊢;cases hK;exact q _ cY bp [] fS ⟨rfl,rfl⟩ mb
 |true=>
  rw[aV rfl]at hK ⊢;obtain⟨⟨o3,da⟩,g1,k1⟩:=cv.mp hK;obtain⟨uh,g2,k2⟩:=cv.mp k1;obtain⟨qP,g3,k3⟩:=cv.mp k2;obtain⟨z,eM,j9⟩:=cv.mp k3;obtain⟨b,nM,k5⟩:=dK.mp j9;cases k5;have hz:=yH nM;subst hz;rw[c5]at mb;refine⟨D2,bp,o3,da,fS,mb.au,g1,λw fF gC pT fA gk s4=>?_⟩;have m':=eA.mp s2.au;have Hf:mc fF σ o2 y cI:=(ec.mono g5.tupS λa _ o e=>g5 a o e).mono s4.tup λa az o e=>s4.keep a o e λh=>m'.2.2 a h a az rfl;refine⟨uh,qP,_,Hf.read fA g2,gk.read fA g3,eM,λv oe N_ HY Zs ag1 BP=>?_⟩;obtain⟨rfl,rfl⟩:=(show v=.aR b/\N_=[] from Zs);exact q _ oe gC [] (fA.mono HY.tupS λa _ o e=>HY a o e) ⟨rfl,rfl⟩ ((mb.seq s4).new HY qo (λa az=>nomatch az) fA.chg)
variable{b:bM}
theorem OV(aS:ha X (fM op) f)(hA:ha X (fM mM) nU)(az:gp X a ga)(ae:gp X b c4)(av:gp X c eo)(hm:Bh [op,mM] [b,c]=aD:=by with_unfolding_all rfl):dP X (.Compare a [op,mM] [b,c] pos) (je f nU ga c4 eo):=
 fV (UX aS hA az ae av hm) λ_ _ _ h=>OU h
theorem OW(aS:ha X (fM op) f)(hA:ha X (fM mM) nU)(az:gp X a ga)(ae:gp X b c4)(av:gp X c eo)(hm:Bh [op,mM] [b,c]=aD:=by with_unfolding_all rfl):lu X (.Compare a [op,mM] [b,c] pos) (b9<|je f nU ga c4 eo):=by
 refine Cz (UY aS hA az ae av hm) λσ H Q ⟨D,F,k,D',st,au,aJ,q⟩=>?_;refine OU ⟨D,F,.im<|.aR k,D',st,au,?_,λv ak bB R aK ow s=>⟨k,ow.1,q ak bB aK (by rw[ow.2,c5]at s;exact s)⟩⟩;obtain⟨p,O,U⟩:=cv.mp aJ;obtain⟨c',aL,aU⟩:=dK.mp U;cases aU;rw[O,<-yH aL]
end
mutual
noncomputable def cJ:ah->ah->Bool
 |.int i,.int j=>decide (i<j)
 |.tup a,.tup b=>j_ a b
 |_,_=>aD
noncomputable def j_:List ah->List ah->Bool
 |[],[]=>aD
 |[],_::_=>af
 |_::_,[]=>aD
 |a::r,b::t=>if ah.beq a b=af then j_ r t else cJ a b
end
mutual
noncomputable def ka:Nat->ah->ah->Bool
 |_,.int _,.int _=>af
 |n+1,.tup a,.tup b=>iE n a b
 |_,_,_=>aD
noncomputable def iE:Nat->List ah->List ah->Bool
 |_,[],[]=>af
 |n,a::r,b::t=>ka n a b&&iE n r t
 |_,_,_=>aD
end
theorem HZ:∀{n:Nat}{a b:List ah},iE n a b=af->a.length=b.length
 |_,[],[],_=>rfl
 |n,a::r,b::t,h=>by
  rw[iE,dv]at h;rw[eS,eS,HZ h.2]
 |_,[],_::_,h=>by cases h
 |_,_::_,[],h=>by cases h
mutual
theorem C9:∀{n:Nat}{a b:ah},ka n a b=af->ah.bW n a=af/\ah.bW n b=af/\dy a b=ah.beq a b
 |n,.int i,.int j,_=>by
  refine⟨by cases n<;>rfl,by cases n<;>rfl,?_⟩;rw[dy,ah.beq];by_cases h:i=j<;>simp[h]
 |n+1,.tup a,.tup b,h=>by
  rw[ka]at h;obtain⟨O,U,aL⟩:=OX h;exact⟨O,U,by rw[dy,ah.beq];exact aL⟩
theorem OX:∀{n:Nat}{a b:List ah},iE n a b=af->ah.eC n a=af/\ah.eC n b=af/\hx a b=ah.qt a b
 |n,[],[],_=>⟨by cases n<;>rfl,by cases n<;>rfl,rfl⟩
 |n,a::r,b::t,h=>by
  rw[iE,dv]at h;obtain⟨O,U,aL⟩:=C9 h.1;obtain⟨g1,g2,g3⟩:=OX h.2;exact⟨by rw[ah.eC,O,g1];rfl,by rw[ah.eC,U,g2];rfl,by rw[hx,ah.qt,aL,g3]⟩
end
theorem uj{a b:ah}(h:¬ a=b):ah.beq a b=aD:=by
 cases e:ah.beq a b with
 |false=>rfl
 |true=>exact absurd ((ah.beq_iff a b).mp e) h
mutual
theorem H0:∀a:ah,cJ a a=aD
 |.int i=>by simp[cJ]
 |.tup a=>by rw[cJ];exact OY a
 |.bu=>rfl
 |.aR _=>rfl
 |.str _=>rfl
 |.fn _=>rfl
 |.bf _=>rfl
 |.fd=>rfl
theorem OY:∀a:List ah,j_ a a=aD
 |[]=>rfl
 |a::r=>by rw[j_,aV<|(ah.beq_iff a a).mpr rfl];exact OY r
end
mutual
theorem wz:∀{n:Nat}{a b:ah},ka n a b=af->a≠b->cJ a b=!(cJ b a)
 |n,.int i,.int j,_,h=>by
  have:i≠j:=λe=>h (by rw[e]);rw[cJ,cJ];rcases Int.lt_or_gt_of_ne this with g|g
  ·simp[g];lia
  ·simp[g];lia
 |n+1,.tup a,.tup b,h,e=>by
  rw[ka]at h;rw[cJ,cJ];exact OZ h λz=>e (by rw[z])
theorem OZ:∀{n:Nat}{a b:List ah},iE n a b=af->a≠b->j_ a b=!(j_ b a)
 |n,[],[],_,h=>absurd rfl h
 |n,a::r,b::t,h,e=>by
  rw[iE,dv]at h;rw[j_,j_];by_cases z:a=b
  ·subst z;rw[aV ((ah.beq_iff a a).mpr rfl),aV<|(ah.beq_iff a a).mpr rfl];exact OZ h.2 λw=>e (by rw[w])
  ·rw[uj z,uj<|λw=>z w.symm,aZ e1,aZ e1];exact wz h.1 z
end
mutual
theorem H2:∀{n:Nat}{a b c:ah},ka n a b=af->ka n b c=af->cJ a b=af->cJ b c=af->cJ a c=af
 |n,.int i,.int j,.int k,_,_,O,U=>by
  rw[cJ]at O U ⊢;have:=gg O;have:=gg U;exact eL (by lia)
 |n+1,.tup a,.tup b,.tup c,b',ct,O,U=>by
  rw[ka]at b' ct;rw[cJ]at O U ⊢;exact O0 b' ct O U
theorem O0:∀{n:Nat}{a b c:List ah},iE n a b=af->iE n b c=af->j_ a b=af->j_ b c=af->j_ a c=af
 |n,[],[],[],_,_,h,_=>h
 |n,a::r,b::t,c::u,b',ct,O,U=>by
  rw[iE,dv]at b' ct;rw[j_]at O U ⊢;by_cases dG:a=b
  ·subst dG;rw[aV ((ah.beq_iff a a).mpr rfl)]at O;by_cases dH:a=c
   ·subst dH;rw[aV ((ah.beq_iff a a).mpr rfl)]at U ⊢;exact O0 b'.2 ct.2 O U
   ·rw[uj dH,aZ e1]at U ⊢;exact U
  ·rw[uj dG,aZ e1]at O;by_cases dH:b=c
   ·subst dH;rw[uj dG,aZ e1];exact O
   ·rw[uj dH,aZ e1]at U;have aL:=H2 b'.1 ct.1 O U;have j1:¬ a=c:=λw=>by
     subst w;have:=wz ct.1 dH;rw[O,U]at this;cases this
    rw[uj j1,aZ e1];exact aL
end
noncomputable def H3(A:cj)(s:aA)(y x:aj)(k:Bool):Prop:=∀(prog:cc) (w:bN) (E:aj->aA->Prop) (Q:aj->aA->Prop),Q (.bool k) s->wpAny (a' prog w) A (richCompare .Lt y x) Q E s
noncomputable def sr(f:Bool):List (Bool×Bool)->Bool
 |[]=>f
 | (e,k)::r=>if e=af then sr f r else k
section
open PySem.SeqAt
open PySem.AutoSeq1 (wpAny_loadPart')
open PySem.MeetsSeq PySem.MeetsSeq2 PySem.MeetsSeq3
theorem Zt(l b:ar)(items jf:Array aj)(n n2:Nat)(dd vG:Option ar)(bK vH:Array (Option aj))(ps:List (Bool×Bool))(CJ:ps.length=min items.size jf.size):
  Meets (b8.«tuple.__lt__» ⟨[.ref l,.ref b],[]⟩)
   (λA R s=>s.heap.get? l=J {cls:=.type "tuple",dict:=dd,data:=.seq items n,slots:=bK}/\s.heap.get? b=J {cls:=.type "tuple",dict:=vG,data:=.seq jf n2,slots:=vH}/\
    (∀j (O:j<items.size) (U:j<jf.size) (aL:j<ps.length),EqAt A.in1 s items[j] jf[j] (ps[j]).1/\((ps[j]).1=aD->H3 A.in1 s items[j] jf[j] (ps[j]).2))/\
    R (.ok<|.ret<|.bool<|sr (decide (items.size<jf.size)) ps) s):=
 .of_wp λprog w A R s h=>by
  obtain⟨aE,g,d,tk,os⟩:=s;obtain⟨aF,ae,he,h⟩:=h;have f2:=AutoSeq1.sub_tuple_tuple;have C_:(items.toList.zip jf.toList).length=min items.size jf.size:=by simp
  wp_walk using wpAny_loadPart' aF,wpAny_loadPart' ae,uY _ (λrest b s'=>b.1=aa/\s'=⟨aE,g,d,tk,os⟩/\∃i,rest=(items.toList.zip jf.toList).drop i/\
   R (.ok<|.ret<|.bool<|sr (decide (items.size<jf.size))<|ps.drop i) ⟨aE,g,d,tk,os⟩) _
  case turn=>
   rintro⟨y,x⟩ rest b s' ⟨nV,rfl,i,hz,ig⟩;have gy:i<(items.toList.zip jf.toList).length:=by
    rcases kS i (items.toList.zip jf.toList).length with h'|h'
    ·exact h'
    ·rw[u5 h']at hz;cases hz
   have hm:i<min items.size jf.size:=C_ ▸ gy;have O:i<items.size:=by lia
   have U:i<jf.size:=by lia
   have aL:i<ps.length:=by lia
   rw[qj gy]at hz;injection hz with O1 Zu;have aw:y=items[i]:=by have:=congrArg Prod.fst O1;simpa using this
   have ag:x=jf[i]:=by have:=congrArg Prod.snd O1;simpa using this
   subst aw ag;rw[qj aL]at ig;obtain⟨HF,uk⟩:=he i O U aL;generalize ps[i]=pr at ig HF uk;obtain⟨e,k⟩:=pr;refine aH (HF prog w _ _ ?_);cases e with
   |true=>
    have ze:R (.ok<|.ret<|.bool<|sr (decide (items.size<jf.size))<|ps.drop<|i+1) ⟨aE,g,d,tk,os⟩:=ig
    wp_walk
    exact⟨rfl,rfl,i+1,Zu,ze⟩
   |false=>
    have ze:R (.ok<|.ret<|.bool k) ⟨aE,g,d,tk,os⟩:=ig;have Zv:=uk rfl prog w
    wp_walk using Zv
    exact⟨_,rfl,by simpa using ze⟩
  case fin=>
   rintro⟨cO,d1⟩ s' ⟨nV,rfl,i,hz,ig⟩;simp only at nV;subst nV;have ag2:min items.size jf.size<=i:=by
    rcases kS i (items.toList.zip jf.toList).length with h'|h'
    ·rw[qj h']at hz;cases hz
    ·exact C_ ▸ h'
   rw[u5 (by lia)]at ig;have ze:R (.ok<|.ret<|.bool<|decide (items.size<jf.size)) ⟨aE,g,d,tk,os⟩:=ig
   wp_walk
   exact⟨_,rfl,by simpa [b8.Tuple.tupleCompareSizes] using ze⟩
  case h=>
   exact⟨rfl,rfl,0,rfl,by simpa using h⟩
end
noncomputable def p5(ds es:List ah):List (Bool×Bool):=(ds.zip es).map λp=>(dy p.1 p.2,cJ p.1 p.2)
theorem O2:∀{n:Nat}{ds es:List ah},iE n ds es=af->sr aD (p5 ds es)=j_ ds es
 |_,[],[],_=>rfl
 |n,a::r,b::t,h=>by
  rw[iE,dv]at h;show (if dy a b=af then sr aD (p5 r t) else cJ a b)=j_ (a::r) (b::t);rw[j_,(C9 h.1).2.2,O2 h.2]
 |_,[],_::_,h=>by cases h
 |_,_::_,[],h=>by cases h
theorem O3{n:Nat}:∀{ds es:List ah}{j:Nat}{a b:ah},iE n ds es=af->ds[j]?=J a->es[j]?=J b->ka n a b=af
 |[],es,j,a,b,_,h,_=>by simp at h
 |d::ds,[],j,a,b,h,_,_=>by cases h
 |d::ds,e::es,0,a,b,h,O,U=>by
  rw[iE,dv]at h;cases O;cases U;exact h.1
 |d::ds,e::es,j+1,a,b,h,O,U=>by
  rw[iE,dv]at h;exact O3 (j:=j) h.2 (by simpa using O) (by simpa using U)
theorem O4{A:cj}{i j:Int}(ag:fN s.heap (.int i) u)(aw:fN s.heap (.int j) v):H3 A s u v (cJ (.int i)<|.int j):=by
 obtain⟨t,rfl⟩:=ag;obtain⟨t',rfl⟩:=aw;intro prog w E Q q;rw[cJ]at q;exact et.Vf A s i t j t' prog w E Q q
theorem H4:∀{n:Nat}{x y:ah},ka n x y=af->(∃i j,x=.int i/\y=.int j)\/∃m a b,n=m+1/\x=.tup a/\y=.tup b/\iE m a b=af:=by
 intro n x y h;unfold ka at h;split at h
 ·exact .inl ⟨_,_,rfl,rfl⟩
 ·exact .inr ⟨_,_,_,rfl,rfl,rfl,h⟩
 ·cases h
theorem O5(n:Nat):∀{A:cj}{x y:ah}{u v:aj},ka n x y=af->A.units+n+2<c6->fN s.heap x u->fN s.heap y v->H3 A s u v (cJ x y):=by
 induction n with
 |zero=>
  intro A x y u v h bZ ag aw;rcases H4 h with ⟨i,j,rfl,rfl⟩|⟨m,_,_,e,_⟩
  ·exact O4 ag aw
  ·cases e
 |succ n bS=>
  intro A x y u v h bZ ag aw;rcases H4 h with ⟨i,j,rfl,rfl⟩|⟨m,ds,es,e,rfl,rfl,h⟩
  ·exact O4 ag aw
  cases e;obtain⟨a,o,aP,m,rfl,O,U,aL,aU⟩:=ag;obtain⟨b,cA,its',e6,rfl,g1,g2,g3,eM⟩:=aw;obtain⟨cls,dd,data,bK⟩:=o;obtain⟨ag3,rR,ag4,th⟩:=cA;simp only at U aL g2 g3;subst U aL g2 g3;have ag5:=HZ h;have b':ds.length=aP.size:=by rw[aU.length,eT]
  have ct:es.length=its'.size:=by rw[eM.length,eT]
  intro prog w E Q q;rw[cJ,<-O2 h]at q;have lp:(p5 ds es).length=min aP.size its'.size:=by rw[p5,b3,EP,b',ct]
  have hd:decide (aP.size<its'.size)=aD:=bi (by lia);refine richCompare_meets_room (op:=.Lt) ⟨_,O,rfl⟩ ⟨_,g1,rfl⟩ PySem.F.slot_tuple_lt PySem.F.entry_tuple_lt (PySem.F.args_tuple_lt_2 _ _) (Zt a b aP its' m e6 dd rR bK th (p5 ds es) lp)
   ⟨O,g1,λj b6 dz lq=>?_,show aj.bool (sr (decide (aP.size<its'.size))<|p5 ds es)≠aj.notImplemented/\Q (.bool<|sr (decide (aP.size<its'.size))<|p5 ds es) s from ⟨(λx=>nomatch x),by rw[hd];exact q⟩⟩ (by lia);obtain⟨cS,ay,a9⟩:=aU.get (j:=j) (v:=aP[j]) (by rw[gV];simp[b6]);obtain⟨cM,aG,bF⟩:=eM.get (j:=j) (v:=its'[j]) (by rw[gV];simp[dz]);have lk:=O3 h ay aG;have aE:=C9 lk;have tT:(p5 ds es)[j]=(dy cS cM,cJ cS cM):=by
   have:(p5 ds es)[j]?=J (dy cS cM,cJ cS cM):=by
    rw[p5,gJ,(EA (z:=(cS,cM))).mpr ⟨ay,aG⟩];rfl
   rw[fg lq]at this;exact Option.some.inj this
  rw[tT];exact⟨nA n aE.1 aE.2.1 (by show A.units+1+n+1<c6;lia) a9 bF,λ_=>bS lk (by show A.units+1+n+2<c6;lia) a9 bF⟩
end L2
namespace L2
open PySem PySem.Spec PyProof.Rows PySem.W
variable{aP:List aj}{ds:List ah}
theorem O6{α:Type}{p q:α->Bool}:∀{l:List α},(∀x∈l,p x=af->q x=af)->(∃x∈l,q x=af/\p x=aD)->l.countP p<l.countP q
 |[],_,h=>by obtain⟨x,ag,_⟩:=h;cases ag
 |a::l,h,⟨x,ag,O,U⟩=>by
  rw[AV,AV];have le:l.countP p<=l.countP q:=List.countP_mono_left λy aw=>h y (.tail _ aw);rcases cK.mp ag with rfl|ag
  ·rw[O,U];simp;lia
  ·have:=O6 (λy aw=>h y<|.tail _ aw) ⟨x,ag,O,U⟩;have az:=h a (.head _);cases ay:p a<;>cases aG:q a<;>rw[ay,aG]at az<;>simp at az ⊢<;>lia
structure su(ds:List ah):Prop where
 um:ds.length<=1000
 q4:∀a∈ds,∀b∈ds,ka 6 a b=af
 au:ds.Nodup
noncomputable def sv(ds:List ah)(x:ah):Nat:=ds.countP λd=>cJ d x
theorem Dc(o:su ds){x y:ah}(ag:x∈ds)(aw:y∈ds)(h:cJ x y=af):sv ds x<sv ds y:=
 O6 (λz hz e=>H2 (o.q4 z hz x ag) (o.q4 x ag y aw) e h) ⟨x,ag,h,H0 x⟩
theorem O7(o:su ds){x y:ah}(ag:x∈ds)(aw:y∈ds):decide ((sv ds x:Int)<(sv ds y:Int))=cJ x y:=by
 cases e:cJ x y with
 |true=>exact eL (by have:=Dc o ag aw e;lia)
 |false=>
  refine bi λz=>?_;by_cases h:x=y
  ·subst h;lia
  ·have t:=wz (o.q4 x ag y aw) h;rw[e]at t;have t':cJ y x=af:=by cases q:cJ y x<;>rw[q]at t<;>simp at t ⊢
   have:=Dc o aw ag t';lia
theorem Zw(o:su ds){x y:ah}(ag:x∈ds)(aw:y∈ds)(h:sv ds x=sv ds y):x=y:=by
 by_cases e:x=y
 ·exact e
 ·have t:=wz (o.q4 x ag y aw) e;cases q:cJ x y with
  |true=>have:=Dc o ag aw q;lia
  |false=>
   rw[q]at t;have t':cJ y x=af:=by cases q:cJ y x<;>rw[q]at t<;>simp at t ⊢
   have:=Dc o aw ag t';lia
noncomputable def p6(ds:List ah)(i:Nat):Int:=sv ds (ds.getD i .bu)
theorem wA{i:Nat}(h:i<ds.length):ds.getD i .bu∈ds:=by
 rw[du,fg h];exact AS h
theorem Dd(o:su ds):∀i j,i<ds.length->j<ds.length->p6 ds i=p6 ds j->i=j:=λi j ao bx e=>by
 have:=Zw o (wA ao) (wA bx) (by unfold p6 at e;lia);rw[du,fg ao,du,fg bx]at this;exact (EL o.au).mp this
theorem H5(o:su ds){p:Array Nat}(aE:eO ds.length p)(up:k' (p6 ds) p ds.length):(p.toList.map λi=>ds.getD i .bu).Pairwise (λa b=>cJ a b=af):=by
 rw[sN];intro i j ao bx i2;have aq:=aE.size;have hT:i<ds.length:=by simpa [aq] using ao
 have r2:j<ds.length:=by simpa [aq] using bx
 have ne:=aE.ne (Dd o) i2 r2;have le:=up i j (by lia) r2;have g:∀k (aY:k<(p.toList.map λi=>ds.getD i .bu).length),(p.toList.map λi=>ds.getD i .bu)[k]=ds.getD (p.getD k 0) .bu:=λk aY=>by
  have g0:k<p.size:=by simpa using aY
  rw[Ky,K5];simp[Array.getD,g0]
 rw[g i ao,g j bx];rw[<-O7 o (wA<|aE.lt hT) (wA<|aE.lt r2)];refine eL ?_;have e:∀k,(sv ds (ds.getD (p.getD k 0) .bu):Int)=c1 (p6 ds) p k:=λ_=>rfl;rw[e i,e j];lia
theorem O8:∀{l m:List ah},l.Perm m->l.Pairwise (λa b=>cJ a b=af)->m.Pairwise (λa b=>cJ a b=af)->(∀a∈l,∀b∈l,cJ a b=af->cJ b a=aD)->l=m
 |[],m,p,_,_,_=>(List.nil_perm.mp p).symm
 |a::l,m,p,O,U,as=>by
  cases m with
  |nil=>exact absurd p.length_eq (by simp)
  |cons b m=>
   have e:a=b:=by
    by_cases e:a=b
    ·exact e
    ·have az:a∈m:=by
      rcases cK.mp (p.mem_iff.mp<|.head _) with z|z
      ·exact absurd z e
      ·exact z
     have ae:b∈l:=by
      rcases cK.mp (p.mem_iff.mpr<|.head _) with z|z
      ·exact absurd z.symm e
      ·exact z
     have bz:=(kj.mp O).1 b ae;have cR:=(kj.mp U).1 a az;rw[as a (.head _) b (.tail _ ae) bz]at cR;cases cR
   subst e;rw[O8 (Sh p) (kj.mp O).2 (kj.mp U).2 λx ag y aw=>as x (.tail _ ag) y<|.tail _ aw]
theorem H6(x:ah):∀l:List ah,(f8 cJ x l).Perm (x::l)
 |[]=>List.Perm.refl _
 |y::r=>by
  rw[f8];split
  ·exact List.Perm.refl _
  ·exact (List.Perm.cons y<|H6 x r).trans (List.Perm.swap x y r)
theorem q5:∀l:List ah,(j' cJ l).Perm l
 |[]=>List.Perm.refl _
 |x::r=>(H6 x _).trans (List.Perm.cons x<|q5 r)
theorem O9{x:ah}:∀{l:List ah},l.Pairwise (λa b=>cJ a b=af)->(∀y∈l,x≠y)->(∀a∈x::l,∀b∈x::l,ka 6 a b=af)->(f8 cJ x l).Pairwise (λa b=>cJ a b=af)
 |[],_,_,_=>h4 _ _
 |y::r,h,n,lk=>by
  have h':=kj.mp h;rw[f8];split
  ·rename_i e;refine kj.mpr ⟨λz hz=>?_,h⟩;rcases cK.mp hz with rfl|hz
   ·exact e
   ·exact H2 (lk x (.head _) y<|.tail _<|.head _) (lk y (.tail _<|.head _) z<|.tail _<|.tail _ hz) e (h'.1 z hz)
  ·rename_i e;refine kj.mpr ⟨λz hz=>?_,O9 h'.2 (λz hz=>n z<|.tail _ hz) λa az b ae=>lk a ?_ b ?_⟩
   ·rcases cK.mp ((H6 x r).mem_iff.mp hz) with rfl|hz
    ·have t:=wz (lk z (.head _) y<|.tail _<|.head _) (n y<|.head _);cases q:cJ y z with
     |true=>rfl
     |false=>rw[q]at t;exact absurd t e
    ·exact h'.1 z hz
   ·rcases cK.mp az with rfl|az
    ·exact .head _
    ·exact .tail _ (.tail _ az)
   ·rcases cK.mp ae with rfl|ae
    ·exact .head _
    ·exact .tail _ (.tail _ ae)
theorem zf:∀{l:List ah},l.Nodup->(∀a∈l,∀b∈l,ka 6 a b=af)->(j' cJ l).Pairwise (λa b=>cJ a b=af)
 |[],_,_=>.nil
 |x::r,au,lk=>by
  have oK:=lO.mp au;refine O9 (zf oK.2 λa az b ae=>lk a (.tail _ az) b<|.tail _ ae) (λy aw e=>oK.1 (by rw[e];exact (q5 r).mem_iff.mp aw)) λa az b ae=>lk a ?_ b ?_
  ·rcases cK.mp az with rfl|az
   ·exact .head _
   ·exact .tail _ ((q5 r).mem_iff.mp az)
  ·rcases cK.mp ae with rfl|ae
   ·exact .head _
   ·exact .tail _ ((q5 r).mem_iff.mp ae)
theorem zg{l:List ah}(o:su ds)(p:l.Perm ds)(h:l.Pairwise (λa b=>cJ a b=af)):l=j' cJ ds:=by
 refine O8 (p.trans (q5 ds).symm) h (zf o.au o.q4) λa az b ae e=>?_;have t:=wz (o.q4 a (p.mem_iff.mp az) b<|p.mem_iff.mp ae) (λz=>by subst z;rw[H0]at e;cases e);rw[e]at t;cases q:cJ b a with
 |false=>rfl
 |true=>rw[q]at t;cases t
noncomputable def mq:ah->Bool
 |.tup (.int _::_)=>af
 |_=>aD
noncomputable def uo:ah->Bool
 |.tup (.tup _::_)=>af
 |_=>aD
section
variable{prog:cc}{w:bN}{A:cj}{E:aj->aA->Prop}{s:aA}
theorem O'{b:Bool}(n:Nat)(bZ:A.units+n+2<c6){Q:Bool->aA->Prop}:∀{ds es:List ah}{vs ws:List aj}{i:Nat},iE n ds es=af->fh s.heap ds vs->fh s.heap es ws->(b=af->i=0->∃k r,ds=.int k::r)->Q (j_ ds es) s->KatLex prog w A b aD Q (vs.zip ws) i s
 |[],[],vs,ws,i,_,O,U,_,q=>by
  rw[show vs=[] from O];exact kat_nil q
 |d::ds,e::es,vs,ws,i,h,O,U,ae,q=>by
  rw[iE,dv]at h;obtain⟨v,vs,rfl,a1,a2⟩:=O;obtain⟨u,ws,rfl,cO,d1⟩:=U;rw[EJ];obtain⟨dF,bI,ck⟩:=C9 h.1;refine kat_cons (nA n dF bI (by lia) a1 cO prog w _ _ ?_);rw[ck];rw[j_]at q;cases bk:ah.beq d e with
  |true=>
   rw[bk,aV rfl]at q;exact kat_yes (O' n bZ h.2 a2 d1 (λ_ z=>by lia) q)
  |false=>
   rw[bk,aZ e1]at q;refine kat_no ?_;by_cases hf:(b&&i==0)=af
   ·rw[hf];rw[dv]at hf;obtain⟨k,r,z⟩:=ae hf.1 (by simpa using hf.2);cases z;rcases H4 h.1 with ⟨i',j,dG,dH⟩|⟨_,_,_,_,dG,_⟩
    ·cases dG;cases dH;obtain⟨t,rfl⟩:=a1;obtain⟨t',rfl⟩:=cO;rw[cJ]at q;exact oneLt_int q
    ·cases dG
   ·rw[show (b&&i==0)=aD by simpa using hf];exact kat_one _ _ (O5 n h.1 bZ a1 cO prog w _ _ q)
 |[],_::_,_,_,_,h,_,_,_,_=>by cases h
 |_::_,[],_,_,_,h,_,_,_,_=>by cases h
theorem H7{b:Bool}(o:su ds)(dO:fh s.heap ds aP)(cE:∀d∈ds,∃r,d=.tup r)(ae:b=af->∀d∈ds,mq d=af)(bZ:A.units+9<c6):
  kx aP.length (p6 ds) (iO prog w A (vq b)<|aP.toArray.zip aP.toArray) s:=by
 intro i j C ao bx q;have aF:=dO.length;have zh:=wA (ds:=ds) (i:=i) (by lia);have De:=wA (ds:=ds) (i:=j) (by lia);unfold p6 at q;rw[O7 o zh De]at q;obtain⟨cS,ay,a9⟩:=dO.get (j:=i) (v:=aP[i]) (by simp);obtain⟨cM,aG,bF⟩:=dO.get (j:=j) (v:=aP[j]) (by simp);rw[du,ay,du,aG]at q;rw[du,ay]at zh;rw[du,aG]at De;obtain⟨a,iZ⟩:=cE cS zh;obtain⟨pI,eG⟩:=cE cM De;subst iZ eG;have lk:iE 5 a pI=af:=o.q4 _ zh _ De;unfold iO;rw[A0 rfl,A0 rfl,du,du,fg ao,fg bx];show wpAny _ _ (keyLt' (vq b) aP[i] aP[j]) _ _ _;obtain⟨x,ag6,xs,jY,dG,g1,g2,g3,eM⟩:=a9;obtain⟨y,ag7,a3,n2,dH,k1,k2,k3,j9⟩:=bF;rw[dG,dH];refine kat_lt (b:=b) g1 g3 k1 k3 ?_;have b':a.length=xs.size:=by rw[eM.length,eT]
 have ct:pI.length=a3.size:=by rw[j9.length,eT]
 rw[show decide (xs.size<a3.size)=aD from bi (by have:=HZ lk;lia)];refine O' 5 (by lia) lk eM j9 (λjg _=>?_) (by have fP:C (cJ (.tup a)<|.tup pI) s:=q;rw[cJ]at fP;exact fP);have:=ae jg _ zh;unfold mq at this;split at this
 ·rename_i h;cases h;exact⟨_,_,rfl⟩
 ·cases this
theorem ul:∀{ds:List ah}{aP:List aj},fh s.heap ds aP->(∀d∈ds,mq d=af)\/(∀d∈ds,uo d=af)->∃fs,KatTups s.heap aP fs/\fs.length=aP.length/\
  ((∀d∈ds,mq d=af)->∀v∈fs,∃i t,v=aj.int i t)/\((∀d∈ds,uo d=af)->∀v∈fs,∃a cX,v=aj.ref a/\s.heap.get? a=J cX/\cX.cls=.type "tuple")
 |[],aP,h,_=>by
  rw[show aP=[] from h];exact⟨[],trivial,rfl,(λ_ _ h=>nomatch h),(λ_ _ h=>nomatch h)⟩
 |d::ds,aP,h,hf=>by
  obtain⟨v,r,rfl,O,U⟩:=h;obtain⟨fs,t1,gr,t3,ih⟩:=ul U (hf.imp (λz x ag=>z x<|.tail _ ag) λz x ag=>z x<|.tail _ ag);have Zx:∃f cG,d=.tup (f::cG):=by
   rcases hf with z|z
   ·have:=z d (.head _);unfold mq at this;split at this
    ·exact⟨_,_,rfl⟩
    ·cases this
   ·have:=z d (.head _);unfold uo at this;split at this
    ·exact⟨_,_,rfl⟩
    ·cases this
  obtain⟨f,cG,rfl⟩:=Zx;obtain⟨a,o,items,n,rfl,g1,g2,g3,eM⟩:=O;obtain⟨O_,b0,e,nM,Pa⟩:=eM;have y':items[0]?=J O_:=by
   rw[<-gV,e];rfl
  refine⟨O_::fs,KatTups.cons g1 g2 g3 y' t1,by simp[gr],λz u bZ=>?_,λz u bZ=>?_⟩
  ·rcases cK.mp bZ with rfl|bZ
   ·have:=z _ (.head _);unfold mq at this;split at this
    ·rename_i q;cases q;exact⟨_,nM⟩
    ·cases this
   ·exact t3 (λx ag=>z x<|.tail _ ag) u bZ
  ·rcases cK.mp bZ with rfl|bZ
   ·have:=z _ (.head _);unfold uo at this;split at this
    ·rename_i q;cases q;obtain⟨vt,cA,_,_,b7,k1,k2,_⟩:=nM;exact⟨vt,cA,b7,k1,k2⟩
    ·cases this
   ·exact ih (λx ag=>z x<|.tail _ ag) u bZ
end
section
variable{X:a4}
theorem cq.pick{H:aM}{a3:List V}(h:cq H ds a3):∀{p:List Nat},(∀k∈p,k<ds.length)->cq H (p.map λi=>ds.getD i .bu) (p.map λi=>a3.getD i .bu)
 |[],_=>rfl
 |k::p,aE=>by
  obtain⟨v,ay,aG⟩:=h.get (i:=k) (d:=ds.getD k .bu) (by
   have:=aE k (.head _);rw[du,fg this];rfl)
  refine⟨v,_,?_,aG,h.pick λj bx=>aE j<|.tail _ bx⟩;rw[dQ,du,ay];rfl
structure mr(ds:List ah):Prop where
 ord:su ds
 fst:(∀d∈ds,mq d=af)\/(∀d∈ds,uo d=af)
theorem mr.tup(o:mr ds):∀d∈ds,∃r,d=.tup r:=λd hd=>by
 rcases o.fst with z|z
 ·have:=z d hd;unfold mq at this;split at this
  ·exact⟨_,rfl⟩
  ·cases this
 ·have:=z d hd;unfold uo at this;split at this
  ·exact⟨_,rfl⟩
  ·cases this
theorem fh.wB{h h':br}(k:∀b o,h.get? b=J o->h'.get? b=J o){ds:List ah}{vs:List aj}(x:fh h ds vs):fh h' ds vs:=x.keep λa o _ _ e _ _=>k a o e
theorem H8{h:br}{s:aA}(o:mr ds)(U:2<=aP.length)(dO:fh s.heap ds aP)(A:cj)(E:aj->aA->Prop)(Q:jM->aA->Prop)(bk:Q (vq<|decide (∀d∈ds,mq d=af)) s):
  wpAny (a' X.prog X.w) A (Fx aP.toArray) Q E s:=by
 obtain⟨fs,t1,gr,t3,ih⟩:=ul dO o.fst;have aF:=dO.length;by_cases hf:∀d∈ds,mq d=af
 ·rw[eL hf]at bk;refine kat_kind (T:=aj.type "int") t1 (by lia) (λv bb=>?_) rfl ?_
  ·obtain⟨i,t,rfl⟩:=t3 hf v bb;exact LL rfl
  ·rw[show (aj.type "int" != aj.type "tuple")=af by decide];exact bk
 ·rw[bi hf]at bk;have Zy:=o.fst.resolve_left hf;refine kat_kind (T:=aj.type "tuple") t1 (by lia) (λv bb=>?_) rfl ?_
  ·obtain⟨a,cX,rfl,g1,g2⟩:=ih Zy v bb;have:Looks (a' X.prog X.w) s.heap (tb<|.ref a) cX.cls:=(Looks.ld g1).andThen .now;rw[g2]at this;exact this
  ·rw[show (aj.type "tuple" != aj.type "tuple")=aD by decide];exact bk
theorem Pb(av:X.calm=af)(bZ:X.A.units+20<c6):bv X (.builtin "sorted") (λxs H Q=>∃(a:ar) (ds:List ah) (a3:List V),xs=[.ref a]/\(er X.K H a a3\/dh X.K H a a3)/\cq H ds a3/\mr ds/\
  ∀l zs,H l=aa->cq H (j' cJ ds) zs->Q (.ref l) (upd H l<|.lst zs)):=by
 intro pins s σ H xs us Q I r h;obtain⟨a,ds,a3,rfl,aq,ao,o,q⟩:=h;obtain⟨u,rfl,gN⟩:=mR r;cases gN;have hz:a3.length<=1000:=by rw[<-ao.length];exact o.ord.um
 have go:∀{T:String}{aP:List aj}{n:Nat}{cX:bE},(T = "list" \/ T = "tuple")->cZ a3 aP->s.heap.get? a=J cX->cX.cls=.type T->cX.data=.seq aP.toArray n->wpAny (a' X.prog X.w) X.A (call (.builtin "sorted") [.ref a]) (gi X pins σ Q) X.dw s:=by
  intro T aP n cX dM b0 e aN oB;have dO:=ao.hS I.bw b0;have li:aP.length=ds.length:=dO.length.symm;refine Ou av (p6 ds) (vq<|decide (∀d∈ds,mq d=af)) I b0 dM e aN oB hz (λU cU tk k A E Q bk=>H8 (h:=cU) o U (dO.wB k) A E Q bk) (λcU tk k=>?_) (by rw[li];exact Dd o.ord) (.inl (by have:=o.ord.um;lia)) λp l a9 bF bf=>?_
  ·refine H7 (s:={s with heap:=cU,toks:=tk}) o.ord (dO.wB k) o.tup (λae=>?_) (by show X.A.units+1+1+9<c6;lia);exact gg ae
  ·rw[li]at a9 bF;have ay:(p.toList.map λi=>ds.getD i .bu)=j' cJ ds:=zg o.ord (C2 a9) (H5 o.ord a9 bF);refine q l _ bf ?_;rw[<-ay];exact ao.pick λk aY=>iK.mp (a9.mem_iff.mp aY)
 rcases aq with aq|aq
 ·obtain⟨aP,b0,p,_⟩:=I.list aq;obtain⟨cX,e,aN,n,oB⟩:=p.isList;exact go (.inl rfl) b0 e aN oB
 ·obtain⟨aP,b0,p,_⟩:=I.tuple aq;obtain⟨cX,e,aN,n,oB⟩:=p;exact go (.inr rfl) b0 e aN oB
end
section
variable{X:a4}
theorem Pc{H:aM}:∀{kvs:List (List ah×V)}{es:List (List ah×ar×aj)},hi (λ(p:List ah×V) (q:List ah×ar×aj)=>p.1=q.1/\mO H p.1 q.2.1/\c_ p.2 q.2.2) kvs es->
  cq H (kvs.map λp=>.tup p.1) (es.map λx=>V.ref x.2.1)/\cZ (es.map λx=>V.ref x.2.1) (es.map λx=>aj.ref x.2.1)
 |_,_,.nil=>⟨rfl,.nil⟩
 |_,_,.cons r t=>by
  obtain⟨O,U⟩:=Pc t;exact⟨⟨_,_,rfl,r.2.1.2,O⟩,.cons rfl U⟩
theorem Zz(av:X.calm=af)(bZ:X.A.units+20<c6):bv X (.builtin "sorted") (λxs H Q=>∃(d:ar) (kvs:List (List ah×V)),xs=[.ref d]/\H d=J (.a8 kvs)/\mr (kvs.map λp=>.tup p.1)/\
  ∀l zs,H l=aa->cq H (j' cJ<|kvs.map λp=>.tup p.1) zs->Q (.ref l) (upd H l<|.lst zs)):=by
 intro pins s σ H xs us Q I r h;obtain⟨d,kvs,rfl,hd,fI,q⟩:=h;obtain⟨u,rfl,gN⟩:=mR r;cases gN;obtain⟨z,lo,es,rel,o,ZA,ep,ay,aG,bT,eH,au⟩:=I.bw d _ hd;obtain⟨ao,b0⟩:=Pc rel;have Pd:mY s.heap d (es.map λx=>aj.ref x.2.1) ep:=⟨o,ZA,ay,aG,bT,by rw[eH,lP];rfl⟩;generalize (es.map λx=>aj.ref x.2.1)=aP at b0 Pd;generalize (es.map λx=>V.ref x.2.1)=a3 at ao b0;generalize vI:(kvs.map λp=>ah.tup p.1)=ds at ao fI q;have dO:=ao.hS I.bw b0;have li:aP.length=ds.length:=dO.length.symm;have um:=fI.ord.um;have aF:a3.length=aP.length:=b0.length;have y1:aP.length<=sizeLine:=hh (by lia) (show 1000<=sizeLine by decide);refine Bb E' E7 E8 (E9 _) ?z
 case z=>
  unfold b8.«sorted»;refine aH (m:=Ft "sorted" 1 1 _) (ba<|aH<|kdu_collect (A:=X.A.in1) (W2 lo) (I.ok.hd av) Pd y1 λh' tk acc q3 ox=>?_);have iZ:acc.toList=aP:=by
   apply EO
   ·rw[eT];exact ox.1
   ·intro i O U;have:=ox.2 i acc.toList[i] (by rw[<-gV];exact fg O);have this:aP[i]?=J acc.toList[i]:=this;rw[fg U]at this;exact (Option.some.inj this).symm
  rw[iZ];refine aH (Ay ?_ y1);have so:(h'.push<|hu "list" aP.toArray 0).get? h'.objs.size=J (hu "list" aP.toArray 0):=fw _ rfl;have b9:∀b o,s.heap.get? b=J o->(h'.push<|hu "list" aP.toArray 0).get? b=J o:=λb o e=>dc _ (q3 b o e);have bG:Inv X pins σ H {s with heap:=h',toks:=tk}:=I.kept q3;have y2:∀b o,s.heap.get? b=J o->b≠h'.objs.size:=λb o e=>eB (c8<|q3 b o e);refine aH (ki<|kh E5 ⟨_,so,rfl⟩ E4 ?y<|E6 _)
  case y=>
   refine HD (s:={s with heap:=h'.push (hu "list" aP.toArray 0),toks:=tk}) (p6 ds) (vq<|decide (∀d∈ds,mq d=af)) so
    (λU cU jB Q bk=>H8 (X:=X) (h:=cU) fI U (dO.wB λb o eG=>jB b o (y2 b o eG)<|b9 b o eG) _ _ Q bk)
    (λcU jB=>H7 (s:={s with heap:=cU,toks:=tk}) fI.ord (dO.wB λb o eG=>jB b o (y2 b o eG)<|b9 b o eG) fI.tup (λae=>gg ae) (by show X.A.units+1+1+9<c6;lia))
    (by rw[li];exact Dd fI.ord) (.inl (by lia)) (by lia) λp U a9 bF k2 ⟨ud,y3⟩=>⟨_,rfl,ba ⟨_,rfl,?_⟩⟩;have y4:H h'.objs.size=aa:=bG.bw.fresh (cp _);have HG:∀b o,h'.get? b=J o->b≠h'.objs.size:=λb o e=>eB (c8 e);rw[li]at a9 bF;refine⟨.ref h'.objs.size,upd H h'.objs.size<|.lst<|p.toList.map λi=>a3.getD i .bu,?_,rfl,q _ _ y4 ?_⟩
   ·refine bG.laid (t':=tk) (λb u e=>k2 b u (HG b u e)<|dc _ e) (cp _) ⟨?_,_,ud,?_,y3⟩
    ·rw[b3,eT,a9.size];lia
    ·refine C3 (by simp) λi v u O U=>?_;rw[gJ]at O U;cases oU:p.toList[i]? with
     |none=>rw[oU]at O;cases O
     |some k=>
      rw[oU]at O U;cases O;cases U;have aY:k<aP.length:=by rw[li];exact iK.mp (a9.mem_iff.mp<|iq oU)
      obtain⟨u,aL,aU⟩:=b0.get (i:=k) (x:=a3[k]'(by lia)) (by simp[show k<a3.length by lia]);rw[fg aY]at aL;have aL:=Option.some.inj aL;simp only[List.getD,fg aY,fg (show k<a3.length by lia),xw];rw[aL];exact aU
   ·rw[<-zg fI.ord (C2 a9) (H5 fI.ord a9 bF)];exact ao.pick λk aY=>iK.mp (a9.mem_iff.mp aY)
noncomputable def zi(ds:List ah):Bool:=decide (ds.length<=1000)&&ds.all (λa=>ds.all λb=>ka 6 a b)&&decide ds.Nodup&&(ds.all mq || ds.all uo)
theorem sx:zi ds=af↔mr ds:=by
 unfold zi;rw[dv,dv,dv,EW,pn,pn,mH,mH,mH];constructor
 ·rintro⟨⟨⟨O,U⟩,aL⟩,aU⟩;exact⟨⟨O,λa az b ae=>mH.mp (U a az) b ae,aL⟩,aU⟩
 ·rintro⟨⟨O,U,aL⟩,aU⟩;exact⟨⟨⟨O,λa az=>mH.mpr λb ae=>U a az b ae⟩,aL⟩,aU⟩
noncomputable def kI(ds:List ah):Option aC:=if zi ds=af then J (.lst<|j' cJ ds) else aa
noncomputable def ij:oQ:=λds=>match ds with
 |[.lst x]=>match y5 x with
  |some ns=>HI [.lst x]
  |none=>kI x
 |[.im (.tup x)]=>kI x
 |[.a8 kvs]=>kI (kvs.map λp=>.tup p.1)
 |_=>aa
theorem H9{d:aC}(h:kI ds=J d):mr ds/\d=.lst (j' cJ ds):=by
 unfold kI at h;split at h
 ·rename_i e;cases h;exact⟨sx.mp e,rfl⟩
 ·cases h
theorem Pe{H:aM}:∀{kvs:List (List ah×ah)}{fi:List (List ah×V)},hV H kvs fi->(kvs.map λp=>ah.tup p.1)=fi.map λp=>ah.tup p.1
 |_,_,.nil=>rfl
 |_,_,.cons r t=>by rw[dQ,dQ,Pe t,r.1]
theorem wC(av:X.calm=af)(bZ:X.A.units+20<c6):nO X (.builtin "sorted") ij:=by
 intro pins s σ H xs us Q I r ⟨ds,d,cN,e,q⟩;unfold ij at e;split at e
 ·rename_i x;split at e
  ·exact Y' av bZ pins s σ H xs us Q I r ⟨_,d,cN,e,q⟩
  ·obtain⟨fI,rfl⟩:=H9 e;obtain⟨v,rfl,_,p,a3,rfl,O,U,_⟩:=j7 cN;exact Pb av bZ pins s σ H _ us Q I r ⟨p,x,a3,rfl,.inl<|er.of O,U,fI,λl zs bf hz=>Out.l q bf hz⟩
 ·rename_i x;obtain⟨fI,rfl⟩:=H9 e;obtain⟨v,rfl,bb⟩:=j7 cN;obtain⟨p,a3,rfl,O,U⟩:=bb.i;exact Pb av bZ pins s σ H _ us Q I r ⟨p,x,a3,rfl,.inr<|dh.of O,U,fI,λl zs bf hz=>Out.l q bf hz⟩
 ·rename_i kvs;obtain⟨fI,rfl⟩:=H9 e;obtain⟨v,rfl,_,p,fi,rfl,O,U,_⟩:=j7 cN;rw[Pe U]at fI q;exact Zz av bZ pins s σ H _ us Q I r ⟨p,fi,rfl,O,fI,λl zs bf hz=>Out.l q bf hz⟩
 ·cases e
end
end L2
namespace PySem
open Sem (wp)
end PySem
namespace PySem
namespace F
end F
end PySem
namespace L2
open PySem PySem.Spec PyProof.Rows PySem.W
section
variable{X:a4}{pins:List (ar×bE)}{σ:L2.St}{H:aM}{s0:aA}
end
section
variable{X:a4}
noncomputable def ZB(tk qD:TE):TE:=λσ H Q=>∀p,H p=aa->tk σ (upd H p<|.a8 []) λx H1=>qD σ H1 λy a6=>∃b k,x=.ref b/\mO a6 k b/\a6 p=J (.a8 [])/\Q (.ref p) (upd a6 p<|.a8 [(k,y)])
variable{k v:bM}{pos:dk}
theorem ZC{tk qD:TE}(bZ:X.A.units+20<c6)(aY:cF X k tk)(bb:cF X v qD):cF X (.Dict [J k] [v] pos) (ZB tk qD):=by
 intro pins s σ H Q I q;have bo:=I.bw.fresh (cp s.heap.objs.size);have bG:=I.laid (a:=s.heap.objs.size) (o:=.a8 []) (h':=s.heap.push {cls:=.type "dict",data:=.dict #[]}) (t':=s.toks) (λ_ _ q=>dc _ q) (cp _) (MS s.heap I.big);refine wpAny_Dict_any rfl rfl (by simp) (by simp) ?_;refine pairTrees_cons_walk (cQ (aY pins _ σ _ _ bG<|q _ bo) λu s1 ⟨x,H1,dp,bU,bz⟩=>cQ (bb pins s1 σ H1 _ dp bz) λec s2 ⟨y,a6,f_,cu,b,c,ex,ae,aE,cR⟩=>pairTrees_nil_walk ?_);subst ex;cases bU;obtain⟨z,ZD,xs,kt,dd⟩:=Gm f_.bw aE;cases kt;unfold storeAll;rw[AW];refine aH (aH (wpAny_dictSet_heap (k:=c) (knd:=hN X.prog X.w) (show X.A.units+10<c6 by lia) (vM f_.bw ae) dd (λh' rR dC=>ba ?_)<|lR _));refine ba ⟨.ref s.heap.objs.size,_,?_,rfl,cR⟩;obtain⟨fP,es,ep,bk,U,aL,aU,_,c0⟩:=rR;refine Gq (s:=s2) f_ (by rw[aE];exact True.intro) dC ⟨fP,bk⟩ ⟨(show 1<=sizeLine by decide),ZD,_,KT.keeps (KT.put (kvs:=[]) (xs:=[]) .nil c (b:=b) ae cu) λDf a3 pK=>?_,fP,es,ep,bk,U,aL,aU,c0⟩;rw[eb (LV pK aE<|λz=>nomatch z)];exact pK
@[simp] noncomputable def Pf(kB wx:M aC):M aC:=λD=>(kB D).bind λp=>(wx p.2).bind λq=>match p.1,q.1 with
 |.im (.tup k),.im d=>if ah.keys 7 k=af then J (.a8 [(k,d)],q.2) else aa
 |_,_=>aa
theorem ZE{kB wx:M aC}(bZ:X.A.units+20<c6)(aY:dP X k kB)(bb:dP X v wx):dP X (.Dict [J k] [v] pos) (Pf kB wx):=by
 refine fV (ZC bZ aY bb) λσ H Q ⟨D,F,r,D',st,au,gD,q⟩ p aE=>?_;obtain⟨⟨cS,D1⟩,O,U⟩:=cv.mp gD;obtain⟨⟨cM,D2⟩,aL,aU⟩:=cv.mp U;have s:eg H (L2.upd H p<|.a8 []):=(eg.refl H).upd aE;have l8:p∉F:=λz=>by obtain⟨o,e,_⟩:=st.chg p z;rw[aE]at e;cases e
 refine⟨D,F,cS,D1,st.mono s.tupS λa _ o e=>s a o e,au,O,λx H1 F1 dr cb o1 s1=>?_⟩;have t4:=eA.mp s1.au;refine⟨D1,F1,cM,D2,cb,t4.1,aL,λy a6 bp cI b1 o2 s2=>?_⟩;dsimp only at aU;split at aU
 ·rename_i gO dd;split at aU
  ·rename_i ZF;cases aU;obtain⟨ee,rfl⟩:=o1;obtain⟨ec,rfl⟩:=o2;rw[c5]at s1 s2;have ui:=s1.seq s2;have qS:H1 p=J (.a8 []):=s1.keep p _ hy l8;have Pg:p∉F1:=λz=>by
    rcases s1.sub p z with h|h
    ·exact l8 h
    ·rw[hy]at h;cases h
   have mU:a6 p=J (.a8 []):=s2.keep p _ qS Pg;have Ph:p∉bp:=λz=>by
    rcases s2.sub p z with h|h
    ·exact Pg h
    ·rw[qS]at h;cases h
   obtain⟨b,xs,rfl,k1,k2⟩:=(show dR a6 (.tup gO) x from ee.mono s2.tup.tup);refine⟨b,gO,rfl,⟨ZF,b,xs,rfl,k1,k2⟩,mU,?_⟩;have lX:hW a6 (L2.upd a6 p<|.a8 [(gO,y)]):=hW.of (λa xs e=>by
    have:a≠p:=λz=>by subst z;rw[mU]at e;cases e
    rw[eb this];exact e) λa o u e=>by
    have:a≠p:=λz=>by subst z;rw[mU]at e;cases e
    rw[eb this];exact e
   refine q _ _ bp [p] (b1.mono lX λa az o e=>by
    have ne:a≠p:=λz=>by subst z;exact Ph az
    rw[eb ne];exact e) ⟨p,[(gO,y)],rfl,hy,.cons ⟨rfl,ec.mono lX.tup⟩ .nil,rfl⟩ ?_
   refine⟨λa o e az=>?_,λa az=>?_,?_,?_,λa o e=>?_⟩
   ·have:a≠p:=λz=>by subst z;rw[aE]at e;cases e
    rw[eb this];exact ui.keep a o (by rw[eb this];exact e) az
   ·rcases e3.mp az with h|h
    ·rcases ui.sub a h with h'|h'
     ·exact .inl h'
     ·by_cases e:a=p
      ·exact .inr (e ▸ aE)
      ·rw[eb e]at h';exact .inr h'
    ·exact .inr (by rw[c2.mp h];exact aE)
   ·exact eA.mpr ⟨s2.au,h4 _ _,λa az b ae e=>Ph (by rw[c2.mp ae]at e;rw[<-e];exact az)⟩
   ·exact (s.tupS.trans ui.tup).trans lX
   ·by_cases z:a=p
    ·exact⟨_,by rw[z];exact hy⟩
    ·obtain⟨cA,b7⟩:=ui.grow a o (by rw[eb z];exact e);exact⟨cA,by rw[eb z];exact b7⟩
  ·cases aU
 ·cases aU
end
section
variable{prog:cc}{w:bN}{A:cj}{E:aj->aA->Prop}{s:aA}
end
section
variable{prog:cc}{w:bN}{A:cj}{E:aj->aA->Prop}{s:aA}
end
section
open PySem.SeqAt
open PySem.AutoSeq1 (wpAny_loadPart')
open PySem.MeetsSeq PySem.MeetsSeq2 PySem.MeetsSeq3
end
section
variable{X:a4}
end
section
variable{prog:cc}{w:bN}{A:cj}{E:aj->aA->Prop}{s:aA}
end
section
variable{prog:cc}{w:bN}{A:cj}{E:aj->aA->Prop}{s:aA}
end
section
variable{X:a4}
end
section
variable{X:a4}
end
mutual
noncomputable def Dg:ah->xV
 |.int i=>.int i
 |.aR b=>.bool b
 |.str x=>.str x
 |.tup ds=>.tuple (zj ds)
 |_=>.none
noncomputable def zj:List ah->List xV
 |[]=>[]
 |d::r=>Dg d::zj r
end
mutual
theorem ZG{h:br}:∀{n:Nat}{d:ah}{u:aj},ah.bW n d=af->fN h d u->Reads h u (Dg d) []
 |_,.bu,u,_,e=>by cases (show u=.none from e);exact .none
 |_,.aR b,u,_,e=>by cases (show u=.bool b from e);exact .bool b
 |_,.int i,u,_,e=>by obtain⟨t,rfl⟩:=e;exact .int i t
 |_,.str x,u,_,e=>by obtain⟨t,rfl⟩:=e;exact .str x t
 |n+1,.tup ds,u,k,e=>by
  obtain⟨a,o,items,m,rfl,O,U,aL,aU⟩:=e;exact .tuple O U aL (ut (n:=n) k aU)
 |0,.tup ds,u,k,e=>by cases k
 |n,.fn a,u,k,e=>by cases n<;>cases k
 |n,.bf a,u,k,e=>by cases n<;>cases k
 |n,.fd,u,k,e=>by cases n<;>cases k
theorem ut{h:br}:∀{n:Nat}{ds:List ah}{us:List aj},ah.eC n ds=af->fh h ds us->ReadsAll h us (zj ds) []
 |_,[],us,_,e=>by rw[show us=[] from e];exact .nil
 |n,d::ds,us,k,e=>by
  obtain⟨v,r,rfl,O,U⟩:=e;rw[ah.eC,dv]at k;exact .cons (ZG k.1 O) (ut k.2 U)
end
mutual
theorem ZH:∀d:ah,xV.hasDict (Dg d)=aD
 |.bu=>rfl
 |.aR _=>rfl
 |.int _=>rfl
 |.str _=>rfl
 |.fn _=>rfl
 |.bf _=>rfl
 |.fd=>rfl
 |.tup ds=>Pj ds
theorem Pj:∀ds:List ah,xV.hasDictAll (zj ds)=aD
 |[]=>rfl
 |d::r=>by
  show (xV.hasDict (Dg d) || PyData.hasDictAll (zj r))=aD;rw[ZH d,Pj r];rfl
end
section
variable{X:a4}
end
section
variable{prog:cc}{w:bN}{A:cj}{E:aj->aA->Prop}{s:aA}
end
section
variable{X:a4}
end
end L2
namespace G
open PySem L2
variable{c b a:Int×Int}{ks:List (Int×Int)}{h:aC}{n:Nat}
noncomputable def ZI:b5:=(ap (fY (b9<|aT wj (ai<|aT bX (ax 0)<|ai<|aN<|.int 0)<|ai<|aN<|.int 0) (ap (dI 2<|aT h1 (ai<|aT bX (ax 0)<|ai<|aN<|.int 0)<|ax 1)<|ap (iA (aT t6 (ai<|aT bX (ax 0)<|ai<|aN<|.int 0)<|ax 1)<|nT 0 (aN<|.int 0) q2)<|d4<|g_ 2) hb)<|ap (iA (aT eK (ai<|aT bX (ax 0)<|ai<|aN<|.int 2)<|ai<|aN<|.int 1)<|nT 0 (aN<|.int 2) q2)<|ap (dI 3<|aT h1 (ai<|aT gf (ai<|aT eK (ai<|aT bX (ax 0)<|ai<|aN<|.int 1)<|ai<|aT gf (ai<|aT bX (ax 0)<|ai<|aN<|.int 2)<|ai<|aN<|.int 104729)<|ai<|aN<|.int 48271)<|ai<|aN<|.int 2305843009213693951)<|ap (iA (aT h1 (ai<|aT gf (ax 3)<|ai<|aT eK (ai<|aT h1 (ax 3)<|ai<|aN<|.int 1009)<|ai<|aN<|.int 69621)<|ai<|aN<|.int 2305843009213693951)<|nT 0 (aN<|.int 1) q2)<|d4<|aT h1 (ai<|aT t6 (ai<|aT bX (ax 0)<|ai<|aN<|.int 1)<|ai<|aN<|.int 1000003)<|ax 1)
noncomputable def zk:d_:=eR 2 4 [0,1] ZI
noncomputable def ZJ:b5:=(d4<|hY<|aB (ai<|d9<|aB (ai<|aT p1 (ai<|aT bX (ax 0)<|ai<|aN<|.int 0)<|ai<|aN<|.int 1)<|aB (ai<|aT bX (ax 0)<|ai<|aN<|.int 1) aW)<|aB (ai<|d9<|aB (ai<|aT bX (ax 0)<|ai<|aN<|.int 0)<|aB (ai<|aT p1 (ai<|aT bX (ax 0)<|ai<|aN<|.int 1)<|ai<|aN<|.int 1) aW)<|aB (ai<|d9<|aB (ai<|aT bX (ax 0)<|ai<|aN<|.int 0)<|aB (ai<|aT eK (ai<|aT bX (ax 0)<|ai<|aN<|.int 1)<|ai<|aN<|.int 1) aW)<|aB (ai<|d9<|aB (ai<|aT eK (ai<|aT bX (ax 0)<|ai<|aN<|.int 0)<|ai<|aN<|.int 1)<|aB (ai<|aT bX (ax 0)<|ai<|aN<|.int 1) aW) aW)
noncomputable def ZK:d_:=eR 1 1 [0] ZJ
noncomputable def ZL:b5:=(ap (dI 4<|aT bX (ai<|am 1 G.ZK<|aB (ai<|aT bX (ax 2)<|ai<|am 2 G.zk<|aB (ax 0)<|aB (ai<|cV f3<|aB (ax 2) aW) aW) aW)<|ai<|am 2 G.zk<|aB (ax 0)<|aB (ai<|aN<|.int 4) aW)<|fY (fX (b9<|aT oY (ax 4)<|ax 2)<|fX (b9<|je gS gS (ai<|aN<|.int 0) (ai<|aT bX (ax 4)<|ai<|aN<|.int 0)<|ai<|aN<|.int 24)<|b9<|je gS gS (ai<|aN<|.int 0) (ai<|aT bX (ax 4)<|ai<|aN<|.int 1)<|ai<|aN<|.int 24) (mh<|lG p3 2 oR<|aB (ax 4) aW) hb)
noncomputable def ZM:b5:=(ap (dI 2<|hY<|aB (ai<|d9<|aB (ai<|aN<|.int 12)<|aB (ai<|aN<|.int 12) aW) aW)<|ap (kD (se<|aB (ai<|am 2 G.zk<|aB (ax 0)<|aB (ax 1) aW) aW) (b_ 3) G.ZL)<|d4<|g_ 2)
noncomputable def ZN:d_:=eR 2 5 [0,1] ZM
noncomputable def ZO:b5:=(mh<|lG p3 5 YY<|aB (ai<|am 2 G.zk<|aB (ax 0)<|aB (ai<|cV f3<|aB (ax 5) aW) aW) aW)
noncomputable def ZP:M aC:=(g_ 0)
noncomputable def BT:M Bool:=(b9<|aT vEq (ai<|aT gf (ai<|aT h1 (ai<|aT bX (ax 0)<|ai<|aN<|.int 0)<|ai<|aN<|.int 2)<|ai<|aT h1 (ai<|aT h1 (ai<|aT bX (ax 0)<|ai<|aN<|.int 1)<|ai<|aN<|.int 3)<|ai<|aN<|.int 2)<|ai<|aN<|.int 0)
noncomputable abbrev a5(i:Int):aC:=.im (.int i)
noncomputable def aI(p:Int×Int):ah:=.tup [.int p.1,.int p.2]
noncomputable abbrev bD(ps:List (Int×Int)):aC:=.im (.tup<|ps.map aI)
noncomputable abbrev bJ(ps:List (Int×Int)):aC:=.lst (ps.map aI)
noncomputable abbrev lf(d s t:Int):aC:=.lst [.int d,.int s,.int t]
noncomputable def mu(n:Nat)(h:aC):Prop:=∃d s t,h=lf d s t/\0<=d/\0<=s/\s<2^62/\0<=t/\t+n<2^40
theorem mu.mono{m:Nat}(x:mu n h)(e:m<=n):mu m h:=by
 obtain⟨d,s,t,rfl,O,U,aL,aU,c0⟩:=x;exact⟨d,s,t,rfl,O,U,aL,aU,by lia⟩
theorem mu.lst(x:mu n h):∃q,h=.lst q:=by
 obtain⟨d,s,t,rfl,_⟩:=x;exact⟨_,rfl⟩
noncomputable def ft(p:Int×Int):List ah:=[.int p.1,.int p.2]
theorem Pk(p:Int×Int):aI p=.tup (ft p):=rfl
theorem zl(h:ft a=ft b):a=b:=by
 unfold ft at h;simp at h;exact nx h.1 h.2
theorem H'(h:aI a=aI b):a=b:=by
 rw[Pk,Pk]at h;exact zl (by injection h)
theorem ZQ(p:Int×Int):ah.keys 7 (ft p)=af:=rfl
noncomputable def uq:ah->Int×Int
 |.tup [.int a,.int b]=>(a,b)
 |_=>(0,0)
theorem Pl(p:Int×Int):uq (aI p)=p:=rfl
theorem Dh(p:Int×Int):ah.bW 8 (aI p)=af:=rfl
theorem Pm:∀ps:List (Int×Int),ah.eC 8 (ps.map aI)=af
 |[]=>rfl
 |p::r=>by rw[dQ,ah.eC,Dh,Pm r];rfl
theorem wD(a b:Int×Int):dy (aI a) (aI b)=decide (a=b):=by
 show ((a.1==b.1)&&((a.2==b.2)&&af))=_;obtain⟨a1,a2⟩:=a;obtain⟨cO,d1⟩:=b;by_cases O:a1=cO<;>by_cases U:a2=d1<;>simp[O,U]
theorem ZR(ps:List (Int×Int))(c:Int×Int):((ps.map aI).any λx=>dy x<|aI c)=decide (c∈ps):=by
 rw[ES,A1,u_,pn];constructor
 ·rintro⟨x,ag,e⟩;have:decide (x=c)=af:=by rw[<-wD];exact e
  rw[<-gg this];exact ag
 ·intro h;refine⟨c,h,?_⟩;show dy (aI c) (aI c)=af;rw[wD];exact eL rfl
theorem Pn:∀(l:List ah) (ks:List (Int×Int)),(∀x∈l,x∈ks.map aI)->l=(l.map uq).map aI
 |[],_,_=>rfl
 |x::l,ks,h=>by
  obtain⟨p,_,e⟩:=e0.mp (h x<|.head _);rw[dQ,dQ,<-Pn l ks λy aw=>h y<|.tail _ aw,<-e,Pl]
theorem Po{l:List ah}(h:l.Perm (ks.map aI)):∃ms:List (Int×Int),ms.Perm ks/\l=ms.map aI:=by
 refine⟨l.map uq,?_,Pn l ks λx ag=>h.mem_iff.mp ag⟩;have:=A8 uq h;rw[lP]at this;have e:(uq ∘ aI:Int×Int->Int×Int)=id:=funext Pl;rw[e,ET]at this;exact this
theorem H_(au:ks.Nodup)(aF:ks.length<=1000):mr (ks.map aI):=by
 refine⟨⟨by rw[b3];exact aF,λa az b ae=>?_,?_⟩,.inl λd hd=>?_⟩
 ·obtain⟨x,_,rfl⟩:=e0.mp az;obtain⟨y,_,rfl⟩:=e0.mp ae;rfl
 ·exact LF aI (λa b n e=>n<|H' e) au
 ·obtain⟨x,_,rfl⟩:=e0.mp hd;rfl
theorem ZS{kvs:List (List ah×ah)}{k:List ah}:(gT kvs k).isSome=kvs.any λp=>decide (p.1=k):=by
 unfold gT;rw[AE,List.isSome_find?]
noncomputable def mt(ks:List (Int×Int)):List (List ah×ah):=ks.map λc=>(ft c,.aR af)
theorem Ia(ks:List (Int×Int))(c:Int×Int):((mt ks).any λp=>decide (p.1=ft c))=decide (c∈ks):=by
 unfold mt;rw[ES,A1,u_,pn];constructor
 ·rintro⟨x,ag,e⟩;have:ft x=ft c:=gg e;rw[<-zl this];exact ag
 ·intro h;exact⟨c,h,eL rfl⟩
theorem ZT(ks:List (Int×Int))(c:Int×Int):(gT (mt ks)<|ft c).isSome=decide (c∈ks):=by rw[ZS,Ia]
theorem ZU(h:c∉ks):mn (mt ks) (ft c) (.aR af)=mt (ks++[c]):=by
 unfold mn;rw[aZ (by rw[Ia];simpa using h)];unfold mt;rw[jl];rfl
theorem ZV{α:Type}{ws:List α}(h:ws≠[]):∃gh w,ws=gh++[w]:=⟨ws.dropLast,ws.getLast h,(List.dropLast_concat_getLast h).symm⟩
theorem ZW(p:Int×Int):gZ [ah.int p.1,.int p.2] 0=J (.int p.1):=rfl
theorem ZX(p:Int×Int):gZ [ah.int p.1,.int p.2] 1=J (.int p.2):=rfl
theorem atC{cs:List (Int×Int)}{i:Int}(h0:0<=i)(h:cs[i.toNat]?=J c):gZ (cs.map aI) i=J (aI c):=HR h0 (by rw[gJ,h];rfl)
theorem Ib(ps:List (Int×Int))(c:Int×Int):jd (aI c) (bJ ps)=J (decide (c∈ps)):=by
 rw[Zo,Dh,Pm,ZR];rfl
noncomputable def mid:b5:=(fY (ic (b9<|aT vEq (ax 2)<|ai<|aN<|.int 1)<|b9<|aT vEq (ax 2)<|ai<|aN<|.int 2) (kD (se<|aB (ai<|am 2 G.zk<|aB (ax 0)<|aB (ai<|aT eK (ai<|aN<|.int 1)<|ai<|aT t6 (ai<|cV f3<|aB (ax 5) aW)<|ai<|aN<|.int 2) aW) aW) (b_ 6) G.ZO)<|fY (b9<|aT vEq (ax 2)<|ai<|aN<|.int 3) (dI 5<|eJ 1 [] (eQ<|ax 5) (b_ 0) G.BT G.ZP)<|fY (b9<|aT wj (ax 2)<|ai<|aN<|.int 3) (dI 5<|am 2 G.ZN<|aB (ax 0)<|aB (ax 1) aW) hb)
noncomputable abbrev cD:=(Int×Int)×(Int×Int)
noncomputable def gF(e:cD):List ah:=[aI e.1,aI e.2]
theorem Ic{a b:cD}(h:gF a=gF b):a=b:=by
 unfold gF at h;injection h with O U;injection U with U _;exact nx (H' O) (H' U)
noncomputable def ZY(a b:Int×Int):cD:=(if cJ (aI b) (aI a)=af then b else a,if cJ (aI a) (aI b)=af then b else a)
noncomputable def bump:List (cD×Int)->cD->List (cD×Int)
 |[],e=>[(e,1)]
 | (f,n)::r,e=>if f=e then (f,n+1)::r else (f,n)::bump r e
noncomputable def cnt(L:List (cD×Int))(ps:List cD):List (cD×Int):=ps.foldl (λL p=>bump L<|ZY p.1 p.2) L
end G
namespace L2
open PySem PySem.Spec PyProof.Rows PySem.W
section
variable{X:a4}
end
section
variable{X:a4}{kt:List (ar×List ah)}{HC:List (ar×List (List ah×ar))}
end
variable{K:PySem.W.Frag}{P:cc}{w:bN}
end L2
namespace L2
open PySem PySem.Spec PyProof.Rows PySem.W
variable{i:Nat}
noncomputable def ur(D:bq)(i:Nat)(ds:List ah):Bool:=match D[i]? with
 |some (J<|.lst y)=>decide (y=ds)
 |_=>aD
noncomputable def p7(i:Nat)(ds:List ah)(tg:hE)(b:b5):List ah->b5
 |[]=>λD=>if ur D i ds=af then J (.bC,D) else aa
 |x::r=>λD=>if ur D i ds=af then (tg (.im x) D).bind λD1=>(b D1).bind λq=>match q.1 with
  |.bC=>p7 i ds tg b r q.2
  |.dA=>p7 i ds tg b r q.2
  |.eF=>J (.bC,q.2)
  |.fQ d=>J (.fQ d,q.2) else aa
noncomputable def Id(i:Nat)(tg:hE)(b:b5):b5:=λD=>match D[i]? with
 |some (J<|.lst ds)=>p7 i ds tg b ds D
 |_=>aa
theorem Pp{D:bq}{ds:List ah}(h:ur D i ds=af):D[i]?=J (J<|.lst ds):=by
 unfold ur at h;split at h
 ·rename_i y e;rw[e,gg h]
 ·cases h
section
variable{X:a4}
theorem ZZ{fix fx:List Nat}{tg iter:bM}{body:List cg}{gt:hE}{c4:b5}{pos:dk}(aE:vk (a' X.prog X.w) X.A X.env X.dw)(av:X.calm=af)(ao:gp X iter (ax i))(aJ:pU X fx tg gt)(ae:j4 X fx body c4)(hf:∀i∈fix,i∈fx)(aq:i∈fx)(Hk:∀x,rD iter X.env x=pure x:=by intro _;rfl):i_ X fix (.For tg iter body [] pos) (Id i gt c4):=by
 refine oJ (Mn aE av (NY ao) aJ ae Hk) λE σ H ⟨D,F,f,D2,st,au,gD,q⟩=>?_;unfold Id at gD;split at gD
 ·rename_i ds dV;refine⟨D,F,.bK i,D,st,au,by unfold ax;rw[dV],λv H1 F1 R cb o1 s1=>?_⟩;obtain⟨o1,rfl⟩:=o1;rw[c5]at s1;have at_:∀{ak:aM}{hp:bq}{bc:St}{bB:List ar},b2 ak hp bc bB->bc[i]?=J (J v)->hp[i]?=J (J<|.lst ds)->∃a xs,v=.ref a/\ak a=J (.lst xs)/\cq ak ds xs:=λaK ay aG=>by
   obtain⟨jm,qT,qU,g1,g2,_⟩:=aK.out aG;rw[ay]at g1;cases g1;obtain⟨a,xs,e,O,U,_⟩:=g2;exact⟨a,xs,e,O,U⟩
  obtain⟨a,xs,rfl,O,U⟩:=at_ cb o1 dV;refine⟨a,rfl,.inl ⟨⟨xs,er.of O⟩,?_⟩⟩;have wc:∀{eW:St},d3 fx σ eW->d3 fix σ eW:=λf=>⟨f.1,λi ao=>f.2 i<|hf i ao⟩;refine⟨λj m bc ak=>m+j=ds.length/\∃hp bB,d3 fx σ bc/\b2 ak hp bc bB/\bR H F ak bB/\p7 i ds gt c4 (ds.drop j) hp=J (f,D2),⟨ds.length,rfl,D,F1,d3.refl,cb,s1,gD⟩,?_⟩;rintro j m bc ak ⟨hm,hp,bB,m8,aK,s',hw⟩;by_cases gy:j<ds.length
  ·rw[qj gy,p7]at hw;dsimp only at hw;split at hw
   ·rename_i aF;obtain⟨vt,Z0,e,k1,k2⟩:=at_ aK ((m8.2 i aq).trans o1) (Pp aF);cases e;obtain⟨yN,aw⟩:=(Hl (K:=X.K) k1 k2).go ak (hW.of (λ_ _ e=>e)<|λ_ _ _ e=>e) (λ_ _ _ e=>e) j ds[j] (by simp[gy]);obtain⟨da,ee,ec⟩:=cv.mp hw;obtain⟨⟨f2,hG⟩,gk,iB⟩:=cv.mp ec;refine .inr ⟨yN,λeW a6=>(m-1)+(j+1)=ds.length/\∃hp bB,d3 fx σ eW/\b2 a6 hp eW bB/\bR H F a6 bB/\p7 i ds gt c4 (ds.drop<|j+1) hp=J (f,D2),λeW a6 h=>⟨m-1,by lia,h⟩,λx a6 ag=>?_⟩;obtain⟨g5,yO⟩:=aw x a6 ag;have b1:=aK.mono g5.tupS λa _ o e=>g5 a o e;have s2:=s'.same g5;refine⟨hp,bB,.im ds[j],[],da,b1,⟨yO,rfl⟩,by rw[c5];exact s2.au,ee,λjS cY gC mi fS qY=>?_⟩;have s3:bR H F cY gC:=s2.seq (by rw[c5]at qY;exact qY);refine⟨da,gC,f2,hG,fS,s3.au,gk,?_⟩;cases f2 with
    |bC=>exact λpY fF gR lB fA s4=>⟨by lia,hG,gR,(m8.trans mi).trans lB,fA,s3.seq s4,iB⟩
    |dA=>exact λpY fF gR lB fA s4=>⟨by lia,hG,gR,(m8.trans mi).trans lB,fA,s3.seq s4,iB⟩
    |eF=>
     cases iB;exact λpY fF gR lB fA s4=>q pY fF gR (wc<|(m8.trans mi).trans lB) fA (s3.seq s4)
    |fQ d=>
     cases iB;exact λv pY fF gR pT lB fA Hj s4=>q v pY fF gR pT (wc<|(m8.trans mi).trans lB) fA Hj (s3.seq s4)
   ·cases hw
  ·have bx:j=ds.length:=by lia
   subst bx;rw[u5 (cp _),p7]at hw;dsimp only at hw;split at hw
   ·rename_i aF;cases hw;obtain⟨vt,Z0,e,k1,k2⟩:=at_ aK ((m8.2 i aq).trans o1) (Pp aF);cases e;exact .inl ⟨(Hl (K:=X.K) k1 k2).stop ak (hW.of (λ_ _ e=>e)<|λ_ _ _ e=>e)<|λ_ _ _ e=>e,q bc ak bB (wc m8) aK s'⟩
   ·cases hw
 ·cases gD
end
end L2
namespace G
open PySem L2
noncomputable def Pq:b5:=(d4<|d9<|aB (ai<|aT p1 (ai<|aT bX (ax 1)<|ai<|aN<|.int 0)<|ai<|aT h1 (ai<|aT p1 (ai<|aT bX (ax 1)<|ai<|aN<|.int 0)<|ai<|aT bX (ai<|aT bX (ax 0)<|ai<|aN<|.int 0)<|ai<|aN<|.int 0)<|ai<|aN<|.int 2)<|aB (ai<|aT p1 (ai<|aT bX (ax 1)<|ai<|aN<|.int 1)<|ai<|aT h1 (ai<|aT p1 (ai<|aT bX (ax 1)<|ai<|aN<|.int 1)<|ai<|aT bX (ai<|aT bX (ax 0)<|ai<|aN<|.int 0)<|ai<|aN<|.int 1)<|ai<|aN<|.int 2) aW)
noncomputable def wF:d_:=eR 2 2 [0,1] Pq
noncomputable def Ie:b5:=(ap (fY (b9<|aT sg (ax 1)<|ai<|cV f3<|aB (ax 0) aW) (d4<|aT bX (ax 0)<|ax 1) hb)<|d4<|aN<|.int 0)
noncomputable def wG:d_:=eR 2 2 [0,1] Ie
noncomputable def Pr:b5:=(ap (dI 2<|am 2 G.wG<|aB (ax 0)<|aB (ax 1) aW)<|ap (dI 3<|aT gf (ai<|aT gf (ai<|aT sf (ai<|aN<|.int 10)<|ai<|aN<|.int 60)<|ai<|aT sf (ai<|aN<|.int 10)<|ai<|aN<|.int 60)<|ai<|aT sf (ai<|aN<|.int 10)<|ai<|aN<|.int 60)<|ap (dI 4<|aT h1 (ai<|aT gf (ai<|aT eK (ai<|aT eK (ai<|aT h1 (ax 2)<|ai<|aN<|.int 2147483629)<|ai<|aT gf (ai<|aT gf (ai<|aN<|.int 7919)<|ax 1)<|ax 1)<|ai<|aN<|.int 11)<|ai<|aN<|.int 48271)<|ai<|aN<|.int 2147483647)<|d4<|hY<|aB (ai<|aT gf (ai<|aT h1 (ax 2)<|ax 3)<|ai<|cV vInt<|aB (ai<|aT Og (ax 2)<|ai<|aT sf (ai<|aN<|.int 10)<|ai<|aN<|.int 18) aW)<|aB (ax 4)<|aB (ai<|aN<|.int 0) aW)
noncomputable def zm:d_:=eR 2 5 [0,1] Pr
noncomputable def pc:b5:=(ap (fY (b9<|aT wj (ai<|aT bX (ax 0)<|ai<|aN<|.int 0)<|ai<|aN<|.int 0) (ap (dI 2<|aT h1 (ai<|aT bX (ax 0)<|ai<|aN<|.int 0)<|ax 1)<|ap (iA (aT t6 (ai<|aT bX (ax 0)<|ai<|aN<|.int 0)<|ax 1)<|nT 0 (aN<|.int 0) q2)<|d4<|g_ 2) hb)<|ap (iA (aT eK (ai<|aT bX (ax 0)<|ai<|aN<|.int 2)<|ai<|aN<|.int 1)<|nT 0 (aN<|.int 2) q2)<|ap (iA (aT h1 (ai<|aT eK (ai<|aT eK (ai<|aT gf (ai<|aT bX (ax 0)<|ai<|aN<|.int 1)<|ai<|aN<|.int 48271)<|ai<|aN<|.int 12345)<|ai<|aT gf (ai<|aN<|.int 7919)<|ai<|aT bX (ax 0)<|ai<|aN<|.int 2)<|ai<|aN<|.int 2147483647)<|nT 0 (aN<|.int 1) q2)<|d4<|aT h1 (ai<|aT t6 (ai<|aT h1 (ai<|aT gf (ai<|aT bX (ax 0)<|ai<|aN<|.int 1)<|ai<|aT bX (ax 0)<|ai<|aN<|.int 1)<|ai<|aN<|.int 1999999973)<|ai<|aN<|.int 31)<|ax 1)
noncomputable def jh:d_:=eR 2 3 [0,1] pc
noncomputable def Di(rec:d_):M aC:=(am 2 rec<|aB (ax 0)<|aB (ax 1) aW)
noncomputable def Dj(rec:d_):b5:=(ap (fY (f5<|ai<|lF "tuple"<|ax 1) (ap (fY (ic (fW<|f5<|ai<|lF "tuple"<|ax 0)<|b9<|aT lE (ai<|cV f3<|aB (ax 0) aW)<|ai<|cV f3<|aB (ax 1) aW) (d4<|aN<|.aR aD) hb)<|d4<|cV nd<|aB (ai<|eJ 2 [] (p4<|aB (ax 0)<|aB (ax 1) aW) (hF 2<|ew (b_ 0)<|ew (b_ 1) hZ) gE<|G.Di rec) aW) hb)<|ap (fY (f5<|ai<|lF "str"<|ax 1) (d4<|hX<|fX (b9<|lF "str"<|ax 0)<|b9<|aT vEq (ax 0)<|ax 1) hb)<|d4<|hX<|fX (b9<|lF "int"<|ax 0)<|fX (b9<|hX<|fW<|b9<|lF "bool"<|ax 0)<|b9<|aT vEq (ax 0)<|ax 1)
noncomputable def iF:Nat->d_
 |0=>λ_=>aa
 |k+1=>eR 2 2 [0,1] (Dj<|iF k)
noncomputable def Dk:b5:=(ap (iA (aT bX (ax 2)<|ai<|am 2 G.jh<|aB (ax 0)<|aB (ai<|cV f3<|aB (ax 2) aW) aW)<|hF 2<|ew (b_ 4)<|ew (b_ 5) hZ)<|ap (fY (b9<|aT vEq (ai<|am 2 G.jh<|aB (ax 0)<|aB (ai<|aN<|.int 3) aW)<|ai<|aN<|.int 0) (iA (aT bX (ax 2)<|ai<|oO<|aN<|.int 1)<|hF 2<|ew (b_ 4)<|ew (b_ 5) hZ) hb)<|ap (iA (aT bX (ai<|hY<|aB (ai<|d9<|aB (ai<|aN<|.int 0)<|aB (ai<|aN<|.int 2) aW)<|aB (ai<|d9<|aB (ai<|aN<|.int 2)<|aB (ai<|aN<|.int 0) aW)<|aB (ai<|d9<|aB (ai<|aN<|.int 0)<|aB (ai<|oO<|aN<|.int 2) aW)<|aB (ai<|d9<|aB (ai<|oO<|aN<|.int 2)<|aB (ai<|aN<|.int 0) aW) aW)<|ai<|am 2 G.jh<|aB (ax 0)<|aB (ai<|aN<|.int 4) aW)<|hF 2<|ew (b_ 6)<|ew (b_ 7) hZ)<|ap (dI 8<|d9<|aB (ai<|aT eK (ax 4)<|ax 6)<|aB (ai<|aT eK (ax 5)<|ax 7) aW)<|fY (fX (b9<|aT oY (ax 8)<|ax 2)<|fX (b9<|aT sg (ai<|cV f3<|aB (ax 2) aW)<|ax 1)<|fX (b9<|je gS gS (ai<|aN<|.int 0) (ai<|aT bX (ax 8)<|ai<|aN<|.int 0)<|ai<|aN<|.int 29)<|b9<|je gS gS (ai<|aN<|.int 0) (ai<|aT bX (ax 8)<|ai<|aN<|.int 1)<|ai<|aN<|.int 29) (mh<|lG p3 2 oR<|aB (ax 8) aW) hb)
noncomputable def Ps:b5:=(ap (dI 1<|aT eK (ai<|aN<|.int 1)<|ai<|am 2 G.jh<|aB (ax 0)<|aB (ai<|aT bX (ai<|hY<|aB (ai<|aN<|.int 3)<|aB (ai<|aN<|.int 8)<|aB (ai<|aN<|.int 14)<|aB (ai<|aN<|.int 40) aW)<|ai<|am 2 G.jh<|aB (ax 0)<|aB (ai<|aN<|.int 4) aW) aW)<|ap (dI 2<|hY<|aB (ai<|d9<|aB (ai<|am 2 G.jh<|aB (ax 0)<|aB (ai<|aN<|.int 30) aW)<|aB (ai<|am 2 G.jh<|aB (ax 0)<|aB (ai<|aN<|.int 30) aW) aW) aW)<|ap (kD (se<|aB (ai<|aT gf (ai<|aN<|.int 3)<|ax 1) aW) (b_ 3) G.Dk)<|d4<|cV ij<|aB (ax 2) aW)
noncomputable def zo:d_:=eR 1 9 [0] Ps
noncomputable def Pt:b5:=(ap (iA (g_ 0)<|hF 2<|ew (b_ 1)<|ew (b_ 2) hZ)<|d4<|hY<|aB (ai<|d9<|aB (ax 1)<|aB (ax 2) aW)<|aB (ai<|d9<|aB (ax 1)<|aB (ai<|aT eK (ax 2)<|ai<|aN<|.int 1) aW)<|aB (ai<|d9<|aB (ai<|aT eK (ax 1)<|ai<|aN<|.int 1)<|aB (ai<|aT eK (ax 2)<|ai<|aN<|.int 1) aW)<|aB (ai<|d9<|aB (ai<|aT eK (ax 1)<|ai<|aN<|.int 1)<|aB (ax 2) aW) aW)
noncomputable def zp:d_:=eR 1 3 [0] Pt
noncomputable def Dl:b5:=(mh<|lG p3 1 sl<|aB (ai<|am 1 G.zp<|aB (ax 2) aW) aW)
noncomputable def Pu:b5:=(ap (dI 1<|hY aW)<|ap (kD (eQ<|ax 0) (b_ 2) G.Dl)<|d4<|cV nR<|aB (ai<|cV ij<|aB (ax 1) aW) aW)
noncomputable def zq:d_:=eR 1 3 [0] Pu
noncomputable def Pv:M aC:=(d9<|aB (ai<|d9<|aB (ax 2)<|aB (ax 3) aW)<|aB (ax 0) aW)
noncomputable def Pw:M Bool:=(b9<|aT oX (ax 0)<|ax 1)
noncomputable def zr:b5:=(mh<|lG p3 1 sl<|aB (ai<|eJ 1 [0,2,3] (eQ<|ai<|hY<|aB (ai<|d9<|aB (ax 2)<|aB (ai<|aT eK (ax 3)<|ai<|aN<|.int 2) aW)<|aB (ai<|d9<|aB (ai<|aT eK (ax 2)<|ai<|aN<|.int 2)<|aB (ax 3) aW) aW) (b_ 0) G.Pw G.Pv) aW)
noncomputable def Px:b5:=(ap (dI 1<|hY aW)<|ap (Id 0 (hF 2<|ew (b_ 2)<|ew (b_ 3) hZ) G.zr)<|d4<|cV ij<|aB (ax 1) aW)
noncomputable def wH:d_:=eR 1 4 [0] Px
end G
namespace L2
open PySem PySem.Spec PyProof.Rows PySem.W
noncomputable def Py:aC->aC
 |.im (.bf x)=>.e2 x
 |d=>d
@[simp] theorem ag8(x:List ah):Py (.im<|.bf x)=.e2 x:=rfl
@[simp] theorem ag9(x:List ah):Py (.im<|.tup x)=.im (.tup x):=rfl
section
variable{X:a4}
end
end L2
namespace L2
open PySem
section
variable{D D1 D2:bq}
variable{d:aC}
theorem bh{g:M aC}(h:g D=J (d,D1)):ai g D=J (.dE d,D1):=by unfold ai;rw[h];rfl
variable{x:cH}
theorem cB{g:M cH}{h:M (List cH)}{xs:List cH}(ay:g D=J (x,D1))(aG:h D1=J (xs,D2)):aB g h D=J (x::xs,D2):=by unfold aB;rw[ay];show (h D1).map _=_;rw[aG];rfl
variable{cS cM:aC}
theorem bL{op:aC->aC->Option aC}{ga c4:M cH}{y:cH}(ay:ga D=J (x,D1))(aG:c4 D1=J (y,D2))(bT:e' D2 x=J cS)(eH:e' D2 y=J cM)(ia:op cS cM=J d):aT op ga c4 D=J (d,D2):=by
 unfold aT;rw[ay];show (c4 D1).bind _=_;rw[aG];show (e' D2 x).bind _=_;rw[bT];show (e' D2 y).bind _=_;rw[eH];show (op cS cM).map _=_;rw[ia];rfl
variable{g:M (List cH)}{n:Nat}{os:List cH}{ds outs:List aC}
theorem oZ{G:d_}{r:aC}(ay:g D=J (os,D1))(fj:os.length=n)(aG:gB os D1=J (ds,D2))(bT:G ds=J (r,outs)):am n G g D=J (r,m6 os outs D2):=by
 unfold am;rw[ay];show (if os.length=n then _ else _)=_;rw[aV fj];show (gB os D1).bind _=_;rw[aG];show (G ds).map _=_;rw[bT];rfl
theorem e_{op:List aC->Option aC}(ay:g D=J (os,D1))(aG:j2 D1 os=J ds)(bT:op ds=J d):cV op g D=J (d,D1):=by
 unfold cV;rw[ay];show (j2 D1 os).bind _=_;rw[aG];show (op ds).map _=_;rw[bT];rfl
variable{b:Bool}
theorem fu{g:M aC}(e:g D=J (.im<|.aR b,D1)):b9 g D=J (b,D1):=by unfold b9;rw[e];rfl
theorem Pz{g:M Bool}(e:g D=J (b,D1)):fW g D=J (!b,D1):=by unfold fW;rw[e];rfl
theorem kb{g:M cH}(e:g D=J (x,D1))(aG:e' D1 x=J d)(bT:yY d=J b):f5 g D=J (b,D1):=by
 unfold f5;rw[e];show (e' D1 x).bind _=_;rw[aG];show (yY d).map _=_;rw[bT];rfl
theorem o9{g:M aC}{h:hE}(e:g D=J (d,D1))(aG:h d D1=J D2):iA g h D=J (.bC,D2):=by unfold iA;rw[e];show (h d D1).map _=_;rw[aG];rfl
theorem wI{g:M aC}(e:g D=J (d,D1)):mh g D=J (.bC,D1):=by unfold mh;rw[e];rfl
variable{da:bq}
theorem uu{ty:aC->Bool}{i:Nat}{mt:aC->List aC->Option (aC×aC)}{kG c r c':aC}(fj:D[i]?=J (J kG))(ay:ty kG=af)(aG:g D=J (os,D1))(bT:gB os D1=J (ds,D2))(eH:D2[i]?=J (J c))(ia:mt c ds=J (r,c'))(k:D2.set i (J c')=da):lG ty i mt g D=J (r,da):=by
 subst k;unfold lG;rw[fj];show (if ty kG=af then _ else _)=_;rw[aV ay,aG];show (gB os D1).bind _=_;rw[bT];show (match D2[i]? with|some (J c)=>_|_=>aa)=_;rw[eH];show (mt c ds).map _=_;rw[ia];rfl
theorem zt(ay:g D=J (os,D1))(aG:gB os D1=J (ds,D2))(bT:ds.length<=100000)(k:CE ds=d):d9 g D=J (d,D2):=by
 unfold d9;rw[ay];show (gB os D1).bind _=_;rw[aG];show (if _ then _ else _)=_;rw[aV bT,k]
theorem Dm(ay:g D=J (os,D1))(aG:gB os D1=J (ds,D2))(bT:ds.length<=100000)(k:CF ds=d):hY g D=J (d,D2):=by
 unfold hY;rw[ay];show (gB os D1).bind _=_;rw[aG];show (if _ then _ else _)=_;rw[aV bT,k]
variable{i:Int}
theorem Z1{g:M aC}(e:g D=J (.im<|.int i,D1)):oO g D=J (.im<|.int<|-i,D1):=by unfold oO;rw[e];rfl
theorem Ig{x:List ah}{d:ah}(h:x.length<100000):oR (.lst x) [.im d]=J (.im .bu,.lst<|x++[d]):=aV h
theorem sy(i j:Int):vEq (.im<|.int i) (.im<|.int j)=J (.im<|.aR<|decide (i=j)):=by
 show J (aC.im<|.aR<|i==j)=_;by_cases h:i=j<;>simp[h]
theorem Ih(i j:Int):lE (.im<|.int i) (.im<|.int j)=J (.im<|.aR<|!decide (i=j)):=by
 show J (aC.im<|.aR<|!(i==j))=_;by_cases h:i=j<;>simp[h]
variable{j:Int}
theorem nW(h:j6 i j=af):gf (.im<|.int i) (.im<|.int j)=J (.im<|.int<|i*j):=aV h
theorem q6(h:0<j):h1 (.im<|.int i) (.im<|.int j)=J (.im<|.int<|i%j):=aV (eL h)
theorem PA(h:0<j)(U:j<1073741824):t6 (.im<|.int i) (.im<|.int j)=J (.im<|.int<|i/j):=aV (eL (⟨h,U⟩:0<j/\j<1073741824))
theorem PB(h:decide (0<=j/\j<=1000000/\i.natAbs<2^64)=af):sf (.im<|.int i) (.im<|.int j)=J (.im<|.int<|i^j.toNat):=aV h
variable{r:Option (tV×bq)}{b:b5}{c:M Bool}
theorem uv{a:b5}(e:c D=J (af,D1))(h:a D1=r):fY c a b D=r:=(y7 e).trans h
theorem ci{a:b5}(e:c D=J (aD,D1))(h:b D1=r):fY c a b D=r:=(C7 e).trans h
theorem dx{g h:b5}(e:g D=J (.bC,D1))(k:h D1=r):ap g h D=r:=(iD e).trans k
variable{i:Nat}
theorem ik{g:M aC}(e:g D=J (d,D1))(h:i<D1.length)(k:D1.set i (J d)=D2):dI i g D=J (.bC,D2):=(ON e h).trans (by rw[k])
variable{xs:List ah}{tg:hE}{o:Option (Nat×aC)}
theorem p8{g:jc}{bf:tV}(e:g D=J ((xs,o),D1))(h:fZ tg b xs D1=J (bf,D2))(k:qX o D2=da):kD g tg b D=J (bf,da):=(OM e h).trans (by rw[k])
theorem nX{own:Nat}{caps:List Nat}{lC:jc}{e:M aC}{C':bq}{ds:List ah}(O:lC D=J ((xs,o),D1))(U:kE own tg c e xs [] (pZ caps D1)=J (ds,C'))(k:qX o (m9 caps C' D1)=da):eJ own caps lC tg c e D=J (.lst ds,da):=(C6 O U).trans (by rw[k])
variable{r:Option (Bool×bq)}{b a:M Bool}
theorem nY(e:a D=J (aD,D1))(h:b D1=r):ic a b D=r:=by unfold ic;rw[e];exact h
theorem nZ(e:a D=J (af,D1))(h:b D1=r):fX a b D=r:=by unfold fX;rw[e];exact h
theorem zu(e:a D=J (aD,D1)):fX a b D=J (aD,D1):=by unfold fX;rw[e];rfl
theorem Z2{j:Nat}(ay:g D=J (os,D1))(aG:gB os D1=J ([cS,cM],D2))(ao:i<D2.length)(bx:j<D2.length)(k:(D2.set i<|J cS).set j (J cM)=da):yK i j g D=J (.bC,da):=by
 unfold yK;rw[ay];show (gB os D1).bind _=_;rw[aG];show (if i<D2.length/\j<D2.length then _ else _)=_;rw[aV ⟨ao,bx⟩,k]
theorem wJ{g:M Bool}{b:Bool}(e:g D=J (b,D1)):hX g D=J (.im<|.aR b,D1):=by unfold hX;rw[e];rfl
variable{r:aC}
theorem fb{G:d_}(ay:g D=J (os,D1))(fj:os.length=n)(aG:gB os D1=J (ds,D2))(bT:G ds=J (r,outs))(k:m6 os outs D2=da):am n G g D=J (r,da):=by rw[<-k];exact oZ ay fj aG bT
theorem mv{g:M Bool}(e:g D=J (af,D1)):fW g D=J (aD,D1):=Pz e
theorem PC{x y:List ah}(ay:g D=J (os,D1))(aG:j2 D1 os=J [.im (.tup x),.im<|.tup y]):p4 g D=J ((j8 x y,aa),D1):=by
 unfold p4;rw[ay];show (j2 D1 os).bind _=_;rw[aG];rfl
theorem zv{g:M cH}{l h:M (Option Int)}{lo ao:Option Int}{d':aC}(ay:g D=J (x,D1))(aG:l D1=J (lo,D2))(bT:h D2=J (ao,da))(eH:e' da x=J d)(ia:si d lo ao=J d'):nc g l h D=J (d',da):=by
 unfold nc;rw[ay];show (l D1).bind _=_;rw[aG];show (h D2).bind _=_;rw[bT];show (e' da x).bind _=_;rw[eH];show (si d lo ao).map _=_;rw[ia];rfl
theorem PD(ay:g D=J (os,D1))(aG:j2 D1 os=J [.im (.int j)])(h:yP j):se g D=J ((mj 0 j.toNat,aa),D1):=by
 unfold se;rw[ay];show (j2 D1 os).bind _=_;rw[aG];show (if yP j then _ else _)=_;rw[aV h]
theorem hH{m:Nat}{fix:List Nat}{g:b5}(aF:ds.length=n)(e:g (ds.map J++List.replicate (m-n) aa)=J (.fQ r,D))(aS:dL fix ds D 0=outs):eR n m fix g ds=J (r,outs):=oV D aF e aS
end
end L2
namespace G
open PySem L2
variable{i n:Nat}{ks:List cD}{D:bq}{k m:Int}{ns:List Int}{h:aC}
noncomputable abbrev a7:=Int×Int
variable{s:(a7->a7)×List cD}{bs:List a7}{c b:a7}
noncomputable def cl(b:a7):Nat->a7
 |0=>b
 |1=>(b.1,b.2+1)
 |2=>(b.1+1,b.2+1)
 |_=>(b.1+1,b.2)
noncomputable def Dn(b:a7):Nat->a7
 |0=>(b.1-2,b.2)
 |1=>(b.1,b.2+2)
 |2=>(b.1+2,b.2)
 |_=>(b.1,b.2-2)
noncomputable def gG(b:a7):List a7:=[b,(b.1,b.2+1),(b.1+1,b.2+1),(b.1+1,b.2)]
noncomputable def PE(T:List cD)(a b:a7):Bool:=decide ((a,b)∈T\/(b,a)∈T)
noncomputable def bC(T:List cD)(p:a7×Nat):a7×Nat:=if PE T p.1 (Dn p.1 p.2)=af then (Dn p.1 p.2,(p.2+3)%4) else (p.1,(p.2+1)%4)
noncomputable def jC(T:List cD)(p:a7×Nat):a7×Nat:=if PE T p.1 (Dn p.1<|(p.2+3)%4)=af then (Dn p.1<|(p.2+3)%4,(p.2+1)%4) else (p.1,(p.2+3)%4)
structure lH(bs:List a7):Prop where
 ne:bs≠[]
 au:bs.Nodup
 len:bs.length<=40
 qv:∀b∈bs,0<=b.1/\b.1<=29/\0<=b.2/\b.2<=29
 par:∀a∈bs,∀b∈bs,(a.1-b.1)%2=0/\(a.2-b.2)%2=0
 con:∀p:a7->a7,(∀a∈bs,∀b∈bs,(b=(a.1,a.2+2)\/b=(a.1+2,a.2))->p a=p b)->∀a∈bs,∀b∈bs,p a=p b
theorem Dp:c∈gG b↔(c.1=b.1\/c.1=b.1+1)/\(c.2=b.2\/c.2=b.2+1):=by
 obtain⟨x,y⟩:=c;obtain⟨u,v⟩:=b;simp only[gG,cK,jH,lV,LM];constructor
 ·lia
 ·lia
theorem PF(b:a7){k:Nat}(aY:k<4):cl b k∈gG b:=by
 match k,aY with
 |0,_=>simp[cl,gG]
 |1,_=>simp[cl,gG]
 |2,_=>simp[cl,gG]
 |3,_=>simp[cl,gG]
theorem Z3(h:c∈gG b):∃k,k<4/\c=cl b k:=by
 simp only[gG,cK,jH,lV]at h;rcases h with h|h|h|h
 ·exact⟨0,by decide,h⟩
 ·exact⟨1,by decide,h⟩
 ·exact⟨2,by decide,h⟩
 ·exact⟨3,by decide,h⟩
theorem lH.one(B:lH bs){a b c:a7}(az:a∈bs)(ae:b∈bs)(O:c∈gG a)(U:c∈gG b):a=b:=by
 have p:=B.par a az b ae;rw[Dp]at O U;exact nx (by lia) (by lia)
noncomputable def aR(o c:a7):a7:=(c.1-(c.1-o.1)%2,c.2-(c.2-o.2)%2)
noncomputable def gO(o c:a7):Nat:=if (c.1-o.1)%2=0 then (if (c.2-o.2)%2=0 then 0 else 1) else (if (c.2-o.2)%2=0 then 3 else 2)
noncomputable def zw(bs:List a7)(e:cD):Prop:=e.1∈bs/\e.2∈bs/\(e.2=(e.1.1,e.1.2+2)\/e.2=(e.1.1+2,e.1.2))
noncomputable def cells(bs:List a7):List a7:=bs.flatMap gG
theorem PG:c∈cells bs↔∃b∈bs,∃k,k<4/\c=cl b k:=by
 unfold cells;rw[rz];constructor
 ·rintro⟨b,ae,h⟩;exact⟨b,ae,Z3 h⟩
 ·rintro⟨b,ae,k,aY,rfl⟩;exact⟨b,ae,PF b aY⟩
theorem Z4(b:a7):(gG b).Nodup:=by
 obtain⟨x,y⟩:=b;simp[gG,lO];lia
theorem Ii{α β:Type}{f:α->List β}:∀{l:List α},l.Nodup->(∀a∈l,(f a).Nodup)->(∀a∈l,∀b∈l,∀x,x∈f a->x∈f b->a=b)->(l.flatMap f).Nodup
 |[],_,_,_=>by simp
 |a::l,au,O,U=>by
  obtain⟨jY,n2⟩:=lO.mp au;rw[xC,eA];refine⟨O a<|.head _,Ii n2 (λb ae=>O b<|.tail _ ae)<|λb ae c av=>U b (.tail _ ae) c<|.tail _ av,λx ag y aw e=>?_⟩;obtain⟨b,ae,aw⟩:=rz.mp aw;subst e;have:=U a (.head _) b (.tail _ ae) x ag aw;subst this;exact jY ae
theorem lH.Z5(B:lH bs):(cells bs).Nodup:=Ii B.au (λb _=>Z4 b) λa az b ae x O U=>B.one az ae O U
theorem zx:∀bs:List a7,(cells bs).length=4*bs.length
 |[]=>rfl
 |b::bs=>by
  have:=zx bs;unfold cells at *;rw[xC,eZ,this];simp[gG];lia
theorem Dq{α β:Type}{f:α->β}{l:List α}(au:l.Nodup)(h:∀a∈l,∀b∈l,f a=f b->a=b):(l.map f).Nodup:=by
 unfold List.Nodup;rw[AP];exact Sj (λaz ae n e=>n<|h _ az _ ae e) au
theorem uw(x:mu (n+1) h)(zy:0<m)(Z6:m<1073741824):∃v h',jh [h,a5 m]=J (a5 v,[h',a5 m])/\0<=v/\v<m/\mu n h':=by
 obtain⟨d,s,t,rfl,O,U,aL,aU,c0⟩:=x;have ag':¬ m=0:=by lia
 by_cases hd:0<d
 ·refine⟨d%m,lf (d/m) s t,?_,vf _ (by lia),xQ _ zy,d/m,s,t,rfl,Int.ediv_nonneg O (by lia),U,aL,aU,by lia⟩;unfold jh pc;have gt:wj (a5 d) (a5 0)=J (.im<|.aR af):=congrArg (λb=>J<|aC.im<|.aR b) (eL hd);refine oV [J (lf (d/m) s t),J<|a5 m,J<|a5<|d%m] rfl (y6 ((y7<|fu<|bL (bh<|bL (d:=a5 d) rfl rfl rfl rfl rfl) rfl rfl rfl gt).trans ((iD ((ON (bL (bh<|bL (d:=a5 d) rfl rfl rfl rfl rfl) rfl rfl rfl<|q6 zy) (show 2<3 by decide)).trans rfl)).trans<|(iD<|o9 (D2:=[J (lf (d/m) s t),J<|a5 m,J<|a5<|d%m]) (bL (bh<|bL (d:=a5 d) rfl rfl rfl rfl rfl) rfl rfl rfl<|PA zy Z6) rfl).trans rfl))) rfl
 ·obtain⟨s',zz⟩:∃s':Int,s'=(s*48271+12345+7919*(t+1))%2147483647:=⟨_,rfl⟩;have wK:0<=s':=by rw[zz];exact vf _ (by decide)
  have bz:s'<2147483647:=by
   rw[zz];exact xQ _ (by decide)
  have d8:j6 s 48271=af:=ue (by decide) (by decide);have dS:j6 7919 (t+1)=af:=HQ (by decide) (by decide);have jX:j6 s' s'=af:=ue (by lia) (by lia);refine⟨s'*s'%1999999973/31%m,lf d s'<|t+1,?_,vf _ (by lia),xQ _ zy,d,s',t+1,rfl,O,wK,by lia,by lia,by lia⟩;unfold jh pc;have gt:wj (a5 d) (a5 0)=J (.im<|.aR aD):=congrArg (λb=>J<|aC.im<|.aR b) (bi hd);have h8:aT gf (ai<|aT bX (ax 0)<|ai<|aN<|.int 1) (ai<|aN<|.int 48271) [J (lf d s<|t+1),J<|a5 m,aa]=J (a5<|s*48271,[J (lf d s<|t+1),J<|a5 m,aa]):=bL (bh<|bL (d:=a5 s) rfl rfl rfl rfl rfl) rfl rfl rfl (nW d8);have i7:aT gf (ai<|aN<|.int 7919) (ai<|aT bX (ax 0)<|ai<|aN<|.int 2) [J (lf d s<|t+1),J<|a5 m,aa]=J (a5<|7919*(t+1),[J (lf d s<|t+1),J<|a5 m,aa]):=bL rfl (bh<|bL (d:=a5 (t+1)) rfl rfl rfl rfl rfl) rfl rfl (nW dS);have Z7:aT h1 (ai<|aT eK (ai<|aT eK (ai<|aT gf (ai<|aT bX (ax 0)<|ai<|aN<|.int 1)<|ai<|aN<|.int 48271)<|ai<|aN<|.int 12345)<|ai<|aT gf (ai<|aN<|.int 7919)<|ai<|aT bX (ax 0)<|ai<|aN<|.int 2) (ai<|aN<|.int 2147483647) [J (lf d s<|t+1),J<|a5 m,aa]=J (a5 s',[J (lf d s<|t+1),J<|a5 m,aa]):=by
   rw[zz];exact bL (bh<|bL (bh<|bL (bh h8) rfl rfl rfl rfl) (bh i7) rfl rfl rfl) rfl rfl rfl (q6 (by decide))
  have Z8:aT gf (ai<|aT bX (ax 0)<|ai<|aN<|.int 1) (ai<|aT bX (ax 0)<|ai<|aN<|.int 1) [J (lf d s'<|t+1),J<|a5 m,aa]=J (a5<|s'*s',[J (lf d s'<|t+1),J<|a5 m,aa]):=bL (bh<|bL (d:=a5 s') rfl rfl rfl rfl rfl) (bh<|bL (d:=a5 s') rfl rfl rfl rfl rfl) rfl rfl (nW jX);exact oV [J (lf d s'<|t+1),J<|a5 m,aa] rfl ((iD<|(C7<|fu<|bL (bh<|bL (d:=a5 d) rfl rfl rfl rfl rfl) rfl rfl rfl gt).trans rfl).trans ((iD<|o9 (D2:=[J (lf d s<|t+1),J<|a5 m,aa]) (bL (d:=a5 (t+1)) (bh<|bL (d:=a5 t) rfl rfl rfl rfl rfl) rfl rfl rfl rfl) rfl).trans ((iD<|o9 (D2:=[J (lf d s'<|t+1),J<|a5 m,aa]) Z7 rfl).trans (bn (bL (bh (bL (bh (bL (bh Z8) rfl rfl rfl (q6 (by decide)))) rfl rfl rfl (PA (by decide) (by decide)))) rfl rfl rfl<|q6 zy))))) rfl
theorem Z9(aY:0<=k):∃c,wG [.e2 (ns.map .int),a5 k]=J (a5 c,[.e2 (ns.map .int),a5 k]):=by
 by_cases aF:k<(ns.length:Int)
 ·obtain⟨c,av⟩:∃c,ns[k.toNat]?=J c:=⟨ns[k.toNat]'(by lia),by simp⟩;have Z':gZ (ns.map ah.int) k=J (.int c):=HR aY (by rw[gJ,av];rfl);have lt:sg (a5 k) (a5 ((ns.map ah.int).length:Int))=J (.im<|.aR af):=congrArg (λb=>J<|aC.im<|.aR b) (eL (by rw[b3];exact aF));have Z_:bX (.e2<|ns.map .int) (a5 k)=J (a5 c):=congrArg (Option.map aC.im) Z';unfold wG Ie;exact⟨c,oV [J (.e2<|ns.map .int),J<|a5 k] rfl (y6<|(y7<|fu<|bL rfl (bh<|e_ rfl rfl rfl) rfl rfl lt).trans<|bn<|bL rfl rfl rfl rfl Z_) rfl⟩
 ·have lt:sg (a5 k) (a5 ((ns.map ah.int).length:Int))=J (.im<|.aR aD):=congrArg (λb=>J<|aC.im<|.aR b) (bi (by rw[b3];exact aF));unfold wG Ie;exact⟨0,oV [J (.e2<|ns.map .int),J<|a5 k] rfl ((iD<|(C7<|fu<|bL rfl (bh<|e_ rfl rfl rfl) rfl rfl lt).trans rfl).trans rfl) rfl⟩
theorem aaa(aY:0<=k)(jV:k<1000):∃h,zm [.e2 (ns.map .int),a5 k]=J (h,[.e2 (ns.map .int),a5 k])/\mu 1000000 h:=by
 obtain⟨c,av⟩:=Z9 (ns:=ns) aY;have d8:j6 7919 k=af:=HQ (by decide) (by decide);have dS:j6 (7919*k) k=af:=ue (by lia) (by lia);have jX:j6 (c%2147483629+7919*k*k+11) 48271=af:=ue (by decide) (by decide);obtain⟨s,aq⟩:∃s:Int,s=(c%2147483629+7919*k*k+11)*48271%2147483647:=⟨_,rfl⟩;have s0:0<=s:=by rw[aq];exact vf _ (by decide)
 have s1:s<2147483647:=by rw[aq];exact xQ _ (by decide)
 have dF:j6 (10^60) (10^60)=af:=by decide +kernel
 have bI:j6 (10^60*10^60) (10^60)=af:=by decide +kernel
 have ck:∀(x:Int) (b:Bool),j6 x (if b then 1 else 0)=af:=λx b=>ue (by cases b<;>decide) (by cases b<;>decide);have bz:(0:Int)<10^60*10^60*10^60:=by decide
 have v6:sf (a5 10) (a5 60)=J (a5<|10^(60:Int).toNat):=PB (by decide);have Ce:sf (a5 10) (a5 18)=J (a5<|10^(18:Int).toNat):=PB (by decide);rw[show (60:Int).toNat=60 from rfl]at v6;rw[show (18:Int).toNat=18 from rfl]at Ce;have key:mu 1000000 (lf (c%(10^60*10^60*10^60)*(if decide ((10:Int)^18<=c) then 1 else 0)) s 0):=by
  have O:=vf c (show (10^60*10^60*10^60:Int)≠0 by decide);refine⟨_,_,_,rfl,?_,s0,by lia,vg 0,by decide⟩;split
  ·rw[Lv];exact O
  ·rw[Int.mul_zero];exact vg 0
 refine⟨_,?_,key⟩;generalize (10:Int)^60=P at *;generalize (10:Int)^18=R at *;unfold zm Pr;have s3:dI 4 (aT h1 (ai<|aT gf (ai<|aT eK (ai<|aT eK (ai<|aT h1 (ax 2)<|ai<|aN<|.int 2147483629)<|ai<|aT gf (ai<|aT gf (ai<|aN<|.int 7919)<|ax 1)<|ax 1)<|ai<|aN<|.int 11)<|ai<|aN<|.int 48271)<|ai<|aN<|.int 2147483647) [J (.e2<|ns.map .int),J<|a5 k,J<|a5 c,J<|a5<|P*P*P,aa]=J (.bC,[J (.e2<|ns.map .int),J<|a5 k,J<|a5 c,J<|a5<|P*P*P,J<|a5 s]):=by
  rw[aq];exact ik (bL (bh (bL (bh (bL (bh (bL (bh (bL rfl rfl rfl rfl (q6 (by decide)))) (bh<|bL (bh<|bL rfl rfl rfl rfl<|nW d8) rfl rfl rfl<|nW dS) rfl rfl rfl)) rfl rfl rfl rfl)) rfl rfl rfl<|nW jX)) rfl rfl rfl (q6 (by decide))) (show 4<5 by decide) rfl
 exact hH rfl (dx (ik (oZ rfl rfl rfl av) (show 2<5 by decide) rfl) (dx (ik (bL (bh<|bL (bh<|bL rfl rfl rfl rfl v6) (bh<|bL rfl rfl rfl rfl v6) rfl rfl<|nW dF) (bh<|bL rfl rfl rfl rfl v6) rfl rfl<|nW bI) (show 3<5 by decide) rfl)<|dx s3<|bn<|Dm (cB (bh<|bL (bh<|bL rfl rfl rfl rfl<|q6 bz) (bh<|e_ (cB (bh<|bL rfl (bh<|bL rfl rfl rfl rfl Ce) rfl rfl rfl) rfl) rfl rfl) rfl rfl<|nW<|ck _ _) rfl) rfl (nu rfl) rfl)) rfl
structure ux(m:Int)(bs:List a7):Prop where
 ne:bs≠[]
 au:bs.Nodup
 len:(bs.length:Int)<=m
 qv:∀b∈bs,0<=b.1/\b.1<=29/\0<=b.2/\b.2<=29
 par:∀a∈bs,∀b∈bs,(a.1-b.1)%2=0/\(a.2-b.2)%2=0
 con:∀p:a7->a7,(∀a∈bs,∀b∈bs,(b=(a.1,a.2+2)\/b=(a.1+2,a.2))->p a=p b)->∀a∈bs,∀b∈bs,p a=p b
noncomputable def zA:List a7:=[(0,2),(2,0),(0,-2),(-2,0)]
theorem ux.add(g:ux m bs){c d:a7}(av:c∈bs)(hd:d∈zA)(bo:(c.1+d.1,c.2+d.2)∉bs)(aF:(bs.length:Int)<m)(aO:0<=c.1+d.1/\c.1+d.1<=29/\0<=c.2+d.2/\c.2+d.2<=29):ux m (bs++[(c.1+d.1,c.2+d.2)]):=by
 have cM:d.1%2=0/\d.2%2=0:=by
  simp only[zA,cK,jH,lV]at hd;rcases hd with h|h|h|h<;>subst h<;>exact⟨by decide,by decide⟩
 refine⟨by simp,eA.mpr ⟨g.au,h4 _ _,λx ag y aw e=>bo (by rw[c2.mp aw]at e;rw[<-e];exact ag)⟩,by simp;lia,λb ae=>?_,λa az b ae=>?_,λp aE a az b ae=>?_⟩
 ·rcases e3.mp ae with h|h
  ·exact g.qv b h
  ·rw[c2.mp h];exact aO
 ·have key:∀x∈bs,(x.1-(c.1+d.1))%2=0/\(x.2-(c.2+d.2))%2=0:=λx ag=>by
   have:=g.par x ag c av;exact⟨by lia,by lia⟩
  rcases e3.mp az with O|O<;>rcases e3.mp ae with U|U
  ·exact g.par a O b U
  ·rw[c2.mp U];exact key a O
  ·rw[c2.mp O];have:=key b U;exact⟨by show ((c.1+d.1)-b.1)%2=0;lia,by show ((c.2+d.2)-b.2)%2=0;lia⟩
  ·rw[c2.mp O,c2.mp U];exact⟨by simp,by simp⟩
 ·have wK:=g.con p λa az b ae=>aE a (fD _ az) b (fD _ ae);have pD:c∈bs++[(c.1+d.1,c.2+d.2)]:=fD _ av;have l0:(c.1+d.1,c.2+d.2)∈bs++[(c.1+d.1,c.2+d.2)]:=fR _ (.head _);have bz:p c=p (c.1+d.1,c.2+d.2):=by
   simp only[zA,cK,jH,lV]at hd;rcases hd with h|h|h|h
   ·subst h;exact aE _ pD _ l0 (.inl (nx (by simp) (by simp)))
   ·subst h;exact aE _ pD _ l0 (.inr (nx (by simp) (by simp)))
   ·subst h;exact (aE _ l0 _ pD (.inl (nx (by simp) (by simp;lia)))).symm
   ·subst h;exact (aE _ l0 _ pD (.inr (nx (by simp;lia) (by simp)))).symm
  have cR:∀x∈bs++[(c.1+d.1,c.2+d.2)],p x=p c:=λx ag=>by
   rcases e3.mp ag with h|h
   ·exact wK x h c av
   ·rw[c2.mp h];exact bz.symm
  rw[cR a az,cR b ae]
theorem aab{o:a7}(h:bs.length<100000):oR (bJ bs) [.im (aI o)]=J (.im .bu,bJ<|bs++[o]):=by
 have:oR (bJ bs) [.im (aI o)]=J (.im .bu,.lst<|bs.map aI++[aI o]):=Ig (by rw[b3];exact h);rw[this];simp
theorem wL(bs:List a7):f3 [bJ bs]=J (a5 (bs.length:Int)):=by
 show J (a5 ((bs.map aI).length:Int))=_;rw[b3]
theorem aac(bs:List a7):f3 [bD bs]=J (a5 (bs.length:Int)):=by
 show J (a5 ((bs.map aI).length:Int))=_;rw[b3]
theorem PH{ga c4 eo:M cH}{x y z:cH}{a b c:Int}(ay:ga D=J (x,D))(aG:c4 D=J (y,D))(bT:e' D x=J (a5 a))(eH:e' D y=J (a5 b))(ia:eo D=J (z,D))(Ij:e' D z=J (a5 c):=by rfl):b9 (je gS gS ga c4 eo) D=J (decide (a<=b)&&decide (b<=c),D):=by
 unfold b9 je;rw[ay];show ((c4 D).bind _).bind _=_;rw[aG];show ((e' D x).bind _).bind _=_;rw[bT];show ((e' D y).bind _).bind _=_;rw[eH];show ((if decide (a<=b)=af then _ else _):Option (aC×bq)).bind _=_;cases decide (a<=b) with
 |false=>rfl
 |true=>
  rw[aV rfl];show ((eo D).bind _).bind _=_;rw[ia];show ((e' D y).bind _).bind _=_;rw[eH];show ((e' D z).bind _).bind _=_;rw[Ij];rfl
noncomputable abbrev mw(h:aC)(m:Int)(bs:List a7)(k o4 o5 o6 o7 o8:Option aC):bq:=[J h,J<|a5 m,J<|bJ bs,k,o4,o5,o6,o7,o8]
theorem aad{k o4 o5 o6 o7 o8:Option aC}(H:mu (n+3) h)(g:ux m bs)(hm:m<=40):
  ∃h' Dr b4 p9 sz sA PI,Dk (mw h m bs k o4 o5 o6 o7 o8)=J (.bC,mw h' m Dr k b4 p9 sz sA PI)/\mu n h'/\ux m Dr:=by
 have aE:=AK.mpr g.ne;have aF:=g.len;obtain⟨v1,O,ay,a1,a2,H1⟩:=uw (n:=n+2) (m:=(bs.length:Int)) H (by lia) (by lia);obtain⟨kG,wo⟩:∃c,bs[v1.toNat]?=J c:=⟨bs[v1.toNat]'(by lia),by simp⟩;obtain⟨v2,U,aG,cO,d1,a6⟩:=uw (n:=n+1) (m:=3) H1 (by lia) (by lia);obtain⟨ng,aL,bT,cS,cM,cY⟩:=uw (n:=n) (m:=4) a6 (by lia) (by lia);obtain⟨d,hd⟩:∃d,zA[ng.toNat]?=J d:=⟨zA[ng.toNat]'(by show ng.toNat<4;lia),by simp⟩;have t1:=atC a1 wo;have t3:=atC cS hd;obtain⟨PJ,l,rfl⟩:=ZV g.ne;have gr:gZ ((PJ++[l]).map aI) (-1)=J (aI l):=Zb (by simp);obtain⟨wK,rfl⟩:=H.lst;obtain⟨bz,rfl⟩:=H1.lst;obtain⟨cR,rfl⟩:=a6.lst;obtain⟨ed,rfl⟩:=cY.lst;generalize aae:PJ++[l]=bs at *;have s1:iA (aT bX (ax 2)<|ai<|am 2 G.jh<|aB (ax 0)<|aB (ai<|cV f3<|aB (ax 2) aW) aW) (hF 2<|ew (b_ 4)<|ew (b_ 5) hZ) (mw (.lst wK) m bs k o4 o5 o6 o7 o8)=J (.bC,mw (.lst bz) m bs k (J<|a5 kG.1) (J<|a5 kG.2) o6 o7 o8):=by
  exact o9 (bL rfl (bh<|oZ (cB rfl<|cB (bh<|e_ rfl rfl<|wL bs) rfl) rfl rfl ay) rfl rfl<|congrArg (Option.map aC.im) t1) rfl
 obtain⟨c,av,s2⟩:∃c∈bs,fY (b9<|aT vEq (ai<|am 2 G.jh<|aB (ax 0)<|aB (ai<|aN<|.int 3) aW)<|ai<|aN<|.int 0) (iA (aT bX (ax 2)<|ai<|oO<|aN<|.int 1)<|hF 2<|ew (b_ 4)<|ew (b_ 5) hZ) hb (mw (.lst bz) m bs k (J<|a5 kG.1) (J<|a5 kG.2) o6 o7 o8)=J (.bC,mw (.lst cR) m bs k (J<|a5 c.1) (J<|a5 c.2) o6 o7 o8):=by
  by_cases hz:v2=0
  ·have q:=sy v2 0;rw[eL hz]at q;exact⟨l,by rw[<-aae];simp,uv (fu<|bL (bh<|oZ rfl rfl rfl aG) rfl rfl rfl q)<|o9 (bL rfl (bh<|Z1 rfl) rfl rfl<|congrArg (Option.map aC.im) gr) rfl⟩
  ·have q:=sy v2 0;rw[bi hz]at q;exact⟨kG,iq wo,ci (fu<|bL (bh<|oZ rfl rfl rfl aG) rfl rfl rfl q) rfl⟩
 have s3:iA (aT bX (ai<|hY<|aB (ai<|d9<|aB (ai<|aN<|.int 0)<|aB (ai<|aN<|.int 2) aW)<|aB (ai<|d9<|aB (ai<|aN<|.int 2)<|aB (ai<|aN<|.int 0) aW)<|aB (ai<|d9<|aB (ai<|aN<|.int 0)<|aB (ai<|oO<|aN<|.int 2) aW)<|aB (ai<|d9<|aB (ai<|oO<|aN<|.int 2)<|aB (ai<|aN<|.int 0) aW) aW)<|ai<|am 2 G.jh<|aB (ax 0)<|aB (ai<|aN<|.int 4) aW) (hF 2<|ew (b_ 6)<|ew (b_ 7) hZ) (mw (.lst cR) m bs k (J<|a5 c.1) (J<|a5 c.2) o6 o7 o8)=J (.bC,mw (.lst ed) m bs k (J<|a5 c.1) (J<|a5 c.2) (J<|a5 d.1) (J<|a5 d.2) o8):=by
  have aaf:gZ [ah.tup [.int 0,.int 2],.tup [.int 2,.int 0],.tup [.int 0,.int<|-2],.tup [.int (-2),.int 0]] ng=J (.tup [.int d.1,.int d.2]):=t3;exact o9 (bL rfl (bh<|oZ rfl rfl rfl bT) rfl rfl<|congrArg (Option.map aC.im) aaf) rfl
 obtain⟨o,aS⟩:∃o:a7,o=(c.1+d.1,c.2+d.2):=⟨_,rfl⟩;obtain⟨D,dV⟩:∃D:bq,D=mw (.lst ed) m bs k (J<|a5 c.1) (J<|a5 c.2) (J<|a5 d.1) (J<|a5 d.2) (J<|.im<|aI o):=⟨_,rfl⟩;have s4:dI 8 (d9<|aB (ai<|aT eK (ax 4)<|ax 6)<|aB (ai<|aT eK (ax 5)<|ax 7) aW) (mw (.lst ed) m bs k (J<|a5 c.1) (J<|a5 c.2) (J<|a5 d.1) (J<|a5 d.2) o8)=J (.bC,D):=by
  rw[dV,aS];rfl
 have zB:=Ib bs o;have Ds:=ZW o;have g1:=ZX o;have jY:b9 (aT oY (ax 8)<|ax 2) D=J (!decide (o∈bs),D):=by
  rw[dV];show (((jd (aI o)<|bJ bs).map λr=>aC.im<|.aR<|!r).map λd=>(d,_)).bind (λp=>(r5 p.1).map λb=>(b,p.2))=_;rw[zB];rfl
 have n2:b9 (je gS gS (ai<|aN<|.int 0) (ai<|aT bX (ax 8)<|ai<|aN<|.int 0)<|ai<|aN<|.int 29) D=J (decide (0<=o.1)&&decide (o.1<=29),D):=by
  rw[dV];exact PH rfl rfl rfl rfl rfl
 have x_:b9 (je gS gS (ai<|aN<|.int 0) (ai<|aT bX (ax 8)<|ai<|aN<|.int 1)<|ai<|aN<|.int 29) D=J (decide (0<=o.2)&&decide (o.2<=29),D):=by
  rw[dV];exact PH rfl rfl rfl rfl rfl
 have aag:b9 (aT sg (ai<|cV f3<|aB (ax 2) aW)<|ax 1) D=J (decide ((bs.length:Int)<m),D):=by
  rw[dV];exact fu (bL (bh<|e_ rfl rfl<|wL bs) rfl rfl rfl rfl)
 have fin:∀b:Bool,b=(!decide (o∈bs)&&(decide ((bs.length:Int)<m)&&((decide (0<=o.1)&&decide (o.1<=29))&&(decide (0<=o.2)&&decide (o.2<=29)))))->
   fX (b9<|aT oY (ax 8)<|ax 2) (fX (b9<|aT sg (ai<|cV f3<|aB (ax 2) aW)<|ax 1)<|fX (b9<|je gS gS (ai<|aN<|.int 0) (ai<|aT bX (ax 8)<|ai<|aN<|.int 0)<|ai<|aN<|.int 29)<|b9<|je gS gS (ai<|aN<|.int 0) (ai<|aT bX (ax 8)<|ai<|aN<|.int 1)<|ai<|aN<|.int 29) D=J (b,D):=by
  intro b ae;rw[ae];simp -implicitDefEqProofs only[fX,jY,n2,x_,aag,xx];generalize (decide (0<=o.1)&&decide (o.1<=29))=y;generalize (decide (0<=o.2)&&decide (o.2<=29))=z;cases decide (o∈bs)<;>cases decide ((bs.length:Int)<m)<;>cases y<;>rfl
 unfold Dk;by_cases wM:o∉bs/\(bs.length:Int)<m/\0<=o.1/\o.1<=29/\0<=o.2/\o.2<=29
 ·have cE:=fin af (by simp[wM]);refine⟨.lst ed,bs++[o],J<|a5 c.1,J<|a5 c.2,J<|a5 d.1,J<|a5 d.2,J<|.im<|aI o,(iD s1).trans<|(iD s2).trans<|(iD s3).trans<|(iD s4).trans<|(y7 cE).trans ?_,cY,?_⟩
  ·have ct:bs.length<100000:=by lia
   rw[dV];exact wI (uu rfl rfl rfl rfl rfl (aab ct) rfl)
  ·rw[aS];rw[aS]at wM;exact g.add av (iq hd) wM.1 wM.2.1 wM.2.2
 ·have hf:=fin aD (by
   cases z:(!decide (o∈bs)&&(decide ((bs.length:Int)<m)&&((decide (0<=o.1)&&decide (o.1<=29))&&(decide (0<=o.2)&&decide (o.2<=29))))) with
   |false=>rfl
   |true=>
    simp at z;exact absurd ⟨z.1,by lia,z.2.2.1.1,z.2.2.1.2,z.2.2.2.1,z.2.2.2.2⟩ wM)
  exact⟨.lst ed,bs,J<|a5 c.1,J<|a5 c.2,J<|a5 d.1,J<|a5 d.2,J<|.im<|aI o,(iD s1).trans ((iD s2).trans ((iD s3).trans ((iD s4).trans ((C7 hf).trans (by rw[dV];rfl))))),cY,g⟩
theorem Ik{a:a7}:cJ (aI a) (aI b)=af↔a.1<b.1\/(a.1=b.1/\a.2<b.2):=by
 obtain⟨x,y⟩:=a;obtain⟨u,v⟩:=b;show (if ah.beq (.int x) (.int u)=af then (if ah.beq (.int y) (.int v)=af then aD else decide (y<v)) else decide (x<u))=af↔_;have e:∀i j:Int,ah.beq (.int i) (.int j)=decide (i=j):=λi j=>by
  show (i==j)=_;by_cases h:i=j<;>simp[h]
 rw[e,e];by_cases O:x=u<;>by_cases U:y=v<;>simp[O,U]
noncomputable def gH(l:List a7):Prop:=(l.map aI).Pairwise (λa b=>cJ a b=af)
theorem Il{ks:List a7}(au:ks.Nodup)(aF:ks.length<=1000):∃ms:List a7,ms.Perm ks/\kI (ks.map aI)=J (bJ ms)/\gH ms:=by
 have fI:=H_ au aF;obtain⟨ms,pm,em⟩:=Po (q5<|ks.map aI);refine⟨ms,pm,?_,?_⟩
 ·unfold kI;rw[aV (sx.mpr fI),em]
 ·unfold gH;rw[<-em];exact zf fI.1.3 fI.1.2
theorem pi:∀{x:List ah},(∀d∈x,∃r,d=.tup r)->ij [.lst x]=kI x
 |[],_=>rfl
 |d::x,h=>by
  obtain⟨r,rfl⟩:=h d (.head _);rfl
theorem PK{ks ms:List a7}(dV:D[i]?=J (J<|bJ ks))(h:kI (ks.map aI)=J (bJ ms)):cV ij (aB (ax i) aW) D=J (bJ ms,D):=by
 have bb:ij [bJ ks]=J (bJ ms):=by
  rw[pi,h];intro d hd;obtain⟨c,_,rfl⟩:=e0.mp hd;exact⟨_,rfl⟩
 simp -implicitDefEqProofs only[cV,aB,ax,HN,dV,xx,AF,HP,HO,OG,xw,bb]
theorem wN{D1:bq}{g:M aC}{x:List ah}(h:g D=J (.lst x,D1)):cV nR (aB (ai g) aW) D=J (.im<|.tup x,D1):=by
 simp -implicitDefEqProofs only[cV,aB,ai,HN,h,xx,AF,HP,HO,Y_,nR,oM]
theorem aah(H:mu (n+1000) h):∃h' bs,zo [h]=J (bJ bs,[h'])/\mu n h'/\lH bs/\gH bs:=by
 obtain⟨v0,h0,fj,a1,a2,mf⟩:=uw (n:=n+999) (m:=4) H (by lia) (by lia);obtain⟨w,hw,ee,ec⟩:∃w:Int,gZ [ah.int 3,.int 8,.int 14,.int 40] v0=J (.int w)/\0<w/\w<=40:=by
  have:v0=0\/v0=1\/v0=2\/v0=3:=by lia
  rcases this with rfl|rfl|rfl|rfl
  ·exact⟨3,rfl,by decide,by decide⟩
  ·exact⟨8,rfl,by decide,by decide⟩
  ·exact⟨14,rfl,by decide,by decide⟩
  ·exact⟨40,rfl,by decide,by decide⟩
 obtain⟨v1,O,ay,cO,d1,H1⟩:=uw (n:=n+998) (m:=w) mf ee (by lia);obtain⟨v2,U,aG,di,eh,a6⟩:=uw (n:=n+997) (m:=30) H1 (by lia) (by lia);obtain⟨ng,aL,bT,cS,cM,cY⟩:=uw (n:=n+996) (m:=30) a6 (by lia) (by lia);obtain⟨m,hm⟩:∃m:Int,m=1+v1:=⟨_,rfl⟩;have Ds:ux m [(v2,ng)]:=⟨by simp,by simp,by simp;lia,λb ae=>by rw[c2.mp ae];exact⟨di,by show v2<=29;lia,cS,by show ng<=29;lia⟩,λa az b ae=>by rw[c2.mp ae,c2.mp az];exact⟨by simp,by simp⟩,λp _ a az b ae=>by rw[c2.mp ae,c2.mp az]⟩;obtain⟨D',lp,aU,bs,o3,o4,o5,o6,o7,o8,rfl,fF,g⟩:=OJ (tg:=b_ 3) (b:=Dk) (xs:=mj 0 (3*m).toNat) (λi D=>∃h bs o3 o4 o5 o6 o7 o8,D=mw h m bs o3 o4 o5 o6 o7 o8/\mu (n+996-3*i) h/\ux m bs) (D:=mw aL m [(v2,ng)] aa aa aa aa aa aa) ⟨aL,[(v2,ng)],aa,aa,aa,aa,aa,aa,rfl,cY,Ds⟩
  (λi x D ag l9=>by
   obtain⟨h,bs,o3,o4,o5,o6,o7,o8,rfl,aai,g⟩:=l9;have ao:i<(3*m).toNat:=by
    have:=(iJ.mp ag).1
    rwa [mj,b3,pd]at this
   obtain⟨h',Dr,b4,p9,sz,sA,PI,e,ak,g'⟩:=aad (n:=n+996-3*(i+1)) (k:=J (.im x)) (o4:=o4) (o5:=o5) (o6:=o6) (o7:=o7) (o8:=o8) (aai.mono (by lia)) g (by lia);exact⟨mw h m bs (J<|.im x) o4 o5 o6 o7 o8,.bC,_,rfl,e,.inl rfl,h',Dr,_,_,_,_,_,_,rfl,ak,g'⟩)
 have aaj:(mj 0 (3*m).toNat).length=(3*m).toNat:=by rw[mj,b3,pd]
 rw[aaj]at fF;have gl:=g.len;obtain⟨ms,pm,es,rs⟩:=Il g.au (by lia);refine⟨aU,ms,?_,fF.mono (by lia),⟨λz=>?_,pm.nodup_iff.mpr g.au,by rw[pm.length_eq];lia,λb ae=>g.qv b<|pm.mem_iff.mp ae,λa az b ae=>g.par a (pm.mem_iff.mp az) b<|pm.mem_iff.mp ae,λp aE a az b ae=>g.con p (λa az b ae=>aE a (pm.mem_iff.mpr az) b<|pm.mem_iff.mpr ae) a (pm.mem_iff.mp az) b<|pm.mem_iff.mp ae⟩,rs⟩
 ·obtain⟨q,rfl⟩:=H.lst;obtain⟨wK,rfl⟩:=mf.lst;obtain⟨bz,rfl⟩:=H1.lst;obtain⟨cR,rfl⟩:=a6.lst;obtain⟨ed,rfl⟩:=cY.lst;obtain⟨hR,rfl⟩:=fF.lst;have g5:yP (3*m):=⟨by lia,by lia⟩;have mk:j6 3 m=af:=HQ (by decide) (by decide);have s1:dI 1 (aT eK (ai<|aN<|.int 1)<|ai<|am 2 G.jh<|aB (ax 0)<|aB (ai<|aT bX (ai<|hY<|aB (ai<|aN<|.int 3)<|aB (ai<|aN<|.int 8)<|aB (ai<|aN<|.int 14)<|aB (ai<|aN<|.int 40) aW)<|ai<|am 2 G.jh<|aB (ax 0)<|aB (ai<|aN<|.int 4) aW) aW) [J (.lst q),aa,aa,aa,aa,aa,aa,aa,aa]=J (.bC,[J (.lst bz),J<|a5 m,aa,aa,aa,aa,aa,aa,aa]):=by
   rw[hm];exact ik (bL rfl (bh<|oZ (cB rfl<|cB (bh<|bL (bh<|Dm rfl rfl (nu rfl) rfl) (bh<|oZ rfl rfl rfl fj) rfl rfl<|congrArg (Option.map aC.im) hw) rfl) rfl rfl ay) rfl rfl rfl) (show 1<9 by decide) rfl
  have s2:dI 2 (hY<|aB (ai<|d9<|aB (ai<|am 2 G.jh<|aB (ax 0)<|aB (ai<|aN<|.int 30) aW)<|aB (ai<|am 2 G.jh<|aB (ax 0)<|aB (ai<|aN<|.int 30) aW) aW) aW) [J (.lst bz),J<|a5 m,aa,aa,aa,aa,aa,aa,aa]=J (.bC,mw (.lst ed) m [(v2,ng)] aa aa aa aa aa aa):=
   ik (Dm (cB (bh<|zt (cB (bh<|oZ rfl rfl rfl aG)<|cB (bh<|oZ rfl rfl rfl bT) rfl) rfl (nu rfl) rfl) rfl) rfl (nu rfl) rfl) (show 2<9 by decide) rfl;unfold zo Ps;exact hH rfl (dx s1<|dx s2<|dx (p8 (PD (cB (bh<|bL rfl rfl rfl rfl<|nW mk) rfl) rfl g5) lp rfl)<|bn<|PK rfl es) rfl
 ·subst z;have:=pm.length_eq;have O:=AK.mpr g.ne;simp at this;lia
theorem aak(b:a7):zp [.im (aI b)]=J (bJ<|gG b,[.im (aI b)]):=by
 unfold zp Pt;exact oV [J (.im<|aI b),J<|a5 b.1,J<|a5 b.2] rfl rfl rfl
theorem PL:∀(bs done:List a7) (o0 o2:Option aC),4*(done.length+bs.length)<=1000->∃uy,fZ (b_ 2) Dl (bs.map aI) [o0,J<|bJ<|cells done,o2]=J (.bC,[o0,J<|bJ<|cells<|done++bs,uy])
 |[],done,o0,o2,_=>⟨o2,by rw[c5];rfl⟩
 |b::bs,done,o0,o2,aF=>by
  rw[eS]at aF;obtain⟨uy,bS⟩:=PL bs (done++[b]) o0 (J<|.im<|aI b) (by rw[eZ,qk];lia);refine⟨uy,?_⟩;have e:=aak b;have cl:=zx done;have ct:(cells done).length+4<=100000:=by lia
  have iZ:(cells done).map aI++(gG b).map aI=(cells<|done++[b]).map aI:=by
   unfold cells;rw[List.flatMap_append];simp
  have nB:(cells done).length+(gG b).length<=100000:=ct;rw[dQ,fZ];dsimp only;rw[show b_ 2 (.im<|aI b) [o0,J<|bJ<|cells done,o2]=J [o0,J<|bJ<|cells done,J<|.im<|aI b] from rfl];show (Dl _).bind _=_;have aal:sl (bJ<|cells done) [bJ (gG b)]=J (.im .bu,bJ<|cells<|done++[b]):=by
   show _=J (aC.im .bu,aC.lst<|(cells<|done++[b]).map aI);rw[<-iZ];exact aV (by rw[b3,b3];exact nB)
  rw[show Dl [o0,J<|bJ<|cells done,J<|.im<|aI b]=J (.bC,[o0,J<|bJ<|cells<|done++[b],J<|.im<|aI b]) from wI (uu rfl rfl (cB (bh<|oZ rfl rfl rfl e) rfl) rfl rfl aal (by rfl))];rw[show done++b::bs=done++[b]++bs by simp];exact bS
theorem aam(B:lH bs):∃fs,zq [bJ bs]=J (bD fs,[bJ bs])/\fs.Perm (cells bs)/\gH fs:=by
 have aF:=B.len;have cl:=zx bs;obtain⟨o2,lp⟩:=PL bs [] (J<|.fH) aa (by simp;lia);obtain⟨fs,pm,es,rs⟩:=Il B.Z5 (by lia);refine⟨fs,?_,pm,rs⟩;unfold zq Pu;refine oV [J (bJ bs),J<|bJ<|cells bs,o2] rfl ((iD (D1:=[J (bJ bs),J<|bJ<|cells [],aa]) rfl).trans<|(iD<|(OM (o:=J (0,bJ bs)) (xs:=bs.map aI) (D1:=[J .fH,J<|bJ<|cells [],aa]) rfl lp).trans rfl).trans<|bn ?_) rfl;exact wN (PK (D:=[J (bJ bs),J<|bJ<|cells bs,o2]) (i:=1) rfl es)
noncomputable def bg(e:cD):ah:=.tup (gF e)
noncomputable abbrev bQ(es:List cD):aC:=.lst (es.map bg)
noncomputable def zC:ah->cD
 |.tup [a,b]=>(uq a,uq b)
 |_=>((0,0),(0,0))
theorem Dt(e:cD):zC (bg e)=e:=rfl
theorem aan{a b:cD}(h:bg a=bg b):a=b:=by rw[<-Dt a,h,Dt]
theorem PM:∀(l:List ah) (ks:List cD),(∀x∈l,x∈ks.map bg)->l=(l.map zC).map bg
 |[],_,_=>rfl
 |x::l,ks,h=>by
  obtain⟨p,_,e⟩:=e0.mp (h x<|.head _);rw[dQ,dQ,<-PM l ks λy aw=>h y<|.tail _ aw,<-e,Dt]
theorem PN{l:List ah}(h:l.Perm (ks.map bg)):∃ms:List cD,ms.Perm ks/\l=ms.map bg:=by
 refine⟨l.map zC,?_,PM l ks λx ag=>h.mem_iff.mp ag⟩;have:=A8 zC h;rw[lP]at this;have e:(zC ∘ bg:cD->cD)=id:=funext Dt;rw[e,ET]at this;exact this
theorem Du(au:ks.Nodup)(aF:ks.length<=1000):mr (ks.map bg):=by
 refine⟨⟨by rw[b3];exact aF,λa az b ae=>?_,?_⟩,.inr λd hd=>?_⟩
 ·obtain⟨x,_,rfl⟩:=e0.mp az;obtain⟨y,_,rfl⟩:=e0.mp ae;rfl
 ·exact LF bg (λa b n e=>n<|aan e) au
 ·obtain⟨x,_,rfl⟩:=e0.mp hd;rfl
theorem aao(au:ks.Nodup)(aF:ks.length<=1000)(dV:D[i]?=J (J<|bQ ks)):∃ms:List cD,ms.Perm ks/\cV ij (aB (ax i) aW) D=J (bQ ms,D):=by
 have fI:=Du au aF;obtain⟨ms,pm,em⟩:=PN (q5<|ks.map bg);refine⟨ms,pm,?_⟩;have bb:ij [bQ ks]=J (bQ ms):=by
  rw[pi]
  ·unfold kI;rw[aV (sx.mpr fI),em]
  ·intro d hd;obtain⟨c,_,rfl⟩:=e0.mp hd;exact⟨_,rfl⟩
 simp -implicitDefEqProofs only[cV,aB,ax,HN,dV,xx,AF,HP,HO,OG,xw,bb]
noncomputable def hc(bs:List a7)(b:a7):List cD:=([(b.1,b.2+2),(b.1+2,b.2)].filter λo=>decide (o∈bs)).map λo=>(b,o)
noncomputable def eY(bs:List a7):List cD:=bs.flatMap (hc bs)
theorem p'{e:cD}:e∈eY bs↔zw bs e:=by
 unfold eY hc zw;simp only[rz,e0,jk,cK,jH,lV,x1];constructor
 ·rintro⟨b,ae,o,⟨aS,U⟩,rfl⟩;exact⟨ae,U,aS⟩
 ·rintro⟨O,U,aL⟩;exact⟨e.1,O,e.2,⟨aL,U⟩,rfl⟩
theorem zD(bs:List a7)(b:a7):(hc bs b).length<=2:=by
 unfold hc;rw[b3];exact AI _ _
theorem Dv(bs:List a7):∀l:List a7,(l.flatMap<|hc bs).length<=2*l.length
 |[]=>cp _
 |b::l=>by
  rw[xC,eZ,eS];have:=Dv bs l;have:=zD bs b;lia
theorem Im(au:bs.Nodup):(eY bs).Nodup:=by
 refine Ii au (λb _=>?_) λa _ b _ x O U=>?_
 ·unfold hc;refine Dq (Sl _ ?_) λa _ b _ e=>by injection e
  simp;lia
 ·unfold hc at O U;obtain⟨o,_,rfl⟩:=e0.mp O;obtain⟨cA,_,e⟩:=e0.mp U;injection e with ay aG;exact ay.symm
theorem aap{ps:List cD}(aF:ps.length<=1000):zr [J (bJ bs),J<|bQ ps,J<|a5 b.1,J<|a5 b.2]=J (.bC,[J (bJ bs),J<|bQ<|ps++hc bs b,J<|a5 b.1,J<|a5 b.2]):=by
 have di:eJ 1 [0,2,3] (eQ<|ai<|hY<|aB (ai<|d9<|aB (ax 2)<|aB (ai<|aT eK (ax 3)<|ai<|aN<|.int 2) aW)<|aB (ai<|d9<|aB (ai<|aT eK (ax 2)<|ai<|aN<|.int 2)<|aB (ax 3) aW) aW) (b_ 0) G.Pw G.Pv [J (bJ bs),J<|bQ ps,J<|a5 b.1,J<|a5 b.2]=J (bQ<|hc bs b,[J (bJ bs),J<|bQ ps,J<|a5 b.1,J<|a5 b.2]):=by
  refine (C6 (xs:=[(b.1,b.2+2),(b.1+2,b.2)].map aI) (o:=aa) (D1:=[J (bJ bs),J<|bQ ps,J<|a5 b.1,J<|a5 b.2]) ?_ (uf _ (λo=>decide (o∈bs)) (λo=>bg (b,o)) [(b.1,b.2+2),(b.1+2,b.2)] [] (λo aS=>?_) (by show 0+2<=100000;decide))).trans ?_
  ·rfl
  ·refine⟨[J (.im<|aI o),J<|bJ bs,J<|a5 b.1,J<|a5 b.2],[J (.im<|aI o),J<|bJ bs,J<|a5 b.1,J<|a5 b.2],rfl,?_,λ_=>rfl,λ_=>⟨_,rfl,rfl⟩⟩;have zB:=Ib bs o;show (((jd (aI o)<|bJ bs).map λr=>aC.im<|.aR r).map λd=>(d,_)).bind (λp=>(r5 p.1).map λb=>(b,p.2))=_;rw[zB];rfl
  ·show J (aC.lst _,_)=J (aC.lst<|(hc bs b).map bg,_);unfold hc;rw[lP];rfl
 have bW:=zD bs b;have nB:(ps.map bg).length+((hc bs b).map bg).length<=100000:=by rw[b3,b3];lia
 have hm:sl (bQ ps) [bQ (hc bs b)]=J (.im .bu,bQ<|ps++hc bs b):=by
  show (if _ then _ else _)=_;rw[aV nB,<-jl]
 unfold zr;exact wI (uu rfl rfl (cB (bh di) rfl) rfl rfl hm rfl)
theorem PO(bs:List a7)(r:bq):ur (J (bJ bs)::r) 0 (bs.map aI)=af:=by
 unfold ur;simp
theorem PP{bs:List a7}:∀(todo:List a7) (ps:List cD) (o2 o3:Option aC),ps.length+2*todo.length<=1000->∃bI ck,p7 0 (bs.map aI) (hF 2<|ew (b_ 2)<|ew (b_ 3) hZ) zr (todo.map aI) [J (bJ bs),J<|bQ ps,o2,o3]=J (.bC,[J (bJ bs),J<|bQ<|ps++todo.flatMap (hc bs),bI,ck])
 |[],ps,o2,o3,_=>⟨o2,o3,by
  rw[KJ,p7];dsimp only;rw[aV (PO bs _),KA,c5]⟩
 |b::todo,ps,o2,o3,aF=>by
  rw[eS]at aF;have bW:=zD bs b;obtain⟨bI,ck,bS⟩:=PP todo (ps++hc bs b) (J<|a5 b.1) (J<|a5 b.2) (by rw[eZ];lia);refine⟨bI,ck,?_⟩;rw[dQ,p7];dsimp only;rw[aV (PO bs _),show hF 2 (ew (b_ 2)<|ew (b_ 3) hZ) (.im<|aI b) [J (bJ bs),J<|bQ ps,o2,o3]=J [J (bJ bs),J<|bQ ps,J<|a5 b.1,J<|a5 b.2] from rfl];show (zr _).bind _=_;rw[aap (by lia),xC,<-bY];exact bS
theorem aaq(B:lH bs):∃ps,wH [bJ bs]=J (bQ ps,[bJ bs])/\ps.Perm (eY bs):=by
 have aF:=B.len;have bW:=Dv bs bs;obtain⟨bI,ck,lp⟩:=PP (bs:=bs) bs [] aa aa (by simp;lia);rw[qn]at lp;obtain⟨ps,pm,e⟩:=aao (D:=[J (bJ bs),J<|bQ<|eY bs,bI,ck]) (i:=1) (Im B.au) (by show (bs.flatMap<|hc bs).length<=1000;lia) rfl;refine⟨ps,?_,pm⟩;unfold wH Px;exact oV [J (bJ bs),J<|bQ<|eY bs,bI,ck] rfl ((iD (D1:=[J (bJ bs),J<|bQ [],aa,aa]) rfl).trans<|(iD (D1:=[J (bJ bs),J<|bQ<|eY bs,bI,ck]) lp).trans<|bn e) rfl
noncomputable def d0(bs:List a7)(p:a7->a7):List (List ah×ah):=bs.map λb=>(ft b,aI<|p b)
theorem aar(p:a7->a7){c:a7}(h:c∈bs):gT (d0 bs p) (ft c)=J (aI<|p c):=by
 induction bs with
 |nil=>cases h
 |cons b bs bS=>
  unfold gT d0;rw[dQ,n6];by_cases e:b=c
  ·subst e;simp
  ·rw[show decide (((ft b,aI<|p b):List ah×ah).1=ft c)=aD from bi λz=>e<|zl z];exact bS ((cK.mp h).resolve_left λz=>e z.symm)
noncomputable def kJ(p:a7->a7)(e:cD):a7->a7:=λb=>if p b=p e.2 then p e.1 else p b
noncomputable def b6(s:(a7->a7)×List cD)(e:cD):(a7->a7)×List cD:=if s.1 e.1=s.1 e.2 then s else (kJ s.1 e,s.2++[e])
noncomputable def g6(es:List cD)(s:(a7->a7)×List cD):(a7->a7)×List cD:=es.foldl b6 s
structure p_(bs:List a7)(s:(a7->a7)×List cD):Prop where
 wO:∀b∈bs,s.1 b∈bs
 fix:∀b∈bs,s.1 (s.1 b)=s.1 b
 cnt:bs.countP (λb=>decide (s.1 b=b))+s.2.length=bs.length
 gen:∀q:a7->a7,(∀e∈s.2,q e.1=q e.2)->∀b∈bs,q (s.1 b)=q b
theorem p_.start(bs:List a7):p_ bs (λb=>b,[]):=⟨λb h=>h,λ_ _=>rfl,by show bs.countP (λb=>decide (b=b))+0=_;simp,λ_ _ _ _=>rfl⟩
theorem PQ{p:a7->Bool}{x:a7}(au:bs.Nodup)(ag:x∈bs)(aE:p x=af):bs.countP p=bs.countP (λb=>p b && !decide (b=x))+1:=by
 induction bs with
 |nil=>cases ag
 |cons a r bS=>
  obtain⟨jY,n2⟩:=lO.mp au;by_cases e:a=x
  ·subst e;rw[List.countP_cons_of_pos aE,List.countP_cons_of_neg (by simp)];congr 1;refine Kw λb ae=>?_;have:b≠a:=λz=>jY (z ▸ ae);simp[this]
  ·have aO:x∈r:=(cK.mp ag).resolve_left λz=>e z.symm;have:=bS n2 aO;rw[AV,AV,this];simp[e];lia
theorem p_.step(cm:p_ bs s)(au:bs.Nodup){e:cD}(O:e.1∈bs)(U:e.2∈bs):p_ bs (b6 s e):=by
 unfold b6;split
 ·exact cm
 ·rename_i ne;obtain⟨p,dB⟩:=s;have ne:p e.1≠p e.2:=ne;have f1:p (p e.1)=p e.1:=cm.fix _ O;have f2:p (p e.2)=p e.2:=cm.fix _ U;refine⟨λb ae=>?_,λb ae=>?_,?_,λq bk b ae=>?_⟩
  ·show (if p b=p e.2 then p e.1 else p b)∈bs;split
   ·exact cm.wO _ O
   ·exact cm.wO _ ae
  ·show kJ p e (kJ p e b)=kJ p e b;have Dw:p (p b)=p b:=cm.fix b ae;unfold kJ;by_cases z:p b=p e.2
   ·rw[aV z,f1,aZ ne]
   ·rw[aZ z,Dw,aZ z]
  ·have c:=cm.cnt;have o:=PQ (p:=λb=>decide (p b=b)) au (cm.wO _ U) (eL f2);have ay:bs.countP (λb=>decide (kJ p e b=b))=bs.countP (λb=>decide (p b=b) && !decide (b=p e.2)):=by
    refine Kw λb ae=>?_;unfold kJ;by_cases z:p b=p e.2
    ·rw[aV z];constructor
     ·intro h;have h:=gg h;rw[<-h,f1]at z;exact absurd z ne
     ·intro h;simp at h;exact absurd (h.1.symm.trans z) h.2
    ·rw[aZ z];have:p b=b->b≠p e.2:=λh w=>z (h.trans w);simp;exact this
   show bs.countP (λb=>decide (kJ p e b=b))+(dB++[e]).length=_;rw[ay,eZ,qk];dsimp only at c;lia
  ·have g:=cm.gen q λx ag=>bk x (fD _ ag);have he:q e.1=q e.2:=bk e (fR _<|.head _);show q (if p b=p e.2 then p e.1 else p b)=q b;split
   ·rename_i z;rw[g _ O,he,<-g _ U];show q (p e.2)=_;rw[<-z];exact g _ ae
   ·exact g _ ae
theorem Io{bs:List a7}(au:bs.Nodup):∀(es:List cD) (s:(a7->a7)×List cD),p_ bs s->(∀e∈es,e.1∈bs/\e.2∈bs)->p_ bs (g6 es s)/\(∃us,(g6 es s).2=s.2++us/\us.Sublist es)/\(∀e∈es,(g6 es s).1 e.1=(g6 es s).1 e.2)/\∀x y,s.1 x=s.1 y->(g6 es s).1 x=(g6 es s).1 y
 |[],s,cm,_=>⟨cm,⟨[],(c5 _).symm,.slnil⟩,(λ_ z=>nomatch z),λ_ _ z=>z⟩
 |e::es,s,cm,h=>by
  have aas:=cm.step au (h e<|.head _).1 (h e<|.head _).2;obtain⟨a,⟨us,cO,d1⟩,c,d⟩:=Io au es (b6 s e) aas λx ag=>h x (.tail _ ag);have k1:∀x y,s.1 x=s.1 y->(b6 s e).1 x=(b6 s e).1 y:=λx y z=>by
   unfold b6;split
   ·exact z
   ·show kJ s.1 e x=kJ s.1 e y;unfold kJ;rw[z]
  have k2:(b6 s e).1 e.1=(b6 s e).1 e.2:=by
   unfold b6;split
   ·rename_i z;exact z
   ·rename_i z;show kJ s.1 e e.1=kJ s.1 e e.2;unfold kJ;rw[aZ z,aV rfl]
  refine⟨a,?_,λx ag=>?_,λx y z=>d x y<|k1 x y z⟩
  ·show ∃us,(g6 es<|b6 s e).2=_/\_;rw[cO];unfold b6;split
   ·exact⟨us,rfl,d1.cons e⟩
   ·exact⟨e::us,by rw[bY];rfl,d1.cons₂ e⟩
  ·rcases cK.mp ag with z|z
   ·rw[z];exact d _ _ k2
   ·exact c x z
noncomputable def pp(bs:List a7)(T:List cD):Prop:=∀q:a7->a7,(∀e∈T,q e.1=q e.2)->∀a∈bs,∀b∈bs,q a=q b
theorem PR(cm:p_ bs s)(au:bs.Nodup)(ne:bs≠[])(h:∀a∈bs,∀b∈bs,s.1 a=s.1 b):s.2.length+1=bs.length:=by
 obtain⟨o,aS⟩:=List.exists_mem_of_ne_nil _ ne;have e:bs.countP (λb=>decide (s.1 b=b))=1:=by
  rw[PQ au (cm.wO o aS) (eL<|cm.fix o aS)];have:bs.countP (λb=>decide (s.1 b=b) && !decide (b=s.1 o))=0:=by
   rw[List.countP_eq_zero];intro b ae;simp;intro z;rw[<-z];exact h b ae o aS
  rw[this]
 have:=cm.cnt;lia
theorem PS{p:a7->a7}{dB:List cD}{bs:List a7}(h:∀a∈bs,∀b∈bs,p a=p b):∀es:List cD,(∀e∈es,e.1∈bs/\e.2∈bs)->g6 es (p,dB)=(p,dB)
 |[],_=>rfl
 |e::es,he=>by
  show g6 es (b6 (p,dB) e)=_;rw[show b6 (p,dB) e=(p,dB) from aV (h _ (he e<|.head _).1 _ (he e<|.head _).2)];exact PS h es λx ag=>he x (.tail _ ag)
theorem Ch(B:lH bs):let T:=(g6 (eY bs) (λb=>b,[])).2;T.Sublist (eY bs)/\T.length+1=bs.length/\pp bs T:=by
 have he:∀e∈eY bs,e.1∈bs/\e.2∈bs:=λe h=>⟨(p'.mp h).1,(p'.mp h).2.1⟩;obtain⟨cm,⟨us,iy,i6⟩,c,_⟩:=Io B.au (eY bs) (λb=>b,[]) (p_.start bs) he;have all:∀a∈bs,∀b∈bs,(g6 (eY bs) (λb=>b,[])).1 a=(g6 (eY bs) (λb=>b,[])).1 b:=B.con _ λa az b ae z=>c (a,b) (p'.mpr ⟨az,ae,z⟩);refine⟨by rw[show (g6 (eY bs) (λb=>b,[])).2=us from iy];exact i6,PR cm B.au B.ne all,λq bk a az b ae=>?_⟩;rw[<-cm.gen q bk a az,<-cm.gen q bk b ae,all a az b ae]
theorem aat{T:List cD}(B:lH bs)(dM:∀e∈T,zw bs e)(aF:T.length+1=bs.length)(aq:pp bs T):(g6 (T++eY bs) (λb=>b,[])).2=T:=by
 have he:∀e∈eY bs,e.1∈bs/\e.2∈bs:=λe h=>⟨(p'.mp h).1,(p'.mp h).2.1⟩;obtain⟨cm,⟨us,iy,i6⟩,c,_⟩:=Io B.au T (λb=>b,[]) (p_.start bs) λe h=>⟨(dM e h).1,(dM e h).2.1⟩;have all:=aq _ c;have l:=PR cm B.au B.ne all;have e:g6 (T++eY bs) (λb=>b,[])=g6 (eY bs) (g6 T (λb=>b,[])):=EK;rw[e];generalize g6 T (λb=>b,[])=s at *;obtain⟨p,dB⟩:=s;rw[PS all _ he];have:dB=us:=iy;rw[this];exact i6.eq_of_length (by rw[<-this];dsimp only at l;lia)
end G
namespace L2
open PySem PySem.Spec PyProof.Rows
variable{uz body:List cg}{nK:cg}{Dx hn fy np pos p:dk}{uA C L e f a:ar}{q pins:List (ar×bE)}{q7:aj->aA->Prop}{t:gM}{aq:List Fu}{h0:Fu}{D:Ends}{R:bq->bq->Prop}{s s0:aA}{σ:St}{E:hP}{outer l:List fL}{A:cj}{cd fe:aj}{scope:iL}{mf H:aM}{Q:Unit->aA->Prop}{vs:Array aj}{cz:bE}{h' h:br}{S:List ar}{w:bN}{P:cc}{y qual x:aQ}{i k n:Nat}{es:List bM}{g:M (List cH)}{fix:List Nat}{N ps:List aQ}{K:PySem.W.Frag}{G:d_}
noncomputable def zE:List (ar×bE)->Bool
 |[]=>af
 | (_,o)::r=>(match o.data with
  |.seq _ _=>(match o.cls with | .type n=>n != "list" |_=>af)
  |_=>af)&&zE r
theorem aau{K:List (ar×bE)}{o:bE}{aP:Array aj}(h:zE K=af)(e:K.lookup a=J o)(av:o.cls=.type "list")(hd:o.data=.seq aP n):False:=by
 induction K with
 |nil=>cases e
 |cons p r bS=>
  obtain⟨b,x⟩:=p;rw[zE,dv]at h;simp only[List.lookup]at e;split at e
  ·cases e;have O:=h.1;rw[hd]at O;dsimp only at O;rw[av]at O;exact absurd O (by decide)
  ·exact bS h.2 e
theorem PT{H:aM}:∀ns:List Int,cq H (ns.map .int) (ns.map V.int)
 |[]=>rfl
 |n::r=>⟨.int n,_,rfl,rfl,PT r⟩
theorem aav(hK:zE K=af)(H:aM)(a:ar)(ns:List Int)(rT:B5 H)(dq:er K H a (ns.map V.int))(cE:∃outs,G [.e2 (ns.map .int)]=J (.im<|.aR af,outs)){E:hP}:nP 1 G [.ref a] H (λv _=>v=.aR af) E:=by
 obtain⟨outs,cE⟩:=cE;have hf:∃o,H a=J (.fO o<|.lst<|ns.map V.int):=by
  rcases dq with (h|h)|⟨o,aP,n,O,U,aL,aU,_⟩
  ·rcases rT a with e|⟨o,xs,e⟩
   ·rw[e]at h;cases h
   ·rw[e]at h;cases h
  ·exact h
  ·exact (aau hK O U aU).elim
 obtain⟨o,aS⟩:=hf;refine⟨rfl,[.e2 (ns.map .int)],[],.im<|.aR af,outs,⟨_,_,[],[],rfl,⟨a,_,o,rfl,aS,PT ns,rfl⟩,⟨rfl,rfl⟩,rfl⟩,qo,cE,λv ak R R' h _ _=>?_⟩;exact h.1
theorem Ip{us:List aj}(h:us.length=n+1):∃a r,us=a::r/\r.length=n:=by
 cases us with
 |nil=>cases h
 |cons a r=>exact⟨a,r,rfl,Nat.succ.inj h⟩
theorem jT.aaw{st:cg}{fd:iN}(F:jT K x qual st f fd)(h:∀(d5 doc pm:aj) (an:Option ar) (cf dA:aj) (a:aj),vm (PySem.W.fnOf x qual (pL st) (k8 st) (c3 st) .none d5 doc pm an cf dA) ⟨[a],[]⟩=pure (ps.zip [a]))(aE:ps.length=1:=by rfl):kY K fd ps []:=
 F.binds λd5 doc pm an cf dA us aF=>by
  replace aF:=aF.trans aE;obtain⟨a,iy,rfl,O⟩:=Ip aF;obtain rfl:=xy O;exact h d5 doc pm an cf dA a
theorem jT.aax{st:cg}{fd:iN}(F:jT K x qual st f fd)(h:∀(d5 doc pm:aj) (an:Option ar) (cf dA:aj) (a b:aj),vm (PySem.W.fnOf x qual (pL st) (k8 st) (c3 st) .none d5 doc pm an cf dA) ⟨[a,b],[]⟩=pure (ps.zip [a,b]))(aE:ps.length=2:=by rfl):kY K fd ps []:=
 F.binds λd5 doc pm an cf dA us aF=>by
  replace aF:=aF.trans aE;obtain⟨a,iy,rfl,O⟩:=Ip aF;obtain⟨b,i6,rfl,U⟩:=Ip O;obtain rfl:=xy U;exact h d5 doc pm an cf dA a b
noncomputable def Raw(K:PySem.W.Frag)(x:aQ)(st:cg)(f:ar):Prop:=∃fd,jT K x x st f fd/\PySem.W.nsIn K fm x=J (J<|.ref f)
noncomputable def fJ(K:PySem.W.Frag)(mg:aQ->Option aj)(x:aQ)(st:cg)(f:ar)(ps:List aQ):Prop:=∃fd,jT K x x st f fd/\kY K fd ps []/\mg x=J (.ref f)
noncomputable def cC(P:cc)(w:bN)(K:PySem.W.Frag)(mg:aQ->Option aj)(base:br)(k:Nat)(x:aQ)(st:cg)(f:ar)(ps:List aQ)(n:Nat)(G:d_):Prop:=∃fd,jT K x x st f fd/\kY K fd ps []/\mg x=J (.ref f)/\iX P w K mg base k9 k f fd ps (nP n G)
theorem Cl{st:cg}{ko:aj}{jO an:Option ar}{mS:Array (Option aj)}{d5 doc pm cf dA:aj}(a:PySem.W.nsIn K fm x=J (J<|.ref f))(l:K.lookup f=J ⟨ko,jO,.func<|PySem.W.fnOf x x (pL st) (k8 st) (c3 st) .none d5 doc pm an cf dA,mS⟩)(c:PySem.W.codeIn K cf x=af)(k:PySem.W.keepIn K (.ref f)=af):Raw K x st f:=⟨_,Wp l c k,a⟩
section
variable{P:cc}{w:bN}{K:PySem.W.Frag}{mg:aQ->Option aj}{base h:br}{k n:Nat}{x:aQ}{st:cg}{f:ar}{ps:List aQ}{G:d_}
theorem Raw.cO(r:Raw K x st f)(X:K.In h)(dJ:h.Ns fm mg)(ae:∀(d5 doc pm:aj) (an:Option ar) (cf dA a:aj),vm (PySem.W.fnOf x x (pL st) (k8 st) (c3 st) .none d5 doc pm an cf dA) ⟨[a],[]⟩=pure (ps.zip [a]))(aE:ps.length=1:=by rfl):fJ K mg x st f ps:=
 have ⟨_,gU,a⟩:=r
 ⟨_,gU,gU.aaw ae aE,sV X dJ a⟩
theorem Raw.d1(r:Raw K x st f)(X:K.In h)(dJ:h.Ns fm mg)(ae:∀(d5 doc pm:aj) (an:Option ar) (cf dA a b:aj),vm (PySem.W.fnOf x x (pL st) (k8 st) (c3 st) .none d5 doc pm an cf dA) ⟨[a,b],[]⟩=pure (ps.zip [a,b]))(aE:ps.length=2:=by rfl):fJ K mg x st f ps:=
 have ⟨_,gU,a⟩:=r
 ⟨_,gU,gU.aax ae aE,sV X dJ a⟩
theorem cC.m(C:cC P w K mg base k x st f ps n G):mg x=J (.ref f):=have ⟨_,_,_,m,_⟩:=C;m
theorem cC.fd{fd:iN}(C:cC P w K mg base k x st f ps n G)(gU:jT K x x st f fd):iX P w K mg base k9 k f fd ps (nP n G):=by
 obtain⟨ag_,aay,_,_,g⟩:=C;obtain⟨ko,jO,d5,doc,pm,an,cf,dA,mS,e,l,_⟩:=gU.ex;obtain⟨aha,ahb,ahc,ahd,ahe,ahf,ahg,ahh,ahi,b7,tR,_⟩:=aay.ex;rw[l]at tR;cases tR;exact g
theorem aaz(r:Raw K x st f)(X:K.In h)(dJ:h.Ns fm mg){fa:ar}(Iq:mg x=J (.ref fa)){p:aQ}(ae:∀(d5 doc pm:aj) (an:Option ar) (cf dA:aj) (s:aA) (v:aj),rE s (PySem.W.fnOf x x (pL st) (k8 st) (c3 st) .none d5 doc pm an cf dA) ⟨[v],[]⟩ [(p,v)])(C:∀base,cC P w K mg base k x st f [p] n G):
  ∃fd:iN,(∀(s:aA) (v:aj),rE s fd ⟨[v],[]⟩ [(p,v)])/\∀base:br,K.In base->base.Ns fm mg->iX P w K mg base k9 k fa fd [p] (nP n G):=by
 obtain⟨fd,gU,a⟩:=r;cases Iq.symm.trans (sV X dJ a);refine⟨fd,?_,λb _ _=>(C b).fd gU⟩;obtain⟨ko,jO,d5,doc,pm,an,cf,dA,mS,rfl,l,_⟩:=gU.ex;exact ae d5 doc pm an cf dA
theorem gI{g:b5}(F:fJ K mg x st f ps)(S:fq N ps (c3 st))(bo:ps.length=n)(Od:∀i∈fix,i<n)(ae:N.Nodup->∀(cf:aj) (A:cj) (outer:List fL) (s:aA) (H:aM) (E:hP),gb k (A.deeper<|mL x (c3 st) s.heap.objs.size f cf)->j4 (l5 k9 P w K mg base N x (c3 st) f cf A outer s H E).vD fix (k8 st) g):
  cC P w K mg base (k+1) x st f ps n (eR n N.length fix g):=
 have ⟨_,gU,b,m⟩:=F
 ⟨_,gU,b,m,Oc gU S bo Od<|ae S.au⟩
end
section
variable{X:a4}
variable{m:Nat}{e:bM}
theorem d7{st:cg}(C:cC X.prog X.w X.K X.mg X.base k x st f ps n G)(aO:gb m X.A)(aJ:fo X x)(az:i9 X (e::es) g)(hm:k<=m:=by decide)(iY:(x==("__debug__" : aQ))=aD:=by decide)(he:cx (e::es) X.env=(aD,de e X.env)::cx es X.env:=by rfl)(fT:(ht pos<|cx es X.env).any (·.1)=aD:=by rfl):
  dP X (.Call (.Name x p) (e::es) [] pos) (am n G g):=
 have ⟨_,gU,b,m,F⟩:=C
 NS F (aO.mono hm) aJ m gU.fk b az iY he fT
theorem PU{st:cg}(C:cC X.prog X.w X.K X.mg X.base k y st f ps n G)(aO:gb m X.A)(bb:cF X (.Name x p) (qz i))(az:i9 X (e::es) g)(hm:k<=m:=by decide)(he:cx (e::es) X.env=(aD,de e X.env)::cx es X.env:=by rfl)(fT:(ht pos<|cx es X.env).any (·.1)=aD:=by rfl):
  dP X (.Call (.Name x p) (e::es) [] pos) (y_ i f n G g):=
 have ⟨_,gU,b,_,F⟩:=C
 Zm F (aO.mono hm) bb gU.fk b az he fT
theorem bV{i:Int}{j pos}:gp X (.Constant (.int i) j pos) (ai<|aN<|.int i):=a0 m5
theorem aX(i:Nat){x:aQ}{pos:dk}(dT:X.N[i]?=J x:=by rfl)(bb:BD X.env.scope x:=by first|exact Or.inl rfl|exact Or.inr (Or.inl rfl)|exact Or.inr (Or.inr rfl))(hd:(x==("__debug__" : aQ))=aD:=by decide)(kW:(x==("__classdict__" : aQ))=aD:=by decide):gp X (.Name x pos) (ax i):=X3 (L' dT bb hd kW)
theorem bl{g:M cH}(he:gp X e g)(aq:cx [e] X.env=(aD,de e X.env)::cx [] X.env:=by rfl):i9 X [e] (aB g aW):=cW he tU aq
theorem ey{a b:bM}{ga c4:M cH}(aO:gb m X.A)(az:gp X a ga)(ae:gp X b c4)(aq:no b:=by exact λ_ _=>rfl):dP X (.Subscript a b pos) (aT bX ga c4):=X4 (YD (by have:=aO.un;omega)) az ae aq
end
theorem eD.gone(x:eD P w H h)(n:h.get? a=aa):H a=aa:=by
 cases q:H a with
 |none=>rfl
 |some o=>
  have ag:∃u,h.get? a=J u:=by
   have z:=x a o q;clear q;induction o with
   |lst xs=>obtain⟨_,aP,m,_,e⟩:=z;exact⟨_,e⟩
   |tup xs=>obtain⟨_,aP,_,cX,e,_⟩:=z;exact⟨_,e⟩
   |eN kvs=>obtain⟨_,_,vs,_,cX,es,ep,e,_⟩:=z;exact⟨_,e⟩
   |a8 kvs=>obtain⟨_,_,xs,_,cX,es,ep,e,_⟩:=z;exact⟨_,e⟩
   |set S m=>obtain⟨cX,es,ep,t,e,_⟩:=z;exact⟨_,e⟩
   |ins C kl fs=>obtain⟨_,_,_,e,_⟩:=z;exact⟨_,e⟩
   |own _=>exact z
   |BA fs=>obtain⟨kU,⟨o,es,ep,e,_⟩,_⟩:=z;exact⟨_,e⟩
   |qv lo ao=>obtain⟨t,u,v,e⟩:=z;exact⟨_,e⟩
   |fO cX u bS=>exact⟨_,z.1⟩
   |rI ps=>exact⟨_,z⟩
   |met f y=>exact⟨_,z⟩
   |ext jn=>exact z.2.1
  obtain⟨u,e⟩:=ag;rw[n]at e;cases e
section
variable{M:jJ}{A:cj}{q7:aj->aA->Prop}{s:aA}{P:cc}{w:bN}{H:aM}{base:br}{env:fL}{outer:List fL}{L e:ar}
theorem Dy(aF:s.heap.FunFrames base l)(aq:∀b∈el l,b∈S):s.heap.FunFrames (PySem.W.hideAll s.heap S) l:=by
 induction l with
 |nil=>trivial
 |cons x r bS=>
  obtain⟨aY,⟨L,o,hf,_,aS,hd⟩,aO⟩:=aF;refine⟨aY,⟨L,o,hf,rA S<|aq L ?_,aS,hd⟩,bS aO λb ae=>aq b ?_⟩
  ·show L∈(x::r).filterMap (·.frame);rw[sP,hf];exact .head _
  ·show b∈(x::r).filterMap (·.frame);rw[sP,hf];exact .tail _ ae
theorem mo(aF:s.heap.FunFrames base l)(gx:∀b∈S,H b=aa){xs:List ar}(dq:∀b∈S,b∈el l\/b∈xs)(bw:eD P w H s.heap)(k1:(PySem.W.hideAll s.heap S).StaysIn h')(j9:∀b o,s.heap.get? b=J o->(∀vs,o.data≠.fields vs)->∃bK,h'.get? b=J {o with slots:=bK}):eE (el l) xs H H s.heap h'/\eD P w H h':=by
 have keep:∀b o,s.heap.get? b=J o->b∉S->h'.get? b=J o:=λb o q n=>k1 b o (va S q n);refine⟨⟨λb o q _ lZ bC=>keep b o q λz=>(dq b z).elim lZ bC,λb o q _ hf _=>?_,λ_ _ _ n _=>n,λb o q bC=>?_,λ_ _ q=>q,λ_ _ _ q=>q,λ_ ps q=>⟨#[],by rw[q];simp⟩⟩,λa o q=>?_⟩
 ·obtain⟨_,cA,aS,hd⟩:=aF.mem hf;rw[q]at aS;cases aS;exact j9 b o q hd
 ·by_cases ae:b∈S
  ·rcases dq b ae with hf|ag
   ·obtain⟨_,cA,aS,hd⟩:=aF.mem hf;rw[q]at aS;cases aS;obtain⟨bK,ay⟩:=j9 b o q hd;exact⟨_,ay⟩
   ·exact absurd ag bC
  ·exact⟨o,keep b o q ae⟩
 ·refine (bw a o q).lX (λb u ae bZ=>keep b u bZ λz=>?_) (λ_ z=>z) λ_ _ z=>z;rcases ae with rfl|ae
  ·rw[gx b z]at q;cases q
  ·rw[gx b z]at ae;cases ae
noncomputable def PV(H:aM)(h0 h:br)(e:ar)(cls fe:aj):Prop:=∃cz vs T hg dB,h.get? e=J cz/\(cz.cls=cls/\vs[0]?=J fe)/\cz.data=.fields vs/\vs[1]?=J (.ref T)/\h0.get? T=aa/\T≠e/\h.get? T=J hg/\hg.data=.fields dB/\dB[3]?=J .none/\H T=aa
theorem aaA(Ir:A.frames=J (env::outer))(aF:s.heap.FunFrames base (env::outer))(hf:env.frame=J L)(he:s.heap.get? e=J cz)(hd:cz.data=.fields vs)(O:vs[1]?=J .none)(h0:vs[0]?=J fe)(gx:H e=aa)(l8:∀b∈el (env::outer),H b=aa)(bw:eD P w H s.heap)(h:∀h',eE (el (env::outer)) [e] H H s.heap h'->eD P w H h'->PV H s.heap h' e cz.cls fe->Q () {s with heap:=h'}):wpAny M A (leaving env<|.ref e) Q q7 s:=by
 have dq:∀b∈e::el (env::outer),b∈el (env::outer)\/b∈[e]:=λb ae=>by
  rcases cK.mp ae with r|r
  ·rw[r];exact .inr (.head _)
  ·exact .inl r
 refine wpAny_leaving_firstW (base:=PySem.W.hideAll s.heap (e::el (env::outer))) Ir (Dy aF λb ae=>.tail _ ae) hf he (λb o q=>xG _ q) (rA _<|.head _) hd O h0 λh' ⟨k1,_,k3,j9⟩=>?_;obtain⟨kK,kc,T,hg,dB,t1,gr,t3,ih,uB,jD,kL,i8,lI⟩:=k3;obtain⟨u,aS⟩:=mo (P:=P) (w:=w) aF (λb ae=>(dq b ae).elim (l8 b) λz=>by rw[c2.mp z];exact gx) (xs:=[e]) dq bw k1 j9;have dM:s.heap.get? T=aa:=by
  cases q:s.heap.get? T with
  |none=>rfl
  |some o=>
   by_cases dM:T∈e::el (env::outer)
   ·rcases cK.mp dM with r|r
    ·exact absurd r jD
    ·obtain⟨_,cA,hA,iP⟩:=aF.mem r;obtain⟨bK,ay⟩:=j9 T cA hA iP;rw[kL]at ay;cases ay;exact absurd i8 (iP dB)
   ·rw[va _ q dM]at uB;cases uB
 exact h h' u aS ⟨kK,kc,T,hg,dB,t1,gr,t3,ih,dM,jD,kL,i8,lI,bw.gone dM⟩
end
theorem eE.out{fs:List ar}{h0 O U:br}(a:eE fs [] mf H h0 O)(b:eE (L::fs) [e] H H O U)(h7:∀c o,h0.get? c=J o->c≠L)(fl:∀c o,h0.get? c=J o->c≠e):eE fs [] mf H h0 U:=by
 have bC:∀c o,h0.get? c=J o->c∉[e]:=λc o q z=>fl c o q (c2.mp z);have lZ:∀c o,h0.get? c=J o->c∉fs->c∉L::fs:=λc o q n z=>(cK.mp z).elim (h7 c o q) n;have jA:∀c:ar,c∉([]:List ar):=λc z=>by cases z
 refine⟨λc o q n av _=>b.keep c o (a.keep c o q n av<|jA c) (a.free c o q n<|jA c) (lZ c o q av)<|bC c o q,λc o q n av _=>?_,λc o q n _=>a.free c o q n<|jA c,λc o q _=>?_,λc xs q=>b.jP c xs<|a.jP c xs q,λc o u q=>b.jo c o u<|a.jo c o u q,λc ps q=>?_⟩
 ·obtain⟨bK,ay⟩:=a.slot c o q n av (jA c);obtain⟨th,aG⟩:=b.slot c _ ay (a.free c o q n<|jA c) (.tail _ av) (bC c o q);exact⟨th,aG⟩
 ·obtain⟨cA,ay⟩:=a.there c o q (jA c);exact b.there c cA ay (bC c o q)
 ·obtain⟨d8,ay⟩:=a.kn c ps q;obtain⟨dS,aG⟩:=b.kn c _ ay;exact⟨d8++dS,by rw[aG,E2]⟩
noncomputable def q8(P:cc)(w:bN):nG:=λouter H s E ev s'=>∃(e C:ar) (fe:aj) (ak:aM),ev=.ref e/\s'.os=s.os/\pl s'.gens/\eE (el outer) [] H ak s.heap s'.heap/\eD P w ak s'.heap/\s.heap.get? e=aa/\ak e=aa/\PV ak s.heap s'.heap e (.ref C) fe/\E (.ref C) aa ak
theorem aaB{mg:aQ->Option aj}{base:br}{t':Nat}(I:Inv (l5 (q8 P w) P w K mg base N qual scope f cd A outer s0 mf E) pins σ H s)(k:∀b u,s.heap.get? b=J u->h'.get? b=J u)(n:s.heap.get? e=aa)(he:h'.get? e=J cz)(av:cz.cls=.ref C)(hd:cz.data=.fields vs)(O:vs[1]?=J .none)(h0:vs[0]?=J fe)(Is:E (.ref C) aa H):
  (l5 (q8 P w) P w K mg base N qual scope f cd A outer s0 mf E).dw (.ref e) {s with heap:=h',toks:=t'}:=by
 have cm:=I.kept (t':=t') k;have fl:H e=aa:=I.bw.gone n;refine aaA (base:=base) (P:=P) (w:=w) (H:=H) (L:=s0.heap.objs.size) cm.ok.frames cm.stack rfl he hd O h0 fl cm.vA cm.bw λU un aS rN=>?_;rw[av]at rN;obtain⟨kK,kc,T,hg,dB,t1,gr,t3,ih,uB,jD⟩:=rN;have old:∀c o,s0.heap.get? c=J o->∃cA,s.heap.get? c=J cA:=λc o q=>I.base.there c o q λz=>by cases z
 refine⟨e,C,fe,H,rfl,cm.os,cm.bare,?_,aS,?_,fl,⟨kK,kc,T,hg,dB,t1,gr,t3,ih,?_,jD⟩,Is⟩
 ·refine eE.out (L:=s0.heap.objs.size) (e:=e) cm.base un (λc o q=>eB<|c8 q) λc o q z=>?_;obtain⟨cA,ay⟩:=old c o q;rw[z,n]at ay;cases ay
 ·cases q:s0.heap.get? e with
  |none=>rfl
  |some o=>
   obtain⟨cA,ay⟩:=old e o q;rw[n]at ay;cases ay
 ·cases q:s0.heap.get? T with
  |none=>rfl
  |some o=>
   obtain⟨cA,ay⟩:=old T o q;rw[k T cA ay]at uB;cases uB
theorem aaC{PW:List aj}{PX:String}(X:K.In h)(q:PySem.W.excIn K C PW PX=af):∃bm N nm qA bs zF sn dC ab cl dd k0 k1 k2 k3 k5 mN,h.get? C=J (excClassObj nm qA C N bs bm zF sn dC ab cl dd k0 k1 k2 k3 k5 PX)/\h.Ns N mN/\mN "__init__" = aa/\OwnTail h PW bm:=by
 unfold PySem.W.excIn at q;split at q
 ·rename_i dd cd bK lk;split at q
  ·rename_i C' bm k0 k1 k2 k3 nw k5 ay aG;rw[dv,dv,dv,dv,dv]at q;obtain⟨⟨⟨⟨⟨bz,cR⟩,ed⟩,hR⟩,kr⟩,iW⟩:=q;cases pv.mp bz;cases pv.mp cR;obtain⟨nm,bs,ahj,nn,qA,zF,sn,dC,ab,cl,dl⟩:=cd;dsimp only at ay ed kr iW;cases dl with
   |true=>cases ed
   |false=>
    subst ay;obtain⟨bK⟩:=bK;dsimp only at aG;subst aG;exact⟨bm,nn,nm,qA,bs,zF,sn,dC,ab,cl,dd,k0,k1,k2,k3,k5,_,X _ _ lk,.of_isNs<|PySem.W.isNs_of_in X kr,PySem.W.nsMap_none_of_in X kr<|pv.mp iW,PySem.W.tail_of_in X hR⟩
  ·cases q
 ·cases q
noncomputable def Dz(X:a4)(C:ar):gM:=λ_ σ H=>∀(pins:List (ar×bE)) (s:aA) (e:ar) (h':br) (cz:bE) (vs:Array aj) (fe:aj),Inv X pins σ H s->(∀b u,s.heap.get? b=J u->h'.get? b=J u)->s.heap.get? e=aa->h'.get? e=J cz->cz.cls=.ref C->cz.data=.fields vs->vs[1]?=J .none->vs[0]?=J fe->X.dw (.ref e) {s with heap:=h'}
section
variable{X:a4}
theorem aaD{m:aQ}{j}(av:X.calm=af)(aJ:fo X x)(hm:X.mg x=J (.ref C))(q:PySem.W.excIn X.K C [.type "ValueError",.type "Exception",.type "BaseException",.type "object"] "ValueError.__new__" = af)(hd:(x==("__debug__" : aQ))=aD:=by decide):
  jR X (.Raise (J<|.Call (.Name x np) [.Constant (.str m) j fy] [] hn) aa pos) (Dz X C):=by
 intro pins s σ H D I h;have ae:cF X (.Name x np) (tj<|.ref C):=BI (v:=.ref C) aJ hm rfl hd;obtain⟨bm,N,nm,qA,bs,zF,sn,dC,ab,cl,dd,k0,k1,k2,k3,k5,mN,di,eh,gA,nL⟩:=aaC I.mod.vy q;have st:cx [bM.Constant (.str m) j fy] X.env=(aD,de (.Constant (.str m) j fy) X.env)::cx [] X.env:=rfl;refine wpAny_Raise_call_subT (C:=C) (nm:=nm) (q:=qA) (bs:=bs) (hdct:=zF) (sn:=sn) (sub:=dC) (ab:=ab) (col:=cl) (dd:=dd) (k0:=k0) (k1:=k1) (k2:=k2) (k3:=k3) (k5:=k5) (bm:=bm) (N:=N) (mN:=mN) Li (nL.hasType Li.hasBase) (I.ok.hd av) (by rw[st];rfl) gA (cQ (ae pins s σ H (λv H1=>v=.ref C/\H1=H) I ⟨rfl,rfl⟩) λu s1 ⟨v,H1,bG,r,ay,aG⟩=>?_);subst ay aG;cases r;refine⟨rfl,?_⟩;have cT:iS X [bM.Constant (.str m) j fy] _:=qE T0 yf;have sp:=cT hn pins s1 σ H1 (λvs a6=>vs.length=1/\a6=H1) bG ⟨rfl,rfl⟩;rw[st]at sp ⊢;refine Lz (cQ sp λus s2 ⟨vs,a6,dp,b0,l,aG⟩=>?_);subst aG;refine⟨rfl,?_,dp.eF _ _ di,eh.keeps dp.eF,nL.keeps dp.eF,λh' ex mk=>?_⟩
 ·show us.length<=sizeLine;rw[<-b0.length,l];decide
 ·obtain⟨t,d8,_,_⟩:=mk.there;exact h pins s2 ex h' _ _ _ dp mk.keeps mk.new d8 rfl rfl rfl rfl
end
noncomputable def It(fix:List Nat)(Z:St->aM->Prop)(R:bq->bq->Prop)(σ:St)(H:aM):Prop:=∃D F D',b2 H D σ F/\F.Nodup/\R D D'/\∀bc ak bB,d3 fix σ bc->b2 ak D' bc bB->bR H F ak bB->Z bc ak
noncomputable def jE(X:a4)(fix:List Nat)(Z:St->aM->Prop)(kC:List cg)(R:bq->bq->Prop):Prop:=iT X kC λ_ σ H=>It fix Z R σ H
noncomputable def q9(X:a4)(fix:List Nat)(Z:St->aM->Prop)(e:bM)(R:bq->bq->Prop):Prop:=cF X e λσ H _=>It fix Z R σ H
noncomputable def Iu(X:a4)(fix:List Nat)(Z:St->aM->Prop)(es:List bM)(R:bq->bq->Prop):Prop:=iS X es λσ H _=>It fix Z R σ H
section
variable{X:a4}{fix:List Nat}{Z:St->aM->Prop}{R:bq->bq->Prop}
theorem zG(kC:List cg):iT X kC λ_ _ _=>False:=λ_ _ _ _ _ _ h=>h.elim
theorem aaE{st:cg}{kC:List cg}{g:b5}(O:i_ X fix st g)(U:jE X fix Z kC R):jE X fix Z (st::kC) λD D'=>∃D1,g D=J (.bC,D1)/\R D1 D':=
 r' (io O U) λE σ H ⟨D,F,D',st,au,⟨D1,aJ,aO⟩,z⟩=>⟨D,F,.bC,D1,st,au,aJ,λbc ak bB fx aK s=>⟨D1,bB,D',aK,s.au,aO,λeW a6 bp tY b1 s2=>z eW a6 bp (fx.trans tY) b1<|s.seq s2⟩⟩
theorem aaF{c:bM}{a b rest:List cg}{eo:M Bool}(av:lu X c eo)(az:jE X fix Z a R):jE X fix Z (.If c a b pos::rest) λD D'=>∃D1,eo D=J (af,D1)/\R D1 D':=
 r' (io (Mf av az<|zG b)<|zG rest) λE σ H ⟨D,F,D',st,au,⟨D1,aJ,aO⟩,z⟩=>⟨D,F,af,D1,st,au,aJ,λak bB aK s=>⟨D1,bB,D',aK,s.au,aO,λeW a6 bp tY b1 s2=>z eW a6 bp tY b1<|s.seq s2⟩⟩
theorem aaG{m:aQ}{j}{rest:List cg}(av:X.calm=af)(aJ:fo X x)(hm:X.mg x=J (.ref C))(q:PySem.W.excIn X.K C [.type "ValueError",.type "Exception",.type "BaseException",.type "object"] "ValueError.__new__" = af)(hz:∀D σ H,Z σ H->Dz X C D σ H)(hd:(x==("__debug__" : aQ))=aD:=by decide):
  jE X fix Z (.Raise (J<|.Call (.Name x np) [.Constant (.str m) j fy] [] hn) aa pos::rest) λD D'=>D'=D:=
 r' (io (aaD av aJ hm q hd)<|zG rest) λE σ H ⟨D,F,D',st,au,e,z⟩=>hz _ σ H (z σ H F d3.refl (by rw[e];exact st)<|bR.perm au<|List.Perm.refl _)
theorem aaH(es:List bM):iS X es (λ_ _ _=>False):=λ_ _ _ _ _ _ _ h=>h.elim
variable{e:bM}
theorem aaI(h:q9 X fix Z e R)(aq:cx (e::es) X.env=(aD,de e X.env)::cx es X.env:=by rfl):Iu X fix Z (e::es) R:=
 λpos pins s σ H Q I w=>(qE h (aaH es) aq) pos pins s σ H Q I w
noncomputable def DA(n:Nat)(n0:List aC->Prop)(C:ar):pH:=λvs H _ E=>vs.length=n/\∃ds F,e9 H ds vs F/\F.Nodup/\n0 ds/\∀ak bB,bR H F ak bB->E (.ref C) aa ak
noncomputable def sC(X:a4)(pins:List (ar×bE))(b:ar):Prop:=X.f'.heap.get? b=aa/\b≠X.env.locals/\(∀x c,X.env.cells.lookup x=J c->c≠b)/\∀p∈X.hO++pins,p.1≠b
theorem DB{b:ar}(I:Inv X pins σ H s)(n:s.heap.get? b=aa)(ag:b∉X.ex):sC X pins b:=by
 refine⟨?_,λe=>?_,λx c h e=>?_,λp aE e=>?_⟩
 ·cases q:X.f'.heap.get? b with
  |none=>rfl
  |some o=>
   obtain⟨cA,ay⟩:=I.base.there b o q ag;rw[n]at ay;cases ay
 ·obtain⟨m,⟨o,es,ep,aS,_⟩,_⟩:=I.loc;rw[<-e,n]at aS;cases aS
 ·obtain⟨v,o,aS,_⟩:=I.cell x c h;rw[e,n]at aS;cases aS
 ·have:=(I.pin p aE).1;rw[e,n]at this;cases this
noncomputable def Exc(X:a4)(pins:List (ar×bE))(H:aM)(h:br)(e C:ar)(fe:aj):Prop:=H e=aa/\sC X pins e/\∃cz vs T hg dB,h.get? e=J cz/\(cz.cls=.ref C/\vs[0]?=J fe)/\cz.data=.fields vs/\vs[1]?=J (.ref T)/\T≠e/\h.get? T=J hg/\hg.data=.fields dB/\dB[3]?=J .none/\H T=aa/\sC X pins T
noncomputable def wQ(X:a4)(C:ar)(σ:St)(ak:aM):Prop:=∀(pins:List (ar×bE)) (s':aA) (e:ar) (fe:aj),Inv X pins σ ak s'->Exc X pins ak s'.heap e C fe->X.dw (.ref e) s'
theorem aaJ{n0:List aC->Prop}{fd:iN}(F:iX X.prog X.w X.K X.mg X.base (q8 X.prog X.w) k f fd ps (DA n n0 C))(aO:gb k X.A)(aJ:fo X x)(hm:X.mg x=J (.ref f))(aY:PySem.W.keepIn X.K (.ref f)=af)(ae:kY X.K fd ps [])(ag:X.ex=[])(hz:∀σ H,Z σ H->wQ X C σ H)(az:i9 X (e::es) g)(iY:(x==("__debug__" : aQ))=aD:=by decide)(he:cx (e::es) X.env=(aD,de e X.env)::cx es X.env:=by rfl)(fT:(ht pos<|cx es X.env).any (·.1)=aD:=by rfl):
  q9 X fix Z (.Call (.Name x p) (e::es) [] pos) λD D'=>∃os D1 ds,g D=J (os,D1)/\os.length=n/\gB os D1=J (ds,D')/\n0 ds:=by
 intro pins s σ H Q I ⟨D,kF,D',st,au,⟨os,D1,ds,O,bo,aL,ig⟩,z⟩;refine uW (lc I aJ hm ?_ iY);refine EU (h₀:=X.base) I.ok.mod.vy aY (cQ (@az pos pins s σ H (λvs H1=>DA n n0 C vs H1 (λ_ _=>False) λc _ ak=>c=.ref C/\wQ X C σ ak) I ⟨D,kF,os,D1,st,au,O,λvs H1 F1 dr cb o1 s1=>?_⟩) λus s1 ⟨vs,H1,bG,r,q⟩=>⟨bG.oa,?_⟩) he fT
 ·obtain⟨bp,cI,b1,ow,pm⟩:=r8 cb o1 aL;have s2:=s1.oH (pm.symm.trans ek);refine⟨by rw[<-o1.length];exact bo,ds,cI,ow,(eA.mp s2.au).1,ig,λcY gC s3=>⟨rfl,hz σ cY<|z σ cY bp d3.refl ?_ ?_⟩⟩
  ·exact b1.mono s3.tup λa az o e=>s3.keep a o e λae=>(eA.mp s2.au).2.2 a ae a az rfl
  ·exact (s2.trans s3 b1.chg).less (C:=gC) ek
 ·have aF:(us++[]).length=ps.length:=by rw[c5,<-r.length];exact F.len _ _ _ _ q
  have bd:=ae s1 us bG.oa aF;rw[c5]at bd;refine Ey (u3 (F.run X.A X.stack s1 H1 ⟨us,[]⟩ us vs _ _ aO bG.Mu bd r q) λrs s' bk=>?_);cases rs with
  |error ev=>
   obtain⟨ex,C',fe,ak,rfl,Gb,bare,un,bw,l0,fl,rN,⟨aN,cat⟩⟩:=bk;cases aN;have bC:∀b:ar,b∉X.ex:=λb z=>by rw[ag]at z;cases z
   obtain⟨cz,kc,T,hg,dB,t1,gr,t3,ih,uB,jD,kL,i8,lI,kM⟩:=rN;exact cat pins s' ex fe (bG.L4 (ch:=[]) Gb un bw bare λb z=>by cases z) ⟨fl,DB bG l0<|bC _,cz,kc,T,hg,dB,t1,gr,t3,ih,jD,kL,i8,lI,kM,DB bG uB<|bC _⟩
  |ok bf=>
   cases bf with
   |ret u=>obtain⟨v,ak,_,_,_,_,_,fs⟩:=bk;exact False.elim fs
   |next=>exact False.elim bk
   |brk=>exact False.elim bk
   |cont=>exact False.elim bk
end
section
variable{P:cc}{w:bN}{K:PySem.W.Frag}{mg:aQ->Option aj}{base:br}
theorem aaK(D:Ends)(σ:St)(H:aM)(h:E (.ref C) aa H):Dz (l5 (q8 P w) P w K mg base N qual scope f cd A outer s0 mf E) C D σ H:=
 λpins s e h' cz vs fe I k n he av hd O h0=>aaB (t':=s.toks) I k n he av hd O h0 h
theorem aaL{st:cg}{fd:iN}(F:jT K x qual st f fd)(S:fq N ps (c3 st))(bo:ps.length=n)(ae:∀(cf:aj) (A:cj) (outer:List fL) (s:aA) (H:aM) (E:hP),gb k (A.deeper<|mL qual (c3 st) s.heap.objs.size f cf)->jE (l5 (q8 P w) P w K mg base N qual (c3 st) f cf A outer s H E) fix (λ_ ak=>E (.ref C) aa ak) (k8 st) R):
  iX P w K mg base (q8 P w) (k+1) f fd ps (DA n (λds=>∃D',R (ds.map J++List.replicate (N.length-n) aa) D') C):=by
 obtain⟨ko,jO,d5,doc,pm,an,cf,dA,mS,rfl,lk,kW⟩:=F.ex;refine MB lk kW S (λvs H Q E h=>h.1.trans bo.symm) λA outer s H vs Q E aO h=>⟨_,ae cf A outer s H E aO,?_⟩;obtain⟨aF,ds,kF,ow,au,⟨D',ig⟩,z⟩:=h;have st:=Hp (m:=N.length-n) ow;have es:start N vs=vs.map J++List.replicate (N.length-n) aa:=by unfold start;rw[aF]
 rw[es];exact⟨_,kF,D',st,au,ig,λ_ ak bB _ _ s=>z ak bB s⟩
end
noncomputable abbrev a4.hold(X:a4)(E:aj->aA->Prop)(ps:List (ar×bE)):a4:={X with dw:=E,hO:=X.hO++ps}
section
variable{X:a4}{pins q:List (ar×bE)}{σ:St}{H:aM}{s:aA}{E:aj->aA->Prop}
theorem Inv.hold(I:Inv X pins σ H s)(E:aj->aA->Prop):Inv (X.hold E pins) [] σ H s:=
 ⟨⟨I.ok.mod,I.ok.kind,I.ok.glob,I.ok.blt,I.ok.above,I.ok.inj,I.ok.has,I.ok.pA,I.ok.hd,I.ok.frames,I.ok.qx,I.ok.tf,I.ok.bs,I.ok.mP,I.ok.pB,I.ok.pC,I.ok.iR,I.ok.n_⟩,I.os,I.bare,I.base,I.loc,I.cell,I.free,I.iv,λp aE=>I.pin p (by rw[c5]at aE;exact aE),I.bw,I.len⟩
theorem Inv.qa(I:Inv (X.hold E pins) q σ H s):Inv X pins σ H s:=
 ⟨⟨I.ok.mod,I.ok.kind,I.ok.glob,I.ok.blt,I.ok.above,I.ok.inj,I.ok.has,I.ok.pA,I.ok.hd,I.ok.frames,I.ok.qx,I.ok.tf,I.ok.bs,I.ok.mP,I.ok.pB,I.ok.pC,I.ok.iR,I.ok.n_⟩,I.os,I.bare,I.base,I.loc,I.cell,I.free,I.iv,λp aE=>I.pin p<|fD _ aE,I.bw,I.len⟩
theorem nE.qa{f:Flow}{s':aA}(h:nE (X.hold E pins) q D f s'):nE X pins D f s':=by
 cases f with
 |next=>obtain⟨bc,ak,I,q⟩:=h;exact⟨bc,ak,I.qa,q⟩
 |brk=>obtain⟨bc,ak,I,q⟩:=h;exact⟨bc,ak,I.qa,q⟩
 |cont=>obtain⟨bc,ak,I,q⟩:=h;exact⟨bc,ak,I.qa,q⟩
 |ret u=>obtain⟨v,bc,ak,I,r,q⟩:=h;exact⟨v,bc,ak,I.qa,r,q⟩
theorem aaM(ae:∀E p,iT (X.hold E p) body t):jR X (.Try body (h0::aq) [] [] pos) t:=by
 intro pins s σ H D I hw;refine J9 (ip (ae _ pins [] s σ H D (I.hold _) hw) (λf s1 q=>?_) λe s1 z=>z);have q:=nE.qa q;cases f with
 |next=>exact uZ q
 |brk=>exact q
 |cont=>exact q
 |ret u=>exact q
theorem PY{g:b5}(ae:∀E p,j4 (X.hold E p) fix body g):i_ X fix (.Try body (h0::aq) [] [] pos) g:=aaM λE p=>ae E p
theorem Inv.PZ{T:ar}(I:Inv X pins σ H s)(u:eE (el X.stack) [e,T] H H s.heap h')(bw:eD X.prog X.w H h')(n:∀b∈[e,T],X.f'.heap.get? b=aa/\b≠X.env.locals/\(∀x c,X.env.cells.lookup x=J c->c≠b)/\∀p∈X.hO++pins,p.1≠b):
  Inv X pins σ H {s with heap:=h'}:=by
 have ok:({X with ex:=[e,T]++X.ex}:a4).Ok:=by
  refine⟨I.ok.mod,I.ok.kind,I.ok.glob,I.ok.blt,I.ok.above,I.ok.inj,I.ok.has,I.ok.pA,I.ok.hd,I.ok.frames,I.ok.qx,λb ae=>?_,I.ok.bs,I.ok.mP,λb o q ae=>?_,λb ae hf=>?_,I.ok.iR,I.ok.n_⟩
  ·rcases e3.mp ae with z|z
   ·exact⟨(n b z).2.1,(n b z).2.2.1⟩
   ·exact I.ok.tf b z
  ·rcases e3.mp ae with z|z
   ·have:=(n b z).1;rw[(I.ok.bs b o q).1]at this;cases this
   ·exact I.ok.pB b o q z
  ·rcases e3.mp ae with z|z
   ·obtain⟨_,o,aS,_⟩:=I.ok.iR.mem hf;rw[(n b z).1]at aS;cases aS
   ·exact I.ok.pC b z hf
 have cm:Inv {X with ex:=[e,T]++X.ex} pins σ H s:=⟨ok,I.os,I.bare,I.base.mono (λ_ z=>z) λb z=>fR _ z,I.loc,I.cell,I.free,I.iv,I.pin,I.bw,I.len⟩;have n1:=cm.call (g':=s.gens) (t':=s.toks) (d':=s.drawn) u bw cm.bare λb ae=>⟨.inl<|fD _ ae,(n b ae).2⟩;have bC:∀b o,X.f'.heap.get? b=J o->b∉X.ex->b∉[e,T]++X.ex:=λb o q ag ae=>by
  rcases e3.mp ae with z|z
  ·rw[(n b z).1]at q;cases q
  ·exact ag z
 have d1:=n1.base;exact⟨I.ok,n1.os,n1.bare,⟨λb o q a c d=>d1.keep b o q a c<|bC b o q d,λb o q a c d=>d1.slot b o q a c<|bC b o q d,λb o q a d=>d1.free b o q a<|bC b o q d,λb o q d=>d1.there b o q<|bC b o q d,d1.jP,d1.jo,d1.kn⟩,n1.loc,n1.cell,n1.free,n1.iv,n1.pin,n1.bw,n1.len⟩
theorem aaN{M:jJ}{Q:aA->Prop}(I:Inv X pins σ H s)(x:Exc X pins H s.heap e C fe)(ku:A.frames=J X.stack)(gj:X.stack=X.env::outer)(hf:X.env.frame=J L)(ag:X.ex=[])(h:∀h',Inv X pins σ H {s with heap:=h'}->Exc X pins H h' e C fe->Q {s with heap:=h'}):wpAny M A (noteFrame (.ref e) X.env) (λ_ s2=>wpAny M A (setFlight (.ref e) aa) (λ_ s3=>Q s3) q7 s2) q7 s:=by
 obtain⟨fl,kN,cz,vs,T,hg,dB,t1,gr,t3,ih,jD,kL,i8,lI,kM,h_⟩:=x;have aF:s.heap.FunFrames X.base (X.env::outer):=gj ▸ I.stack;have l8:∀b∈el (X.env::outer),H b=aa:=λb ae=>I.vA b (gj ▸ ae);have dq:∀b∈e::T::el (X.env::outer),b∈el (X.env::outer)\/b∈[e,T]:=λb ae=>by
  rcases cK.mp ae with r|r
  ·rw[r];exact .inr (.head _)
  ·rcases cK.mp r with r|r
   ·rw[r];exact .inr (.tail _<|.head _)
   ·exact .inl r
 have gx:∀b∈e::T::el (X.env::outer),H b=aa:=λb ae=>by
  rcases cK.mp ae with r|r
  ·rw[r];exact fl
  ·rcases cK.mp r with r|r
   ·rw[r];exact kM
   ·exact l8 b r
 refine wpAny_noteFrame_onW (base:=PySem.W.hideAll s.heap (e::T::el (X.env::outer))) (ku.trans (by rw[gj])) (Dy aF λb ae=>.tail _<|.tail _ ae) hf ⟨cz,vs,T,hg,dB,t1,gr,t3,ih,rA _<|.tail _<|.head _,jD,kL,i8,lI⟩ (λb o q=>xG _ q) (rA _<|.head _) λU ⟨k1,k2,k3,j9⟩=>?_;refine JU (s:={s with heap:=U}) k1 k2 k3 λaL b6 _ lq m2=>?_;have k5:∀b o,s.heap.get? b=J o->(∀vs,o.data≠.fields vs)->∃bK,aL.get? b=J {o with slots:=bK}:=λb o q d=>by
  obtain⟨bK,ay⟩:=j9 b o q d;exact⟨bK,m2 b _ ay d⟩
 obtain⟨u,aS⟩:=mo (P:=X.prog) (w:=X.w) (xs:=[e,T]) aF gx dq I.bw b6 k5;have cm:Inv X pins σ H {s with heap:=aL}:=I.PZ (gj ▸ u) aS λb ae=>by
  rcases cK.mp ae with r|r
  ·rw[r];exact kN
  ·rw[c2.mp r];exact h_
 obtain⟨kK,kc,ff,qb,nh,bz,cR,ed,hR,kr,iW,gY,qc,uC⟩:=lq;have zH:H ff=aa/\sC X pins ff:=by
  by_cases z:ff=T
  ·rw[z];exact⟨kM,h_⟩
  ·have n:s.heap.get? ff=aa:=by
    cases q:s.heap.get? ff with
    |none=>rfl
    |some o=>
     by_cases hm:ff∈e::T::el (X.env::outer)
     ·rcases cK.mp hm with r|r
      ·exact absurd r iW
      ·rcases cK.mp r with r|r
       ·exact absurd r z
       ·obtain⟨_,cA,hA,iP⟩:=aF.mem r;obtain⟨bK,ay⟩:=k5 ff cA hA iP;rw[gY]at ay;cases ay;exact absurd qc (iP nh)
     ·rw[va _ q hm]at kr;cases kr
   exact⟨I.bw.gone n,DB I n (by rw[ag];exact jH)⟩
 exact h aL cm ⟨fl,kN,kK,kc,ff,qb,nh,bz,cR,ed,hR,iW,gY,qc,uC,zH.1,zH.2⟩
end
section
variable{X:a4}{pins:List (ar×bE)}{σ:St}{H:aM}{s:aA}
variable{n:aQ}
theorem DC{M:jJ}(I:Inv X pins σ H s)(dT:X.N.Nodup)(ao:X.N[i]?=J n)(aY:X.env.kindOf n=J .local)(h:∀s',Inv X pins (σ.set i aa) H s'->Q () s'):wpAny M A (do bindName X.env n .none;unbindBehindTheSuite X.env n pos) Q q7 s:=by
 obtain⟨m,bo,aF⟩:=id I.loc;have Iv:∀b o,X.f'.heap.get? b=J o->b≠X.env.locals:=λb o e=>eB (hs (c8 e) I.ok.above);refine wpAny_nameGoes_keeps aY bo (by rw[I.ok.kind];rfl) λh' v l0 aq=>h _ ?_;refine⟨I.ok,I.os,I.bare,⟨λb o e a c d=>(aq.2 b<|Iv b o e).trans<|I.base.keep b o e a c d,λb o e a c d=>?_,I.base.free,λb o e d=>?_,I.base.jP,I.base.jo,I.base.kn⟩,⟨_,l0,λj y jm ay aG bT=>?_⟩,λy c e=>?_,I.free,I.iv,λp aE=>?_,λb cX e=>?_,by rw[xE];exact I.len⟩
 ·obtain⟨bK,ay⟩:=I.base.slot b o e a c d;exact⟨bK,(aq.2 b<|Iv b o e).trans ay⟩
 ·obtain⟨cA,ay⟩:=I.base.there b o e d;exact⟨cA,(aq.2 b<|Iv b o e).trans ay⟩
 ·by_cases bx:j=i
  ·rw[bx,AO]at aG;rw[aV rfl]at aG;split at aG<;>cases aG
  ·rw[rv (h5 bx)]at aG;obtain⟨x',cG,q⟩:=aF j y jm ay aG bT;refine⟨x',cG,?_⟩;rcases q with ⟨k,e⟩|⟨k,c,e,z⟩
   ·have aaO:y≠n:=λz=>bx (FL dT ay<|z ▸ ao);exact .inl ⟨k,(aZ aaO).trans e⟩
   ·exact .inr ⟨k,c,e,z.sameBut aq<|I.qy y c e⟩
 ·obtain⟨gh,z⟩:=I.cell y c e;exact⟨gh,z.sameBut aq<|I.qy y c e⟩
 ·obtain⟨e,tn,ne,lZ,d⟩:=I.pin p aE;exact⟨(aq.2 p.1 ne).trans e,tn,ne,lZ,d⟩
 ·refine (I.bw b cX e).lX (λc u av q=>(aq.2 c λz=>?_).trans q) (λ_ q=>q) λ_ _ q=>q;rcases av with r|r
  ·rw[<-r,z,I.free]at e;cases e
  ·rw[z,I.free]at r;cases r
theorem aaP{M:jJ}(I:Inv X pins σ H s)(x:Exc X pins H s.heap e C fe)(gj:X.stack=X.env::outer)(ag:X.ex=[])(h:∀h',Inv X pins σ H {s with heap:=h'}->Exc X pins H h' e C fe->Q () {s with heap:=h'}):wpAny M A (setFlight (.ref e) aa) Q q7 s:=by
 obtain⟨fl,kN,cz,vs,T,hg,dB,t1,gr,t3,ih,jD,kL,i8,lI,kM,h_⟩:=x;have aF:s.heap.FunFrames X.base (X.env::outer):=gj ▸ I.stack;have l8:∀b∈el (X.env::outer),H b=aa:=λb ae=>I.vA b (gj ▸ ae);have dq:∀b∈e::T::el (X.env::outer),b∈el (X.env::outer)\/b∈[e,T]:=λb ae=>by
  rcases cK.mp ae with r|r
  ·rw[r];exact .inr (.head _)
  ·rcases cK.mp r with r|r
   ·rw[r];exact .inr (.tail _<|.head _)
   ·exact .inl r
 have gx:∀b∈e::T::el (X.env::outer),H b=aa:=λb ae=>by
  rcases cK.mp ae with r|r
  ·rw[r];exact fl
  ·rcases cK.mp r with r|r
   ·rw[r];exact kM
   ·exact l8 b r
 refine JU (base:=PySem.W.hideAll s.heap (e::T::el (X.env::outer))) (λb o q=>xG _ q) (Dy aF λb ae=>.tail _<|.tail _ ae) ⟨cz,vs,T,hg,dB,t1,gr,t3,ih,rA _<|.tail _<|.head _,jD,kL,i8,lI⟩ λaL b6 _ lq m2=>?_;have k5:∀b o,s.heap.get? b=J o->(∀vs,o.data≠.fields vs)->∃bK,aL.get? b=J {o with slots:=bK}:=λb o q d=>⟨o.slots,m2 b o q d⟩;obtain⟨u,aS⟩:=mo (P:=X.prog) (w:=X.w) (xs:=[e,T]) aF gx dq I.bw b6 k5;have cm:Inv X pins σ H {s with heap:=aL}:=I.PZ (gj ▸ u) aS λb ae=>by
  rcases cK.mp ae with r|r
  ·rw[r];exact kN
  ·rw[c2.mp r];exact h_
 obtain⟨kK,kc,ff,qb,nh,bz,cR,ed,hR,kr,iW,gY,qc,uC⟩:=lq;have zH:H ff=aa/\sC X pins ff:=by
  by_cases z:ff=T
  ·rw[z];exact⟨kM,h_⟩
  ·have n:s.heap.get? ff=aa:=by
    cases q:s.heap.get? ff with
    |none=>rfl
    |some o=>
     by_cases hm:ff∈e::T::el (X.env::outer)
     ·rcases cK.mp hm with r|r
      ·exact absurd r iW
      ·rcases cK.mp r with r|r
       ·exact absurd r z
       ·obtain⟨_,cA,hA,iP⟩:=aF.mem r;obtain⟨bK,ay⟩:=k5 ff cA hA iP;rw[gY]at ay;cases ay;exact absurd qc (iP nh)
     ·rw[va _ q hm]at kr;cases kr
   exact⟨I.bw.gone n,DB I n (by rw[ag];exact jH)⟩
 exact h aL cm ⟨fl,kN,kK,kc,ff,qb,nh,bz,cR,ed,hR,iW,gY,qc,uC,zH.1,zH.2⟩
noncomputable abbrev a4.q'(X:a4)(ps:List (ar×bE))(e:ar)(cz:bE):a4:={X with A:=X.A.mark (J<|.ref e),calm:=aD,dw:=λ_ _=>False,hO:=X.hO++(ps++[(e,cz)])}
theorem Inv.q'(I:Inv X pins σ H s)(x:Exc X pins H s.heap e C fe)(he:s.heap.get? e=J cz):Inv (X.q' pins e cz) [] σ H s:=by
 obtain⟨fl,kN,kK,vs,T,hg,dB,t1,gr,t3,_⟩:=x;rw[he]at t1;cases t1;refine⟨⟨I.ok.mod,I.ok.kind,I.ok.glob,I.ok.blt,I.ok.above,I.ok.inj,I.ok.has,I.ok.pA,λz=>(by cases z),I.ok.frames,I.ok.qx,I.ok.tf,I.ok.bs,I.ok.mP,I.ok.pB,I.ok.pC,I.ok.iR,I.ok.n_⟩,I.os,I.bare,I.base,I.loc,I.cell,I.free,I.iv,λp aE=>?_,I.bw,I.len⟩;have aE:p∈X.hO++(pins++[(e,cz)]):=by rw[c5]at aE;exact aE
 rw[<-bY]at aE;rcases e3.mp aE with z|z
 ·exact I.pin p z
 ·rw[c2.mp z];refine⟨he,fl,kN.2.1,λhf=>?_,λv bb=>?_⟩
  ·obtain⟨_,o,aS,_⟩:=I.ok.iR.mem hf;rw[kN.1]at aS;cases aS
  ·rw[t3]at bb;cases bb
theorem Inv.DD(ok:X.Ok)(I:Inv (X.q' pins e cz) q σ H s):Inv X pins σ H s:=
 ⟨ok,I.os,I.bare,I.base,I.loc,I.cell,I.free,I.iv,λp aE=>I.pin p (fD _ (show p∈X.hO++(pins++[(e,cz)]) by rw[<-bY];exact fD _ aE)),I.bw,I.len⟩
theorem Exc.same(x:Exc X pins H h e C fe)(aq:br.SameBut a h h')(n:∀b,sC X pins b->b≠a):Exc X pins H h' e C fe:=by
 obtain⟨fl,kN,cz,vs,T,hg,dB,t1,gr,t3,ih,jD,kL,i8,lI,kM,h_⟩:=x;exact⟨fl,kN,cz,vs,T,hg,dB,(aq.2 e<|n e kN).trans t1,gr,t3,ih,jD,(aq.2 T<|n T h_).trans kL,i8,lI,kM,h_⟩
theorem aaQ{rest:List Fu}(I:Inv X pins σ H s)(x:Exc X pins H s.heap e C fe)(gj:X.stack=X.env::outer)(ag:X.ex=[])(aJ:fo X y)(hm:X.mg y=J (.ref uA))(bk:PySem.W.exmOne X.K (.ref C) (.ref uA)=J af)(dT:X.N.Nodup)(ao:X.N[i]?=J n)(aY:X.env.kindOf n=J .local)(aq:∀cz:bE,cz.cls=.ref C->iT (X.q' pins e cz) (nK::uz) t)(cE:t {bC:=λbc ak=>D.bC (bc.set i aa) ak,fQ:=D.fQ,eF:=λbc ak=>D.eF (bc.set i aa) ak,dA:=λbc ak=>D.dA (bc.set i aa) ak} (σ.set i<|J<|.ref e) H)(hd:(y==("__debug__" : aQ))=aD:=by decide):
  wpAny (a' X.prog X.w) X.A (handleBy (.ref e) X.env (.ExceptHandler (J<|.Name y np) (J n) (nK::uz) Dx::rest)) (nE X pins D) q7 s:=by
 refine wpAny_handleBy_cons (codeAny_handlers_test ?_) (by intro q;cases q);obtain⟨cz,he,av⟩:∃cz,s.heap.get? e=J cz/\cz.cls=.ref C:=by
  obtain⟨_,_,cz,_,_,_,_,t1,gr,_⟩:=x;exact⟨cz,t1,gr.1⟩
 have S:=I.q' x he;refine lc S aJ hm ?_ hd;have LT:PySem.W.Looks (a' X.prog X.w) s.heap (tb<|.ref e) (.ref C):=av ▸ ((LK he).andThen .now);refine PySem.W.exm_one (M:=a' X.prog X.w) I.oa LT bk _ _ _ s (λb o q=>q) ?_;refine codeAny_handlers_suite_as (aaP I x gj ag λh' cm Iw=>?_);refine FN (v:=.ref e) cm dT ao (.inl aY) rfl (λs2 n1 ⟨a,g5,az⟩=>?_) (.inr aY);have i7:=Iw.same g5 λb Dw=>by
  rcases az with z|z
  ·rw[z];exact Dw.2.1
  ·exact λw=>Dw.2.2.1 n a z w.symm
 obtain⟨aaR,uk,tu⟩:∃cz,s2.heap.get? e=J cz/\cz.cls=.ref C:=by
  obtain⟨_,_,cz,_,_,_,_,t1,gr,_⟩:=i7;exact⟨cz,t1,gr.1⟩
 refine ip (aq aaR tu [] s2 _ H _ (n1.q' i7 uk) cE) (λf s3 q=>?_) λ_ _ z=>False.elim z;cases f with
 |next=>obtain⟨bc,ak,K,q⟩:=q;exact DC (K.DD I.ok) dT ao aY λs4 uD=>⟨_,ak,uD,q⟩
 |brk=>obtain⟨bc,ak,K,q⟩:=q;exact DC (K.DD I.ok) dT ao aY λs4 uD=>⟨_,ak,uD,q⟩
 |cont=>obtain⟨bc,ak,K,q⟩:=q;exact DC (K.DD I.ok) dT ao aY λs4 uD=>⟨_,ak,uD,q⟩
 |ret u=>obtain⟨v,bc,ak,K,r,q⟩:=q;exact DC (K.DD I.ok) dT ao aY λs4 uD=>⟨v,_,ak,uD,r,q⟩
end
theorem b2.P0{H:aM}:∀{D:bq}{σ:St}{F:List ar}{i:Nat},b2 H D σ F->∃F1 bp,b2 H (D.set i aa) (σ.set i aa) F1/\(F1++bp).Perm F
 |[],σ,F,i,h=>by obtain⟨rfl,rfl⟩:=h;exact⟨[],[],⟨rfl,rfl⟩,.refl _⟩
 |o::D,σ,F,0,h=>by
  obtain⟨x,r,F1,bp,rfl,O,U,rfl⟩:=h;exact⟨bp,F1,⟨aa,r,[],bp,rfl,rfl,U,rfl⟩,ek⟩
 |o::D,σ,F,i+1,h=>by
  obtain⟨x,r,F1,bp,rfl,O,U,rfl⟩:=h;obtain⟨qT,qU,k1,k2⟩:=b2.P0 (i:=i) U;refine⟨F1++qT,qU,⟨x,r.set i aa,F1,qT,rfl,O,k1,rfl⟩,?_⟩;rw[bY];exact k2.append_left F1
noncomputable def zI(c4 eo:b5):b5:=λD=>match c4 D with
 |some r=>J r
 |none=>eo D
section
variable{X:a4}
theorem Exc.qa{E:aj->aA->Prop}{ps:List (ar×bE)}(x:Exc (X.hold E ps) q H h e C fe):Exc X ps H h e C fe:=by
 have f:∀b,sC (X.hold E ps) q b->sC X ps b:=λb z=>⟨z.1,z.2.1,z.2.2.1,λp aE=>z.2.2.2 p<|fD _ aE⟩;obtain⟨fl,kN,cz,vs,T,hg,dB,t1,gr,t3,ih,jD,kL,i8,lI,kM,h_⟩:=x;exact⟨fl,f e kN,cz,vs,T,hg,dB,t1,gr,t3,ih,jD,kL,i8,lI,kM,f T h_⟩
theorem aaS{n:aQ}{c4 eo:b5}{g:ar->b5}(gj:X.stack=X.env::outer)(hf:X.env.frame=J L)(ag:X.ex=[])(aJ:fo X y)(hm:X.mg y=J (.ref uA))(bk:PySem.W.exmOne X.K (.ref C) (.ref uA)=J af)(dT:X.N.Nodup)(ao:X.N[i]?=J n)(aY:X.env.kindOf n=J .local)(DE:i∉fix)(ae:∀E p,j4 (X.hold E p) fix body c4)(aO:∀E p Z,(∀σ H,Z σ H->wQ (X.hold E p) C σ H)->jE (X.hold E p) fix Z body R)(aq:∀p e cz,cz.cls=.ref C->j4 (X.q' p e cz) fix (nK::uz) (g e))(av:∀D bf da,c4 D=aa->eo D=J (bf,da)->bf=.bC/\∃D',R D D'/\i<D'.length/\∀e,∃hG,g e (D'.set i<|J<|.im<|.fn e)=J (.bC,hG)/\hG.set i aa=da)(hd:(y==("__debug__" : aQ))=aD:=by decide):
  i_ X fix (.Try body [.ExceptHandler (J<|.Name y np) (J n) (nK::uz) Dx] [] [] pos) (zI c4 eo):=by
 intro pins s σ H D I ⟨zJ,F,bf,D1,st,au,zK,q⟩;unfold zI at zK;cases bb:c4 zJ with
 |some r=>
  rw[bb]at zK;exact (PY (pos:=pos) ae) s σ H D I ⟨zJ,F,bf,D1,st,au,by rw[bb];exact zK,q⟩
 |none=>
  rw[bb]at zK;obtain⟨rfl,D',ig,aF,aaT⟩:=av zJ bf D1 bb zK;refine J9 (ip ((aO _ pins (λbc ak=>∃bB,d3 fix σ bc/\b2 ak D' bc bB/\bR H F ak bB)<|λbc ak C_ fP s' e fe cm Iw=>?_) [] s σ H D (I.hold _) ⟨zJ,F,D',st,au,ig,λbc ak bB fx aK sp=>⟨bB,fx,aK,sp⟩⟩) (λf s1 w=>?_) λe s1 z=>z)
  ·obtain⟨bB,fx,aK,sp⟩:=C_;have K:=cm.qa;have aaU:=Iw.qa;refine aaN K aaU K.ok.frames gj hf ag λh' aaV i7=>?_;obtain⟨hG,eH,ia⟩:=aaT e;obtain⟨F1,bp,dF,bI⟩:=aK.put (d:=.im (.fn e)) (v:=.ref e) (G:=[]) ⟨rfl,rfl⟩ aF;rw[c5]at bI;have P1:bR H F ak F1:=sp.less (C:=bp) bI;refine aaQ aaV i7 gj ag aJ hm bk dT ao aY (t:=tW fix (g e)) (λcz aS=>aq pins e cz aS) ⟨_,F1,.bC,hG,dF,P1.au,eH,λeW a6 qU tY b1 aaW=>?_⟩ hd;obtain⟨DF,wh,iy,i6⟩:=b1.P0 (i:=i);rw[ia]at iy;refine q (eW.set i aa) a6 DF ?_ iy ((P1.seq aaW).less (C:=wh) i6);exact (fx.trans<|d3.set DE).trans (tY.trans<|d3.set DE)
  ·have w:=nE.qa w;cases f with
   |next=>exact uZ w
   |brk=>exact w
   |cont=>exact w
   |ret u=>exact w
end
end L2
namespace L2
open PySem PySem.Spec PySem.Calls PyProof.Rows
variable{pos bI p:dk}{ex:bM}{y:aQ}{Q:dN}{H:aM}{σ:St}{g:M cH}{c:aj}{cz:bE}{C e:ar}
theorem aaX{K:PySem.W.Frag}(av:cz.cls=.ref C)(q:PySem.W.kitOne K (.ref C) c=J af):Answers (λs=>K.In s.heap/\s.heap.get? e=J cz) (.ref e) c af:=by
 intro dep tk prog w A R s aq;obtain⟨h0,g,d,tt,os⟩:=s;obtain⟨⟨X,p⟩,bk⟩:=aq;have LT:PySem.W.Looks (a' prog w) h0 (tb<|.ref e) (.ref C):=av ▸ (LK p).andThen .now;unfold PySem.W.kitOne at q;unfold b8.«isinstance.nested»;refine aH (LT.at ?_);by_cases z:(aj.ref C==c)=af
 ·rw[aV z];exact aH (mF<|ba<|bk tt)
 ·rw[aZ z]at q;rw[aZ z];obtain⟨l6,aaY,Cu⟩:=PySem.W.kit_cls (M:=a' prog w) X q;have aaZ:PySem.W.Looks (a' prog w) h0 (Bd (.ref e) c) af:=LT.andThen Cu;refine aH (l6.at ?_);rw[aV (by decide)]
  k_delta "plainIsInstance"
  refine aH (aH<|aaY.at ?_);simp only[sX,jI,hM];refine aH (aaZ.at ?_);simp only[lW];exact ba (ba<|bk tt)
section
variable{X:a4}
theorem P2{v:V}(aE:(e,cz)∈X.hO)(av:cz.cls=.ref C)(bb:∀u,c_ v u->u=c)(q:PySem.W.kitOne X.K (.ref C) c=J af):bv X (.builtin "isinstance") (λxs H Q=>xs=[.ref e,v]/\Q (.aR af) H):=by
 intro pins s σ H xs us Q I r ⟨ex,bk⟩;subst ex;cases r with
 |cons r iV=>
  cases iV with
  |cons cG iV=>
   cases iV;cases (show _=aj.ref e from r);rw[bb _ cG];have he:=(I.pin (e,cz)<|fD _ aE).1;exact call_isinstance (S:=λ_ R s=>(X.K.In s.heap/\s.heap.get? e=J cz)/\∀tk,R (.ok<|.ret<|.bool af) {s with toks:=tk}) (λprog w A R s aq=>isinstance_outer (aaX av q 0 _ prog w A R s aq) (by intro z;cases z)) ⟨⟨I.oa,he⟩,λtk=>⟨.aR af,H,I.tok _,rfl,bk⟩⟩
theorem P3{R:dN}(h:oG g σ H Q)(k:∀v H1,Q v H1->R v H1):oG g σ H R:=by
 obtain⟨D,F,r,D',st,au,e,q⟩:=h;exact⟨D,F,r,D',st,au,e,λv H1 F1 dr a b c=>k _ _<|q v H1 F1 dr a b c⟩
noncomputable def Ix(e:ar):aC->Bool
 |.im (.fn a)=>decide (a=e)
 |_=>aD
theorem aa0:∀{d:aC},Ix e d=af->d=.im (.fn e)
 |.im (.fn a),h=>by rw[gg h]
noncomputable def wR(e:ar)(g:M cH):M aC:=λD=>(g D).bind λp=>(e' p.2 p.1).bind λd=>if Ix e d=af then J (.im<|.aR af,p.2) else aa
theorem P4(h:qV (wR e g) σ H Q):oG g σ H λx H1=>x=.ref e/\Q (.aR af) H1:=by
 obtain⟨D,F,r,D',st,au,gD,q⟩:=h;obtain⟨⟨o,D1⟩,O,U⟩:=cv.mp gD;obtain⟨d,aL,aU⟩:=cv.mp U;split at aU
 ·rename_i c0;rw[aa0 c0]at aL;cases aU;exact⟨D,F,o,D1,st,au,O,λv H1 F1 R cb o1 s1=>⟨(o1.read cb aL).i,q _ H1 F1 [] cb ⟨rfl,rfl⟩ (by rw[c5];exact s1.both)⟩⟩
 ·cases aU
theorem aa1{DG:ar}(aE:(e,cz)∈X.hO)(av:cz.cls=.ref C)(q:PySem.W.kitOne X.K (.ref C) (.ref DG)=J af)(aJ:fo X "isinstance")(hm:X.mg "isinstance" = aa)(bb:gL "isinstance" = J (.builtin "isinstance"))(Iy:fo X y)(Iz:X.mg y=J (.ref DG))(h:gp X ex g)(hd:(y==("__debug__" : aQ))=aD:=by decide)(he:cx [ex,.Name y bI] X.env=(aD,de ex X.env)::cx [.Name y bI] X.env:=by rfl)(m4:cx [.Name y bI] X.env=(aD,de (.Name y bI) X.env)::cx [] X.env:=by rfl)(fT:(ht pos<|cx [.Name y bI] X.env).any (·.1)=aD:=by rfl):dP X (.Call (.Name "isinstance" p) [ex,.Name y bI] [] pos) (wR e g):=
 fV (lm (P2 (v:=.ref DG) aE av (λ_ r=>r) q) aJ hm bb (qE h (qE (BI (v:=.ref DG) Iy Iz rfl hd) yf m4) he) (by decide) (by decide) he fT) λσ H Q z=>P3 (P4 z) λx H1 ⟨ay,bz⟩=>⟨by rw[ay],bz⟩
theorem aa2{T:String}(aE:(e,cz)∈X.hO)(av:cz.cls=.ref C)(q:PySem.W.kitOne X.K (.ref C) (.type T)=J af)(aJ:fo X "isinstance")(hm:X.mg "isinstance" = aa)(bb:gL "isinstance" = J (.builtin "isinstance"))(Iy:fo X y)(Iz:X.mg y=aa)(aa3:gL y=J (.type T))(h:gp X ex g)(bo:y ≠ "__name__" := by decide)(hd:(y==("__debug__" : aQ))=aD:=by decide)(he:cx [ex,.Name y bI] X.env=(aD,de ex X.env)::cx [.Name y bI] X.env:=by rfl)(m4:cx [.Name y bI] X.env=(aD,de (.Name y bI) X.env)::cx [] X.env:=by rfl)(fT:(ht pos<|cx [.Name y bI] X.env).any (·.1)=aD:=by rfl):dP X (.Call (.Name "isinstance" p) [ex,.Name y bI] [] pos) (wR e g):=
 fV (lm (P2 (v:=.ty T) aE av (λ_ r=>r) q) aJ hm bb (qE h (qE (L_ (v:=.ty T) Iy Iz aa3 rfl bo hd) yf m4) he) (by decide) (by decide) he fT) λσ H Q z=>P3 (P4 z) λx H1 ⟨ay,bz⟩=>⟨by rw[ay],bz⟩
end
end L2
namespace L2
open PySem PySem.Spec PyProof.Rows
variable{np pos:dk}{C:ar}{x:aQ}{e:bM}{kC:List cg}
noncomputable abbrev lJ:=bq->Option bq
variable{r:lJ}
noncomputable abbrev kd(r:lJ):bq->bq->Prop:=λD D'=>r D=J D'
noncomputable def DH(g:b5)(r:lJ):lJ:=λD=>match g D with
 |some (.bC,D1)=>r D1
 |_=>aa
noncomputable def DI(c:M Bool)(r:lJ):lJ:=λD=>match c D with
 |some (af,D1)=>r D1
 |_=>aa
noncomputable def IA(n:Nat)(n0:List aC->Bool)(g:M (List cH)):lJ:=λD=>(g D).bind λp=>if p.1.length=n then (gB p.1 p.2).bind λq=>if n0 q.1=af then J q.2 else aa else aa
noncomputable def mx(n m:Nat)(r:lJ):List aC->Bool:=λds=>(r<|ds.map J++List.replicate (m-n) aa).isSome
section
variable{X:a4}{fix:List Nat}{Z:St->aM->Prop}{R R':bq->bq->Prop}{r:lJ}
theorem IB(h:jE X fix Z kC R)(k:∀D D',R' D D'->R D D'):jE X fix Z kC R':=r' h λE σ H ⟨D,F,D',st,au,e,z⟩=>⟨D,F,D',st,au,k _ _ e,z⟩
theorem aa4(h:q9 X fix Z e R)(k:∀D D',R' D D'->R D D'):q9 X fix Z e R':=fV h λσ H Q ⟨D,F,D',st,au,e,z⟩=>⟨D,F,D',st,au,k _ _ e,z⟩
theorem aa5{st:cg}{g:b5}(O:i_ X fix st g)(U:jE X fix Z kC (kd r)):jE X fix Z (st::kC) (kd<|DH g r):=IB (aaE O U) λD D' e=>by
 change (match g D with|some (.bC,D1)=>r D1|_=>aa)=J D' at e;split at e
 ·rename_i D1 h;exact⟨D1,h,e⟩
 ·cases e
theorem aa6{c:bM}{a b rest:List cg}{eo:M Bool}(av:lu X c eo)(az:jE X fix Z a (kd r)):jE X fix Z (.If c a b pos::rest) (kd<|DI eo r):=IB (aaF av az) λD D' e=>by
 change (match eo D with|some (af,D1)=>r D1|_=>aa)=J D' at e;split at e
 ·rename_i D1 h;exact⟨D1,h,e⟩
 ·cases e
theorem aa7{m:aQ}{j}{fy hn:dk}{rest:List cg}(av:X.calm=af)(aJ:fo X x)(hm:X.mg x=J (.ref C))(q:PySem.W.excIn X.K C [.type "ValueError",.type "Exception",.type "BaseException",.type "object"] "ValueError.__new__" = af)(hz:∀D σ H,Z σ H->Dz X C D σ H)(hd:(x==("__debug__" : aQ))=aD:=by decide):
  jE X fix Z (.Raise (J<|.Call (.Name x np) [.Constant (.str m) j fy] [] hn) aa pos::rest) (kd J):=IB (aaG av aJ hm q hz hd) λD D' e=>(Option.some.inj e).symm
end
noncomputable def wU(P:cc)(w:bN)(K:PySem.W.Frag)(mg:aQ->Option aj)(base:br)(k:Nat)(x:aQ)(st:cg)(f:ar)(ps:List aQ)(n:Nat)(n0:List aC->Bool)(C:ar):Prop:=
 ∃fd,jT K x x st f fd/\kY K fd ps []/\mg x=J (.ref f)/\iX P w K mg base (q8 P w) k f fd ps (DA n (λds=>n0 ds=af) C)
section
variable{P:cc}{w:bN}{K:PySem.W.Frag}{mg:aQ->Option aj}{base h:br}{k n:Nat}{x:aQ}{st:cg}{f C:ar}{ps:List aQ}
theorem P5{N:List aQ}{fix:List Nat}(F:fJ K mg x st f ps)(S:fq N ps (c3 st))(bo:ps.length=n)(ae:N.Nodup->∀(cf:aj) (A:cj) (outer:List fL) (s:aA) (H:aM) (E:hP),gb k (A.deeper<|mL x (c3 st) s.heap.objs.size f cf)->jE (l5 (q8 P w) P w K mg base N x (c3 st) f cf A outer s H E) fix (λ_ ak=>E (.ref C) aa ak) (k8 st) (kd r)):
  wU P w K mg base (k+1) x st f ps n (mx n N.length r) C:=
 have ⟨_,gU,b,m⟩:=F
 ⟨_,gU,b,m,by
  have:=aaL gU S bo (ae S.au);have e:(λds:List aC=>∃D',kd r (ds.map J++List.replicate (N.length-n) aa) D')=λds=>mx n N.length r ds=af:=by
   funext ds;exact propext (Ez.symm)
  rw[e]at this;exact this⟩
end
section
variable{X:a4}{fix:List Nat}{Z:St->aM->Prop}
theorem P6{n k m:Nat}{n0:List aC->Bool}{f:ar}{st:cg}{ps:List aQ}{p:dk}{es:List bM}{g:M (List cH)}(F:wU X.prog X.w X.K X.mg X.base k x st f ps n n0 C)(aO:gb m X.A)(aJ:fo X x)(ag:X.ex=[])(hz:∀σ H,Z σ H->wQ X C σ H)(az:i9 X (e::es) g)(hm:k<=m:=by decide)(iY:(x==("__debug__" : aQ))=aD:=by decide)(he:cx (e::es) X.env=(aD,de e X.env)::cx es X.env:=by rfl)(fT:(ht pos<|cx es X.env).any (·.1)=aD:=by rfl):
  q9 X fix Z (.Call (.Name x p) (e::es) [] pos) (kd<|IA n n0 g):=by
 obtain⟨fd,gU,b,m,F⟩:=F;refine aa4 (aaJ F (aO.mono hm) aJ m gU.fk b ag hz az iY he fT) λD D' e=>?_;obtain⟨⟨os,D1⟩,O,U⟩:=cv.mp e;dsimp only at U;split at U
 ·rename_i aF;obtain⟨⟨ds,D2⟩,aL,aU⟩:=cv.mp U;dsimp only at aU;split at aU
  ·rename_i c0;cases aU;exact⟨os,D1,ds,O,aF,aL,c0⟩
  ·cases aU
 ·cases U
noncomputable def DJ(r:lJ)(gs:bq->Option bq):b5:=λD=>(r D).bind λD'=>(gs D').map λda=>(.bC,da)
theorem aa8{body:List cg}{y n:aQ}{Dx:dk}{nK:cg}{uz:List cg}{i:Nat}{uA L:ar}{c4:b5}{g:ar->b5}{gs:bq->Option bq}{outer:List fL}(gj:X.stack=X.env::outer)(hf:X.env.frame=J L)(ag:X.ex=[])(aJ:fo X y)(hm:X.mg y=J (.ref uA))(bk:PySem.W.exmOne X.K (.ref C) (.ref uA)=J af)(dT:X.N.Nodup)(ao:X.N[i]?=J n)(aY:X.env.kindOf n=J .local)(DE:i∉fix)(ae:∀E p,j4 (X.hold E p) fix body c4)(aO:∀E p Z,(∀σ H,Z σ H->wQ (X.hold E p) C σ H)->jE (X.hold E p) fix Z body (kd r))(aq:∀p e cz,cz.cls=.ref C->(e,cz)∈(X.q' p e cz).hO->j4 (X.q' p e cz) fix (nK::uz) (g e))(av:∀D' da,gs D'=J da->i<D'.length/\∀e,∃hG,g e (D'.set i<|J<|.im<|.fn e)=J (.bC,hG)/\hG.set i aa=da)(hd:(y==("__debug__" : aQ))=aD:=by decide):
  i_ X fix (.Try body [.ExceptHandler (J<|.Name y np) (J n) (nK::uz) Dx] [] [] pos) (zI c4<|DJ r gs):=by
 refine aaS gj hf ag aJ hm bk dT ao aY DE ae aO (λp e cz h=>aq p e cz h<|fR _<|fR _<|c2.mpr rfl) (λD bf da _ h=>?_) hd;obtain⟨D',O,U⟩:=cv.mp h;obtain⟨hG,aL,aU⟩:=dK.mp U;cases aU;obtain⟨aF,k⟩:=av D' da aL;exact⟨rfl,D',O,aF,k⟩
theorem aa9{K:PySem.W.Frag}:PySem.W.kitOne K (.ref C) (.ref C)=J af:=aV (pq _)
noncomputable def DK(K:PySem.W.Frag)(mg:aQ->Option aj)(y:aQ)(C:ar):Prop:=mg y=J (.ref C)/\PySem.W.excIn K C [.type "ValueError",.type "Exception",.type "BaseException",.type "object"] "ValueError.__new__" = af
end
section
variable{X:a4}
end
end L2
namespace L2
open PySem PySem.Spec PySem.Calls PyProof.Rows PySem.W
section
variable{prog:cc}{w:bN}{A:cj}{E:aj->aA->Prop}{K:PySem.W.Frag}{C e:ar}{cz:bE}{h:br}{g:Array GenState}{d:Drawn}{t:Nat}{os:OsState}
end
end L2
namespace L2
open PySem PySem.Spec PySem.Calls PyProof.Rows
section
variable{X:a4}
end
section
variable{P:cc}{w:bN}{K:PySem.W.Frag}{mg:aQ->Option aj}{base:br}
end
section
variable{X:a4}
end
section
variable{X:a4}{fix:List Nat}{Z:St->aM->Prop}{r:lJ}
theorem aa'{e:bM}{es:List bM}(h:q9 X fix Z e (kd r))(aq:cx (e::es) X.env=(aD,de e X.env)::cx es X.env:=by rfl):Iu X fix Z (e::es) (kd r):=aaI h aq
end
end L2
namespace L2
open PySem PySem.Spec PyProof.Rows
section
variable{M:jJ}{A:cj}{q7:aj->aA->Prop}{s:aA}{P:cc}{w:bN}{H:aM}{base:br}{env:fL}{outer:List fL}{L e T:ar}
theorem aa_{cz hg:bE}{vs dB:Array aj}{fe:aj}{Q:Unit->aA->Prop}(Ir:A.frames=J (env::outer))(aF:s.heap.FunFrames base (env::outer))(hf:env.frame=J L)(t1:s.heap.get? e=J cz)(gr:vs[0]?=J fe)(t3:cz.data=.fields vs)(ih:vs[1]?=J (.ref T))(jD:T≠e)(kL:s.heap.get? T=J hg)(i8:hg.data=.fields dB)(lI:dB[3]?=J .none)(fl:H e=aa)(kM:H T=aa)(l8:∀b∈el (env::outer),H b=aa)(bw:eD P w H s.heap)(h:∀h',eE (el (env::outer)) [e,T] H H s.heap h'->eD P w H h'->(∃kK kc ff qb nh,h'.get? e=J kK/\(kK.cls=cz.cls/\kc[0]?=J fe)/\kK.data=.fields kc/\kc[1]?=J (.ref ff)/\ff≠e/\h'.get? ff=J qb/\qb.data=.fields nh/\nh[3]?=J .none/\(ff=T\/s.heap.get? ff=aa))->Q () {s with heap:=h'}):wpAny M A (leaving env<|.ref e) Q q7 s:=by
 have dq:∀b∈e::T::el (env::outer),b∈el (env::outer)\/b∈[e,T]:=λb ae=>by
  rcases cK.mp ae with r|r
  ·rw[r];exact .inr (.head _)
  ·rcases cK.mp r with r|r
   ·rw[r];exact .inr (.tail _<|.head _)
   ·exact .inl r
 have gx:∀b∈e::T::el (env::outer),H b=aa:=λb ae=>by
  rcases cK.mp ae with r|r
  ·rw[r];exact fl
  ·rcases cK.mp r with r|r
   ·rw[r];exact kM
   ·exact l8 b r
 refine wpAny_leaving_nextW (base:=PySem.W.hideAll s.heap (e::T::el (env::outer))) Ir (Dy aF λb ae=>.tail _<|.tail _ ae) hf ⟨cz,vs,T,hg,dB,t1,⟨rfl,gr⟩,t3,ih,rA _<|.tail _<|.head _,jD,kL,i8,lI⟩ (λb o q=>xG _ q) (rA _<|.head _) λh' ⟨k1,_,k3,j9⟩=>?_;obtain⟨kK,kc,ff,qb,nh,bz,cR,ed,hR,kr,iW,gY,qc,uC⟩:=k3;obtain⟨u,aS⟩:=mo (P:=P) (w:=w) (xs:=[e,T]) aF gx dq bw k1 j9;refine h h' u aS ⟨kK,kc,ff,qb,nh,bz,cR,ed,hR,iW,gY,qc,uC,?_⟩;by_cases z:ff=T
 ·exact .inl z
 ·refine .inr ?_;cases q:s.heap.get? ff with
  |none=>rfl
  |some o=>
   by_cases hm:ff∈e::T::el (env::outer)
   ·rcases cK.mp hm with r|r
    ·exact absurd r iW
    ·rcases cK.mp r with r|r
     ·exact absurd r z
     ·obtain⟨_,cA,hA,iP⟩:=aF.mem r;obtain⟨bK,ay⟩:=j9 ff cA hA iP;rw[gY]at ay;cases ay;exact absurd qc (iP nh)
   ·rw[va _ q hm]at kr;cases kr
end
variable{e:bM}{pos:dk}{f:ar}{mf:aM}
theorem eE.outs{fs xs:List ar}{H:aM}{h0 O U:br}{L:ar}(a:eE fs [] mf H h0 O)(b:eE (L::fs) xs H H O U)(h7:∀c o,h0.get? c=J o->c≠L)(bC:∀c o,h0.get? c=J o->c∉xs):eE fs [] mf H h0 U:=by
 have lZ:∀c o,h0.get? c=J o->c∉fs->c∉L::fs:=λc o q n z=>(cK.mp z).elim (h7 c o q) n;have jA:∀c:ar,c∉([]:List ar):=λc z=>by cases z
 refine⟨λc o q n av _=>b.keep c o (a.keep c o q n av<|jA c) (a.free c o q n<|jA c) (lZ c o q av)<|bC c o q,λc o q n av _=>?_,λc o q n _=>a.free c o q n<|jA c,λc o q _=>?_,λc xs q=>b.jP c xs<|a.jP c xs q,λc o u q=>b.jo c o u<|a.jo c o u q,λc ps q=>?_⟩
 ·obtain⟨bK,ay⟩:=a.slot c o q n av (jA c);obtain⟨th,aG⟩:=b.slot c _ ay (a.free c o q n<|jA c) (.tail _ av) (bC c o q);exact⟨th,aG⟩
 ·obtain⟨cA,ay⟩:=a.there c o q (jA c);exact b.there c cA ay (bC c o q)
 ·obtain⟨d8,ay⟩:=a.kn c ps q;obtain⟨dS,aG⟩:=b.kn c _ ay;exact⟨d8++dS,by rw[aG,E2]⟩
theorem aba{P:cc}{w:bN}{K:PySem.W.Frag}{mg:aQ->Option aj}{base:br}{N:List aQ}{qual:aQ}{scope:iL}{cd:aj}{A:cj}{outer:List fL}{s0:aA}{E:hP}{C:ar}(σ:St)(H:aM)(Is:E (.ref C) aa H):
  wQ (l5 (q8 P w) P w K mg base N qual scope f cd A outer s0 mf E) C σ H:=by
 intro pins s e fe cm x;obtain⟨fl,kN,cz,vs,T,hg,dB,t1,⟨jQ,gr⟩,t3,ih,jD,kL,i8,lI,kM,h_⟩:=x;refine aa_ (base:=base) (P:=P) (w:=w) (H:=H) (L:=s0.heap.objs.size) cm.ok.frames cm.stack rfl t1 gr t3 ih jD kL i8 lI fl kM cm.vA cm.bw λU un aS rN=>?_;obtain⟨kK,kc,ff,qb,nh,bz,⟨abb,cR⟩,ed,hR,iW,gY,qc,uC,abc⟩:=rN;have old:∀c o,s0.heap.get? c=J o->∃cA,s.heap.get? c=J cA:=λc o q=>cm.base.there c o q λz=>by cases z
 have Cr:s0.heap.get? ff=aa/\H ff=aa:=by
  rcases abc with z|z
  ·rw[z];exact⟨h_.1,kM⟩
  ·refine⟨?_,cm.bw.gone z⟩;cases q:s0.heap.get? ff with
   |none=>rfl
   |some o=>
    obtain⟨cA,ay⟩:=old ff o q;rw[z]at ay;cases ay
 refine⟨e,C,fe,H,rfl,cm.os,cm.bare,?_,aS,kN.1,fl,⟨kK,kc,ff,qb,nh,bz,⟨abb.trans jQ,cR⟩,ed,hR,Cr.1,iW,gY,qc,uC,Cr.2⟩,Is⟩;refine eE.outs (L:=s0.heap.objs.size) (xs:=[e,T]) cm.base un (λc o q=>eB<|c8 q) λc o q z=>?_;rcases cK.mp z with r|r
 ·rw[r]at q;exact absurd (kN.1.symm.trans q) (by simp)
 ·rw[c2.mp r]at q;exact absurd (h_.1.symm.trans q) (by simp)
section
variable{X:a4}{fix:List Nat}{Z:St->aM->Prop}{r:lJ}
theorem abd{n k m:Nat}{G:d_}{st:cg}{ps:List aQ}{x:aQ}{p:dk}{es:List bM}(C:cC X.prog X.w X.K X.mg X.base k x st f ps n G)(aO:gb m X.A)(aJ:fo X x)(az:Iu X fix Z (e::es) (kd r))(hm:k<=m:=by decide)(iY:(x==("__debug__" : aQ))=aD:=by decide)(he:cx (e::es) X.env=(aD,de e X.env)::cx es X.env:=by rfl)(fT:(ht pos<|cx es X.env).any (·.1)=aD:=by rfl):
  q9 X fix Z (.Call (.Name x p) (e::es) [] pos) (kd r):=
 have ⟨_,gU,b,m,F⟩:=C
 fV (Mw F (aO.mono hm) aJ m gU.fk b .nil Gy az iY he fT) λ_ _ _ w=>w
theorem abe{rest:List cg}(he:q9 X fix Z e (kd r)):jE X fix Z (.Return (J e) pos::rest) (kd r):=
 r' (io (Me he)<|zG rest) λ_ _ _ w=>w
theorem abf{rest:List cg}(he:q9 X fix Z e (kd r))(aq:s9 e aa pos.line X.env=pure aD:=by rfl):jE X fix Z (.Expr e pos::rest) (kd r):=
 r' (io (Md he aq)<|zG rest) λ_ _ _ w=>w
end
end L2
namespace L2
open PySem PySem.Spec PySem.Calls PyProof.Rows
theorem Da{prog:cc}{w:bN}(d:ar)(hd:(d==mK)=aD)(o:bE)(es:Array DictEntry)(ep:Nat)(abg:o.data=.dict es ep):
  MeetsIn prog w (b8.«dict.__len__» ⟨[.ref d],[]⟩) (λ_ R s=>s.heap.get? d=J o/\R (.ok<|.ret<|.int es.size s.toks) {s with toks:=s.toks+1}):=
 .of_wp λA R s ⟨aS,h⟩=>by
  show wpAny _ _ (dictSize d >>= _) _ _ s;unfold dictSize;refine aH (aH<|Aw aS abg<|ba ?_);show wpAny _ _ (b8.Dict.pendingCount d >>= _) _ _ s;refine aH (wpAny_pendingCount_other hd ?_);refine J' ?_;rw[A4];exact h
section
variable{X:a4}
theorem Db:bv X (.builtin "len") (λxs H Q=>∃a kvs,xs=[V.ref a]/\H a=J (.a8 kvs)/\Q (.int kvs.length) H):=by
 intro pins s σ H xs us Q I r h;obtain⟨a,kvs,rfl,az,q⟩:=h;obtain⟨u,rfl,gN⟩:=mR r;cases gN;obtain⟨z,hd,xs,rel,o,es,ep,O,U,aL,aU,_⟩:=Gm I.bw az;have l6:s.TypeIs (.ref a) "dict" := ⟨o,O,U.1⟩;have hsz:es.size=kvs.length:=by
  have b':es.toList.length=xs.length:=by rw[aU,b3]
  have ct:=hi.length rel;rw[eT]at b';lia
 have ahk:(es.size:Int)<2^63:=by rw[hsz];rw[Az]at z;lia
 refine Bb kind_len plain_len entry_len (args_len1 _) ?_;unfold b8.«len»;refine aH (m:=oneArg "len" _) (ba ?_);refine aH (m:=callSpecial? (.ref a) (aQ.ofString "__len__")) (o' (name:=aQ.ofString "__len__") l6 Lu
  (call_meetsIn Lu l6 F.entry_dict_len (F.args_dict_len_1 _) (Da a hd o es ep aL) ⟨O,?_⟩));show wpAny _ _ _ _ _ {s with toks:=s.toks+1};refine aH (ki<|ba ?_);refine aH (AB ?_);show wpAny _ _ (if ((es.size:Nat):Int)<0 then _ else _) _ _ _;rw[aZ (by omega)];show wpAny _ _ (if ((es.size:Nat):Int) >= 2^63 then _ else _) _ _ _;rw[aZ (by omega)];refine aH (wpAny_mkInt (ba ⟨_,rfl,.int kvs.length,H,I.tok _,⟨_,by rw[hsz]⟩,q⟩))
@[simp] noncomputable def wV:oQ:=λds=>match ds with
 |[.a8 x]=>J (.im<|.int x.length)
 |_=>aa
theorem u8:nO X (.builtin "len") wV:=by
 refine Db.imp λxs H Q ⟨ds,d,cN,e,q⟩=>?_;unfold wV at e;split at e
 ·cases e;obtain⟨v,rfl,_,p,fi,rfl,O,U,_⟩:=j7 cN;exact⟨p,fi,rfl,O,by rw[<-U.length];exact Out.i q rfl⟩
 ·cases e
end
end L2
namespace L2
open PySem PySem.Spec PyProof.Rows
section
variable{X:a4}
variable{i j:Nat}{x y:aQ}{a b:bM}
theorem abh{cP:gX}{jC py pt pos:dk}{kt k2 uE}(av:X.calm=af)(dT:X.N.Nodup)(ao:X.N[i]?=J x)(bx:X.N[j]?=J y)(ag:Loc X.env.scope x)(aw:Loc X.env.scope y)(az:iS X [a,b] cP)(hw:Bg [.Tuple [.Name x jC,.Name y py] kt pt] (.Tuple [a,b] k2 uE) X.env=pure aa)(aq:Bf [.Tuple [.Name x jC,.Name y py] kt pt] (.Tuple [a,b] k2 uE) pos.line X.env=pure aD)(fl:(jK [.Tuple [.Name x jC,.Name y py] kt pt] X.env).map (·.2)=[lT (.Tuple [.Name x jC,.Name y py] kt pt) X.env])(oq:(jK [.Name x jC,.Name y py] X.env).length=2)(gj:(jK [.Name x jC,.Name y py] X.env).findIdx? (·.1)=aa)(fx:X.fn x=af\/X.env.scope.names.lookup x=J .local)(IC:X.fn y=af\/X.env.scope.names.lookup y=J .local):
  jR X (.Assign [.Tuple [.Name x jC,.Name y py] kt pt] (.Tuple [a,b] k2 uE) pos) (Ur i j cP):=by
 intro pins s σ H D I h;refine JW (Tuple_<|cQ (az _ pins s σ H _ I h) λus s1 ⟨vs,H1,bG,a9,bz⟩=>?_) aq hw;obtain⟨v,w,ay,bz⟩:=bz;subst ay;obtain⟨iy,i6,rfl,b0,oo⟩:∃iy i6,us=[iy,i6]/\c_ v iy/\c_ w i6:=by
  cases a9 with
  |cons p q=>
   cases q with
   |cons eu fP=>
    cases fP;exact⟨_,_,rfl,p,eu⟩
 refine jG ?_ (by show 2<=sizeLine;decide);have dp:Inv X pins σ H1 {s1 with heap:=s1.heap.push {cls:=.type "tuple",data:=.seq [iy,i6].toArray} }:=bG.kept (t':=s1.toks) λb o e=>dc _ e;rw[fl];show wpAny _ _ (lT (.Tuple [.Name x jC,.Name y py] kt pt) X.env<|.ref s1.heap.objs.size) _ _ _;refine K' (items:=#[iy,i6]) (I.ok.hd av) (pk.new s1.heap _) (by rw[oq];rfl) gj λh' kk=>?_;have f_:=dp.kept (h':=h') (t':=s1.toks) λb o e=>kk b o (eB<|c8 e) e;have aJ:tp X [.Name x jC,.Name y py] _:=FV (FU dT ao ag fx) (FV (FU dT bx aw IC) Mi);refine cQ (aJ pins _ σ H1 [v,w] [iy,i6] (λbc ak=>bc=(σ.set i<|J v).set j (J w)/\ak=H1) f_ (.cons b0<|.cons oo .nil) ⟨v,[w],rfl,w,[],rfl,rfl,rfl,rfl⟩) λ_ s2 ⟨bc,ak,hQ,ay,aG⟩=>?_;subst ay aG;exact⟨_,_,hQ,bz⟩
theorem abi{fix:List Nat}{g:M (List cH)}{jC py pt pos:dk}{kt k2 uE}(av:X.calm=af)(dT:X.N.Nodup)(ao:X.N[i]?=J x)(bx:X.N[j]?=J y)(ag:Loc X.env.scope x)(aw:Loc X.env.scope y)(az:i9 X [a,b] g)(abj:i∉fix)(abk:j∉fix)(hw:Bg [.Tuple [.Name x jC,.Name y py] kt pt] (.Tuple [a,b] k2 uE) X.env=pure aa:=by rfl)(aq:Bf [.Tuple [.Name x jC,.Name y py] kt pt] (.Tuple [a,b] k2 uE) pos.line X.env=pure aD:=by rfl)(fl:(jK [.Tuple [.Name x jC,.Name y py] kt pt] X.env).map (·.2)=[lT (.Tuple [.Name x jC,.Name y py] kt pt) X.env]:=by rfl)(oq:(jK [.Name x jC,.Name y py] X.env).length=2:=by rfl)(gj:(jK [.Name x jC,.Name y py] X.env).findIdx? (·.1)=aa:=by rfl)(fx:X.fn x=af\/X.env.scope.names.lookup x=J .local:=by first|exact .inl rfl|exact .inr rfl|assumption)(IC:X.fn y=af\/X.env.scope.names.lookup y=J .local:=by first|exact .inl rfl|exact .inr rfl|assumption):
  i_ X fix (.Assign [.Tuple [.Name x jC,.Name y py] kt pt] (.Tuple [a,b] k2 uE) pos) (yK i j g):=by
 refine oJ (abh av dT ao bx ag aw az hw aq fl oq gj fx IC) λE σ H ⟨D,F,bf,D',st,au,aJ,q⟩=>?_;obtain⟨⟨os,D1⟩,O,U⟩:=cv.mp aJ;obtain⟨⟨ds,D2⟩,aL,aU⟩:=cv.mp U;refine⟨D,F,os,D1,st,au,O,λvs H1 F1 dr cb o1 s1=>?_⟩;obtain⟨bp,cI,b1,ow,pm⟩:=r8 cb o1 aL;dsimp only at aU;split at aU
 ·rename_i cS cM e;split at aU
  ·rename_i aF;cases aU;obtain⟨v,r,A,B,rfl,ee,ec,rfl⟩:=ow;obtain⟨u,cG,ahl,ahm,rfl,gk,⟨rfl,rfl⟩,rfl⟩:=ec;obtain⟨gC,DF,fS,y0⟩:=b1.put (i:=i) ee aF.1;obtain⟨gR,wh,fA,yI⟩:=fS.put (i:=j) gk (by rw[xE];exact aF.2);refine⟨v,u,rfl,q _ H1 gR ((d3.set abj).trans<|d3.set abk) fA<|(s1.oH pm.symm).less (C:=wh++DF) ?_⟩;rw[<-bY,c5,<-bY];refine (g8 DF yI).trans ?_;rw[bY];refine (fK gC ek).trans ?_;rw[<-bY];exact g8 _ y0
  ·cases aU
 ·cases aU
end
section
variable{X:a4}
end
end L2
namespace L2
open PySem PySem.Spec PyProof.Rows PySem.W
section
variable{X:a4}
end
end L2
namespace L2
open PySem PySem.Spec PyProof.Rows
variable{g nl n2 slot ep n i m:Nat}{items bW:Array aj}{l a2 S I a:ar}{P:List ah->ar->Prop}{w:bN}{o2 o:bE}{f0 x:aj}{h' h:br}{ks:List (List ah)}{Q:Option aj->aA->Prop}{s:aA}{es:Array (Int×aj)}{ps:List Nat}{ow:Array (Option Nat)}{β α:Type}{aq:List Int}{k:List ah}{led:Bool}{t:a_}{xs:Array Nat}
noncomputable abbrev gH(xs:Array Nat):Prop:=xs.toList.Pairwise (· < ·)
theorem zL(r:gH xs){i k:Nat}{d:Nat}(h:i<k)(aY:k<xs.size):xs.getD i d<xs.getD k d:=by
 have ao:i<xs.size:=xK h aY;have e:∀m (hm:m<xs.size),xs.getD m d=xs.toList[m]'(by simpa using hm):=λm hm=>by simp[Array.getD,hm]
 rw[e i ao,e k aY];exact sN.mp r i k _ _ h
theorem ID(xs:Array Nat)(r:gH xs)(j:Nat):∀(fuel lo ao:Nat),ao-lo<=fuel->lo<=ao->ao<=xs.size->(∀i,i<lo->xs.getD i j<j)->(∀i,ao<=i->i<xs.size->j<=xs.getD i j)->
  (a_.below.go xs j fuel lo ao<=xs.size/\(∀i,i<a_.below.go xs j fuel lo ao->xs.getD i j<j)/\∀i,a_.below.go xs j fuel lo ao<=i->i<xs.size->j<=xs.getD i j)
 |0,lo,ao,O,U,aL,a,b=>by
  have e:lo=ao:=by lia
  subst e;exact⟨aL,a,b⟩
 |fuel+1,lo,ao,O,U,aL,a,b=>by
  unfold a_.below.go;by_cases h:lo<ao
  ·rw[aV h];dsimp only;by_cases hm:xs.getD ((lo+ao)/2) j<j
   ·rw[aV hm];refine ID xs r j fuel _ _ (by lia) (by lia) aL (λi hT=>?_) b;rcases kS i ((lo+ao)/2) with h'|h'
    ·exact xK (zL r h' (by lia)) hm
    ·have:i=(lo+ao)/2:=by lia
     rw[this];exact hm
   ·rw[aZ hm];refine ID xs r j fuel _ _ (by lia) (by lia) (by lia) a (λi hT gc=>?_);rcases kS ((lo+ao)/2) i with h'|h'
    ·exact sZ (A2 (vd.mp hm)<|zL r h' gc)
    ·have:i=(lo+ao)/2:=by lia
     rw[this];exact vd.mp hm
  ·rw[aZ h];have e:lo=ao:=by lia
   subst e;exact⟨aL,a,b⟩
theorem DL(r:gH xs)(j:Nat):a_.below xs j<=xs.size/\(∀i,i<a_.below xs j->xs.getD i j<j)/\∀i,a_.below xs j<=i->i<xs.size->j<=xs.getD i j:=
 ID xs r j xs.size 0 xs.size (by lia) (by lia) (by lia) (λi h=>absurd h<|vc _) λi h h'=>absurd h' (by lia)
theorem IE(r:gH xs){i j:Nat}(h:xs[i]?=J j):a_.below xs j=i:=by
 obtain⟨a,b,c⟩:=DL r j;obtain⟨ao,e⟩:=s7.mp h;have abl:xs.getD i j=j:=by simp[Array.getD,ao,e]
 rcases A3 (a_.below xs j) i with O|O|O
 ·have U:=c _ (cp _) (xK O ao);have aL:=zL r (d:=j) O ao;lia
 ·exact O
 ·have:=b i O;lia
theorem abm(r:gH xs){i j:Nat}(h:xs[i]?=J j):a_.below xs (j+1)=i+1:=by
 obtain⟨a,b,c⟩:=DL r (j+1);obtain⟨ao,e⟩:=s7.mp h;have abl:xs.getD i (j+1)=j:=by simp[Array.getD,ao,e]
 rcases A3 (a_.below xs<|j+1) (i+1) with O|O|O
 ·have:=c i (by lia) ao;lia
 ·exact O
 ·have U:=b (i+1) O;have aL:=zL r (d:=j+1) (xI i) (by lia);lia
theorem abn(r:gH xs):a_.below xs 0=0:=by
 obtain⟨a,b,c⟩:=DL r 0;rcases KV (a_.below xs 0) with h|h
 ·exact h
 ·exact absurd (b 0 h) (vc _)
theorem abo(r:gH xs){j:Nat}(h:¬ (xs[a_.below xs j]?=J j)):gH (a_.insertAt xs (a_.below xs j) j):=by
 obtain⟨a,b,c⟩:=DL r j;unfold gH;rw[LC];refine Kr.mpr ⟨LD (u6 _ _) r,kj.mpr ⟨λy aw=>?_,LD (AN _ _) r⟩,λx ag y aw=>?_⟩
 ·obtain⟨k,aY,rfl⟩:=sO.mp aw;rw[u7];have aq:a_.below xs j+k<xs.size:=by simp at aY;lia
  have O:=c (a_.below xs j+k) (sY _ _) aq;have e:xs.getD (a_.below xs j+k) j=xs.toList[a_.below xs j+k]:=by simp[Array.getD,aq]
  rw[e]at O;refine Nat.lt_of_le_of_ne O λhe=>?_;rcases KV k with h0|h0
  ·subst h0;apply h;rw[s7];exact⟨by lia,by simpa using he.symm⟩
  ·have U:=zL r (d:=j) (Nat.lt_add_of_pos_right (n:=a_.below xs j) h0) aq;have aL:=c (a_.below xs j) (cp _) (by lia);rw[e]at U;exact absurd he (eB<|A2 aL U)
 ·obtain⟨k,aY,rfl⟩:=sO.mp ag;rw[AM];have g0:k<a_.below xs j:=by simp at aY;lia
  have aq:k<xs.size:=by lia
  have O:=b k g0;have e:xs.getD k j=xs.toList[k]:=by simp[Array.getD,aq]
  rw[e]at O;rcases cK.mp aw with rfl|aw
  ·exact O
  ·obtain⟨m,hm,rfl⟩:=sO.mp aw;rw[u7];have m4:a_.below xs j+m<xs.size:=by simp at hm;lia
   have U:=c (a_.below xs j+m) (sY _ _) m4;have aG:xs.getD (a_.below xs j+m) j=xs.toList[a_.below xs j+m]:=by simp[Array.getD,m4]
   rw[aG]at U;exact hs O U
structure qd(t:a_)(led:Bool):Prop where
 rise:gH t.place
 wW:t.dummies=#[]
 led:t.led=led
theorem qd.abp(h:qd t led)(b:Bool):qd {t with plain:=b} led:=⟨h.rise,h.wW,h.led⟩
theorem P7(j:Nat):a_.has #[] j=aD:=rfl
theorem abq(hd:t.dummies=#[])(j:Nat):(∃i,t.slot j=.live i)\/(t.slot j=.empty/\¬ (t.place[a_.below t.place j]?=J j)):=by
 unfold a_.slot;dsimp only;by_cases h:(t.place[a_.below t.place j]? == J j)=af
 ·rw[aV h];exact .inl ⟨_,rfl⟩
 ·rw[aZ h,hd,P7];exact .inr ⟨rfl,λe=>h (by rw[e];exact pq _)⟩
theorem qd.put(h:qd t led){j:Nat}(bx:¬ (t.place[a_.below t.place j]?=J j)):qd (t.put j).1 led:=by
 refine⟨abo h.rise bx,?_,h.led⟩;show (if a_.has t.dummies j=af then _ else t.dummies)=#[];rw[h.wW,P7];rfl
theorem abr{mask finger moves:Nat}{plain:Bool}{aq:Array Int}{o:Array Nat}(e:a_.laid mask finger moves led plain aq=J (t,o)):qd t led:=by
 unfold a_.laid at e;cases h:a_.layClean mask aq with
 |none=>rw[h]at e;cases e
 |some ow=>
  rw[h]at e;cases e;refine⟨?_,rfl,rfl⟩;show (List.map (λx:Nat×Nat=>x.1)<|List.filterMap (λj=>Option.map (λx=>(j,x))<|ow.getD j aa)<|range<|mask+1).Pairwise (· < ·);rw[Kv];refine Sk _ (R:=(· < ·)) (λa b zM x ag y aw=>?_) List.pairwise_lt_range;cases az:ow.getD a aa with
  |none=>rw[az]at ag;cases ag
  |some u=>
   cases ae:ow.getD b aa with
   |none=>rw[ae]at aw;cases aw
   |some v=>
    rw[az]at ag;rw[ae]at aw;cases ag;cases aw;exact zM
noncomputable def wX(m:Nat)(p:a_.Probe):a_.Probe:=
 if p.more>0 then {p with j:=p.j+1,more:=p.more-1} else
 {p with j:=(a_.leap m p.i p.perturb).1,more:=a_.runEnd m (a_.leap m p.i p.perturb).1-(a_.leap m p.i p.perturb).1,i:=(a_.leap m p.i p.perturb).1,perturb:=(a_.leap m p.i p.perturb).2}
noncomputable def wY(m i pt:Nat):a_.Probe:={j:=i,more:=a_.runEnd m i-i,i:=i,perturb:=pt,dummy:=aa}
noncomputable def dm(m:Nat)(h:Int):Nat->a_.Probe
 |0=>wY m (a_.bits h%(m+1)) (a_.bits h)
 |k+1=>wX m (dm m h k)
noncomputable def ei(m:Nat)(h:Int):Nat->Nat×Nat
 |0=>(a_.bits h%(m+1),a_.bits h)
 |q+1=>a_.leap m (ei m h q).1 (ei m h q).2
theorem IF(m:Nat)(h:Int):∀k,(dm m h k).dummy=aa
 |0=>rfl
 |k+1=>by
  rw[dm,wX];split
  ·exact IF m h k
  ·exact IF m h k
theorem abt(m i:Nat):a_.runEnd m i-i<=9:=by
 unfold a_.runEnd;split<;>lia
theorem wZ{m:Nat}{h:Int}{k i pt:Nat}(e:dm m h k=wY m i pt):∀r,r<=a_.runEnd m i-i->dm m h (k+r)={wY m i pt with j:=i+r,more:=a_.runEnd m i-i-r}
 |0,_=>e
 |r+1,aO=>by
  show wX m (dm m h<|k+r)=_;rw[wZ e r (by lia),wX,aV (show a_.runEnd m i-i-r>0 by lia)];rfl
theorem abu{h:Int}{k pt:Nat}(e:dm m h k=wY m i pt):dm m h (k+(a_.runEnd m i-i)+1)=wY m (a_.leap m i pt).1 (a_.leap m i pt).2:=by
 show wX m (dm m h<|k+(a_.runEnd m i-i))=_;rw[wZ e _ (cp _),wX,aZ (show ¬ (a_.runEnd m i-i-(a_.runEnd m i-i)>0) by lia)];rfl
noncomputable def il(m:Nat)(h:Int):Nat->Nat
 |0=>0
 |q+1=>il m h q+(a_.runEnd m (ei m h q).1-(ei m h q).1)+1
theorem w0(m:Nat)(h:Int):∀q,dm m h (il m h q)=wY m (ei m h q).1 (ei m h q).2
 |0=>rfl
 |q+1=>abu (w0 m h q)
theorem P8(m:Nat)(h:Int):∀q,il m h q<=10*q
 |0=>cp _
 |q+1=>by
  have:=P8 m h q;have:=abt m (ei m h q).1;show il m h q+_+1<=_;lia
theorem P9(m:Nat)(h:Int):∀k,∃q r,k=il m h q+r/\r<=a_.runEnd m (ei m h q).1-(ei m h q).1
 |0=>⟨0,0,rfl,lR _⟩
 |k+1=>by
  obtain⟨q,r,e,aO⟩:=P9 m h k;by_cases z:r+1<=a_.runEnd m (ei m h q).1-(ei m h q).1
  ·exact⟨q,r+1,by lia,z⟩
  ·exact⟨q+1,0,by show _=il m h q+_+1+0;lia,lR _⟩
noncomputable def ni(m:Nat):Nat->Nat->Nat
 |0,x=>x
 |k+1,x=>(ni m k x*5+1)%(m+1)
theorem zN(m:Nat)(a x:Nat):∀b,ni m (a+b) x=ni m b (ni m a x)
 |0=>rfl
 |b+1=>by
  show (ni m (a+b) x*5+1)%(m+1)=_;rw[zN m a x b];rfl
noncomputable def DM(m:Nat):Nat->Nat->Nat->Nat
 |0,_,acc=>acc
 |k+1,x,acc=>DM m k ((x*5+1)%(m+1)) (acc ||| 2^x)
theorem abv(m k x:Nat):ni m k ((x*5+1)%(m+1))=ni m (k+1) x:=by
 rw[A5 k 1,zN];rfl
theorem P'{m:Nat}:∀{n x y acc:Nat},(DM m n x acc).testBit y=af->acc.testBit y=af\/∃k,k<n/\ni m k x=y
 |0,_,_,_,h=>.inl h
 |n+1,x,y,acc,h=>by
  rcases P' (n:=n) h with h|⟨k,O,U⟩
  ·rw[Nat.testBit_or,EW]at h;rcases h with h|h
   ·exact .inl h
   ·rw[Nat.testBit_two_pow,pn]at h;exact .inr ⟨0,xM _,h⟩
  ·exact .inr ⟨k+1,Nat.succ_lt_succ O,by rw[<-abv];exact U⟩
noncomputable def IG(m:Nat):Bool:=beq (DM m (m+1) 0 0) (2^(m+1)-1)&&beq (ni m (m+1) 0) 0
theorem Do(c:IG m=af){a x:Nat}(az:a<=m)(ag:x<=m):∃k,k<=m/\ni m k a=x:=by
 rw[IG,dv]at c;have z:=KU c.2;have all:∀y,y<=m->∃k,k<m+1/\ni m k 0=y:=λy aw=>by
  have q:(DM m (m+1) 0 0).testBit y=af:=by
   rw[KU c.1,Nat.testBit_two_pow_sub_one];exact eL (KY aw)
  rcases P' q with h|h
  ·rw[Nat.zero_testBit]at h;cases h
  ·exact h
 obtain⟨n3,O,rfl⟩:=all a az;obtain⟨gw,U,rfl⟩:=all x ag;rcases kS gw n3 with h|h
 ·refine⟨gw+(m+1-n3),by lia,?_⟩;rw[<-zN,show n3+(gw+(m+1-n3))=(m+1)+gw by lia,zN,z]
 ·refine⟨gw-n3,by lia,?_⟩;rw[<-zN,show n3+(gw-n3)=gw by lia]
noncomputable def GM(m:Nat):Prop:=m=7\/m=31\/m=127\/m=511
theorem GM.abw(g:GM m):IG m=af:=by
 rcases g with rfl|rfl|rfl|rfl<;>decide +kernel
theorem abx(h:Int):a_.bits h<2^64:=by
 unfold a_.bits;have O:=vf h (show (2^64:Int)≠0 by decide);have U:=xQ h (show (0:Int)<2^64 by decide);lia
theorem P_(m:Nat)(h:Int):∀q,(ei m h q).2=a_.bits h/32^q
 |0=>by rw[Nat.pow_zero,Nat.div_one];rfl
 |q+1=>by
  show (ei m h q).2/32=_;rw[P_ m h q,Nat.div_div_eq_div_mul];rfl
theorem IH(m:Nat)(h:Int):∀q,(ei m h q).1<=m
 |0=>xH (A6 _<|xM _)
 |q+1=>xH (A6 _<|xM _)
theorem Qa(m:Nat)(h:Int):∀k,ei m h (13+k)=(ni m k (ei m h 13).1,0)
 |0=>by
  have e:(ei m h 13).2=0:=by
   rw[P_];exact Nat.div_eq_of_lt (xK (abx h) (by decide))
  show ei m h 13=((ei m h 13).1,0);rw[<-e]
 |k+1=>by
  show a_.leap m (ei m h<|13+k).1 (ei m h<|13+k).2=_;rw[Qa m h k];show ((ni m k (ei m h 13).1*5+1+0/32)%(m+1),0/32)=_;rw[Nat.zero_div,A4];rfl
theorem Qb(g:GM m)(h:Int){x:Nat}(ag:x<=m):∃q,q+1<a_.turns m/\(ei m h q).1=x:=by
 obtain⟨k,O,U⟩:=Do g.abw (IH m h 13) ag;exact⟨13+k,by unfold a_.turns;lia,by rw[Qa];exact U⟩
theorem aby(g:GM m)(h:Int){x:Nat}(ag:x<=m):∃k,k<10*a_.turns m/\(dm m h k).j=x:=by
 obtain⟨q,O,U⟩:=Qb g h ag;refine⟨il m h q,by have:=P8 m h q;lia,?_⟩;rw[w0];exact U
theorem Qc(h:i<=m):a_.runEnd m i<=m:=by unfold a_.runEnd;split<;>lia
theorem Qd(m:Nat)(h:Int)(k:Nat):(dm m h k).j<=m:=by
 obtain⟨q,r,rfl,aO⟩:=P9 m h k;rw[wZ (w0 m h q) r aO];have:=Qc (IH m h q);have e:a_.runEnd m (ei m h q).1 >= (ei m h q).1:=by unfold a_.runEnd;split<;>lia
 show (ei m h q).1+r<=m;lia
theorem II{α:Type}[DecidableEq α]:∀{l m:List α},l.Nodup->(∀x∈l,x∈m)->l.length<=m.length
 |[],m,_,_=>lR _
 |a::l,m,au,h=>by
  have oK:=lO.mp au;have q:=II (l:=l) (m:=m.erase a) oK.2 λx ag=>(Kt (λe:x=a=>oK.1<|e ▸ ag)).mpr (h x<|.tail _ ag);have az:=h a (.head _);rw[Kp az]at q;have:=Kq az;rw[eS];lia
noncomputable def q_(m:Nat)(my:Nat->Prop)(h:Int)(j:Nat):Prop:=∃k,(dm m h k).j=j/\∀cn,cn<k->my (dm m h cn).j
theorem q_.mono{my Qe:Nat->Prop}{h:Int}{j:Nat}(r:q_ m my h j)(i:∀x,my x->Qe x):q_ m Qe h j:=let ⟨k,e,a⟩:=r;⟨k,e,λcn z=>i _<|a cn z⟩
structure w1(t:a_)(aq:List Int):Prop where
 sD:GM t.mask
 len:t.place.size=aq.length
 loose:t.place.size*5<t.mask*3
 le:∀j∈t.place.toList,j<=t.mask
 uF:∀p∈t.place.toList.zip aq,q_ t.mask (·∈t.place.toList) p.2 p.1
theorem GM.pos(g:GM m):7<=m/\m<=511/\m%2=1:=by rcases g with rfl|rfl|rfl|rfl<;>decide
theorem abz(r:gH t.place){j:Nat}(h:j∈t.place.toList):∃i,t.slot j=.live i/\t.place[i]?=J j:=by
 obtain⟨i,ao,e⟩:=sO.mp h;have b7:t.place[i]?=J j:=by
  rw[<-gV,fg ao,e]
 refine⟨i,?_,b7⟩;unfold a_.slot;dsimp only;rw[IE r b7,b7,aV<|pq _]
theorem abA(hd:t.dummies=#[]){j:Nat}(h:j∉t.place.toList):t.slot j=.empty:=by
 rcases abq hd j with ⟨i,e⟩|⟨e,_⟩
 ·unfold a_.slot at e;dsimp only at e;split at e
  ·next q=>
   have fP:=eq_of_beq q;refine absurd ?_ h;rw[<-gV]at fP;exact iq fP
  ·split at e<;>cases e
 ·exact e
theorem w1.some(H:w1 t aq)(h:Int):∃k,k<10*a_.turns t.mask/\(dm t.mask h k).j∉t.place.toList:=by
 have:∃x,x<=t.mask/\x∉t.place.toList:=by
  refine Bc λc=>?_;have q:=II (l:=range (t.mask+1)) (m:=t.place.toList) AR λx ag=>Bc λz=>c ⟨x,xH<|iK.mp ag,z⟩;rw[pd,eT]at q;have:=H.loose;lia
 obtain⟨x,O,U⟩:=this;obtain⟨k,k1,k2⟩:=aby H.sD h O;exact⟨k,k1,by rw[k2];exact U⟩
theorem Qf{t:a_}(r:gH t.place)(hd:t.dummies = #[])(ku:Nat -> Int)(h:Int): ∀(fuel k0:Nat),(∃k,k0 <= k /\ k<k0+fuel /\ (dm t.mask h k).j ∉ t.place.toList) ->
    ∃k1,k0 <= k1 /\ (∀k,k0 <= k -> k<k1 -> ∃i,t.place[i]? = J (dm t.mask h k).j /\ ku i ≠ h) /\
      ((a_.probe.go t ku h fuel (dm t.mask h k0)=J (.empty (dm t.mask h k1).j aa) /\ (dm t.mask h k1).j ∉ t.place.toList) \/
        ∃i,a_.probe.go t ku h fuel (dm t.mask h k0)=J (.candidate (dm t.mask h k1).j i<|dm t.mask h<|k1+1) /\ t.slot (dm t.mask h k1).j=.live i /\ t.place[i]? = J (dm t.mask h k1).j /\ ku i=h)
  |0,k0,⟨k,a,b,_⟩ => absurd a (by lia)
  |fuel+1,k0,⟨k,a,b,c⟩ => by
    by_cases z:(dm t.mask h k0).j ∈ t.place.toList
    · obtain ⟨i,ay,aG⟩:=abz r z
      by_cases q:ku i=h
      · refine ⟨k0,cp _,λk O U => absurd O (by lia),.inr ⟨i, ?_,ay,aG,q⟩⟩
        unfold a_.probe.go;rw [ay];dsimp only;rw [aV (by rw [q]; exact pq _)];rfl
      · have ne:k ≠ k0:=λe => c (e ▸ z)
        obtain ⟨k1,O,U,aL⟩:=Qf r hd ku h fuel (k0+1) ⟨k,by lia,by lia,c⟩;have e:a_.probe.go t ku h (fuel+1) (dm t.mask h k0)=a_.probe.go t ku h fuel (dm t.mask h<|k0+1):=by
          rw [a_.probe.go,ay];dsimp only;rw [aZ (by rw [pv]; exact q)];rfl
        refine ⟨k1,by lia,λk g1 g2 => ?_,by rw [e]; exact aL⟩;rcases kS k0 k with g|g
        · exact U k g g2
        · rw [show k=k0 by lia]; exact ⟨i,aG,q⟩
    · refine ⟨k0,cp _,λk O U => absurd O (by lia),.inl ⟨?_,z⟩⟩
      unfold a_.probe.go;rw [abA hd z];dsimp only;rw [IF]
theorem IJ(xs:Array α)(p:Nat)(x:α):(a_.insertAt xs p x).toList=xs.toList.take p++x::xs.toList.drop p:=LC xs p x
theorem zO{l:List α}{p:Nat}{x y:α}:y∈l.take p++x::l.drop p↔y=x\/y∈l:=by
 constructor
 ·intro h;rcases e3.mp h with h|h
  ·exact .inr (rx h)
  ·rcases cK.mp h with h|h
   ·exact .inl h
   ·exact .inr (pb h)
 ·rintro (rfl|h)
  ·exact fR _ (.head _)
  ·rw[<-hr p l]at h;rcases e3.mp h with h|h
   ·exact fD _ h
   ·exact fR _ (.tail _ h)
theorem abB{a:List α}{b:List β}(aF:a.length=b.length)(p:Nat)(x:α)(y:β):(a.take p++x::a.drop p).zip (b.take p++y::b.drop p)=(a.zip b).take p++(x,y)::(a.zip b).drop p:=by
 rw[KG (by rw[ir,ir,aF]),EJ];have ay:∀(p:Nat) (a:List α) (b:List β),(a.take p).zip (b.take p)=(a.zip b).take p:=λp=>by
  induction p with
  |zero=>intro a b;rfl
  |succ p bS=>intro a b;cases a with
   |nil=>rfl
   |cons x a=>cases b with
    |nil=>rfl
    |cons y b=>exact congrArg ((x,y)::·) (bS a b)
 have aG:∀(p:Nat) (a:List α) (b:List β),(a.drop p).zip (b.drop p)=(a.zip b).drop p:=λp=>by
  induction p with
  |zero=>intro a b;rfl
  |succ p bS=>intro a b;cases a with
   |nil=>rfl
   |cons x a=>cases b with
    |nil=>show (a.drop p).zip []=_;rw[List.zip_nil_right];rfl
    |cons y b=>exact bS a b
 rw[ay,aG]
theorem w1.put(H:w1 t aq){h:Int}{k:Nat}(aY:(dm t.mask h k).j∉t.place.toList)(az:∀cn,cn<k->(dm t.mask h cn).j∈t.place.toList):
  (∀j∈(t.put (dm t.mask h k).j).1.place.toList,j<=t.mask)/\∀p∈(t.put (dm t.mask h k).j).1.place.toList.zip (aq.take (t.put (dm t.mask h k).j).2++h::aq.drop (t.put (dm t.mask h k).j).2),q_ t.mask (·∈(t.put (dm t.mask h k).j).1.place.toList) p.2 p.1:=by
 have e:(t.put (dm t.mask h k).j).1.place.toList=t.place.toList.take (t.put (dm t.mask h k).j).2++(dm t.mask h k).j::t.place.toList.drop (t.put (dm t.mask h k).j).2:=IJ _ _ _;rw[e];refine⟨λj bx=>?_,λp aE=>?_⟩
 ·rcases zO.mp bx with rfl|bx
  ·exact Qd _ _ _
  ·exact H.le j bx
 ·rw[abB (by rw[eT];exact H.len)]at aE;rcases zO.mp aE with rfl|aE
  ·exact⟨k,rfl,λcn z=>zO.mpr<|.inr<|az cn z⟩
  ·exact (H.uF p aE).mono λx ag=>zO.mpr (.inr ag)
noncomputable def ra(ow:Array (Option Nat))(j:Nat):Prop:=(ow.getD j<|J 0).isSome=af
theorem Qg{m:Nat}(ow:Array (Option Nat))(h:Int):∀(fuel q:Nat),(∀cn,cn<il m h q->ra ow (dm m h cn).j)->(∃fP,q<=fP/\fP<q+fuel/\¬ ra ow (ei m h fP).1)->
  ∃j,a_.layClean.free m ow fuel (ei m h q).1 (ei m h q).2=J j/\j<=m/\¬ ra ow j/\q_ m (ra ow) h j
 |0,q,_,⟨fP,a,b,_⟩=>absurd a (by lia)
 |fuel+1,q,aY,⟨fP,a,b,c⟩=>by
  unfold a_.layClean.free;have le:a_.runEnd m (ei m h q).1<=m:=Qc (IH m h q);have ge:(ei m h q).1<=a_.runEnd m (ei m h q).1:=by unfold a_.runEnd;split<;>lia
  cases hf:(range<|a_.runEnd m (ei m h q).1+1-(ei m h q).1).find? (λk=>(ow.getD ((ei m h q).1+k)<|J 0).isNone) with
  |some k=>
   dsimp only;rw[List.find?_range_eq_some]at hf;obtain⟨O,U,aL⟩:=hf;have v':k<a_.runEnd m (ei m h q).1+1-(ei m h q).1:=iK.mp U;refine⟨_,rfl,by lia,?_,il m h q+k,?_,λcn g0=>?_⟩
   ·unfold ra;intro z;rw[Option.isNone_iff_eq_none]at O;rw[O]at z;cases z
   ·rw[wZ (w0 m h q) k (by lia)]
   ·rcases kS cn (il m h q) with z|z
    ·exact aY cn z
    ·have e:cn=il m h q+(cn-il m h q):=by lia
     rw[e,wZ (w0 m h q) (cn-il m h q) (by lia)];have:=aL (cn-il m h q) (by lia);show (ow.getD ((ei m h q).1+(cn-il m h q))<|J 0).isSome=af;cases w:ow.getD ((ei m h q).1+(cn-il m h q)) (J 0) with
     |none=>rw[w]at this;cases this
     |some _=>rfl
  |none=>
   dsimp only;rw[List.find?_range_eq_none]at hf;have my:∀k,k<a_.runEnd m (ei m h q).1+1-(ei m h q).1->ra ow ((ei m h q).1+k):=λk aY=>by
    have:=hf k aY;unfold ra;cases w:ow.getD ((ei m h q).1+k) (J 0) with
    |none=>rw[w]at this;cases this
    |some _=>rfl
   have ne:fP≠q:=λe=>c (by rw[e];exact my 0 (by lia));refine Qg ow h fuel (q+1) (λcn g0=>?_) ⟨fP,by lia,by lia,c⟩;rcases kS cn (il m h q) with z|z
   ·exact aY cn z
   ·have jV:cn<il m h q+(a_.runEnd m (ei m h q).1-(ei m h q).1)+1:=g0;have e:cn=il m h q+(cn-il m h q):=by lia
    rw[e,wZ (w0 m h q) (cn-il m h q) (by lia)];exact my _ (by lia)
structure rb(m:Nat)(ow:Array (Option Nat))(ps:List Nat)(aq:List Int):Prop where
 size:ow.size=m+1
 len:ps.length=aq.length
 au:ps.Nodup
 le:∀j∈ps,j<=m
 own:∀(j k:Nat),ow[j]?=J (J k)↔ps[k]?=J j
 uF:∀p∈ps.zip aq,q_ m (·∈ps) p.2 p.1
theorem rb.my(I:rb m ow ps aq){j:Nat}(bx:j<=m):ra ow j↔j∈ps:=by
 have aF:j<ow.size:=by rw[I.size];lia
 unfold ra;rw[show ow.getD j (J 0)=ow[j] by simp[Array.getD,aF]];have e:ow[j]?=J ow[j]:=n8 aF;constructor
 ·intro z;obtain⟨k,aY⟩:=Ez.mp z;rw[aY]at e;exact iq ((I.own j k).mp e)
 ·intro z;obtain⟨k,aY⟩:=AJ z;have:=(I.own j k).mpr aY;rw[e]at this;rw[Option.some.inj this];rfl
theorem rb.step(g:GM m){ow:Array (Option Nat)}{ps:List Nat}{aq:List Int}(I:rb m ow ps aq)(aF:aq.length<=m)(h:Int):
  ∃j,a_.layClean.free m ow (a_.turns m) (a_.bits h%(m+1)) (a_.bits h)=J j/\rb m (ow.setIfInBounds j<|J aq.length) (ps++[j]) (aq++[h]):=by
 have room:∃x,x<=m/\x∉ps:=by
  refine Bc λc=>?_;have q:=II (l:=range (m+1)) (m:=ps) AR λx ag=>Bc λz=>c ⟨x,xH<|iK.mp ag,z⟩;rw[pd,I.len]at q;lia
 obtain⟨x,Qh,abC⟩:=room;obtain⟨q,ahn,abD⟩:=Qb g h Qh;obtain⟨j,f1,f2,d6,f4⟩:=Qg (m:=m) ow h (a_.turns m) 0 (λcn g0=>absurd g0<|vc _) ⟨q,lR _,by lia,by rw[abD];exact λz=>abC<|(I.my Qh).mp z⟩;have bx:j∉ps:=λz=>d6 ((I.my f2).mpr z);have zz:j<ow.size:=by rw[I.size];lia
 refine⟨j,f1,by rw[Array.size_setIfInBounds,I.size],by rw[eZ,eZ,I.len];rfl,?_,?_,λk_ k=>?_,?_⟩
 ·exact eA.mpr ⟨I.au,h4 _ _,λa az b ae e=>bx (by rw[<-c2.mp ae,<-e];exact az)⟩
 ·intro a az;rcases e3.mp az with az|az
  ·exact I.le a az
  ·rw[c2.mp az];exact f2
 ·rw[Array.getElem?_setIfInBounds];by_cases e:j=k_
  ·subst e;rw[aV rfl,aV zz];constructor
   ·intro z;cases z;rw[<-I.len,qh<|cp _,EY];rfl
   ·intro z;rcases kS k ps.length with w|w
    ·rw[qi w]at z;exact absurd (iq z) bx
    ·rw[qh w]at z;have:k-ps.length=0:=by
      have:=(iJ.mp z).1;rw[qk]at this;lia
     rw[show k=aq.length by rw[<-I.len];lia]
  ·rw[aZ e,I.own k_ k];rcases kS k ps.length with w|w
   ·rw[qi w]
   ·rw[qh w,xA w];constructor
    ·intro z;cases z
    ·intro z;have:=iq z;exact absurd (c2.mp this) (λz=>e z.symm)
 ·intro p aE;rw[KG I.len]at aE;rcases e3.mp aE with aE|aE
  ·exact (I.uF p aE).mono λx ag=>fD _ ag
  ·rw[EJ,List.zip_nil_left]at aE;rw[c2.mp aE];obtain⟨k,e,a⟩:=f4;exact⟨k,e,λcn g0=>fD _<|(I.my<|Qd _ _ _).mp<|a cn g0⟩
theorem Qi{m:Nat}(g:GM m):∀(rest aq:List Int) (ow:Array (Option Nat)) (ps:List Nat),rb m ow ps aq->(aq++rest).length<=m->
  ∃DN IK,rest.foldl (λ(acc:Option (Array (Option Nat)×Nat)) h=>do
   let (owner,k) <-acc
   let j <-a_.layClean.free m owner (a_.turns m) (a_.bits h%(m+1)) (a_.bits h)
   pure (owner.setIfInBounds j<|J k,k+1)) (J (ow,aq.length))=J (DN,(aq++rest).length)/\rb m DN IK (aq++rest)
 |[],aq,ow,ps,I,_=>⟨ow,ps,by rw[c5];rfl,by rw[c5];exact I⟩
 |h::rest,aq,ow,ps,I,aF=>by
  obtain⟨j,e,gW⟩:=I.step g (by rw[eZ]at aF;lia) h;obtain⟨DN,IK,aG,dp⟩:=Qi g rest (aq++[h]) _ _ gW (by rw[bY];exact aF);rw[bY]at aG dp;refine⟨DN,IK,?_,dp⟩;rw[qm];rw[show (aq++[h]).length=aq.length+1 from eZ]at aG;refine Eq.trans (congrArg (λz=>List.foldl _ z rest) ?_) aG;show (a_.layClean.free m ow (a_.turns m) (a_.bits h%(m+1))<|a_.bits h).bind _=_;rw[e];rfl
theorem abE(g:GM m)(aq:Array Int)(aF:aq.size<=m):∃ow ps,a_.layClean m aq=J ow/\rb m ow ps aq.toList:=by
 have IL:rb m (Array.replicate (m+1) aa) [] []:=by
  refine⟨Array.size_replicate,rfl,qo,λ_ h=>(jH h).elim,λj k=>⟨λz=>?_,λz=>?_⟩,λ_ h=>(jH h).elim⟩
  ·have:=(s7.mp z).2;rw[Array.getElem_replicate]at this;cases this
  ·simp at z
 obtain⟨ow,ps,e,I⟩:=Qi g aq.toList [] _ _ IL (by rw[qn,eT];exact aF);refine⟨ow,ps,?_,I⟩;unfold a_.layClean;rw[<-Array.foldl_toList];exact congrArg (Option.map (·.1)) e
theorem abF{p:Nat×Nat}:p∈(range<|m+1).filterMap (λj=>(ow.getD j aa).map (j,·))↔p.1<=m/\ow[p.1]?=J (J p.2):=by
 rw[AL];constructor
 ·rintro⟨j,O,U⟩;obtain⟨k,ay,rfl⟩:=dK.mp U;refine⟨xH<|iK.mp O,?_⟩;show ow[j]?=J (J k);by_cases z:j<ow.size
  ·rw[show ow.getD j aa=ow[j] by simp[Array.getD,z]]at ay;rw[n8 z,ay]
  ·rw[show ow.getD j aa=aa by simp[Array.getD,z]]at ay;cases ay
 ·rintro⟨O,U⟩;refine⟨p.1,iK.mpr<|KY O,?_⟩;obtain⟨z,e⟩:=s7.mp U;rw[show ow.getD p.1 aa=ow[p.1] by simp[Array.getD,z],e];rfl
theorem Qj{α β:Type}:∀{l:List (α×β)},(l.map (·.1)).Nodup->(∀a∈l,∀b∈l,a.2=b.2->a.1=b.1)->(l.map (·.2)).Nodup
 |[],_,_=>qo
 |x::l,h,i=>by
  rw[dQ]at h ⊢;have h':=lO.mp h;refine lO.mpr ⟨λz=>?_,Qj h'.2 λa az b ae=>i a (.tail _ az) b<|.tail _ ae⟩;obtain⟨y,aw,e⟩:=e0.mp z;have:=i y (.tail _ aw) x (.head _) e;exact h'.1 (by rw[<-this];exact EH aw)
theorem Qk{α β abG:Type}(f:α->β)(g:α->abG):∀l:List α,(l.map f).zip (l.map g)=l.map λx=>(f x,g x)
 |[]=>rfl
 |x::l=>congrArg (_::·) (Qk f g l)
theorem abH{wanted:Nat}(g:GM (a_.sizeAbove wanted-1))(aF:es.size*5<(a_.sizeAbove wanted-1)*3){led:Bool}(k:t.led=led):
  ∃t' order,t.relaid (es.map (·.1)) wanted=J (t',order)/\order.toList.Perm (range es.size)/\qd t' led/\w1 t' ((order.filterMap (es[·]?)).toList.map (·.1)):=by
 obtain⟨ow,ps,e,I⟩:=abE g (es.map (·.1)) (by rw[E3];lia);generalize hm:a_.sizeAbove wanted-1=m at *;have h7:t.relaid (es.map (·.1)) wanted=J ({mask:=m,place:=(((range<|m+1).filterMap λj=>(ow.getD j aa).map (j,·)).map (·.1)).toArray,dummies:=#[],finger:=t.finger,led:=t.led,moves:=t.movedTo m,plain:=t.plain},(((range<|m+1).filterMap λj=>(ow.getD j aa).map (j,·)).map (·.2)).toArray):=by
  unfold a_.relaid a_.laid;rw[hm,e];rfl
 have qe:=λ(p:Nat×Nat)=>abF (m:=m) (ow:=ow) (p:=p);have rise:(((range<|m+1).filterMap λj=>(ow.getD j aa).map (j,·)).map (·.1)).Pairwise (· < ·):=by
  have:=(abr (t:=_) (o:=_) h7);exact this.rise
 generalize abI:(range<|m+1).filterMap (λj=>(ow.getD j aa).map (j,·))=L at h7 qe rise;have pos:∀p∈L,ps[p.2]?=J p.1:=λp aE=>(I.own _ _).mp ((qe p).mp aE).2;have lt:∀p∈L,p.2<es.size:=λp aE=>by
  have:=(iJ.mp<|pos p aE).1;rw[I.len,eT,E3]at this;exact this
 have t4:(L.map (·.1)).Nodup:=rise.imp λh=>eB h;have m':(L.map (·.2)).Nodup:=Qj t4 λa az b ae e=>by
  have O:=pos a az;have U:=pos b ae;rw[e]at O;exact Option.some.inj (O.symm.trans U)
 have perm:(L.map (·.2)).Perm (range es.size):=by
  refine (Km m' AR).mpr λx=>?_;rw[iK];constructor
  ·intro h;obtain⟨p,aE,rfl⟩:=e0.mp h;exact lt p aE
  ·intro h;have ag:x<ps.length:=by rw[I.len,eT,E3];exact h
   have O:ps[x]?=J ps[x]:=fg ag;exact e0.mpr ⟨(ps[x],x),(qe _).mpr ⟨I.le _<|AS ag,(I.own _ _).mpr O⟩,rfl⟩
 have hlen:L.length=es.size:=by
  have:=perm.length_eq
  rwa [b3,pd]at this
 have Ql:((L.map (·.2)).filterMap (es[·]?)).map (·.1)=L.map λp=>(es.getD p.2 (0,.none)).1:=by
  clear qe rise pos t4 m' perm hlen h7 abI;induction L with
  |nil=>rfl
  |cons p L bS=>
   have aE:=lt p (.head _);rw[dQ,EC<|n8 aE,dQ,dQ,bS λq bk=>lt q<|.tail _ bk];congr 1;simp[Array.getD,aE]
 refine⟨_,_,h7,?_,⟨?_,rfl,k⟩,⟨g,?_,?_,?_,?_⟩⟩
 ·exact perm
 ·exact rise
 ·rw[E1];show (L.map (·.1)).toArray.size=(((L.map (·.2)).filterMap (es[·]?)).map (·.1)).length;rw[Ql,dY,b3,b3]
 ·show (L.map (·.1)).toArray.size*5<m*3;rw[dY,b3,hlen];exact aF
 ·intro j bx;obtain⟨p,aE,rfl⟩:=e0.mp bx;exact ((qe p).mp aE).1
 ·rw[E1];show ∀p∈(L.map (·.1)).zip (((L.map (·.2)).filterMap (es[·]?)).map (·.1)),q_ m (·∈L.map (·.1)) p.2 p.1;rw[Ql,Qk];intro p aE;obtain⟨q,bk,rfl⟩:=e0.mp aE;have O:=pos q bk;have U:((es.map (·.1)).toList)[q.2]?=J (es.getD q.2 (0,.none)).1:=by
   have:=lt q bk;rw[gV,Array.getElem?_map,n8 this];simp[Array.getD,this]
  have hz:(q.1,(es.getD q.2 (0,.none)).1)∈ps.zip (es.map (·.1)).toList:=by
   refine iq (i:=q.2) ?_;rw[EA];exact⟨O,U⟩
  refine (I.uF _ hz).mono λx ag=>?_;obtain⟨k,aY⟩:=AJ ag;exact e0.mpr ⟨(x,k),(qe _).mpr ⟨I.le x ag,(I.own _ _).mpr aY⟩,rfl⟩
theorem abJ(g:GM m)(O:n*5<m*3)(U:(n+1)*5 >= m*3)(aL:n+1<=300):GM (a_.sizeAbove (a_.grown<|n+1)-1)/\(n+1)*5<(a_.sizeAbove (a_.grown<|n+1)-1)*3/\a_.sizeAbove (a_.grown<|n+1)<=512:=by
 rcases g with rfl|rfl|rfl|rfl
 ·rw[show n=4 by lia];exact⟨.inr (.inl (by decide)),by decide,by decide⟩
 ·rw[show n=18 by lia];exact⟨.inr (.inr (.inl (by decide))),by decide,by decide⟩
 ·rw[show n=76 by lia];exact⟨.inr (.inr (.inr (by decide))),by decide,by decide⟩
 ·lia
section
variable{prog:cc}{w:bN}{A:cj}{E:aj->aA->Prop}{s:aA}
end
section
variable{prog:cc}{w:bN}
theorem Qm:∀(n:Nat) {A:cj}{E:aj->aA->Prop}{s:aA}{d:ah}{v:aj}{Q:Bool->aA->Prop},ah.key n d=af->fN s.heap d v->(∀b,Q b s)->wpAny (a' prog w) A (Bq n v) Q E s
 |n,A,E,s,.int i,v,Q,_,bb,h=>by
  obtain⟨t,rfl⟩:=bb;rw[show Bq n (.int i t)=pure af from by cases n<;>rfl];exact ba (h _)
 |n,A,E,s,.str i,v,Q,_,bb,h=>by
  obtain⟨t,rfl⟩:=bb;rw[show Bq n (.str i t)=pure aD from by cases n<;>rfl];exact ba (h _)
 |n+1,A,E,s,.tup ds,v,Q,k,bb,h=>by
  obtain⟨a,o,items,m,rfl,aS,av,hd,ao⟩:=bb;have dM:s.TypeIs (.ref a) "tuple" := ⟨o,aS,av⟩;unfold Bq;refine aH (xt dM xP.lookup ?_);show wpAny _ _ (xU (.ref a) >>= _) _ _ s;refine aH (mE aS hd ?_);refine aH ?_;show wpAny _ _ (forIn items _ _) _ _ s;rw[<-A7];rw[ah.key]at k;refine uY _ (λrest r s'=>s'=s/\∃left,ah.keys n left=af/\fh s.heap left rest) _ ?_ ?_ _ _ ⟨rfl,ds,k,ao⟩
  ·rintro v rest r s' ⟨rfl,left,aY,aF⟩;cases left with
   |nil=>cases (show v::rest=[] from aF)
   |cons d left=>
    obtain⟨jm,cG,e,O,hv⟩:=aF;cases e;rw[ah.keys,dv]at aY;refine aH (Qm n aY.1 O λb=>?_);cases b
    ·show wpAny _ _ (pure<|ForInStep.done _) _ _ _;exact ba (ba<|h _)
    ·show wpAny _ _ (pure<|ForInStep.yield _) _ _ _;exact ba ⟨rfl,left,aY.2,hv⟩
  ·rintro⟨a9,bF⟩ s' ⟨rfl,_⟩;cases a9 with
   |none=>exact ba (h _)
   |some b=>exact ba (h _)
 |_,_,_,_,.bu,_,_,k,_,_=>by cases ‹Nat›<;>cases k
 |_,_,_,_,.aR _,_,_,k,_,_=>by cases ‹Nat›<;>cases k
 |_,_,_,_,.fn _,_,_,k,_,_=>by cases ‹Nat›<;>cases k
 |_,_,_,_,.bf _,_,_,k,_,_=>by cases ‹Nat›<;>cases k
 |_,_,_,_,.fd,_,_,k,_,_=>by cases ‹Nat›<;>cases k
 |0,_,_,_,.tup _,_,_,k,_,_=>by cases k
theorem IM:∀(n:Nat) {A:cj}{E:aj->aA->Prop}{s:aA}{d:ah}{v:aj}{Q:Bool->aA->Prop},ah.key n d=af->fN s.heap d v->Q aD s->wpAny (a' prog w) A (Br n v) Q E s
 |n,A,E,s,.int i,v,Q,_,bb,h=>by
  obtain⟨t,rfl⟩:=bb;rw[show Br n (.int i t)=pure aD from by cases n<;>rfl];exact ba h
 |n,A,E,s,.str i,v,Q,_,bb,h=>by
  obtain⟨t,rfl⟩:=bb;rw[show Br n (.str i t)=pure aD from by cases n<;>rfl];exact ba h
 |n+1,A,E,s,.tup ds,v,Q,k,bb,h=>by
  obtain⟨a,o,items,m,rfl,aS,av,hd,ao⟩:=bb;have dM:s.TypeIs (.ref a) "tuple" := ⟨o,aS,av⟩;unfold Br;refine aH (u4 dM ?_);dsimp only;rw[aV (show ("tuple" == "tuple")=af by decide)];refine aH (ba ?_);simp only[sX,jI,hM];refine aH (mE aS hd ?_);dsimp only;refine aH ?_;show wpAny _ _ (forIn items _ _) _ _ s;rw[<-A7];rw[ah.key]at k;refine uY _ (λrest r s'=>r.1=aa/\s'=s/\∃left,ah.keys n left=af/\fh s.heap left rest) _ ?_ ?_ _ _ ⟨rfl,rfl,ds,k,ao⟩
  ·rintro v rest r s' ⟨aO,rfl,left,aY,aF⟩;cases left with
   |nil=>cases (show v::rest=[] from aF)
   |cons d left=>
    obtain⟨jm,cG,e,O,hv⟩:=aF;cases e;rw[ah.keys,dv]at aY;refine aH (IM n aY.1 O ?_);simp only[jI,hM];exact ba ⟨rfl,rfl,left,aY.2,hv⟩
  ·rintro⟨a9,bF⟩ s' ⟨aO,rfl,_⟩;simp only at aO;subst aO;exact ba h
 |_,_,_,_,.bu,_,_,k,_,_=>by cases ‹Nat›<;>cases k
 |_,_,_,_,.aR _,_,_,k,_,_=>by cases ‹Nat›<;>cases k
 |_,_,_,_,.fn _,_,_,k,_,_=>by cases ‹Nat›<;>cases k
 |_,_,_,_,.bf _,_,_,k,_,_=>by cases ‹Nat›<;>cases k
 |_,_,_,_,.fd,_,_,k,_,_=>by cases ‹Nat›<;>cases k
 |0,_,_,_,.tup _,_,_,k,_,_=>by cases k
theorem abK{A:cj}{E:aj->aA->Prop}{x:ar}{Q:Bool->aA->Prop}(ag:(hN prog w).is s.heap k x){vs:List aj}(bb:∀v∈vs,∃b cn,v=.ref b/\(hN prog w).is s.heap cn b)(h:Q aD s):
  wpAny (a' prog w) A (LO (.ref x) vs) Q E s:=by
 unfold LO;refine aH ?_;refine uY _ (λrest r s'=>r.1=aa/\s'=s/\∀v∈rest,∃b cn,v=.ref b/\(hN prog w).is s.heap cn b) _ ?_ ?_ _ _ ⟨rfl,rfl,bb⟩
 ·rintro v rest r s' ⟨aO,rfl,aF⟩;obtain⟨b,cn,rfl,ae⟩:=aF v (.head _);have hv:∀v∈rest,∃b cn,v=.ref b/\(hN prog w).is s'.heap cn b:=λv bb=>aF v (.tail _ bb);dsimp only;cases aho:(x==b) with
  |true=>
   simp only[KR,lW];exact ba ⟨rfl,rfl,hv⟩
  |false=>
   simp only[KP];rw[aZ (show ¬ ((LP (aj.ref x)&&LP (aj.ref b))=af) from λz=>e1 z)];refine aH (Bz 8 (d:=.tup _) ag.1 ag.2 ?_);simp only[sX,jI,hM];refine aH (Bz 8 (d:=.tup _) ae.1 ae.2 ?_);simp only[sX,jI,hM];refine aH (IM 8 (d:=.tup _) ag.1 ag.2 ?_);simp only[jI,hM];refine aH (IM 8 (d:=.tup _) ae.1 ae.2 ?_);simp only[jI,hM];exact ba ⟨rfl,rfl,hv⟩
 ·rintro⟨a9,bF⟩ s' ⟨aO,rfl,_⟩;simp only at aO;subst aO;exact ba h
end
section
variable(w:bN)(P:List ah->ar->Prop)
noncomputable def DO(z:List ah×Int×aj):Prop:=∃b,z.2.2=.ref b/\z.2.1=e5 w (.tup z.1)/\P z.1 b
structure rd(es:Array (Int×aj))(t:a_)(led:Bool)(ks:List (List ah)):Prop where
 w2:∃zs:List (List ah×Int×aj),zs.map (·.2)=es.toList/\(zs.map (·.1)).Perm ks/\∀z∈zs,DO w P z
 tab:qd t led
 cE:w1 t (es.toList.map (·.1))
 au:ks.Nodup
noncomputable def h3(h:br)(a:ar)(led:Bool)(ks:List (List ah)):Prop:=∃o es ep t,h.get? a=J o/\o.ExactSet/\o.data=.set es ep t/\rd w P es t led ks
end
section
variable{prog:cc}{w:bN}{P:List ah->ar->Prop}{A:cj}{E:aj->aA->Prop}
theorem rd.size(D:rd w P es t led ks):t.place.size=es.size:=by
 rw[D.cE.len,b3,eT]
theorem rd.fit(D:rd w P es t led ks):t.fits es.size=af:=by
 have:=D.cE.loose;unfold a_.fits a_.fill;rw[D.tab.wW,D.size,dv,pv,pn];rw[D.size]at this;exact⟨rfl,by show es.size+0<=_;lia⟩
theorem rd.num(D:rd w P es t led ks):es.size=ks.length:=by
 obtain⟨zs,O,U,_⟩:=D.w2;rw[<-U.length_eq,b3,<-eT,<-O,b3]
theorem Qn(r:gH xs){i i' j:Nat}(a:xs[i]?=J j)(b:xs[i']?=J j):i=i':=by
 rw[<-IE r a,<-IE r b]
theorem abL{M:jJ}{c:Bool}{m:gK Bool}{u r:gK α}{Q:α->aA->Prop}(O:∀Q':Bool->aA->Prop,Q' aD s->wpAny M A m Q' E s)(U:wpAny M A r Q E s):
  wpAny M A (if c=af then (do let b <-m;if b=af then u else r) else r) Q E s:=by
 cases c
 ·rw[aZ e1];exact U
 ·rw[aV rfl];refine aH (O _ ?_);rw[aZ e1];exact U
theorem Qo{a x:ar}{k:List ah}{led:Bool}{ks:List (List ah)}{o:bE}{es:Array (Int×aj)}{ep:Nat}{t:a_}{s:aA}{Q:SetFound->aA->Prop}{zs:List (List ah×Int×aj)}(bZ:A.units+20<c6)(aS:s.heap.get? a=J o)(hd:o.data=.set es ep t)(D:rd w P es t led ks)(ag:(hN prog w).is s.heap k x)(nj:∀q b,P q b->(hN prog w).is s.heap q b)(dG:zs.map (·.2)=es.toList)(dH:(zs.map (·.1)).Perm ks)(j1:∀z∈zs,DO w P z)(Qq:k∈ks->Q (.there aa) s)(x9:k∉ks->∀gO,(dm t.mask (e5 w<|.tup k) gO).j∉t.place.toList->(∀cn,cn<gO->(dm t.mask (e5 w<|.tup k) cn).j∈t.place.toList)->Q (.free (dm t.mask (e5 w<|.tup k) gO).j aD) s){gF:Nat}(fl:(dm t.mask (e5 w<|.tup k) gF).j∉t.place.toList)(DP:gF<10*a_.turns t.mask):
  ∀(fuel k0:Nat) (st:Option a_.Probe),st.getD (t.probeStart<|e5 w<|.tup k)=dm t.mask (e5 w<|.tup k) k0->gF<k0+fuel->(∀cn,cn<k0->(dm t.mask (e5 w<|.tup k) cn).j∈t.place.toList)->
   (∀(i cn:Nat),cn<k0->t.place[i]?=J (dm t.mask (e5 w<|.tup k) cn).j->(zs.map (·.1))[i]?≠J k)->
   wpAny (a' prog w) A (LQ a (.ref x) (e5 w<|.tup k) af fuel st) Q E s
 |0,k0,st,_,hf,aY,_=>by
  refine absurd (aY gF (by lia)) fl
 |fuel+1,k0,st,gj,hf,aY,aq=>by
  have abM:k0<=gF:=by
   rcases kS gF k0 with z|z
   ·exact absurd (aY gF z) fl
   ·exact z
  have hz:zs.length=es.size:=by rw[<-eT,<-dG,b3]
  have hash:∀(i:Nat) (q:List ah),(zs.map (·.1))[i]?=J q->∃e b,es[i]?=J e/\e.2=.ref b/\e.1=e5 w (.tup q)/\(hN prog w).is s.heap q b:=λi q bk=>by
   obtain⟨z,ay,aG⟩:=dK.mp (by rw[gJ]at bk;exact bk);obtain⟨b,di,gA,eh⟩:=j1 z (iq ay);subst aG;refine⟨z.2,b,?_,di,gA,nj _ _ eh⟩;rw[<-gV,<-dG,gJ,ay];rfl
  unfold LQ;refine aH (o_ aS hd D.fit ?_);dsimp only;rw[aZ (by unfold a_.gaveWay;rw[pv];have:=D.cE.sD.pos;lia)];rw[gj];unfold a_.probe;obtain⟨k1,g1,g2,g3⟩:=Qf D.tab.rise D.tab.wW (λi=>(es[i]?.map (·.1)).getD 0) (e5 w<|.tup k) (10*a_.turns t.mask) k0 ⟨gF,abM,by lia,fl⟩;have my:∀cn,cn<k1->(dm t.mask (e5 w<|.tup k) cn).j∈t.place.toList:=λcn g0=>by
   rcases kS cn k0 with z|z
   ·exact aY cn z
   ·obtain⟨i,O,_⟩:=g2 cn z g0;rw[<-gV]at O;exact iq O
  have Qr:∀(i cn:Nat),cn<k1->t.place[i]?=J (dm t.mask (e5 w<|.tup k) cn).j->(zs.map (·.1))[i]?≠J k:=λi cn g0 aE bk=>by
   rcases kS cn k0 with z|z
   ·exact aq i cn z aE bk
   ·obtain⟨i',O,U⟩:=g2 cn z g0;have:=Qn D.tab.rise aE O;subst this;obtain⟨e,b,di,eh,gA,nL⟩:=hash i k bk;rw[di]at U;exact U gA
  generalize aJ:a_.probe.go t _ (e5 w<|.tup k) _ (dm t.mask (e5 w<|.tup k) k0)=g;rcases g3 with ⟨e,bo⟩|⟨i,e,aG,bT,eH⟩
  ·cases aJ.symm.trans e;refine ba (x9 (λabN=>?_) k1 bo my);have abO:=dH.mem_iff.mpr abN;obtain⟨i,ao⟩:=AJ abO;obtain⟨e,b,di,eh,gA,nL⟩:=hash i k ao;have hT:i<es.size:=(s7.mp di).1;have aE:t.place[i]?=J (t.place[i]'(by rw[D.size];exact hT)):=n8 (by rw[D.size];exact hT);have hm:(t.place[i]'(by rw[D.size];exact hT),e5 w<|.tup k)∈t.place.toList.zip (es.toList.map (·.1)):=by
    refine iq (i:=i) ?_;rw[EA];refine⟨by rw[gV];exact aE,?_⟩;rw[gJ,gV,di,<-gA];rfl
   obtain⟨IN,a9,bF⟩:=D.cE.uF _ hm;have gy:IN<k1:=by
    rcases A3 IN k1 with z|z|z
    ·exact z
    ·refine absurd ?_ bo;rw[<-z,a9];exact Array.getElem_mem_toList ..
    ·exact absurd (bF k1 z) bo
   exact Qr i IN gy (by rw[aE,a9]) ao
  ·cases aJ.symm.trans e;have hT:i<zs.length:=by rw[hz,<-D.size];exact (s7.mp bT).1
   have Qs:(zs.map (·.1))[i]?=J zs[i].1:=by rw[gJ,fg hT];rfl
   obtain⟨abP,b,di,eh,gA,nL⟩:=hash i _ Qs;dsimp only;refine abL (λQ' q=>abK ag (λv bb=>?_) q) ?_
   ·obtain⟨b7,abQ,rfl⟩:=e0.mp bb;have uk:b7∈es.toList:=K6.mpr (Array.mem_filter.mp<|K6.mp abQ).1;rw[<-dG]at uk;obtain⟨z,abR,rfl⟩:=e0.mp uk;obtain⟨pI,cS,_,cM⟩:=j1 z abR;exact⟨pI,z.1,cS,nj _ _ cM⟩
   ·obtain⟨ahp,ev⟩:=abP;cases eh;rw[di];dsimp only;refine aH (ki ((hN prog w).eqBool (show A.units+10<c6 by lia) nL ag ?_));refine aH (o_ aS hd D.fit ?_);by_cases bk:zs[i].1=k
    ·rw[eL bk,aV<|show (af&&af)=af from rfl];exact ba (Qq (dH.mem_iff.mp (by rw[<-bk];exact EH (AS hT))))
    ·rw[bi bk,aZ (by decide)];dsimp only;rw[show t.sameMemory t.moves t.mask=J af by unfold a_.sameMemory;rw[aV (pq _)]];dsimp only;rw[aV rfl,aG];dsimp only;rw[di];dsimp only;refine aH (wpAny_isSame_ref_self<|aH<|ba ?_);rw[aV rfl];dsimp only;rw[aZ e1];refine Qo bZ aS hd D ag nj dG dH j1 Qq x9 fl DP fuel (k1+1) _ rfl (by lia) (λcn g0=>?_) λi' cn g0 aE=>?_
     ·rcases kS cn k1 with z|z
      ·exact my cn z
      ·rw[show cn=k1 by lia];rw[<-gV]at bT;exact iq bT
     ·rcases kS cn k1 with z|z
      ·exact Qr i' cn z aE
      ·rw[show cn=k1 by lia]at aE;have:=Qn D.tab.rise aE bT;subst this;rw[Qs];exact λe=>bk (Option.some.inj e)
end
noncomputable def mz(ks:List (List ah))(k:List ah):List (List ah):=if k∈ks then ks else ks++[k]
section
variable{prog:cc}{w:bN}{P:List ah->ar->Prop}{A:cj}{E:aj->aA->Prop}{s:aA}
structure w3(w:bN)(P:List ah->ar->Prop)(es:Array (Int×aj))(t:a_)(led:Bool)(ks:List (List ah))(n:Nat):Prop where
 w2:∃zs:List (List ah×Int×aj),zs.map (·.2)=es.toList/\(zs.map (·.1)).Perm ks/\∀z∈zs,DO w P z
 tab:qd t led
 sD:GM t.mask
 len:t.place.size=es.size
 le:∀j∈t.place.toList,j<=t.mask
 uF:∀p∈t.place.toList.zip (es.toList.map (·.1)),q_ t.mask (·∈t.place.toList) p.2 p.1
 au:ks.Nodup
 nD:es.size=n+1
 Qt:n*5<t.mask*3
theorem w3.um(D:w3 w P es t led ks n):t.fits es.size=af:=by
 have:=D.Qt;have:=D.sD.pos;unfold a_.fits a_.fill;rw[D.tab.wW,D.len,D.nD,dv,pv,pn];exact⟨rfl,by show n+1+0<=_;lia⟩
theorem w3.done(D:w3 w P es t led ks n)(hf:¬ ((n+1)*5 >= t.mask*3)):rd w P es t led ks:=
 ⟨D.w2,D.tab,⟨D.sD,by rw[D.len,b3,eT],by rw[D.len,D.nD];lia,D.le,D.uF⟩,D.au⟩
theorem Qu{es':Array (Int×aj)}{t':a_}(aS:h.get? a=J o)(hd:o.data=.set es ep t):
  (h.update a<|bE.putSet es' t').get? a=J {o with data:=.set es' (ep+1) t'}:=by
 have:=sU (bE.putSet es' t') aS (by rw[putSet_of es' t' hd];rfl);rw[putSet_of es' t' hd]at this;exact this
theorem IO{α β:Type}(f:α->β)(l:List α)(m:List β)(hm:l.map f=m):∀is:List Nat,(is.filterMap (l[·]?)).map f=is.filterMap (m[·]?)
 |[]=>rfl
 |i::is=>by
  subst hm;rw[sP,sP,gJ];cases l[i]? with
  |none=>exact IO f l _ rfl is
  |some x=>exact congrArg (f x::·) (IO f l _ rfl is)
theorem Qv(l:List α):(range l.length).filterMap (l[·]?)=l:=by
 have:=JS l.toArray;simpa using this
theorem IP{es mA:Array (Int × aj)}{t1:a_}{R:Bool -> aA -> Prop}(aS:s.heap.get? a=J o)(hex:o.ExactSet)(hd:o.data=.set es ep t)(bo:es.size=n)(aF:n+1 <= 300)(D:w3 w P mA t1 led ks n)(h : ∀h',br.SameBut a s.heap h' -> h3 w P h' a led ks -> R af {s with heap:=h'}):
    wpAny (a' prog w) A (do
        storeSet a mA t1
        if (!aD&&t1.tooFull)=af then do
            setRelay a (a_.grown<|es.size+1)
            pure af
          else pure af) R E s:=by
  refine aH (J3 aS hd ?_ (by rw [D.nD]; exact hh aF (by decide)));have sm:=Qu (es':=mA) (t':=t1) aS hd;have Qw:=qq s.heap a (bE.putSet mA t1);have Qx:t1.tooFull=decide ((n+1)*5 >= t1.mask*3):=by
    unfold a_.tooFull a_.fill;rw [D.tab.wW,D.len,D.nD];rfl
  by_cases hf:(n+1)*5 >= t1.mask*3
  · rw [Qx,eL hf,aV<|show (!aD&&af)=af from rfl]
    obtain ⟨g1,g2,g3⟩:=abJ D.sD D.Qt hf aF;unfold setRelay;refine aH (aH<|o_ sm rfl D.um ?_);dsimp only;rw [bo,aZ (λz => absurd (hs z g3) (by decide))];obtain ⟨t',order,a9,bF,mQ,oi⟩:=abH (t:=t1) (es:=mA) (wanted:=a_.grown (n+1)) g1 (by rw [D.nD]; exact g2) D.tab.led;rw [a9];have CQ:(order.filterMap (mA[·]?)).toList=order.toList.filterMap (mA.toList[·]?):=by
      rw [E1];simp
    have aE:(order.filterMap (mA[·]?)).toList.Perm mA.toList:=by
      rw [CQ];refine (bF.filterMap _).trans ?_;rw [<-eT,Qv]
    have hsz:(order.filterMap (mA[·]?)).size=mA.size:=by rw [<-eT,aE.length_eq,eT]
    refine aH (m:=if ((order.filterMap (mA[·]?)).size != mA.size)=af then _ else _) ?_;rw [hsz,aZ (by simp)];refine ba ?_;dsimp only;refine J3 sm rfl ?_ (by rw [hsz,D.nD]; exact hh aF (by decide));refine ba (h _ (Qw.trans<|qq _ a _) ⟨_,_,_,_,Qu sm rfl,hex,rfl, ?_,mQ,oi,D.au⟩);obtain ⟨zs,dG,dH,j1⟩:=D.w2;refine ⟨order.toList.filterMap (zs[·]?), ?_, ?_,λz hz => ?_⟩
    · rw [CQ]
      exact IO (·.2) zs _ dG _
    · refine (A8 _ ?_).trans dH
      refine (bF.filterMap _).trans ?_;rw [show mA.size=zs.length by rw [<-eT, <-dG,b3],Qv]
    · obtain ⟨i,_,e⟩:=AL.mp hz
      exact j1 z (iq e)
  · rw [Qx,bi hf,aZ (show ¬ ((!aD&&aD)=af) from by decide)]
    refine ba (h _ Qw ⟨_,_,_,_,sm,hex,rfl,D.done hf⟩)
theorem abS{x:ar}{Q:Bool->aA->Prop}(bZ:A.units+20<c6)(S:h3 w P s.heap a led ks)(ag:(hN prog w).is s.heap k x)(hB:P k x)(nj:∀q b,P q b->(hN prog w).is s.heap q b)(aF:ks.length+1<=300)(h:∀b h',br.SameBut a s.heap h'->h3 w P h' a led (mz ks k)->Q b {s with heap:=h'}):
  wpAny (a' prog w) A (setAddHashed a (.ref x)<|e5 w<|.tup k) Q E s:=by
 obtain⟨o,es,ep,t,aS,hex,hd,D⟩:=S;have zJ:=D;obtain⟨zs,dG,dH,j1⟩:=D.w2;obtain⟨gF,DP,fl⟩:=D.cE.some (e5 w<|.tup k);have ahq:=D.cE.sD.pos;unfold setAddHashed setAddHashedIn;refine ki (aH<|o_ aS hd D.fit ?_);dsimp only;rw[aZ (show ¬ (byScan (aj.ref x) es=af) from λz=>e1 z)];unfold setSearch;refine aH (Qo bZ aS hd D ag nj dG dH j1 (λaY=>?_) (λaY gO bo az=>?_) fl DP 100000 0 aa rfl (by unfold a_.turns at DP;lia) (λcn z=>absurd z<|vc _) λi cn z=>absurd z<|vc _)
 ·refine ba ?_;have e:s={s with heap:=s.heap}:=by cases s;rfl
  rw[e];refine h _ _ (br.SameBut.refl a s.heap) ?_;rw[mz,aV aY];exact⟨o,es,ep,t,aS,hex,hd,D⟩
 ·dsimp only;refine aH (o_ aS hd D.fit ?_);dsimp only;obtain⟨dF,bI⟩:=D.cE.put (h:=e5 w (.tup k)) bo az;have abT:¬ (t.place[a_.below t.place (dm t.mask (e5 w<|.tup k) gO).j]?=J (dm t.mask (e5 w<|.tup k) gO).j):=λz=>bo (by rw[<-gV]at z;exact iq z);have abU:=D.tab.put abT;have dV:∀b:Bool,w3 w P (a_.insertAt es (t.put (dm t.mask (e5 w<|.tup k) gO).j).2 (e5 w<|.tup k,.ref x)) { (t.put (dm t.mask (e5 w<|.tup k) gO).j).1 with plain:=b} led (ks++[k]) es.size:=λb=>by
   have ay:(a_.insertAt es (t.put (dm t.mask (e5 w<|.tup k) gO).j).2 (e5 w<|.tup k,aj.ref x)).toList=_:=IJ _ _ _;have aG:(t.put (dm t.mask (e5 w<|.tup k) gO).j).1.place.toList=_:=IJ _ _ _;have hsz:(a_.insertAt es (t.put (dm t.mask (e5 w<|.tup k) gO).j).2 (e5 w<|.tup k,aj.ref x)).size=es.size+1:=by
    rw[<-eT,ay,eZ,eS,ir,iu,eT];lia
   refine⟨⟨zs.take (t.put (dm t.mask (e5 w<|.tup k) gO).j).2++(k,e5 w<|.tup k,.ref x)::zs.drop (t.put (dm t.mask (e5 w<|.tup k) gO).j).2,?_,?_,λz hz=>?_⟩,abU.abp b,D.cE.sD,?_,dF,?_,?_,hsz,?_⟩
   ·rw[ay,<-dG,jl,dQ,mI,n7]
   ·rw[jl,dQ,mI,n7];refine List.perm_middle.trans ?_;rw[hr];exact (dH.cons k).trans (ek (l₁:=[k]))
   ·rcases zO.mp hz with rfl|hz
    ·exact⟨x,rfl,rfl,hB⟩
    ·exact j1 z hz
   ·show (t.put (dm t.mask (e5 w<|.tup k) gO).j).1.place.size=_;rw[hsz,<-eT,aG,eZ,eS,ir,iu,eT,D.size];lia
   ·rw[ay,jl,dQ,mI,n7];exact bI
   ·exact eA.mpr ⟨D.au,h4 _ k,λy aw z hz=>by cases c2.mp hz;exact λe=>aY<|e ▸ aw⟩
   ·have:=D.cE.loose;rw[D.size]at this;exact this
  have qH:∀h',br.SameBut a s.heap h'->h3 w P h' a led (ks++[k])->Q af {s with heap:=h'}:=λh' zP dq=>h af h' zP (by rw[mz,aZ aY];exact dq);have l0:es.size+1<=300:=by rw[D.num];exact aF
  split
  ·refine aH (Qm 8 (d:=.tup k) ag.1 ag.2 λb=>?_);cases b
   ·exact IP aS hex hd rfl l0 (dV aD) qH
   ·exact IP aS hex hd rfl l0 (dV _) qH
  ·refine aH (ba ?_);exact IP aS hex hd rfl l0 (dV _) qH
end
noncomputable def lK(w:bN):Bool:=!w.params.followText "set-order"
noncomputable def rf(led:Bool):bE:={cls:=.type "set",dict:=aa,data:=.set #[] 0 (.fresh 0 0 led)}
theorem abV:isSubtype (.type "tuple") (.type "set")=pure aD:=by rw[xu];kernel_rfl
theorem abW:isSubtype (.type "tuple") (.type "frozenset")=pure aD:=by rw[xu];kernel_rfl
section
variable{prog:cc}{w:bN}{A:cj}{E:aj->aA->Prop}{s:aA}
theorem abX(a:aj){Q₁:aj->aA->Prop}(h:Q₁ (.ref s.heap.objs.size) {s with heap:=s.heap.push (rf<|lK w)}):
  codeAny (a' prog w) A (.call (.builtin "set.__new__") ⟨[.type "set",a],[]⟩) (wants Q₁ E) s:=by
 refine J_ ?_;show wpAny _ A.in1 (do checkBuiltinCall "set.__new__" ⟨[.type "set",a],[]⟩;again (.builtin "set.__new__" ⟨[.type "set",a],[]⟩)) _ _ s;refine aH (AA (PySem.F.newCall_set_1 a)<|ba ⟨xv Ll _,u0 PySem.F.entry_set_new ?_⟩);rw[xR Ll _];unfold b8.«set.__new__» b8.Frozenset.newClass;have Cu:=sub_set_self;obtain⟨aE,g,d,tk,os⟩:=s;dsimp only
 wp_walk
 refine Ej (ba ?_);dsimp only;simp only[newObj];refine aH (wpAny_alloc<|ba ?_);exact ba h
end
section
variable{prog:cc}{w:bN}{A:cj}{E:aj->aA->Prop}{s:aA}
end
theorem zQ:Slot "set_iterator" "__next__" "set_iterator.__next__" :=
 .of (owner := "set_iterator") (n := "__next__") (by rw[Ka,JV];kernel_rfl) (by decide +kernel) (by decide +kernel) (by decide +kernel)
  (by first|exact .inl (by decide +kernel)|exact .inr (by decide +kernel)) (by rw[xu];kernel_rfl)
theorem abY:Fv table "set_iterator.__next__" = J b8.«set_iterator.__next__»:=entryFor_of_tree (by kernel_rfl)
theorem Qy:Manifest.owners.lookup (String.ofList ['r','o','t','a','r','e','t','i','_','t','e','s'].reverse)=J Manifest.sig_set_iterator:=by kernel_rfl
theorem abZ(a:aj):Bs "set_iterator.__next__" ⟨[a],[]⟩:=by
 unfold Bs;rw[Ki (id := "set_iterator.__next__") (n:=['_','_','t','x','e','n','_','_']) (o:=['r','o','t','a','r','e','t','i','_','t','e','s']) (by kernel_rfl) Qy];kernel_rfl
theorem ab0:Fv table "set.__iter__" = J b8.«frozenset.__iter__»:=
 Kd (id' := "frozenset.__iter__") (by kernel_rfl) rfl (by decide +kernel) (by kernel_rfl)
theorem Qz:Slot "set_iterator" "__iter__" "set_iterator.__iter__" :=
 .of (owner := "set_iterator") (n := "__iter__") (by rw[Ka,JV];kernel_rfl) (by decide +kernel) (by decide +kernel) (by decide +kernel)
  (by first|exact .inl (by decide +kernel)|exact .inr (by decide +kernel)) (by rw[xu];kernel_rfl)
theorem ab1(a:aj):Bs "set_iterator.__iter__" ⟨[a],[]⟩:=by
 unfold Bs;rw[Ki (id := "set_iterator.__iter__") (n:=['_','_','r','e','t','i','_','_']) (o:=['r','o','t','a','r','e','t','i','_','t','e','s']) (by kernel_rfl) Qy];kernel_rfl
theorem ab2:Fv table "set_iterator.__iter__" = J b8.«dict_keyiterator.__iter__»:=
 Kd (id' := "dict_keyiterator.__iter__") (by kernel_rfl) (by first|rfl|decide +kernel|(unfold String.splitOn;simp +decide [String.splitOnAux])) (by decide +kernel) (by kernel_rfl)
noncomputable def ji(h:br)(I:ar)(f0:aj)(i:Nat)(S:ar)(n ep:Nat):Prop:=∃o,h.get? I=J o/\o.cls=.type "set_iterator" /\ o.data=.fields #[f0,.int i 0,.ref S,.int n 0,.int ep 0]
noncomputable def nk(h:br)(S:ar)(es:Array (Int×aj))(ep:Nat)(t:a_):Prop:=∃o,h.get? S=J o/\o.ExactSet/\o.data=.set es ep t
theorem ji.go(x:ji h I f0 i S n ep)(k:∀o,h.get? I=J o->h'.get? I=J o):ji h' I f0 i S n ep:=let ⟨o,e,r⟩:=x;⟨o,k o e,r⟩
theorem nk.go(x:nk h S es ep t)(k:∀o,h.get? S=J o->h'.get? S=J o):nk h' S es ep t:=let ⟨o,e,r⟩:=x;⟨o,k o e,r⟩
section
variable{prog:cc}{w:bN}{A:cj}{E:aj->aA->Prop}{s:aA}
theorem ji.ty(x:ji s.heap I f0 i S n ep):s.TypeIs (.ref I) "set_iterator" := let ⟨o,e,c,_⟩:=x;⟨o,e,c⟩
theorem ab3{M:jJ}{src:Source}{Q:Nat->aA->Prop}(bo:0<n)(h:∀i,i<n->Q i {s with drawn:=s.drawn.bump src}):wpAny M A (choose src n) Q E s:=
 λ_ _ _=>⟨s6 bo,h _<|A6 _ bo⟩
theorem IQ{α:Type}:∀(l:List α) (i:Nat) (h:i<l.length),(l[i]::l.eraseIdx i).Perm l
 |x::xs,0,_=>.refl _
 |x::xs,i+1,h=>(List.Perm.swap x _ _).trans (List.Perm.cons x<|IQ xs i<|KS h)
theorem QA{α:Type}{M:jJ}:∀(n:Nat) (xs:List α) (s:aA) (Q:List α->aA->Prop),xs.length=n->(∀d a3,List.Perm a3 xs->Q a3 {s with drawn:=d})->wpAny M A (Fw n xs) Q E s
 |0,xs,s,Q,aF,h=>by
  have e:xs=[]:=xy aF;subst e;unfold Fw;exact ba (h s.drawn [] .nil)
 |n+1,[],s,Q,aF,h=>by cases aF
 |n+1,x::xs,s,Q,aF,h=>by
  unfold Fw;refine aH (ab3 (by rw[aF];exact xM _) λi ao=>?_);have e:(x::xs)[i]?=J (x::xs)[i]:=fg ao;rw[e];dsimp only;refine aH (QA n _ _ _ (by rw[Kn ao,aF];rfl) λd a3 aE=>?_);refine ba (h d _ ?_);refine (List.Perm.cons _ aE).trans ?_;exact IQ _ i ao
theorem DQ(hit:ji s.heap I f0 i S n ep)(h:wpAny (a' prog w) A.in1 (b8.«set_iterator.__next__» ⟨[.ref I],[]⟩) (λfin s'=>∃v,fin=.done (.ret v)/\Q (J v) s') (λe s'=>wpAny (a' prog w) A (do let b <-Bd e (.type "StopIteration");if b=af then pure aa else throw e) Q E s') s):
  wpAny (a' prog w) A (jL<|.ref I) Q E s:=by
 unfold jL;refine aH (u2<|o' (name:=aQ.ofString "__next__") hit.ty zQ<|kh zQ hit.ty abY ?z<|abZ _)
 case z=>
  refine ip h (λfin s' ⟨v,e,q⟩=>⟨v,e,ba q⟩) λe s' q=>q
theorem DR{f0':aj}{i':Nat}{Q:Unit->aA->Prop}{k:Nat}(hit:ji s.heap I f0 i S n ep)(aY:k<5)(he:(#[f0,.int i 0,.ref S,.int n 0,.int ep 0]:Array aj).setIfInBounds k x=#[f0',.int i' 0,.ref S,.int n 0,.int ep 0])(q:∀h',ji h' I f0' i' S n ep->br.SameBut I s.heap h'->Q () {s with heap:=h'}):wpAny (a' prog w) A (Fq (.ref I) k x) Q E s:=by
 obtain⟨o,f1,f2,d6⟩:=hit;refine sM f1 d6 aY (q _ ⟨_,sU _ f1<|Fl<|vh d6 _,(Fm ..).trans f2,?_⟩<|qq ..);rw[vh d6,he]
theorem QB(dD:A.handled=aa)(q:∀h',br.ExtBut I s.heap h'->Q aa {s with heap:=h'}):
  wpAny (a' prog w) A.in1 (vo (.type "StopIteration") [] >>= λx=>(raiseNew x:gK PySem.Fin)) (λfin s'=>∃v,fin=.done (.ret v)/\Q (J v) s') (λe s'=>wpAny (a' prog w) A (do let b <-Bd e (.type "StopIteration");if b=af then pure aa else throw e) Q E s') s:=by
 apply aH;simp only[vo,Fs];refine aH (jG (aH (m:=vp _ _) (AA (a:=aj.none) (by first|rfl|(simp only[vp];rfl)) (jG ?_ (by size_fits)))) (by size_fits));simp only[raiseNew];apply aH;apply Ep;rw[show A.in1.handled=aa from dD];refine aH (m:=pure _) (ba<|Eu ?_);apply aH;refine xr (T := "StopIteration") (b:=af) ⟨_,fw _ rfl,rfl⟩ Em ?_;exact ba (q _<|λb o _ e=>dc _<|dc _ e)
theorem QC{next:Nat}(hit:ji s.heap I (.int slot 0) i S n ep)(dq:nk s.heap S es ep t)(hf:t.fits es.size=af)(bo:es.size=n)(ag:∀(Q':Option (aj×Nat)->aA->Prop) (r3:aj->aA->Prop),Q' (J (x,next)) s->wpAny (a' prog w) A.in1 (rG S slot i ep) Q' r3 s)(q:∀h',ji h' I (.int next 0) (i+1) S n ep->br.SameBut I s.heap h'->Q (J x) {s with heap:=h'}):wpAny (a' prog w) A (jL<|.ref I) Q E s:=by
 refine DQ hit ?_;obtain⟨o,f1,f2,d6⟩:=id hit;obtain⟨IR,ay,aG,bT⟩:=dq;unfold b8.«set_iterator.__next__»;refine aH (ba<|aH<|u1 f1 d6 ?_);show wpAny _ _ (Bt S >>= _) _ _ _;refine aH (xq ay bT hf ?_);dsimp only;rw[aZ (by rw[bo];simp)];refine aH (m:=rG S _ _ _) (ag _ _ ?_);dsimp only;refine aH (DR (f0':=.int next 0) (i':=i) hit (by decide) rfl λO zR zS=>?_);refine aH (DR (s:={s with heap:=O}) (f0':=.int next 0) (i':=i+1) zR (by decide) rfl λU ab4 ab5=>?_);exact ba ⟨_,rfl,q U ab4<|zS.trans ab5⟩
theorem QD(dD:A.handled=aa)(hit:ji s.heap I (.int slot 0) i S n ep)(dq:nk s.heap S es ep t)(hf:t.fits es.size=af)(bo:es.size=n)(ag:∀(Q':Option (aj×Nat)->aA->Prop) (r3:aj->aA->Prop),Q' aa s->wpAny (a' prog w) A.in1 (rG S slot i ep) Q' r3 s)(q:∀h',br.ExtBut I s.heap h'->Q aa {s with heap:=h'}):wpAny (a' prog w) A (jL<|.ref I) Q E s:=by
 refine DQ hit ?_;obtain⟨o,f1,f2,d6⟩:=id hit;obtain⟨IR,ay,aG,bT⟩:=dq;unfold b8.«set_iterator.__next__»;refine aH (ba<|aH<|u1 f1 d6 ?_);show wpAny _ _ (Bt S >>= _) _ _ _;refine aH (xq ay bT hf ?_);dsimp only;rw[aZ (by rw[bo];simp)];refine aH (m:=rG S _ _ _) (ag _ _ ?_);dsimp only;refine aH (sM f1 d6 (show 2<5 by decide) ?_);exact QB (I:=I) dD λh' ae=>q h' λb o nV e=>ae b o nV ((qq ..).extBut b o nV e)
theorem ab6{place:Nat}{tk:lS}{x:Int×aj}(hit:ji s.heap I (.ref a2) i S n ep)(dq:nk s.heap S es ep t)(hf:t.fits es.size=af)(bo:es.size=n)(U:s.heap.get? a2=J o2)(cM:o2.data=.seq bW n2)(aE:bW[i]?=J (.int place tk))(ag:es[place]?=J x)(q:∀h',ji h' I (.ref a2) (i+1) S n ep->br.SameBut I s.heap h'->Q (J x.2) {s with heap:=h'}):wpAny (a' prog w) A (jL<|.ref I) Q E s:=by
 refine DQ hit ?_;obtain⟨o,f1,f2,d6⟩:=id hit;obtain⟨IR,ay,aG,bT⟩:=dq;unfold b8.«set_iterator.__next__»;refine aH (ba<|aH<|u1 f1 d6 ?_);show wpAny _ _ (Bt S >>= _) _ _ _;refine aH (xq ay bT hf ?_);dsimp only;rw[aZ (by rw[bo];simp)];show wpAny _ _ (xU (.ref a2) >>= _) _ _ _;refine aH (mE U cM ?_);dsimp only;rw[rC,aE];dsimp only;show wpAny _ _ (setNextDrawn S _ _ >>= _) _ _ _;unfold setNextDrawn;refine aH (aH<|o_ ay bT hf ?_);dsimp only;rw[aZ (by simp),rC,ag];dsimp only;refine ba ?_;refine aH (DR (f0':=.ref a2) (i':=i+1) hit (by decide) rfl λO zR zS=>?_);exact ba ⟨_,rfl,q O zR zS⟩
theorem ab7(dD:A.handled=aa)(hit:ji s.heap I (.ref a2) i S n ep)(dq:nk s.heap S es ep t)(hf:t.fits es.size=af)(bo:es.size=n)(U:s.heap.get? a2=J o2)(cM:o2.data=.seq bW n2)(aE:bW[i]?=aa)(q:∀h',br.ExtBut I s.heap h'->Q aa {s with heap:=h'}):wpAny (a' prog w) A (jL<|.ref I) Q E s:=by
 refine DQ hit ?_;obtain⟨o,f1,f2,d6⟩:=id hit;obtain⟨IR,ay,aG,bT⟩:=dq;unfold b8.«set_iterator.__next__»;refine aH (ba<|aH<|u1 f1 d6 ?_);show wpAny _ _ (Bt S >>= _) _ _ _;refine aH (xq ay bT hf ?_);dsimp only;rw[aZ (by rw[bo];simp)];show wpAny _ _ (xU (.ref a2) >>= _) _ _ _;refine aH (mE U cM ?_);dsimp only;rw[rC,aE];dsimp only;refine aH (DR (f0':=.int 0 0) (i':=i) hit (by decide) rfl λO zR zS=>?_);obtain⟨cA,g1,g2,g3⟩:=zR;refine aH (sM (s:={s with heap:=O}) g1 g3 (show 2<5 by decide) ?_);exact QB (I:=I) dD λh' ae=>q h' λb o nV e=>ae b o nV ((qq ..).extBut b o nV<|zS.extBut b o nV e)
end
noncomputable def nq(val:Nat->List ah):Nat->List (List ah)
 |0=>[]
 |i+1=>mz (nq val i) (val i)
theorem h3.fresh(led:Bool):h3 w P (h.push<|rf led) h.objs.size led []:=
 ⟨_,#[],0,_,fw _ rfl,⟨rfl,rfl,rfl⟩,rfl,⟨[],rfl,.nil,λz hz=>(jH hz).elim⟩,⟨List.Pairwise.nil,rfl,rfl⟩,⟨.inl rfl,rfl,show 0*5<7*3 by decide,λj bx=>(jH bx).elim,λp aE=>(jH aE).elim⟩,qo⟩
theorem h3.at(S:h3 w P h a led ks)(k:∀o,h.get? a=J o->h'.get? a=J o):h3 w P h' a led ks:=by
 obtain⟨o,es,ep,t,aS,r⟩:=S;exact⟨o,es,ep,t,k o aS,r⟩
section
variable{prog:cc}{w:bN}{P:List ah->ar->Prop}{A:cj}{E:aj->aA->Prop}{s:aA}
theorem ab8{R:Bi->aA->Prop}{c9 wr:List ar}{Pi:Nat->aj->Prop}{St:Nat->br->Prop}{h0:br}(bZ:A.units+25<c6)(W:qr prog w A.in1 I c9 wr n Pi St)(QE:S∉c9)(val:Nat->List ah)(ab9:∀i v,Pi i v->∃b,v=.ref b/\P (val i) b)(nj:∀q b,P q b->(hN prog w).is h0 q b)(hw:∀b o,h0.get? b=J o->b∉wr)(IS:∀u items m,h0.get? S=J u->u.data=.seq items m->False)(dT:∀i,i<n->(nq val i).length+1<=300):
  ∀(k i:Nat) (s:aA),n-i=k->i<=n->By h0 s.heap->St i s.heap->h3 w P s.heap S led (nq val i)->
   (∀h' tk,(∀b o,b≠S->b∉wr->s.heap.get? b=J o->h'.get? b=J o)->h3 w P h' S led (nq val n)->R (.ok<|.ret .none) {s with heap:=h',toks:=tk})->
   codeAny (a' prog w) A (.builtin "set.update.loop" ⟨[.ref S,.ref I],[]⟩) R s:=by
 have QF:S∉wr:=λh=>QE (W.sub _ h);intro k;induction k with
 |zero=>
  intro i s aY ao T gj dq ig;have zB:i=n:=by lia
  subst zB;refine u0 Lw ?_;rw[xR Fj _];show wpAny _ A.in1 (jL (.ref I) >>= _) _ _ s;refine aH (W.done s _ _ gj λh' tk hm=>?_);show wpAny _ A.in1 (ret aj.none) _ _ _;exact ba (ig h' tk (λb o _ hw e=>hm b o hw e)<|dq.at λo e=>hm S o QF e)
 |succ k bS=>
  intro i s aY ao T gj dq ig;have gy:i<n:=by lia
  refine u0 Lw ?_;rw[xR Fj _];show wpAny _ A.in1 (jL (.ref I) >>= _) _ _ s;refine aH (W.item i s _ _ gy gj λv O ahr hB ab' hm=>?_);obtain⟨x,rfl,IT⟩:=ab9 i v hB;have QG:By h0 O:=λb o items m ay aG bT=>hm b o (hw b o ay) (T b o items m ay aG bT);have IU:∀q b,P q b->(hN prog w).is O q b:=λq b z=>⟨(nj q b z).1,(nj q b z).2.keep QG⟩;show wpAny _ A.in1 (holding [aj.ref x] (setAdd S<|.ref x) >>= _) _ _ _;refine aH (ki ?_);unfold setAdd;refine ki ?_;refine aH ((hN prog w).pyHash (k:=val i) (show A.units+1+10<c6 by lia) (IU _ _ IT) ?_);refine abS (s:={s with heap:=O,toks:=_}) (show A.units+1+20<c6 by lia) (dq.at λo e=>hm S o QF e) (IU _ _ IT) IT IU (dT i gy) λb U zP zT=>?_;refine ba ⟨xv Fj _,bS (i+1) _ (by lia) gy (λb o items m ay aG bT=>?_) (W.frame _ O U ab' λb ae o e=>?_) zT λaL ab_ mZ DS=>?_⟩
  ·show U.get? b=J o;rw[zP.2 b (λh:b=S=>IS o items m (h ▸ ay) bT)];exact QG b o items m ay aG bT
  ·rw[zP.2 b (λh:b=S=>QE (by rw[<-h];exact ae))];exact e
  ·refine ig aL ab_ (λb o ae hw e=>mZ b o ae hw ?_) DS;show U.get? b=J o;rw[zP.2 b ae];exact hm b o hw e
end
section
variable{prog:cc}{w:bN}{P:List ah->ar->Prop}{A:cj}{E:aj->aA->Prop}{s:aA}
variable{Q:aj->aA->Prop}
theorem aca(dD:A.handled=aa)(zU:s.heap.get? l=J o)(v_:o.cls=.type "tuple")(wi:o.data=.seq items nl)(bZ:A.units+28<c6)(ao:∀i v,items[i]?=J v->∃b,v=.ref b/\P (ks.getD i []) b)(nj:∀q b,P q b->(hN prog w).is s.heap q b)(ae:∀i,i<items.size->(nq (λi=>ks.getD i []) i).length+1<=300)(FG:l≠S)(dq:s.heap.get? S=J (rf led))(IS:h3 w P s.heap S led [])(h:∀h' tk,h3 w P h' S led (nq (λi=>ks.getD i []) items.size)->(∀b o,b≠S->s.heap.get? b=J o->h'.get? b=J o)->Q .none {s with heap:=h',toks:=tk}):
  wpAny (a' prog w) A (b8.«set.__init__» ⟨[.ref S,.ref l],[]⟩) (λfin s'=>∃r,fin=.done (.ret r)/\Q r s') E s:=by
 obtain⟨ahs,aht,ahu,ahv⟩:=o;simp only at v_ wi;subst v_;subst wi;have ahw:=abV;have ahx:=abW;have ahy:(aj.type "tuple" == aj.type "dict")=aD:=by decide
 unfold rf at dq;have tS:s.heap.IsTuple l items:=⟨_,zU,rfl,nl,rfl⟩;unfold b8.«set.__init__» noKeywords b8.Frozenset.updateFrom;generalize acb:s_=pG
 wp_walk
 subst acb;refine wpAny_pyIter_tuple tS ?_;refine aH (Ke ?_);have acd:l<s.heap.objs.size:=c8 zU;have ace:S<s.heap.objs.size:=c8 dq;have acf:A.in1.handled=aa:=by simp[dD]
 refine ab8 (led:=led) (P:=P) (h0:=s.heap) (show A.units+25<c6 by lia) (qr.tuple acf _ l (eB acd) items) ?_ (λi=>ks.getD i []) ao nj ?_ ?_ ae (items.size-0) 0 _ (by lia) (lR _) ?_ ⟨⟨_,fw _ rfl,rfl,rfl⟩,?_⟩ ?_ λh' tk aY zV=>?_
 ·simp only[cK,jH,lV,not_or];exact⟨eB ace,λe=>FG e.symm⟩
 ·intro b o e;rw[c2];exact eB (c8 e)
 ·intro u items m ay aG;rw[dq]at ay;cases ay;cases aG
 ·intro b o items m ay aG bT;exact dc _ ay
 ·obtain⟨o,aS,r⟩:=tS;exact⟨o,dc _ aS,r⟩
 ·exact IS.at λo e=>dc _ e
 ·show wpAny _ _ _ _ _ _;refine ba ?_;show wpAny _ _ (ret aj.none) _ _ _;refine ba ⟨_,rfl,h h' tk zV λb o ae e=>aY b o ae ?_<|dc _ e⟩;rw[c2];exact eB (c8 e)
theorem acg(dD:A.handled=aa)(zU:s.heap.get? l=J o)(v_:o.cls=.type "tuple")(wi:o.data=.seq items nl)(bZ:A.units+30<c6)(ao:∀i v,items[i]?=J v->∃b,v=.ref b/\P (ks.getD i []) b)(nj:∀q b,P q b->(hN prog w).is s.heap q b)(ae:∀i,i<items.size->(nq (λi=>ks.getD i []) i).length+1<=300)(h:∀h' tk,h3 w P h' s.heap.objs.size (lK w) (nq (λi=>ks.getD i []) items.size)->(∀b o,s.heap.get? b=J o->h'.get? b=J o)->Q (.ref s.heap.objs.size) {s with heap:=h',toks:=tk}):
  wpAny (a' prog w) A (call (.type "set") [.ref l]) Q E s:=by
 obtain⟨c,js,ahz⟩:=rB.mro;have ahA:=rB.made;have Cu:=rB.sub;refine Ey (J_ ?_);show wpAny _ _ (callAny (.type "set") _) _ _ _;refine ba ⟨Code.quiet_builtin _ (by decide +kernel),u0 F.entry_type_call ?_⟩;rw[cj.under_plain (weight_type_call_type "set" [.ref l] []) rfl];have O:=rB.notType;have U:=rB.canCreate;have ahB:=PySem.F.typeCall_set_1 (.ref l);repeat (any_goals (first|assumption|wp_step))
 refine u3 (abX (.ref l) (E:=E) (Q₁:=λobj dU=>obj=.ref s.heap.objs.size/\dU={s with heap:=s.heap.push (rf<|lK w)}) ⟨rfl,rfl⟩) λr dU aO=>?_;cases r with
 |error e=>exact aO
 |ok bf=>
  cases bf with
  |ret obj=>
   obtain⟨rfl,rfl⟩:=aO;have dq:(s.heap.push<|rf<|lK w).get? s.heap.objs.size=J (rf<|lK w):=fw _ rfl;have dM:aA.TypeIs {s with heap:=s.heap.push (rf<|lK w)} (.ref s.heap.objs.size) "set" := ⟨_,dq,rfl⟩;have ahC:=rB.init.lookup;have ahD:=rB.init.bind (.ref s.heap.objs.size);repeat (any_goals (first|assumption|wp_step))
   refine u3 (codeAny_call_builtin (R:=wants (λr qC=>r=.none/\∃h' tk,qC={s with heap:=h',toks:=tk}/\
     h3 w P h' s.heap.objs.size (lK w) (nq (λi=>ks.getD i []) items.size)/\(∀b o,s.heap.get? b=J o->h'.get? b=J o)) E) rB.init.plain PySem.F.entry_set_init<|check_set_init_1 dM ?_) λach qC IV=>?_
   ·refine ip (aca (s:={s with heap:=s.heap.push (rf<|lK w)}) (by simp[dD]) (dc _ zU) v_ wi (by show A.in1.in1.units+28<c6;show A.units+1+1+28<c6;lia) ao (λq b z=>⟨(nj q b z).1,(nj q b z).2.keep λb o _ _ e _ _=>dc _ e⟩) ae (eB<|c8 zU) dq (h3.fresh _) (Q:=λr qC=>r=.none/\∃h' tk,qC={s with heap:=h',toks:=tk}/\
     h3 w P h' s.heap.objs.size (lK w) (nq (λi=>ks.getD i []) items.size)/\(∀b o,s.heap.get? b=J o->h'.get? b=J o)) λh' tk zV aY=>⟨rfl,h',tk,rfl,zV,λb o e=>aY b o (eB<|c8 e)<|dc _ e⟩) (λfin s' bk=>?_) λ_ _ e=>e;obtain⟨r,rfl,bk⟩:=bk;exact bk
   ·cases ach with
    |error e=>exact IV
    |ok aci=>
     cases aci with
     |ret r=>
      obtain⟨rfl,h',tk,rfl,zV,g0⟩:=IV;repeat (any_goals (first|assumption|wp_step))
      exact h _ _ zV g0
     |_=>exact IV.elim
  |_=>exact aO.elim
end
section
variable{prog:cc}{w:bN}{A:cj}{E:aj->aA->Prop}{s:aA}
theorem QH{α:Type}(next:Nat->Nat):∀(fuel k:Nat) (left:List α) (out:Array α),left.length=fuel->(nz.go next fuel k left out).toList.Perm (out.toList++left)
 |0,k,left,out,h=>by
  have e:left=[]:=xy h;subst e;unfold nz.go;rw[c5]
 |fuel+1,k,left,out,h=>by
  unfold nz.go;have ao:next k%left.length<left.length:=A6 _ (by rw[h];exact xM _)
  rw[fg ao];dsimp only;refine (QH next fuel (k+1) _ _ (by rw[Kn ao,h];rfl)).trans ?_;rw[xN,bY];exact fK _ (IQ _ _ ao)
theorem acj(next:Nat->Nat)(xs:Array α):(nz next xs).toList.Perm xs.toList:=QH next xs.size 0 xs.toList #[] (by rw[eT])
theorem DT{Q:Bool->aA->Prop}(h:Q (w.params.followText "set-order") s):wpAny (a' prog w) A setsByText Q E s:=by
 unfold setsByText;exact aH (Ej<|ba h)
variable{Q:Option (aj×Nat)->aA->Prop}
theorem QI(dq:nk s.heap S es ep t)(hf:t.fits es.size=af)(jg:w.params.followText "set-order" = aD)(w4:(!t.plain&&decide (es.size>1))=aD)(aF:t.led=af)(ae:a_.below t.place slot=i)(q:Q (match es[i]?,t.place[i]? with|some (_,x),J j=>J (x,j+1)|_,_=>aa) s):wpAny (a' prog w) A (rG S slot g ep) Q E s:=by
 obtain⟨o,ay,aG,bT⟩:=dq;unfold rG;refine aH (o_ ay bT hf ?_);dsimp only;refine aH (DT ?_);rw[jg,aZ e1];show wpAny _ _ (if (!t.plain&&decide (es.size>1))=af then _ else _) _ _ _;rw[w4,aZ e1];show wpAny _ _ ((if (!t.led && !es.isEmpty)=af then (unsupported "set:maker-not-led" : gK Unit) else pure ()) >>= _) _ _ _;rw[aF];refine aH (m:=pure ()) (ba ?_);rw[ae];exact ba q
theorem QJ(dq:nk s.heap S es ep t)(hf:t.fits es.size=af)(jg:w.params.followText "set-order" = af)(q:Q (((nz (w.params.setOrder S ep) es)[g]?).map λe=>(e.2,slot)) s):wpAny (a' prog w) A (rG S slot g ep) Q E s:=by
 obtain⟨o,ay,aG,bT⟩:=dq;unfold rG;refine aH (o_ ay bT hf ?_);dsimp only;refine aH (DT ?_);rw[jg,aV rfl,aZ (by simp)];unfold setWalk;refine aH (aH<|o_ ay bT hf ?_);dsimp only;refine aH (DT ?_);rw[jg,aV rfl];exact aH (Ej<|ba<|ba q)
theorem IW{Q:aj->aA->Prop}(hit:ji s.heap I f0 i S n ep)(q:Q (.ref I) s):wpAny (a' prog w) A (s_<|.ref I) Q E s:=by
 refine Eh hit.ty Qz (kh Qz hit.ty ab2 ?_<|ab1 _);show wpAny _ _ (ret<|.ref I) _ _ s;exact ba ⟨_,rfl,"set_iterator",_,hit.ty,zQ.lookup,q⟩
noncomputable def IX(place:Array Nat):Nat->Nat
 |0=>0
 |i+1=>place.getD i 0+1
theorem QK{place:Array Nat}(r:gH place):∀{i:Nat},i<=place.size->a_.below place (IX place i)=i
 |0,_=>abn r
 |i+1,h=>by
  have e:place[i]?=J (place.getD i 0):=by simp[Array.getD,show i<place.size from h]
  exact abm r e
noncomputable def qf(es:Array (Int×aj)):List aj:=es.toList.map (·.2)
theorem DU(es:Array (Int×aj)):(qf es).length=es.size:=by rw[qf,b3,eT]
theorem ack(dD:A.handled=aa)(ne:S≠I)(hf:t.fits es.size=af)(jg:w.params.followText "set-order" = aD)(w4:(!t.plain&&decide (es.size>1))=aD)(aF:t.led=af)(r:gH t.place):
  qr prog w A I [I,S] [I] (qf es).length (λi v=>(qf es)[i]?=J v) (λi h=>ji h I (.int (IX t.place i) 0) i S es.size ep/\nk h S es ep t) where
 sub:=λb ae=>by
  have:b=I:=by simpa using ae
  simp[this]
 frame:=λi h h' st k=>⟨st.1.go (k I (by simp)),st.2.go (k S (by simp))⟩
 item:=λi s Q E ao st fE=>by
  rw[DU]at ao;have aE:t.place.size=es.size:=by
   simp only[a_.fits,dv,pv]at hf;exact hf.1
  have ay:es[i]?=J es[i]:=n8 ao;have aG:t.place[i]?=J (t.place.getD i 0):=by simp[Array.getD,show i<t.place.size by lia]
  have bb:(qf es)[i]?=J es[i].2:=by rw[qf,gJ,gV,ay];rfl
  refine QC (next:=IX t.place (i+1)) (x:=es[i].2) st.1 st.2 hf rfl (λQ' r3 q=>QI st.2 hf jg w4 aF (QK r (by lia)) ?_) λh' a b=>fE _ h' s.toks bb ⟨a,st.2.go λo e=>b.extBut S o ne e⟩ λc o av e=>b.extBut c o (by simpa using av) e;rw[ay,aG];exact q
 done:=λs Q E st fE=>by
  rw[DU]at st;have aE:t.place.size=es.size:=by
   simp only[a_.fits,dv,pv]at hf;exact hf.1
  refine QD dD st.1 st.2 hf rfl (λQ' r3 q=>QI st.2 hf jg w4 aF (QK r (by lia)) ?_) λh' b=>fE h' s.toks λc o av e=>b c o (by simpa using av) e;rw[E0 (cp _)];exact q
 self:=λi s Q E st fE=>IW st.1 fE
theorem acl(dD:A.handled=aa)(ne:S≠I)(hf:t.fits es.size=af)(jg:w.params.followText "set-order" = af):
  qr prog w A I [I,S] [I] (qf<|nz (w.params.setOrder S ep) es).length (λi v=>(qf<|nz (w.params.setOrder S ep) es)[i]?=J v) (λi h=>ji h I (.int (0:Nat) 0) i S es.size ep/\nk h S es ep t) where
 sub:=λb ae=>by
  have:b=I:=by simpa using ae
  simp[this]
 frame:=λi h h' st k=>⟨st.1.go (k I (by simp)),st.2.go (k S (by simp))⟩
 item:=λi s Q E ao st fE=>by
  rw[DU]at ao;have ay:(nz (w.params.setOrder S ep) es)[i]?=J (nz (w.params.setOrder S ep) es)[i]:=n8 ao;have bb:(qf<|nz (w.params.setOrder S ep) es)[i]?=J (nz (w.params.setOrder S ep) es)[i].2:=by rw[qf,gJ,gV,ay];rfl
  refine QC (next:=0) (x:=(nz (w.params.setOrder S ep) es)[i].2) st.1 st.2 hf rfl (λQ' r3 q=>QJ st.2 hf jg ?_) λh' a b=>fE _ h' s.toks bb ⟨a,st.2.go λo e=>b.extBut S o ne e⟩ λc o av e=>b.extBut c o (by simpa using av) e;rw[ay];exact q
 done:=λs Q E st fE=>by
  rw[DU]at st;refine QD dD st.1 st.2 hf rfl (λQ' r3 q=>QJ st.2 hf jg ?_) λh' b=>fE h' s.toks λc o av e=>b c o (by simpa using av) e;rw[E0 (cp _)];exact q
 self:=λi s Q E st fE=>IW st.1 fE
noncomputable def uG(ps:List Nat):List aj:=ps.map λ(i:Nat)=>gv i
noncomputable def qg(es:Array (Int×aj))(ps:List Nat):List aj:=ps.filterMap λi=>es[i]?.map (·.2)
theorem QL{es:Array (Int×aj)}:∀{ps:List Nat},(∀p∈ps,p<es.size)->∀(i:Nat) (h:i<ps.length),∃x,es[ps[i]]?=J x/\(qg es ps)[i]?=J x.2
 |[],_,i,h=>by cases h
 |p::ps,aE,i,h=>by
  have qS:p<es.size:=aE p (.head _);have e:es[p]?=J es[p]:=n8 qS;have aG:qg es (p::ps)=es[p].2::qg es ps:=by rw[qg,EC (b:=es[p].2) (by rw[e];rfl)];rfl
  rw[aG];cases i with
  |zero=>exact⟨es[p],e,rfl⟩
  |succ i=>
   obtain⟨x,O,U⟩:=QL (λp h=>aE p<|.tail _ h) i (KS h);exact⟨x,O,U⟩
theorem IY{es:Array (Int×aj)}:∀{ps:List Nat},(∀p∈ps,p<es.size)->(qg es ps).length=ps.length
 |[],_=>rfl
 |p::ps,aE=>by
  have qS:p<es.size:=aE p (.head _);have e:es[p]?=J es[p]:=n8 qS;rw[qg,EC (b:=es[p].2) (by rw[e];rfl),eS,eS];exact congrArg (·+1) (IY λp h=>aE p<|.tail _ h)
theorem acm(dD:A.handled=aa)(ne:S≠I)(ne2:a2≠I)(hf:t.fits es.size=af)(aE:∀p∈ps,p<es.size):
  qr prog w A I [I,S,a2] [I] (qg es ps).length (λi v=>(qg es ps)[i]?=J v) (λi h=>ji h I (.ref a2) i S es.size ep/\nk h S es ep t/\∃o,h.get? a2=J o/\o.data=.seq (uG ps).toArray n2) where
 sub:=λb ae=>by
  have:b=I:=by simpa using ae
  simp[this]
 frame:=λi h h' st k=>⟨st.1.go (k I (by simp)),st.2.1.go (k S (by simp)),let ⟨o,e,r⟩:=st.2.2;⟨o,k a2 (by simp) o e,r⟩⟩
 item:=λi s Q E ao st fE=>by
  obtain⟨cb,b1,o,e,r⟩:=st;rw[IY aE]at ao;obtain⟨x,O,U⟩:=QL aE i ao;refine ab6 (x:=x) (place:=ps[i]) (tk:=0) cb b1 hf rfl e r ?_ O λh' a b=>fE _ h' s.toks U ⟨a,b1.go λo e=>b.extBut S o ne e,o,b.extBut a2 o ne2 e,r⟩ λc o av e=>b.extBut c o (by simpa using av) e;rw[EE,uG,gJ,fg ao];rfl
 done:=λs Q E st fE=>by
  obtain⟨cb,b1,o,e,r⟩:=st;refine ab7 dD cb b1 hf rfl e r ?_ λh' b=>fE h' s.toks λc o av e=>b c o (by simpa using av) e;rw[EE,uG,gJ,xA (by rw[IY aE];exact cp _)];rfl
 self:=λi s Q E st fE=>IW st.1 fE
end
section
variable{prog:cc}{w:bN}{A:cj}{E:aj->aA->Prop}{s:aA}
theorem acn{r:ar}{Q:Bool->aA->Prop}(dM:s.TypeIs (.ref r) "set")(h:Q aD s):wpAny (a' prog w) A (b8.List.listLengthHint<|.ref r) Q E s:=by
 unfold b8.List.listLengthHint;refine aH (xt dM PySem.F.slot_set_len.lookup ?_);generalize QM:("set.__len__" : String)=aco
 wp_delta
 rw[show splitId aco=J ("set","__len__") from by subst QM;decide +kernel];subst QM;refine aH (xr (T := "set") (b:=af) dM (by rw[xu];kernel_rfl) ?_);refine El (λzM=>absurd zM (by decide)) (λ_=>?_);refine El (λ_=>?_) (λzM=>absurd (by decide +kernel) zM);refine aH (u4 dM ?_);exact ba h
theorem acp(aE:ps.Perm (range es.size)):qg es ps=(ps.filterMap λi=>es[i]?).map (·.2)/\(ps.filterMap λi=>es[i]?).Perm es.toList:=by
 refine⟨?_,(aE.filterMap _).trans (by rw[JS])⟩;rw[Kv];rfl
end
section
variable{prog:cc}{w:bN}{A:cj}{E:aj->aA->Prop}{s:aA}
end
theorem acq{f:α->β}:∀{tR l:List β},tR.Perm l->∀zs:List α,zs.map f=l->∃w5:List α,w5.Perm zs/\w5.map f=tR:=by
 intro tR l p;induction p with
 |nil=>intro zs e;cases List.map_eq_nil_iff.mp e;exact⟨[],.nil,rfl⟩
 |cons x p bS=>
  intro zs e;obtain⟨a,r,rfl,rfl,aG⟩:=EG.mp e;obtain⟨w5,dF,bI⟩:=bS r aG;exact⟨a::w5,dF.cons a,by rw[dQ,bI]⟩
 |swap x y l=>
  intro zs e;obtain⟨a,r,rfl,rfl,aG⟩:=EG.mp e;obtain⟨b,bF,rfl,rfl,bT⟩:=EG.mp aG;exact⟨b::a::bF,.swap a b bF,by rw[dQ,dQ,bT]⟩
 |trans dF bI acr acs=>
  intro zs e;obtain⟨dH,bz,cR⟩:=acs zs e;obtain⟨dG,ed,hR⟩:=acr dH cR;exact⟨dG,ed.trans bz,hR⟩
theorem QN{w:bN}{P:List ah->ar->Prop}:∀zs:List (List ah×Int×aj),(∀z∈zs,DO w P z)->∃ws:List (List ah×ar),zs.map (λz=>z.2.2)=ws.map (λz=>aj.ref z.2)/\ws.map (·.1)=zs.map (·.1)/\∀z∈ws,P z.1 z.2
 |[],_=>⟨[],rfl,rfl,λ_ h=>(jH h).elim⟩
 |z::zs,h=>by
  obtain⟨b,ay,aG,bT⟩:=h z (.head _);obtain⟨ws,ee,ec,gk⟩:=QN zs λz hz=>h z (.tail _ hz);refine⟨(z.1,b)::ws,by rw[dQ,dQ,ee,ay],by rw[dQ,dQ,ec],λy aw=>?_⟩;rcases cK.mp aw with rfl|aw
  ·exact bT
  ·exact gk y aw
section
variable{prog:cc}{w:bN}{P:List ah->ar->Prop}{A:cj}{E:aj->aA->Prop}{s:aA}
theorem act{Q:aj->aA->Prop}(dD:A.handled=aa)(dq:h3 w P s.heap S (lK w) ks)(hz:ks.length<=300)(h:∀(O:br) (d:_) (I:ar) (c9:List ar) (vs:List aj) (ws:List (List ah×ar)) (St:Nat->br->Prop),(∀b o,s.heap.get? b=J o->O.get? b=J o)->s.heap.objs.size<=I->(∀b∈c9,b=S\/s.heap.objs.size<=b)->
   qr prog w A I c9 [I] vs.length (λi v=>vs[i]?=J v) St->St 0 O->vs=ws.map (λz=>aj.ref z.2)->(ws.map (·.1)).Perm ks->(∀z∈ws,P z.1 z.2)->Q (.ref I) {s with heap:=O,drawn:=d}):
  wpAny (a' prog w) A (s_<|.ref S) Q E s:=by
 obtain⟨o,es,ep,t,ay,aG,bT,D⟩:=dq;have ty:s.TypeIs (.ref S) "set" := ⟨o,ay,aG.1⟩;have w6:S<s.heap.objs.size:=c8 ay;have hsz:es.size<=sizeLine:=by rw[D.num];exact hh hz (by decide)
 have give:∀l:List (Int×aj),l.Perm es.toList->∃ws:List (List ah×ar),l.map (·.2)=ws.map (λz=>aj.ref z.2)/\(ws.map (·.1)).Perm ks/\∀z∈ws,P z.1 z.2:=λl bW=>by
  obtain⟨zs,dG,dH,j1⟩:=D.w2;obtain⟨w5,dF,bI⟩:=acq bW zs dG;obtain⟨ws,ee,ec,gk⟩:=QN (w:=w) (P:=P) w5 λz hz=>j1 z (dF.mem_iff.mp hz);refine⟨ws,?_,?_,gk⟩
  ·rw[<-bI,lP];exact ee
  ·rw[ec];exact (dF.map _).trans dH
 refine Eh ty Lm (kh Lm ty ab0 ?z<|PySem.F.args_set_iter_1 _)
 case z=>
  unfold b8.«frozenset.__iter__» b8.Frozenset.slot0 b8.Frozenset.addrOf b8.Frozenset.sizeOf;refine aH (aH<|ba<|ba ?_);refine aH (aH<|xq ay bT D.fit<|ba ?_);refine aH ?_;unfold setDrawn;refine aH (o_ ay bT D.fit ?_);dsimp only;refine aH (DT<|ba ?_);have acu:w.params.followText "set-order" = af\/(!t.plain&&decide (es.size>1))=aD->
    wpAny (a' prog w) A.in1 (do let ep <-setEpoch S;let r <-newFields "set_iterator" [gv 0,gv 0,.ref S,gv es.size,gv ep];ret r) (λfin s'=>∃r,fin=PySem.Fin.done (.ret r)/\∃ff q,s'.TypeIs r ff/\typeLookup (.type ff) "__next__" = pure (J q)/\Q r s') E s:=by
   intro av;refine aH (J4 ay bT D.fit<|aH<|jG<|ba ⟨_,rfl,"set_iterator",_,⟨_,fw _ rfl,rfl⟩,zQ.lookup,?_⟩);have fk:∀b o,s.heap.get? b=J o->(s.heap.push {cls:=.type "set_iterator",dict:=aa,data:=.fields [gv 0,gv 0,.ref S,gv es.size,gv ep].toArray}).get? b=J o:=λb o e=>dc _ e;have QO:ji (s.heap.push {cls:=.type "set_iterator",dict:=aa,data:=.fields [gv 0,gv 0,.ref S,gv es.size,gv ep].toArray}) s.heap.objs.size (.int (0:Nat) 0) 0 S es.size ep:=⟨_,fw _ rfl,rfl,rfl⟩;have sat:nk (s.heap.push {cls:=.type "set_iterator",dict:=aa,data:=.fields [gv 0,gv 0,.ref S,gv es.size,gv ep].toArray}) S es ep t:=⟨o,fk _ _ ay,aG,bT⟩;have c9:∀b∈[s.heap.objs.size,S],b=S\/s.heap.objs.size<=b:=λb ae=>by
    rcases cK.mp ae with rfl|ae
    ·exact .inr (cp _)
    ·exact .inl (c2.mp ae)
   cases jg:w.params.followText "set-order" with
   |true=>
    have aE:=acj (w.params.setOrder S ep) es;obtain⟨ws,ee,ec,gk⟩:=give _ aE;exact h _ s.drawn _ _ _ _ _ fk (cp _) c9 (acl dD (eB w6) D.fit jg) ⟨QO,sat⟩ ee ec gk
   |false=>
    have w4:=av.resolve_left (by rw[jg];exact e1);obtain⟨ws,ee,ec,gk⟩:=give _ (.refl _);exact h _ s.drawn _ _ _ _ _ fk (cp _) c9 (ack dD (eB w6) D.fit jg w4 (by rw[D.tab.led,lK,jg];rfl) D.tab.rise) ⟨QO,sat⟩ ee ec gk
  show wpAny _ _ (if (!w.params.followText "set-order" && (!t.plain&&decide (es.size>1)))=af then _ else _) _ _ _;cases hd:(!w.params.followText "set-order" && (!t.plain&&decide (es.size>1))) with
  |false=>
   rw[aZ e1];refine aH (m:=pure (gv 0)) (ba<|acu ?_);cases jg:w.params.followText "set-order" with
   |true=>exact .inl rfl
   |false=>rw[jg]at hd;exact .inr hd
  |true=>
   rw[aV rfl];refine aH (QA es.size (range es.size) s _ pd λd ps aE=>?_);have CJ:∀p∈ps,p<es.size:=λp h=>iK.mp (aE.mem_iff.mp h);have r0:ps.length=es.size:=by rw[aE.length_eq,pd]
   refine aH (m:=newObj (.type "tuple") (.seq (uG ps).toArray)) (jG ?_ (show (uG ps).toArray.size<=sizeLine by rw[dY,uG,b3,r0];exact hsz));refine aH (J4 (dc _ ay) bT D.fit<|aH<|jG<|ba ⟨_,rfl,"set_iterator",_,⟨_,fw _ rfl,rfl⟩,zQ.lookup,?_⟩);obtain⟨bz,cR⟩:=acp aE;obtain⟨ws,ee,ec,gk⟩:=give _ cR;have l9:({s with heap:=s.heap.push {cls:=.type "tuple",dict:=aa,data:=.seq (uG ps).toArray},drawn:=d}:aA).heap.objs.size=s.heap.objs.size+1:=pf ..;refine h _ d _ [_,S,s.heap.objs.size] (qg es ps) ws _ (λb o e=>dc _<|dc _ e) ?_ ?_ (acm (ep:=ep) (t:=t) (n2:=0) dD ?_ ?_ D.fit CJ) ⟨⟨_,fw _ rfl,rfl,rfl⟩,⟨o,dc _<|dc _ ay,aG,bT⟩,⟨_,dc _<|fw _ rfl,rfl⟩⟩ (bz.trans ee) ec gk
   ·exact sZ (by rw[pf];exact xI _)
   ·intro b ae;rcases cK.mp ae with rfl|ae
    ·exact .inr (by rw[pf];exact K2 _)
    ·rcases cK.mp ae with rfl|ae
     ·exact .inl rfl
     ·exact .inr (by rw[c2.mp ae];exact cp _)
   ·rw[pf];exact eB (KW w6)
   ·rw[pf];exact eB (xI _)
theorem acv{Q:List aj->aA->Prop}(dD:A.handled=aa)(dq:h3 w P s.heap S (lK w) ks)(aF:ks.length<=300)(h:∀(h':br) (tk:Nat) (d:_) (ws:List (List ah×ar)),(∀b o,s.heap.get? b=J o->h'.get? b=J o)->(ws.map (·.1)).Perm ks->(∀z∈ws,P z.1 z.2)->Q (ws.map λz=>aj.ref z.2) {s with heap:=h',toks:=tk,drawn:=d}):
  wpAny (a' prog w) A (collect<|.ref S) Q E s:=by
 have w6:S<s.heap.objs.size:=let ⟨_,_,_,_,e,_⟩:=dq;c8 e
 unfold collect;refine aH (Ke<|u0 entry_proto_collect' ?_);rw[xR PySem.F.plain_proto_collect _];show wpAny _ A.in1 (vn [] >>= λl=>again<|.builtin "list.__iadd__" ⟨[l,.ref S],[]⟩) _ _ s;refine aH (jG ?_);refine ba ⟨xv Lk _,u0 entry_list_iadd' ?_⟩;rw[xR Lk _];generalize gx:s.heap.push {cls:=.type "list",dict:=aa,data:=.seq ([]:List aj).toArray}=H1;have QP:∀b o,s.heap.get? b=J o->H1.get? b=J o:=λb o e=>by rw[<-gx];exact dc _ e
 have ef:H1.get? s.heap.objs.size=J {cls:=.type "list",dict:=aa,data:=.seq #[]}:=by rw[<-gx];exact fw _ rfl
 have QQ:s.heap.objs.size<H1.objs.size:=c8 ef;have QR:h3 w P H1 S (lK w) ks:=dq.at λo e=>QP S o e;have ty:aA.TypeIs {s with heap:=H1} (.ref S) "set" := let ⟨o,_,_,_,e,x,_⟩:=QR;⟨o,e,x.1⟩
 show wpAny _ A.in1 (b8.List.listExtendWith (.ref s.heap.objs.size) (.ref S)<|.ref s.heap.objs.size) _ _ _;unfold b8.List.listExtendWith;refine aH (u4 (T := "set") ty ?_);have O:b8.List.listSameRef (.ref s.heap.objs.size) (.ref S)=aD:=by simp[b8.List.listSameRef,s6 w6]
 have U:(aj.type "set" == aj.type "list")=aD:=by decide
 have aL:(aj.type "set" == aj.type "tuple")=aD:=by decide
 simp only[O,U,aL,Bool.or_false,jI,hM];refine aH (act (s:={s with heap:=H1}) dD QR aF λU d I c9 vs ws St k2 l9 acw W st ev pm dO=>?_);have bo:vs.length<=sizeLine:=by rw[ev,b3,<-b3 (f:=(·.1)),pm.length_eq];exact hh aF (by decide)
 have QS:s.heap.objs.size∉c9:=λhm=>by
  rcases acw _ hm with e|e
  ·exact absurd e (s6 w6)
  ·exact absurd QQ (vd.mpr e)
 have zT:U.get? s.heap.objs.size=J {cls:=.type "list",dict:=aa,data:=.seq #[]}:=k2 _ _ ef;have acx:aA.TypeIs {s with heap:=U,drawn:=d} (.ref S) "set" := let ⟨o,e,c⟩:=ty;⟨o,k2 _ _ e,c⟩
 have key:∀(aE:br) (c:Nat) (R:Bi->aA->Prop),St 0 aE->(∀b o,b≠s.heap.objs.size->U.get? b=J o->aE.get? b=J o)->aE.get? s.heap.objs.size=J {cls:=.type "list",dict:=aa,data:=.seq #[] c}->
   (∀(h':br) (tk:Nat) (c':Nat),(∀b o,s.heap.get? b=J o->h'.get? b=J o)->h'.get? s.heap.objs.size=J {cls:=.type "list",dict:=aa,data:=.seq vs.toArray c'}->R (.ok<|.ret<|.ref s.heap.objs.size) {s with heap:=h',toks:=tk,drawn:=d})->
   codeAny (a' prog w) A (.builtin "list.extend.loop" ⟨[.ref s.heap.objs.size,.ref I,.ref s.heap.objs.size],[]⟩) R {s with heap:=aE,drawn:=d}:=λaE c R st fk acy ig=>
  codeAny_extend_loopS W.toS bo s.heap.objs.size QS (.ref s.heap.objs.size) vs.length 0 _ #[] c rfl (lR _) st acy (ItemsOf.nil _) λs' acc c' hm QT ox=>by
   rw[show s'={s with heap:=s'.heap,toks:=s'.toks,drawn:=d} from by obtain⟨_,aJ,hd2,aS,_⟩:=hm;cases s';cases aJ;cases hd2;cases aS;rfl];have iZ:acc=vs.toArray:=by
    apply Array.toList_inj.mp;apply EO
    ·rw[eT];exact ox.1
    ·intro i g1 g2;have:=ox.2 i acc.toList[i] (by rw[<-gV];exact fg g1);have this:vs[i]?=J acc.toList[i]:=this;rw[fg g2]at this;exact (Option.some.inj this).symm
   rw[iZ]at QT;refine ig s'.heap s'.toks c' (λb o e=>hm.heap b o (λqe=>?_)<|fk b o (eB<|c8 e)<|k2 b o<|QP b o e) QT;rcases cK.mp qe with b7|qe
   ·exact absurd (c8 e) (by rw[b7];exact pg _)
   ·have bT:=c8 e;rw[c2.mp qe]at bT;have:s.heap.objs.size<=I:=hh (sZ QQ) l9;exact absurd bT (vd.mpr this)
 refine aH (ki<|acn (s:={s with heap:=U,drawn:=d}) acx ?_);refine El (λ_=>?_) (λ_=>ba ⟨xv Lj _,key _ 0 _ st (λb o _ e=>e) zT λh' tk c' k3 IZ=>aH (Ex IZ (ba (by rw[ev];exact h h' tk d ws k3 pm dO)))⟩);refine aH (mF ?_);refine aH ?_;show wpAny _ _ (updateSeq s.heap.objs.size (·.push .none) >>= λ_=>updateSeq s.heap.objs.size (·.pop)) _ _ _;refine aH (Kb (s:={s with heap:=U,drawn:=d}) zT rfl ?_);have DS:=sU (bE.mapSeq (·.push aj.none)) zT rfl;refine Kb (hz:=by seq_fits) DS rfl ?_;have acz:=sU (bE.mapSeq (·.pop)) DS rfl;refine ba ⟨xv Lj _,key _ _ _ ?_ (λb o ae e=>?_) acz λh' tk c' k3 IZ=>aH (Ex IZ (ba (by rw[ev];exact h h' tk d ws k3 pm dO)))⟩
 ·refine W.frame 0 _ _ st λb ae o e=>?_;have QU:b≠s.heap.objs.size:=λh=>QS (h ▸ ae);exact (qp _ _<|h5 QU).trans ((qp _ _<|h5 QU).trans e)
 ·exact (qp _ _<|h5 ae).trans ((qp _ _<|h5 ae).trans e)
end
end L2
namespace L2
open PySem PySem.Spec PyProof.Rows PySem.W
section
variable{X:a4}{pins:List (ar×bE)}{σ:St}{H:aM}{s:aA}
theorem Inv.acA(I:Inv X pins σ H s)(d:Drawn):Inv X pins σ H {s with drawn:=d}:=⟨I.ok,I.os,I.bare,I.base,I.loc,I.cell,I.free,I.iv,I.pin,I.bw,I.len⟩
end
section
variable{X:a4}
end
variable{QV pos bI p:dk}{a:bM}{ks:List (List ah)}
theorem mr.perm{ds es:List ah}(o:mr ds)(p:es.Perm ds):mr es:=
 ⟨⟨by rw[p.length_eq];exact o.ord.um,λa az b ae=>o.ord.q4 a (p.mem_iff.mp az) b<|p.mem_iff.mp ae,p.nodup_iff.mpr o.ord.au⟩,o.fst.imp (λh d hd=>h d<|p.mem_iff.mp hd) λh d hd=>h d<|p.mem_iff.mp hd⟩
theorem QW{H:aM}:∀{ws:List (List ah×ar)},(∀z∈ws,dR H (.tup z.1)<|.ref z.2)->cq H ((ws.map (·.1)).map .tup) (ws.map λz=>V.ref z.2)
 |[],_=>rfl
 |z::ws,h=>⟨_,_,rfl,h z<|.head _,QW λy aw=>h y<|.tail _ aw⟩
theorem I0:∀ws:List (List ah×ar),cZ (ws.map λz=>V.ref z.2) (ws.map λz=>aj.ref z.2)
 |[]=>.nil
 |z::ws=>.cons rfl (I0 ws)
section
variable{X:a4}{pins:List (ar×bE)}{σ:St}{H:aM}{s:aA}{P:List ah->ar->Prop}
theorem acB(av:X.calm=af)(bZ:X.A.units+20<c6){S:ar}{ks:List (List ah)}{Q:dN}(I:Inv X pins σ H s)(dq:h3 X.w P s.heap S (lK X.w) ks)(hB:∀k b,P k b->dR H (.tup k) (.ref b))(o:mr (ks.map .tup))(hz:ks.length<=300)(q:∀l zs,H l=aa->cq H (j' cJ<|ks.map .tup) zs->Q (.ref l) (upd H l<|.lst zs)):
  wpAny (a' X.prog X.w) X.A (call (.builtin "sorted") [.ref S]) (gi X pins σ Q) X.dw s:=by
 refine Bb E' E7 E8 (E9 _) ?z
 case z=>
  unfold b8.«sorted»;refine aH (m:=Ft "sorted" 1 1 _) (ba<|aH<|acv (A:=X.A.in1) (I.ok.hd av) dq hz λh' tk d ws q3 pm hw=>?_);have bG:Inv X pins σ H {s with heap:=h',toks:=tk,drawn:=d}:=(I.acA d).kept (t':=tk) q3;have ao:cq H ((ws.map (·.1)).map .tup) (ws.map λz=>V.ref z.2):=QW λz hz=>hB _ _ (hw z hz);have dO:fh h' ((ws.map (·.1)).map .tup) (ws.map λz=>aj.ref z.2):=ao.hS bG.bw (I0 ws);have I1:((ws.map (·.1)).map ah.tup).Perm (ks.map .tup):=pm.map _;have o2:=o.perm I1;have lw:ws.length<=300:=by rw[<-b3 (f:=(·.1)),pm.length_eq];exact hz
  generalize vI:(ws.map (·.1)).map ah.tup=ds at ao dO I1 o2;generalize CO:ws.map (λz=>V.ref z.2)=a3 at ao;have b0:cZ a3 (ws.map λz=>aj.ref z.2):=CO ▸ I0 ws;generalize hits:ws.map (λz=>aj.ref z.2)=aP at dO b0 ⊢;have li:aP.length=ds.length:=dO.length.symm;have acC:aP.length<=300:=by rw[<-hits,b3];exact lw
  show wpAny _ _ (vn aP >>= _) _ _ _;refine aH (Ay ?_ (hh acC (by decide)));have so:(h'.push<|hu "list" aP.toArray 0).get? h'.objs.size=J (hu "list" aP.toArray 0):=fw _ rfl;refine aH (ki<|kh E5 ⟨_,so,rfl⟩ E4 ?y<|E6 _)
  case y=>
   have I2:∀cU:br,(∀b cX,b≠h'.objs.size->(h'.push<|hu "list" aP.toArray 0).get? b=J cX->cU.get? b=J cX)->∀b cX,h'.get? b=J cX->cU.get? b=J cX:=λcU jB b cX e=>jB b cX (eB<|c8 e) (dc _ e);refine HD (s:={s with heap:=h'.push (hu "list" aP.toArray 0),toks:=tk,drawn:=d}) (p6 ds) (vq<|decide (∀d∈ds,mq d=af)) so (λU cU jB Q bk=>H8 (h:=cU) (s:={s with heap:=cU,toks:=tk,drawn:=d}) o2 U (dO.wB<|I2 cU jB) _ _ Q bk) (λcU jB=>?_) (by rw[li];exact Dd o2.ord) (.inl (by lia)) (by lia) λp U a9 bF k2 ⟨ud,y3⟩=>⟨_,rfl,ba ⟨_,rfl,?_⟩⟩
   ·refine H7 (s:={s with heap:=cU,toks:=tk,drawn:=d}) o2.ord (dO.wB<|I2 cU jB) o2.tup (λae=>gg ae) (by show X.A.units+1+1+9<c6;lia)
   ·have y4:H h'.objs.size=aa:=bG.bw.fresh (cp _);rw[li]at a9 bF;have ay:(p.toList.map λi=>ds.getD i .bu)=j' cJ (ks.map .tup):=zg o.ord ((C2 a9).trans I1) (H5 o2.ord a9 bF);have aE:=ao.pick (p:=p.toList) λk aY=>iK.mp (a9.mem_iff.mp aY);rw[ay]at aE;refine⟨.ref h'.objs.size,upd H h'.objs.size<|.lst<|p.toList.map λi=>a3.getD i .bu,?_,rfl,q _ _ y4 aE⟩;refine bG.laid (t':=tk) (λb u e=>I2 U k2 b u e) (cp _) ⟨?_,_,ud,?_,y3⟩
    ·rw[b3,eT,a9.size];exact hh (by lia:ds.length<=300) (by decide)
    ·refine C3 (by simp) λi v u O U=>?_;rw[gJ]at O U;cases oU:p.toList[i]? with
     |none=>rw[oU]at O;cases O
     |some k=>
      rw[oU]at O U;cases O;cases U;have aY:k<ds.length:=iK.mp (a9.mem_iff.mp<|iq oU);have jV:k<a3.length:=by rw[b0.length,li];exact aY
      obtain⟨u,aL,aU⟩:=b0.get (i:=k) (x:=a3[k]) (fg jV);show c_ (a3.getD k .bu) (aP.getD k .none);rw[du,fg jV,du,aL];exact aU
noncomputable def kO(ks:List (List ah)):List (List ah):=ks.foldl mz []
theorem I3(ks:List (List ah)):∀i,i<=ks.length->nq (λi=>ks.getD i []) i=(ks.take i).foldl mz []
 |0,_=>by rw[AY];rfl
 |i+1,h=>by
  rw[List.take_succ_eq_append_getElem (show i<ks.length from h),EK,<-I3 ks i (Nat.le_of_succ_le h)];show mz _ (ks.getD i [])=mz _ ks[i];rw[du,fg<|show i<ks.length from h];rfl
theorem acD(l:List (List ah)):∀acc:List (List ah),acc.length<=(l.foldl mz acc).length:=by
 induction l with
 |nil=>intro acc;exact cp _
 |cons k r bS=>
  intro acc;refine hh ?_ (bS _);unfold mz;split
  ·exact cp _
  ·rw[eZ];exact sY _ _
theorem acE{i:Nat}(h:i<=ks.length):(nq (λi=>ks.getD i []) i).length<=(kO ks).length:=by
 rw[I3 ks i h];have e:kO ks=(ks.drop i).foldl mz ((ks.take i).foldl mz []):=by
  rw[kO,<-EK,hr]
 rw[e];exact acD _ _
theorem acF(ks:List (List ah)):nq (λi=>ks.getD i []) ks.length=kO ks:=by
 rw[I3 ks _ (cp _),u'];rfl
noncomputable def acG(cP:gX):TE:=λσ H Q=>cP σ H λvs H1=>∃(a:ar) (ks:List (List ah)) (a3:List V),vs=[.ref a]/\H1 a=J (.tup a3)/\cq H1 (ks.map .tup) a3/\(∀k∈ks,ah.keys 7 k=af)/\mr ((kO ks).map .tup)/\(kO ks).length<300/\
 ∀l zs,H1 l=aa->cq H1 (j' cJ<|(kO ks).map .tup) zs->Q (.ref l) (upd H1 l<|.lst zs)
theorem cq.at{H:aM}:∀{ds:List ah}{vs:List V}{i:Nat}{v:V},cq H ds vs->vs[i]?=J v->∃d,ds[i]?=J d/\dR H d v
 |[],vs,i,v,h,e=>by rw[show vs=[] from h]at e;simp at e
 |d::ds,vs,0,v,h,e=>by
  obtain⟨u,r,rfl,O,U⟩:=h;cases e;exact⟨d,rfl,O⟩
 |d::ds,vs,i+1,v,h,e=>by
  obtain⟨u,r,rfl,O,U⟩:=h;obtain⟨d',ay,aG⟩:=cq.at (i:=i) U (by simpa using e);exact⟨d',by simpa using ay,aG⟩
theorem acH(av:X.calm=af)(bZ:X.A.units+30<c6){l:ar}{ks:List (List ah)}{a3:List V}{Q:aj->aA->Prop}(I:Inv X pins σ H s)(aF:H l=J (.tup a3))(ao:cq H (ks.map .tup) a3)(aY:∀k∈ks,ah.keys 7 k=af)(hz:(kO ks).length<300)(h:∀h' tk S,Inv X pins σ H {s with heap:=h',toks:=tk}->h3 X.w (λk b=>ah.keys 7 k=af/\dR H (.tup k) (.ref b)) h' S (lK X.w) (kO ks)->Q (.ref S) {s with heap:=h',toks:=tk}):
  wpAny (a' X.prog X.w) X.A (call (.type "set") [.ref l]) Q X.dw s:=by
 obtain⟨z,aP,b0,o,ay,aG,n,bT⟩:=I.bw l _ aF;have li:aP.length=ks.length:=by rw[<-b0.length,<-ao.length,b3]
 have ae:aP.toArray.size=ks.length:=by rw[dY,li]
 refine acg (P:=λk b=>ah.keys 7 k=af/\dR H (.tup k) (.ref b)) (items:=aP.toArray) (ks:=ks) (I.ok.hd av) ay aG bT bZ (λi v bb=>?_) (λq b z=>⟨z.1,z.2.hS I.bw rfl⟩) (λi ao=>?_) λh' tk dq fk=>?_
 ·rw[EE]at bb;have hT:i<a3.length:=by rw[b0.length];exact (iJ.mp bb).1
  obtain⟨u,g1,g2⟩:=b0.get (i:=i) (x:=a3[i]) (fg hT);rw[bb]at g1;cases g1;obtain⟨d,g3,eM⟩:=ao.at (i:=i) (v:=a3[i]) (fg hT);rw[gJ]at g3;obtain⟨k,nM,rfl⟩:=dK.mp g3;obtain⟨b,xs,Pa,ahE,ahF⟩:=id eM;rw[Pa]at g2 eM;refine⟨b,g2,?_⟩;rw[du,nM];exact⟨aY k<|iq nM,eM⟩
 ·rw[ae]at ao;have:=acE (ks:=ks) (sZ ao);lia
 ·rw[ae,acF]at dq;exact h h' tk _ (I.kept (t':=tk) fk) dq
theorem acI{cP:gX}(av:X.calm=af)(bZ:X.A.units+30<c6)(aF:fo X "sorted")(I4:X.mg "sorted" = aa)(aJ:fo X "set")(hm:X.mg "set" = aa)(az:iS X [a] cP)(aq:cx [a] X.env=[(aD,de a X.env)]:=by rfl):
  cF X (.Call (.Name "sorted" bI) [.Call (.Name "set" p) [a] [] pos] [] QV) (acG cP):=by
 intro pins s σ H Q I h;refine uW (tl I aF I4 (show gL "sorted" = J (.builtin "sorted") by decide +kernel) (K7 ?_ rfl rfl) (by decide) (by decide));refine LA ?_;refine Call_ (tl I aJ hm (show gL "set" = J (.type "set") by decide +kernel)<|A9 (cQ (az pos pins s σ H _ I h) λus s1 ⟨vs,H1,bG,a9,bz⟩=>?_) aq rfl);obtain⟨l,ks,a3,rfl,oq,ao,aY,aS,hz,q⟩:=bz;obtain⟨u,rfl,gN⟩:=mR a9;cases gN;exact acH av bZ bG oq ao aY hz λh' tk S dp dq=>LB (acB av (by lia) dp dq (λk b z=>z.2) aS (by lia) q)
end
noncomputable def w7:List ah->Option (List<|List ah)
 |[]=>J []
 |.tup a::r=>(w7 r).map (a::·)
 |_=>aa
theorem QX:∀{x:List ah}{ks:List (List ah)},w7 x=J ks->x=ks.map .tup
 |[],ks,h=>by cases h;rfl
 |.tup a::r,ks,h=>by
  obtain⟨k,O,rfl⟩:=dK.mp h;rw[QX O];rfl
 |.bu::_,_,h=>by cases h
 |.aR _::_,_,h=>by cases h
 |.int _::_,_,h=>by cases h
 |.str _::_,_,h=>by cases h
 |.fn _::_,_,h=>by cases h
 |.bf _::_,_,h=>by cases h
 |.fd::_,_,h=>by cases h
theorem QY:∀ks:List (List ah),w7 (ks.map .tup)=J ks
 |[]=>rfl
 |k::ks=>by
  show (w7<|ks.map .tup).map (k::·)=_;rw[QY ks];rfl
noncomputable def DV(ks:List (List ah)):Bool:=ks.all (ah.keys 7)&&decide ((kO ks).length<300)
noncomputable def uH(g:M (List cH)):M aC:=λD=>(g D).bind λp=>(j2 p.2 p.1).bind λds=>match ds with
 |[.im (.tup x)]=>(w7 x).bind λks=>if DV ks=af/\zi ((kO ks).map .tup)=af then J (.lst<|j' cJ<|(kO ks).map .tup,p.2) else aa
 |_=>aa
theorem QZ:DV ks=af↔(∀k∈ks,ah.keys 7 k=af)/\(kO ks).length<300:=by
 unfold DV;rw[dv,mH,pn]
section
variable{X:a4}
theorem acJ{g:M (List cH)}(bZ:X.A.units+30<c6)(aF:fo X "sorted")(I4:X.mg "sorted" = aa)(aJ:fo X "set")(hm:X.mg "set" = aa)(az:i9 X [a] g)(aq:cx [a] X.env=[(aD,de a X.env)]:=by rfl)(av:X.calm=af:=by rfl):
  dP X (.Call (.Name "sorted" bI) [.Call (.Name "set" p) [a] [] pos] [] QV) (uH g):=by
 refine fV (acI av bZ aF I4 aJ hm az aq) λσ H Q ⟨D,F,r,D',st,au,gD,q⟩=>?_;obtain⟨⟨os,D1⟩,O,U⟩:=cv.mp gD;obtain⟨ds,aL,aU⟩:=cv.mp U;refine⟨D,F,os,D1,st,au,O,λvs H1 F1 dr cb o1 s1=>?_⟩;have cN:=o1.read cb aL;split at aU
 ·rename_i x;obtain⟨ks,ay,aG⟩:=cv.mp aU;split at aG
  ·rename_i bo;cases aG;obtain⟨v,rfl,e⟩:=Hm cN;obtain⟨b,xs,rfl,ae,ao⟩:=(show ∃a xs,v=V.ref a/\H1 a=J (.tup xs)/\cq H1 x xs from e);cases QX ay;obtain⟨k1,k2⟩:=QZ.mp bo.1;refine⟨b,ks,xs,rfl,ae,ao,k1,sx.mp bo.2,k2,λl zs bf hz=>?_⟩;have s2:eg H1 (upd H1 l<|.lst zs):=(eg.refl H1).upd bf;exact q _ _ F1 [l] (cb.mono s2.tupS λa _ o e=>s2 a o e) ⟨l,_,rfl,hy,hz.mono s2.tupS.tup,rfl⟩ (s1.new s2 (h4 _ _) (λa az=>by rw[c2.mp az];exact bf) cb.chg)
  ·cases aG
 ·cases aU
end
end L2
namespace L2
open PySem PySem.Spec PyProof.Rows
noncomputable def DW:ie:=λa b=>match a,b with
 |.im x,.im y=>if ka 6 x y=af then J (.im<|.aR<|cJ x y) else aa
 |_,_=>aa
section
variable{X:a4}
theorem Q0(bZ:X.A.units+20<c6):ha X (fM .Lt) DW:=by
 intro pins s σ H x y v u Q I bU cu ⟨cS,cM,d,a9,bF,e,q⟩;unfold DW at e;split at e
 ·split at e
  ·rename_i aE;cases e;exact O5 6 aE (by lia) (a9.i.hS I.bw bU) (bF.i.hS I.bw cu) X.prog X.w _ _ ⟨.aR _,H,I,rfl,Out.i q rfl⟩
  ·cases e
 ·cases e
end
section
variable{X:a4}
theorem acK{scope:iL}{own:List aQ}{caps:List Nat}(h:GC X.env.scope X.N scope caps=af):mV X scope own caps:=kv _ _ h rfl rfl
end
end L2
namespace G
open PySem L2
noncomputable def acL:b5:=(d4<|hX<|fX (b9<|lF "int"<|ax 0)<|b9<|hX<|fW<|b9<|lF "bool"<|ax 0)
noncomputable def uI:d_:=eR 1 1 [0] acL
noncomputable def Q1:b5:=(d4<|hX<|fX (b9<|lF "tuple"<|ax 0)<|fX (b9<|aT vEq (ai<|cV f3<|aB (ax 0) aW)<|ai<|aN<|.int 2)<|fX (b9<|am 1 G.uI<|aB (ai<|aT bX (ax 0)<|ai<|aN<|.int 0) aW)<|b9<|am 1 G.uI<|aB (ai<|aT bX (ax 0)<|ai<|aN<|.int 1) aW)
noncomputable def rg:d_:=eR 1 1 [0] Q1
noncomputable def Q2:b5:=(d4<|hX<|fX (b9<|am 1 G.rg<|aB (ax 0) aW)<|fX (b9<|je gS gS (ai<|aN<|.int 0) (ai<|aT bX (ax 0)<|ai<|aN<|.int 0)<|ai<|aN<|.int 30)<|b9<|je gS gS (ai<|aN<|.int 0) (ai<|aT bX (ax 0)<|ai<|aN<|.int 1)<|ai<|aN<|.int 30)
noncomputable def rh:d_:=eR 1 1 [0] Q2
noncomputable def DX(dX:ar):M aC:=(y_ 1 dX 1 G.rh<|aB (ax 0) aW)
noncomputable def Q3(dX:ar):M aC:=(aT DW (ax 0)<|ax 1)
noncomputable def Q4(dX:ar):b5:=(ap (fY (ic (fW<|f5<|ai<|lF "tuple"<|ax 0)<|fW<|f5<|ai<|cV nd<|aB (ai<|eJ 1 [1] (eQ<|ax 0) (b_ 0) gE<|G.DX dX) aW) (d4<|aN<|.aR aD) hb)<|d4<|cV nd<|aB (ai<|eJ 2 [] (p4<|aB (ax 0)<|aB (ai<|nc (ax 0) (oP<|aN<|.int 1) nQ) aW) (hF 2<|ew (b_ 0)<|ew (b_ 1) hZ) gE<|G.Q3 dX) aW)
noncomputable def zW(dX:ar):d_:=eR 2 2 [0,1] (Q4 dX)
noncomputable def Q5(dX:ar):b5:=(d4<|am 2 (G.zW dX)<|aB (ax 0)<|aB (ai<|aN<|.fn dX) aW)
noncomputable def w8(dX:ar):d_:=eR 1 1 [0] (Q5 dX)
noncomputable def ri:b5:=(iA (aN<|.aR af)<|nT 1 (g_ 2) kH)
noncomputable def DY:b5:=(ap (dI 1 HT)<|ap (kD (eQ<|ax 0) (b_ 2) G.ri)<|d4<|g_ 1)
noncomputable def jj:d_:=eR 1 3 [0] DY
noncomputable def acM:b5:=(ap (dI 1<|aT bX (ax 0)<|ai<|aN<|.int 0)<|ap (dI 2<|aT bX (ax 0)<|ai<|aN<|.int 1)<|d4<|hY<|aB (ai<|d9<|aB (ai<|aT p1 (ax 1)<|ai<|aN<|.int 1)<|aB (ax 2) aW)<|aB (ai<|d9<|aB (ax 1)<|aB (ai<|aT p1 (ax 2)<|ai<|aN<|.int 1) aW)<|aB (ai<|d9<|aB (ax 1)<|aB (ai<|aT eK (ax 2)<|ai<|aN<|.int 1) aW)<|aB (ai<|d9<|aB (ai<|aT eK (ax 1)<|ai<|aN<|.int 1)<|aB (ax 2) aW) aW)
noncomputable def DZ:d_:=eR 1 3 [0] acM
noncomputable def D0:M aC:=(am 2 G.wF<|aB (ax 1)<|aB (ax 0) aW)
noncomputable def zX:b5:=(ap (dI 1<|am 1 G.jj<|aB (ai<|eJ 1 [0] (eQ<|ax 0) (b_ 0) gE G.D0) aW)<|ap (fY (b9<|aT lE (ai<|cV f3<|aB (ax 0) aW)<|ai<|aT gf (ai<|aT gf (ai<|cV wV<|aB (ax 1) aW)<|ai<|aN<|.int 2)<|ai<|aN<|.int 2) NT hb)<|d4<|cV nR<|aB (ai<|cV ij<|aB (ax 1) aW) aW)
noncomputable def kP:d_:=eR 1 2 [0] zX
noncomputable def w9:lJ:=(DH (dI 1<|am 1 G.jj<|aB (ai<|eJ 1 [0] (eQ<|ax 0) (b_ 0) gE G.D0) aW)<|DI (b9<|aT lE (ai<|cV f3<|aB (ax 0) aW)<|ai<|aT gf (ai<|aT gf (ai<|cV wV<|aB (ax 1) aW)<|ai<|aN<|.int 2)<|ai<|aN<|.int 2) J)
end G
namespace et
noncomputable def ev{α:Type}:List α->List α
 |[]=>[]
 |[a]=>[a]
 |a::_::r=>a::ev r
open PySem PySem.Spec PyProof.Rows
section
variable{prog:cc}{w:bN}{A:cj}{E:aj->aA->Prop}{s:aA}
end
end et
namespace L2
open PySem PySem.Spec PyProof.Rows
section
variable{X:a4}
end
end L2
namespace G
open PySem L2
variable{k n:Nat}{met fs bs:List a7}{fc f2:ar}{T ms es ps ks:List cD}{o3 o5 o1 o4 o0:Option aC}{q:a7->a7}{α:Type}{D1 D:bq}{d:ah}{b c o:a7}
noncomputable def kw:b5:=(fY (fX (b9<|aT oX (ax 4)<|ax 0)<|b9<|aT oY (ax 4)<|ax 2) (ap (iA (aN<|.aR af)<|nT 2 (g_ 4) kH)<|mh<|lG p3 3 oR<|aB (ax 4) aW) hb)
noncomputable def Q6:M Bool:=(f5<|ax 3)
noncomputable def D3:b5:=(kD (eQ<|ai<|am 1 G.DZ<|aB (ai<|lG p3 3 HA aW) aW) (b_ 4) G.kw)
noncomputable def Q7:b5:=(ap (dI 2<|Pf (g_ 1)<|aN<|.aR af)<|ap (dI 3<|hY<|aB (ax 1) aW)<|ap (pX G.Q6 G.D3 1000000)<|d4<|cV nR<|aB (ai<|cV ij<|aB (ax 2) aW) aW)
noncomputable def uJ:d_:=eR 2 5 [0,1] Q7
noncomputable def Q8(dX:ar):b5:=(ap (fY (ic (fW<|f5<|ai<|am 1 (G.w8 dX)<|aB (ax 0) aW)<|b9<|aT vEq (ai<|cV f3<|aB (ax 0) aW)<|ai<|aN<|.int 0) (d4<|aN<|.aR aD) hb)<|d4<|aT vEq (ai<|cV f3<|aB (ai<|am 2 G.uJ<|aB (ai<|am 1 G.jj<|aB (ax 0) aW)<|aB (ai<|aT bX (ax 0)<|ai<|aN<|.int 0) aW) aW)<|ai<|cV f3<|aB (ax 0) aW)
noncomputable def uK(dX:ar):d_:=eR 1 1 [0] (Q8 dX)
noncomputable def D4:bq->Option bq:=λD=>if 2<D.length then J ((D.set 1<|J<|.im<|.aR af).set 2 aa) else aa
noncomputable def acN:b5:=(d4<|hX<|fX (b9<|lF "tuple"<|ax 0)<|fX (b9<|aT vEq (ai<|cV f3<|aB (ax 0) aW)<|ai<|aN<|.int 2)<|fX (b9<|am 1 G.rg<|aB (ai<|aT bX (ax 0)<|ai<|aN<|.int 0) aW)<|b9<|am 1 G.rg<|aB (ai<|aT bX (ax 0)<|ai<|aN<|.int 1) aW)
noncomputable def w':d_:=eR 1 1 [0] acN
noncomputable def I5(fC:ar):M aC:=(y_ 1 fC 1 G.w'<|aB (ax 0) aW)
noncomputable def Q9(fC:ar):M aC:=(aT DW (ax 0)<|ax 1)
noncomputable def Q_(fC:ar):b5:=(ap (fY (ic (fW<|f5<|ai<|lF "tuple"<|ax 0)<|fW<|f5<|ai<|cV nd<|aB (ai<|eJ 1 [1] (eQ<|ax 0) (b_ 0) gE<|G.I5 fC) aW) (d4<|aN<|.aR aD) hb)<|d4<|cV nd<|aB (ai<|eJ 2 [] (p4<|aB (ax 0)<|aB (ai<|nc (ax 0) (oP<|aN<|.int 1) nQ) aW) (hF 2<|ew (b_ 0)<|ew (b_ 1) hZ) gE<|G.Q9 fC) aW)
noncomputable def w_(fC:ar):d_:=eR 2 2 [0,1] (Q_ fC)
noncomputable def I6:M aC:=(d9<|aB (ax 2)<|aB (ax 0) aW)
noncomputable def I7:M Bool:=(b9<|aT oX (ax 0)<|ax 1)
noncomputable def zY:b5:=(ap (dI 4<|hY<|aB (ai<|d9<|aB (ai<|aT bX (ax 3)<|ai<|aN<|.int 0)<|aB (ai<|aT eK (ai<|aT bX (ax 3)<|ai<|aN<|.int 1)<|ai<|aN<|.int 2) aW)<|aB (ai<|d9<|aB (ai<|aT eK (ai<|aT bX (ax 3)<|ai<|aN<|.int 0)<|ai<|aN<|.int 2)<|aB (ai<|aT bX (ax 3)<|ai<|aN<|.int 1) aW) aW)<|mh<|lG p3 2 sl<|aB (ai<|eJ 1 [1,3] (eQ<|ax 4) (b_ 0) G.I7 G.I6) aW)
noncomputable def v4:b5:=(ap (dI 1<|am 1 G.jj<|aB (ax 0) aW)<|ap (dI 2<|hY aW)<|ap (kD (eQ<|ax 0) (b_ 3) G.zY)<|d4<|g_ 2)
noncomputable def uL:d_:=eR 1 5 [0] v4
noncomputable def zZ:b5:=(iA (g_ 3)<|nT 2 (g_ 3) kH)
noncomputable def z0:b5:=(fY (b9<|aT vEq (ai<|aT bX (ax 2)<|ax 3)<|ax 7) (iA (g_ 6)<|nT 2 (g_ 3) kH) hb)
noncomputable def z1:b5:=(ap (dI 6<|aT bX (ax 2)<|ai<|aT bX (ax 5)<|ai<|aN<|.int 0)<|ap (dI 7<|aT bX (ax 2)<|ai<|aT bX (ax 5)<|ai<|aN<|.int 1)<|fY (b9<|aT lE (ax 6)<|ax 7) (ap (mh<|lG p3 4 oR<|aB (ax 5) aW)<|kD (eQ<|ax 0) (b_ 3) G.z0) hb)
noncomputable def Ra:b5:=(ap (dI 2 HT)<|ap (kD (eQ<|ax 0) (b_ 3) G.zZ)<|ap (dI 4<|hY aW)<|ap (kD (eQ<|ax 1) (b_ 5) G.z1)<|d4<|cV nR<|aB (ai<|cV ij<|aB (ax 4) aW) aW)
noncomputable def z2:d_:=eR 2 8 [0,1] Ra
noncomputable def Rb:b5:=(d4<|am 2 G.z2<|aB (ax 0)<|aB (ai<|aT eK (ai<|cV sj<|aB (ax 1) aW)<|ai<|am 1 G.uL<|aB (ax 0) aW) aW)
noncomputable def sE:d_:=eR 2 2 [0,1] Rb
noncomputable def Rc(fC dX:ar):M aC:=(aT oX (ax 0)<|ax 1)
noncomputable def Rd(fC dX:ar):b5:=(ap (fY (ic (fW<|f5<|ai<|am 1 (G.uK dX)<|aB (ax 0) aW)<|fW<|f5<|ai<|am 2 (G.w_ fC)<|aB (ax 1)<|aB (ai<|aN<|.fn fC) aW) (d4<|aN<|.aR aD) hb)<|ap (dI 2<|am 1 G.kP<|aB (ax 0) aW)<|ap (dI 3<|am 1 G.jj<|aB (ai<|am 1 G.uL<|aB (ax 2) aW) aW)<|d4<|hX<|fX (b9<|cV nd<|aB (ai<|eJ 1 [3] (eQ<|ax 1) (b_ 0) gE<|G.Rc fC dX) aW)<|b9<|aT vEq (ai<|am 2 G.sE<|aB (ax 2)<|aB (ax 1) aW)<|ax 1)
noncomputable def xa(fC dX:ar):d_:=eR 2 4 [0,1] (Rd fC dX)
noncomputable def D5:b5:=(d4<|am 2 G.sE<|aB (ai<|am 1 G.kP<|aB (ax 0) aW)<|aB (ai<|d9 aW) aW)
noncomputable def lL:d_:=eR 1 1 [0] D5
noncomputable def uM:lJ:=(IA 1 (mx 1 2 G.w9)<|aB (ax 0) aW)
noncomputable def I8:M aC:=(aT oX (ax 0)<|ax 1)
noncomputable def wf:M aC:=(g_ 1)
noncomputable def Re:M Bool:=(b9<|aT vEq (ax 0)<|ai<|aT bX (ax 2)<|ax 3)
noncomputable def Rf:M aC:=(g_ 0)
noncomputable def wl:M Bool:=(b9<|aT vEq (ax 1)<|ai<|aT bX (ax 2)<|ax 3)
noncomputable def Rg:M aC:=(g_ 0)
noncomputable def wn:M Bool:=(b9<|aT oY (ax 0)<|ax 1)
noncomputable def D6:M Bool:=(b9<|aT sg (ax 4)<|ai<|cV f3<|aB (ax 3) aW)
noncomputable def D7:b5:=(ap (dI 5<|eJ 2 [3,4] (eQ<|ax 1) (hF 2<|ew (b_ 0)<|ew (b_ 1) hZ) G.Re G.wf)<|ap (dI 5<|aT eK (ax 5)<|ai<|eJ 2 [3,4] (eQ<|ax 1) (hF 2<|ew (b_ 0)<|ew (b_ 1) hZ) G.wl G.Rf)<|ap (dI 4<|aT eK (ax 4)<|ai<|aN<|.int 1)<|dI 3<|aT eK (ax 3)<|ai<|eJ 1 [3] (eQ<|ax 5) (b_ 0) G.wn G.Rg)
noncomputable def Rh:b5:=(ap (dI 2<|am 1 G.wH<|aB (ax 0) aW)<|ap (fY (ic (fW<|f5<|ai<|lF "tuple"<|ax 1)<|ic (fW<|f5<|ai<|cV nd<|aB (ai<|eJ 1 [2] (eQ<|ax 1) (b_ 0) gE G.I8) aW)<|b9<|aT lE (ai<|cV sj<|aB (ax 1) aW)<|ai<|uH<|aB (ax 1) aW) (d4<|aN<|.aR aD) hb)<|ap (yK 3 4<|aB (ai<|nc (ax 0) nQ<|oP<|aN<|.int 1)<|aB (ai<|aN<|.int 0) aW)<|ap (pX G.D6 G.D7 1000000)<|d4<|hX<|fX (b9<|aT vEq (ai<|cV f3<|aB (ax 3) aW)<|ai<|cV f3<|aB (ax 0) aW)<|b9<|aT vEq (ai<|cV f3<|aB (ax 1) aW)<|ai<|aT p1 (ai<|cV f3<|aB (ax 0) aW)<|ai<|aN<|.int 1)
noncomputable def xb:d_:=eR 2 6 [0,1] Rh
noncomputable def I9:lJ:=(IA 1 (mx 1 1 G.uM)<|aB (ax 0) aW)
noncomputable def I':ar->b5:=λe=>(dI 1<|hX<|fX (b9<|wR e<|ax 2)<|b9<|wR e<|ax 2)
noncomputable def Ri:b5:=(ap (dI 1<|aN<|.aR aD)<|ap (zI (mh<|am 1 G.lL<|aB (ax 0) aW)<|DJ G.I9 G.D4)<|d4<|g_ 1)
noncomputable def sF:d_:=eR 1 3 [0] Ri
noncomputable def wv(fC dX:ar):M aC:=(cV nR<|aB (ai<|cV sj<|aB (ax 0) aW) aW)
noncomputable def I_(fC dX:ar):M aC:=(cV nR<|aB (ai<|eJ 1 [] (eQ<|ax 0) (b_ 0) gE<|G.wv fC dX) aW)
noncomputable def D8(fC dX:ar):b5:=(ap (dI 2<|am 2 G.zm<|aB (ax 0)<|aB (ax 1) aW)<|ap (dI 3<|am 1 G.zo<|aB (ax 2) aW)<|ap (dI 4<|am 1 G.zq<|aB (ax 3) aW)<|ap (dI 5<|am 1 G.lL<|aB (ax 4) aW)<|ap (fY (ic (fW<|f5<|ai<|am 2 G.xb<|aB (ax 3)<|aB (ax 5) aW)<|ic (b9<|aT (CT af) (ai<|am 2 (G.xa fC dX)<|aB (ax 4)<|aB (ax 5) aW)<|ai<|aN<|.aR af)<|fW<|f5<|ai<|am 2 (G.iF 6)<|aB (ai<|am 1 G.lL<|aB (ax 4) aW)<|aB (ax 5) aW) (d4<|aN<|.aR aD) hb)<|ap (fY (fW<|f5<|ai<|am 2 (G.iF 6)<|aB (ax 5)<|aB (ai<|cV nR<|aB (ai<|eJ 1 [] (eQ<|ax 5) (b_ 0) gE<|G.I_ fC dX) aW) aW) (d4<|aN<|.aR aD) hb)<|fY (ic (fW<|f5<|ai<|am 1 G.sF<|aB (ai<|nc (ax 4) nQ<|oP<|oO<|aN<|.int 1) aW)<|fW<|f5<|ai<|am 1 G.sF<|aB (ai<|nc (ax 4) nQ<|oP<|aN<|.int 1) aW) (d4<|aN<|.aR aD) hb)
noncomputable def Ja(fC dX:ar):b5:=(ap (kD (se<|aB (ai<|cV CW<|aB (ai<|aN<|.int 1)<|aB (ai<|cV CY<|aB (ai<|aN<|.int 8)<|aB (ai<|cV f3<|aB (ax 0) aW) aW) aW) aW) (b_ 1)<|G.D8 fC dX)<|d4<|aT vEq (ai<|am 1 G.lL<|aB (ai<|d9<|aB (ai<|d9<|aB (ai<|aN<|.int 0)<|aB (ai<|aN<|.int 0) aW)<|aB (ai<|d9<|aB (ai<|aN<|.int 0)<|aB (ai<|aN<|.int 1) aW)<|aB (ai<|d9<|aB (ai<|aN<|.int 1)<|aB (ai<|aN<|.int 0) aW)<|aB (ai<|d9<|aB (ai<|aN<|.int 1)<|aB (ai<|aN<|.int 1) aW) aW) aW)<|ai<|d9 aW)
noncomputable def z3(fC dX:ar):d_:=eR 1 6 [0] (Ja fC dX)
theorem acO(D' da:bq)(h:D4 D'=J da):2<D'.length/\∀e,∃hG,I' e (D'.set 2<|J<|.im<|.fn e)=J (.bC,hG)/\hG.set 2 aa=da:=by
 unfold D4 at h;split at h
 ·rename_i aF;cases h;refine⟨aF,λe=>?_⟩;have aJ:(D'.set 2<|J<|.im<|.fn e)[2]?=J (J<|.im<|.fn e):=by rw[AO,aV rfl,aV aF]
  refine⟨(D'.set 2<|J<|.im<|.fn e).set 1<|J<|.im<|.aR af,?_,?_⟩
  ·simp[I',wR,aJ,Ix];omega
  ·rw[ER _ _ (by decide:(2:Nat)≠1),AZ]
 ·cases h
theorem acP(a b:a7):lE (.im<|aI a) (.im<|aI b)=J (.im<|.aR<|!decide (a=b)):=by
 have h:=wD a b;show (if ah.bW 8 (aI a)=af then J (aC.im<|.aR<|!dy (aI a) (aI b)) else aa)=_;rw[aV (Dh a),h]
theorem Jb(a b:a7):vEq (.im<|aI a) (.im<|aI b)=J (.im<|.aR<|decide (a=b)):=by
 have h:=wD a b;show (if ah.bW 8 (aI a)=af then J (aC.im<|.aR<|dy (aI a)<|aI b) else aa)=_;rw[aV (Dh a),h]
theorem Jc(p:a7->a7){c:a7}(h:c∈bs):bX (.a8<|d0 bs p) (.im<|aI c)=J (.im<|aI<|p c):=by
 have g:=aar p h;show (if ah.keys 7 (ft c)=af then (gT (d0 bs p)<|ft c).map aC.im else aa)=_;rw[aV (ZQ c),g];rfl
theorem acQ(aS:fs[0]?=J o):wF [bD fs,.im<|aI c]=J (.im<|aI<|aR o c,[bD fs,.im<|aI c]):=by
 have t:gZ (fs.map aI) 0=J (aI o):=atC (by decide) (by simpa using aS);have fe:bX (.im<|aI c) (a5 0)=J (a5 c.1):=rfl;have a1:bX (.im<|aI c) (a5 1)=J (a5 c.2):=rfl;have nK:bX (.im<|aI o) (a5 0)=J (a5 o.1):=rfl;have cO:bX (.im<|aI o) (a5 1)=J (a5 o.2):=rfl;have t':bX (bD fs) (a5 0)=J (.im<|aI o):=by
  show (gZ (fs.map aI) 0).map aC.im=_;rw[t];rfl
 unfold wF Pq;exact oV [J (bD fs),J<|.im<|aI c] rfl (bn (zt (cB (bh (bL (bh<|bL rfl rfl rfl rfl fe) (bh (bL (bh<|bL (bh<|bL rfl rfl rfl rfl fe) (bh<|bL (bh<|bL rfl rfl rfl rfl t') rfl rfl rfl nK) rfl rfl rfl) rfl rfl rfl (q6 (by decide)))) rfl rfl rfl)) (cB (bh (bL (bh<|bL rfl rfl rfl rfl a1) (bh (bL (bh<|bL (bh<|bL rfl rfl rfl rfl a1) (bh<|bL (bh<|bL rfl rfl rfl rfl t') rfl rfl rfl cO) rfl rfl rfl) rfl rfl rfl (q6 (by decide)))) rfl rfl rfl)) rfl)) rfl (nu rfl) rfl)) rfl
theorem ww(e:cD):ah.bW 8 (bg e)=af:=rfl
theorem Jd:∀ps:List cD,ah.eC 8 (ps.map bg)=af
 |[]=>rfl
 |p::r=>by rw[dQ,ah.eC,ww,Jd r];rfl
theorem Je(a b:cD):dy (bg a) (bg b)=decide (a=b):=by
 show (dy (aI a.1) (aI b.1)&&(dy (aI a.2) (aI b.2)&&af))=_;rw[wD,wD];obtain⟨a1,a2⟩:=a;obtain⟨cO,d1⟩:=b;by_cases O:a1=cO<;>by_cases U:a2=d1<;>simp[O,U]
theorem acR(ps:List cD)(e:cD):jd (bg e) (.im<|.tup<|ps.map bg)=J (decide (e∈ps)):=by
 rw[Zn,ww,Jd,ES];show (if (af&&af)=af then _ else _)=_;rw[aV (show (af&&af)=af from rfl)];congr 1;rw[A1,u_,pn];constructor
 ·rintro⟨x,ag,h⟩;have:decide (x=e)=af:=by rw[<-Je];exact h
  rw[<-gg this];exact ag
 ·intro h;refine⟨e,h,?_⟩;show dy (bg e) (bg e)=af;rw[Je];exact eL rfl
noncomputable def st(b:a7):Nat->a7
 |0=>(b.1-1,b.2)
 |1=>(b.1,b.2+1)
 |2=>(b.1+1,b.2)
 |_=>(b.1,b.2-1)
theorem Jf(n:Nat)(i:Int):iF (n+1) [a5 i,a5 i]=J (.im<|.aR af,[a5 i,a5 i]):=by
 rw[iF];unfold Dj;have q:=sy i i;rw[eL rfl]at q;exact oV [J (a5 i),J<|a5 i] rfl (dx (ci rfl rfl)<|dx (ci rfl rfl)<|bn<|wJ<|nZ rfl<|nZ rfl<|fu<|bL rfl rfl rfl rfl q) rfl
theorem Rj(n:Nat)(c:a7):iF (n+2) [.im (aI c),.im<|aI c]=J (.im<|.aR af,[.im (aI c),.im<|aI c]):=by
 have s0:=Jf n c.1;have s1:=Jf n c.2;have Df:eJ 2 [] (p4<|aB (ax 0)<|aB (ax 1) aW) (hF 2<|ew (b_ 0)<|ew (b_ 1) hZ) gE (G.Di<|iF<|n+1) [J (.im<|aI c),J<|.im<|aI c]=J (.lst [.aR af,.aR af],[J (.im<|aI c),J<|.im<|aI c]):=by
  refine (C6 (xs:=[.tup [.int c.1,.int c.1],.tup [.int c.2,.int c.2]]) (o:=aa) (C':=[]) (D1:=[J (.im<|aI c),J<|.im<|aI c]) rfl ?_).trans rfl;have g:∀i:Int,iF (n+1) [a5 i,a5 i]=J (.im<|.aR af,[a5 i,a5 i])->G.Di (iF<|n+1) [J (a5 i),J<|a5 i]=J (.im<|.aR af,[J (a5 i),J<|a5 i]):=λi s=>fb rfl rfl rfl s rfl;exact oW (λ(i:Int)=>ah.tup [.int i,.int i]) (λ_=>.aR af) [c.1,c.2] (λi _=>⟨[J (a5 i),J<|a5 i],_,[J (a5 i),J<|a5 i],rfl,rfl,g i<|Jf n i,rfl⟩) (nu rfl)
 rw[iF];unfold Dj;refine oV [J (.im<|aI c),J<|.im<|aI c] rfl ?_ rfl;refine y6 ?_;refine (y7 (D1:=[J (.im<|aI c),J<|.im<|aI c]) rfl).trans ?_;refine (iD (D1:=[J (.im<|aI c),J<|.im<|aI c]) ?_).trans ?_
 ·have q:lE (a5 2) (a5 2)=J (.im<|.aR aD):=Ih 2 2;exact ci (nY rfl<|fu<|bL (bh<|e_ rfl rfl rfl) (bh<|e_ rfl rfl rfl) rfl rfl q) rfl
 ·exact bn (e_ (cB (bh Df) rfl) rfl rfl)
noncomputable def z4(a b:a7):Prop:=a.1<b.1\/(a.1=b.1/\a.2<b.2)
theorem Rk{l:List a7}:gH l↔l.Pairwise z4:=by
 unfold gH;rw[AP];constructor
 ·exact λh=>h.imp λ{a b} z=>Ik.mp z
 ·exact λh=>h.imp λ{a b} z=>Ik.mpr z
theorem Rl(a:a7):a∈gG a:=.head _
noncomputable def acS(o:a7)(B:List a7):Prop:=∀b∈B,(b.1-o.1)%2=0/\(b.2-o.2)%2=0
noncomputable abbrev hd(d s t:Int):aC:=.lst [.int d,.int s,.int t]
theorem jF{m:Nat}(h:Nat.ble (n+1) m=af):n<m:=nu h
noncomputable abbrev ej(b:Bool):aC:=.im (.aR b)
noncomputable def iG(ks:List (Int×Int))(c:Int×Int):List (Int×Int):=if c∈ks then ks else ks++[c]
theorem Rm(ks:List (Int×Int))(c:Int×Int):mn (mt ks) (ft c) (.aR af)=mt (iG ks c):=by
 unfold iG;by_cases h:c∈ks
 ·rw[aV h];unfold mn;rw[aV (by rw[Ia];simpa using h)];unfold mt;rw[lP];refine xB λx _=>?_;show (if ft x=ft c then (ft x,ah.aR af) else (ft x,ah.aR af))=_;split<;>rfl
 ·rw[aZ h];exact ZU h
theorem acT{i:Nat}{x:ah}(h:(mj 0 n)[i]?=J x):i<n/\x=.int (0+(i:Int)):=by
 have ao:i<n:=by
  have:=(iJ.mp h).1
  rwa [mj,b3,pd]at this
 rw[mj,gJ,Ku ao]at h;exact⟨ao,(Option.some.inj h).symm⟩
noncomputable def k'(cs:List (Int×Int)):Prop:=cs.Pairwise λa b=>cJ (aI a) (aI b)=af
theorem acU{ks:List (Int×Int)}(au:ks.Nodup)(aF:ks.length<=1000):∃cs:List (Int×Int),j' cJ (ks.map aI)=cs.map aI/\cs.Perm ks/\k' cs:=by
 have o:=H_ au aF;obtain⟨cs,O,U⟩:=Po (q5<|ks.map aI);refine⟨cs,U,O,?_⟩;have:=zf o.ord.au o.ord.q4;rw[U]at this;exact AP.mp this
noncomputable abbrev dj:=Int×Int
variable{w f cs:List dj}{s a x:dj}{p:List dj×List dj}
theorem Jg(o0:Option aC):∀(cs ks:List dj) (o2:Option aC),ks.length+cs.length<100000->∃uy,fZ (b_ 2) ri (cs.map aI) [o0,J<|.a8<|mt ks,o2]=J (.bC,[o0,J<|.a8<|mt<|cs.foldl iG ks,uy])
 |[],ks,o2,_=>⟨o2,rfl⟩
 |c::cs,ks,o2,aF=>by
  have aE:kH (.a8<|mt ks) (.im<|.tup<|ft c) (ej af)=J (.a8<|mt<|iG ks c):=by
   rw[<-Rm];exact aV ⟨rfl,by unfold mt;rw[b3];rw[eS]at aF;lia⟩
  have la:(iG ks c).length<=ks.length+1:=by
   unfold iG;split
   ·lia
   ·rw[eZ];exact cp _
  obtain⟨uy,bS⟩:=Jg o0 cs (iG ks c) (J<|.im<|aI c) (by rw[eS]at aF;lia);refine⟨uy,?_⟩;have e:ri [o0,J<|.a8<|mt ks,J<|.im<|aI c]=J (.bC,[o0,J<|.a8<|mt<|iG ks c,J<|.im<|aI c]):=by
   unfold ri;refine o9 rfl ?_;show (kH (.a8<|mt ks) (.im<|.tup<|ft c)<|ej af).map _=_;rw[aE];rfl
  rw[dQ,fZ];show (ri [o0,J<|.a8<|mt ks,J<|.im<|aI c]).bind _=_;rw[e];exact bS
theorem Rn:∀(cs ks:List dj),(ks++cs).Nodup->cs.foldl iG ks=ks++cs
 |[],ks,_=>by rw[c5];rfl
 |c::cs,ks,au=>by
  have av:c∉ks:=λh=>by
   have:=(eA.mp au).2.2 c h c (.head _);exact this rfl
  rw[qm,iG,aZ av,Rn cs (ks++[c]) (by rw[bY];exact au),bY];rfl
theorem Ro(au:cs.Nodup)(aF:cs.length<10000):jj [bD cs]=J (.a8<|mt cs,[bD cs]):=by
 obtain⟨o,lp⟩:=Jg (J<|bD cs) cs [] aa (by show 0+_<_;lia);rw[Rn cs [] au]at lp;unfold jj DY;refine hH (D:=[J (bD cs),J .fH,o]) rfl (dx (D1:=[J (bD cs),J<|.a8 [],aa]) rfl<|dx (p8 (o:=aa) rfl lp rfl) rfl) rfl
noncomputable def nr(c:dj):List dj:=[(c.1-1,c.2),(c.1,c.2-1),(c.1,c.2+1),(c.1+1,c.2)]
theorem acV(c:dj):DZ [.im (aI c)]=J (bJ<|nr c,[.im (aI c)]):=rfl
theorem Jh(ks:List dj)(c:dj):oX (.im<|aI c) (.a8<|mt ks)=J (ej<|decide (c∈ks)):=by
 rw[<-ZT];rfl
theorem Ji:∀(l ks:List a7),ks.Nodup->(l.foldl iG ks).Nodup/\∀c,c∈l.foldl iG ks↔c∈ks\/c∈l
 |[],ks,au=>⟨au,λc=>by simp⟩
 |x::l,ks,au=>by
  have O:(iG ks x).Nodup/\∀c,c∈iG ks x↔c∈ks\/c=x:=by
   unfold iG;split
   ·rename_i h;exact⟨au,λc=>⟨.inl,λz=>z.elim id λe=>by rw[e];exact h⟩⟩
   ·rename_i h;refine⟨eA.mpr ⟨au,by simp,λa az b ae=>?_⟩,λc=>by simp⟩;rw[c2.mp ae];exact λe=>h (e ▸ az)
  obtain⟨a,b⟩:=Ji l (iG ks x) O.1;refine⟨a,λc=>?_⟩;rw[qm,b c,O.2 c,cK,or_assoc]
noncomputable def eF(o:a7)(fs:List a7):List a7:=(fs.map<|aR o).foldl iG []
theorem Jj(o:a7)(fs:List a7):(eF o fs).Nodup:=(Ji _ [] .nil).1
theorem Rp:b∈eF o fs↔∃c∈fs,aR o c=b:=by
 unfold eF;rw[(Ji _ [] .nil).2 b,e0];simp
theorem wE(h:(b.1-o.1)%2=0/\(b.2-o.2)%2=0)(av:c∈gG b):aR o c=b:=by
 have:=Dp.mp av;unfold aR;exact nx (by dsimp only;lia) (by dsimp only;lia)
theorem acW{S:List a7}(p:fs.Perm (cells S))(au:S.Nodup)(ev:acS o S):(eF o fs).Perm S:=by
 refine (Km (Jj o fs) au).mpr λb=>?_;rw[Rp];constructor
 ·rintro⟨c,av,rfl⟩;obtain⟨s,aq,aU⟩:=rz.mp (p.mem_iff.mp av);rw[wE (ev s aq) aU];exact aq
 ·exact λae=>⟨b,p.mem_iff.mpr<|rz.mpr ⟨b,ae,Rl b⟩,wE (ev b ae)<|Rl b⟩
theorem acX{cs:List a7}(aF:cs.length<10000):jj [bJ cs]=J (.a8<|mt<|cs.foldl iG [],[bJ cs]):=by
 obtain⟨o,lp⟩:=Jg (J .fH) cs [] aa (by show 0+_<_;lia);unfold jj DY;refine hH (D:=[J (bJ cs),J .fH,o]) rfl (dx (D1:=[J (bJ cs),J<|.a8 [],aa]) rfl<|dx (p8 (o:=J (0,bJ cs)) (D1:=[J .fH,J<|.a8 [],aa]) rfl lp rfl) rfl) rfl
theorem acY(ks:List a7):wV [.a8 (mt ks)]=J (a5 (ks.length:Int)):=by
 show J (a5 (((mt ks).length:Nat):Int))=_;rw[mt,b3]
theorem Rq(o:a7)(fs:List a7):(eF o fs).length<=fs.length:=by
 have s:∀b∈eF o fs,b∈fs.map (aR o):=λb ae=>by
  obtain⟨c,av,e⟩:=Rp.mp ae;exact e0.mpr ⟨c,av,e⟩
 have:=(Jj o fs).length_le_of_subset s
 rwa [b3]at this
theorem Jk(aS:fs[0]?=J o)(aF:fs.length<=1000):
  dI 1 (am 1 G.jj<|aB (ai<|eJ 1 [0] (eQ<|ax 0) (b_ 0) gE G.D0) aW) [J (bD fs),aa]=J (.bC,[J (bD fs),J<|.a8<|mt<|eF o fs]):=by
 have di:eJ 1 [0] (eQ<|ax 0) (b_ 0) gE G.D0 [J (bD fs),aa]=J (bJ<|fs.map<|aR o,[J (bD fs),aa]):=by
  refine (C6 (xs:=fs.map aI) (o:=aa) (D1:=[J (bD fs),aa]) rfl (oW _ (λc=>aI<|aR o c) fs (λc av=>?_) (by lia))).trans ?_
  ·exact⟨[J (.im<|aI c),J<|bD fs],_,[J (.im<|aI c),J<|bD fs],rfl,rfl,fb (os:=[.bK 1,.bK 0]) rfl rfl rfl (acQ aS) rfl,rfl⟩
  ·show J (aC.lst _,_)=J (aC.lst _,_);rw[lP];rfl
 have aG:=acX (cs:=fs.map (aR o)) (by rw[b3];lia);exact ik (fb (os:=[.dE (bJ<|fs.map<|aR o)]) (cB (bh di) rfl) rfl rfl aG rfl) (jF rfl) rfl
theorem Rr{ks:List a7}(O:fs.length<=1000)(U:ks.length<=1000):
  b9 (aT lE (ai<|cV f3<|aB (ax 0) aW)<|ai<|aT gf (ai<|aT gf (ai<|cV wV<|aB (ax 1) aW)<|ai<|aN<|.int 2)<|ai<|aN<|.int 2) [J (bD fs),J<|.a8<|mt ks]=J (!decide (fs.length=4*ks.length),[J (bD fs),J<|.a8<|mt ks]):=by
 have e:decide ((fs.length:Int)=(ks.length:Int)*2*2)=decide (fs.length=4*ks.length):=by
  rw[Fz];lia
 rw[<-e];exact fu (bL (bh<|e_ (cB rfl rfl) rfl<|aac fs) (bh (bL (bh (bL (bh<|e_ (cB rfl rfl) rfl<|acY ks) rfl rfl rfl (nW (ue (by decide) (by decide))))) rfl rfl rfl (nW (ue (by decide) (by decide))))) rfl rfl<|Ih _ _)
theorem acZ(aS:fs[0]?=J o)(aF:fs.length<=1000)(h:fs.length=4*(eF o fs).length):∃ms,kP [bD fs]=J (bD ms,[bD fs])/\ms.Perm (eF o fs)/\gH ms:=by
 have U:=Rq o fs;obtain⟨ms,pm,es,rs⟩:=Il (Jj o fs) (by lia);refine⟨ms,?_,pm,rs⟩;have cE:=Rr (fs:=fs) (ks:=eF o fs) aF (by lia);rw[eL h]at cE;have aq:ij [.a8 (mt<|eF o fs)]=J (bJ ms):=by
  show kI ((mt<|eF o fs).map λp=>.tup p.1)=_;rw[mt,lP];exact es
 unfold kP zX;exact hH (D:=[J (bD fs),J<|.a8<|mt<|eF o fs]) rfl (dx (Jk aS aF)<|dx (ci cE rfl)<|bn<|wN<|e_ (cB rfl rfl) rfl aq) rfl
theorem ac0(aS:fs[0]?=J o)(aF:fs.length<=1000)(h:fs.length≠4*(eF o fs).length):kP [bD fs]=aa/\mx 1 2 w9 [bD fs]=af:=by
 have U:=Rq o fs;have cE:=Rr (fs:=fs) (ks:=eF o fs) aF (by lia);rw[bi h]at cE;have ay:zX [J (bD fs),aa]=aa:=by
  unfold zX;exact dx (Jk aS aF) (by unfold ap;rw[uv cE rfl];rfl)
 constructor
 ·unfold kP eR;rw[aV (show [bD fs].length=1 from rfl),show zX ([bD fs].map J++List.replicate (2-1) aa)=aa from ay]
 ·unfold mx w9;show (DH _ _ [J (bD fs),aa]).isSome=af;unfold DH;rw[Jk aS aF];show (DI _ _ _).isSome=af;unfold DI;rw[show b9 _ _=_ from cE];rfl
noncomputable def z5(d:ah):Prop:=∀a,d≠.fn a
noncomputable def xc(d:ah):Prop:=z5 d/\∀es,d=.tup es->∀y∈es,z5 y
noncomputable def D9(d:ah):Prop:=z5 d/\∀ds,d=.tup ds->ds.length<=290/\∀x∈ds,xc x
noncomputable def rj:ah->Bool
 |.int _=>af
 |_=>aD
theorem Rs(h:z5 d):uI [.im d]=J (ej<|rj d,[.im d]):=by
 cases d with
 |fn a=>exact absurd rfl (h a)
 |_=>rfl
noncomputable def z6:ah->Bool
 |.tup [a,b]=>rj a&&rj b
 |_=>aD
theorem Rt(h:rj d=af):∃i,d=.int i:=by
 cases d with
 |int i=>exact⟨i,rfl⟩
 |_=>cases h
theorem Ev(h:xc d):rg [.im d]=J (ej<|z6 d,[.im d]):=by
 cases d with
 |fn a=>exact absurd rfl (h.1 a)
 |tup ds=>
  unfold rg Q1
  match ds,h with
  |[],_=>rfl
  |[a],_=>rfl
  |[a,b],h=>
   have az:=Rs (h.2 _ rfl a<|.head _);have ae:=Rs (h.2 _ rfl b<|.tail _<|.head _);refine hH (D:=[J (.im<|.tup [a,b])]) rfl (bn<|wJ<|nZ (fu rfl)<|nZ (fu rfl) ?_) rfl;show _=J (rj a&&rj b,_);have n3:b9 (am 1 G.uI<|aB (ai<|aT bX (ax 0)<|ai<|aN<|.int 0) aW) [J (.im<|.tup [a,b])]=J (rj a,[J (.im<|.tup [a,b])]):=fu (fb (cB (bh<|bL (d:=.im a) rfl rfl rfl rfl rfl) rfl) rfl rfl az rfl);have ac1:b9 (am 1 G.uI<|aB (ai<|aT bX (ax 0)<|ai<|aN<|.int 1) aW) [J (.im<|.tup [a,b])]=J (rj b,[J (.im<|.tup [a,b])]):=fu (fb (cB (bh<|bL (d:=.im b) rfl rfl rfl rfl rfl) rfl) rfl rfl ae rfl);cases hz:rj a with
   |false=>rw[hz]at n3;exact zu n3
   |true=>rw[hz]at n3;exact nZ n3 ac1
  |a::b::c::r,_=>
   have e:vEq (a5 ((a::b::c::r).length:Int)) (a5 2)=J (ej aD):=(sy _ _).trans (congrArg (λb=>J<|ej b) (bi (by rw[eS,eS,eS];lia)));exact hH (D:=[J (.im<|.tup (a::b::c::r))]) rfl (bn<|wJ<|nZ (fu rfl)<|zu<|fu<|bL (bh<|e_ (cB rfl rfl) rfl rfl) rfl rfl rfl e) rfl
 |_=>rfl
theorem Ru{D2 da:bq}{f nU:ie}{ga c4 eo:M cH}{x y z:cH}{cS cM uh qP:aC}{b pI:Bool}(ay:ga D=J (x,D1))(aG:c4 D1=J (y,D2))(bT:e' D2 x=J cS)(eH:e' D2 y=J cM)(ia:f cS cM=J (ej b))(Ij:eo D2=J (z,da))(ac2:e' da y=J uh)(ac3:e' da z=J qP)(ud:nU uh qP=J (ej pI))(dV:da=D2):je f nU ga c4 eo D=J (ej<|b&&pI,D2):=by
 subst dV;unfold je;rw[ay];show (c4 D1).bind _=_;rw[aG];show (e' da x).bind _=_;rw[bT];show (e' da y).bind _=_;rw[eH];show (f cS cM).bind _=_;rw[ia];cases b
 ·rfl
 ·show (eo da).bind _=_;rw[Ij];show (e' da y).bind _=_;rw[ac2];show (e' da z).bind _=_;rw[ac3];show (nU uh qP).bind _=_;rw[ud];rfl
noncomputable def mB:ah->Bool
 |.tup [.int i,.int j]=>(decide (0<=i)&&decide (i<=30))&&(decide (0<=j)&&decide (j<=30))
 |_=>aD
theorem Jl(h:mB d=af):∃c:Int×Int,d=aI c/\0<=c.1/\c.1<=30/\0<=c.2/\c.2<=30:=by
 unfold mB at h;split at h
 ·next i j=>
  rw[dv,dv,dv]at h;exact⟨(i,j),rfl,gg h.1.1,gg h.1.2,gg h.2.1,gg h.2.2⟩
 ·cases h
theorem ac4{c:Int×Int}(h:0<=c.1/\c.1<=30/\0<=c.2/\c.2<=30):mB (aI c)=af:=by
 show ((decide (0<=c.1)&&decide (c.1<=30))&&(decide (0<=c.2)&&decide (c.2<=30)))=af;rw[eL h.1,eL h.2.1,eL h.2.2.1,eL h.2.2.2];rfl
theorem ac5(h:z6 d=aD):mB d=aD:=by
 cases av:mB d with
 |false=>rfl
 |true=>
  obtain⟨c,rfl,_⟩:=Jl av;cases h
theorem ac6(h:xc d):rh [.im d]=J (ej<|mB d,[.im d]):=by
 have aE:=Ev h;unfold rh Q2;refine hH (D:=[J (.im d)]) rfl (bn<|wJ ?_) rfl;have fk:b9 (am 1 G.rg<|aB (ax 0) aW) [J (.im d)]=J (z6 d,[J (.im d)]):=fu (fb (cB rfl rfl) rfl rfl aE rfl);cases hz:z6 d with
 |false=>rw[hz]at fk;rw[ac5 hz];exact zu fk
 |true=>
  rw[hz]at fk;obtain⟨i,j,rfl⟩:∃i j,d=.tup [.int i,.int j]:=by
   unfold z6 at hz;split at hz
   ·next a b=>
    rw[dv]at hz;obtain⟨i,rfl⟩:=Rt hz.1;obtain⟨j,rfl⟩:=Rt hz.2;exact⟨i,j,rfl⟩
   ·cases hz
  refine nZ fk ?_;have k1:b9 (je gS gS (ai<|aN<|.int 0) (ai<|aT bX (ax 0)<|ai<|aN<|.int 0)<|ai<|aN<|.int 30) [J (.im<|.tup [.int i,.int j])]=J (decide (0<=i)&&decide (i<=30),[J (.im<|.tup [.int i,.int j])]):=fu (Ru rfl (bh<|bL (d:=a5 i) rfl rfl rfl rfl rfl) rfl rfl rfl rfl rfl rfl rfl rfl);have k2:b9 (je gS gS (ai<|aN<|.int 0) (ai<|aT bX (ax 0)<|ai<|aN<|.int 1)<|ai<|aN<|.int 30) [J (.im<|.tup [.int i,.int j])]=J (decide (0<=j)&&decide (j<=30),[J (.im<|.tup [.int i,.int j])]):=fu (Ru rfl (bh<|bL (d:=a5 j) rfl rfl rfl rfl rfl) rfl rfl rfl rfl rfl rfl rfl rfl);show _=J ((decide (0<=i)&&decide (i<=30))&&(decide (0<=j)&&decide (j<=30)),_);cases aw:(decide (0<=i)&&decide (i<=30)) with
  |false=>rw[aw]at k1;exact zu k1
  |true=>rw[aw]at k1;exact nZ k1 k2
noncomputable def z7(ds:List ah):Bool:=(ds.zip<|ds.drop 1).all λp=>cJ p.1 p.2
noncomputable def Jm:ah->Bool
 |.tup ds=>ds.all mB&&z7 ds
 |_=>aD
theorem Rv{α:Type}(f:α->Bool):∀xs:List α,t9 (xs.map λr=>.aR<|f r)=J (xs.map f)
 |[]=>rfl
 |x::r=>by rw[dQ,t9,Rv f r];rfl
theorem uN(f:α->Bool)(xs:List α):nd [.lst (xs.map λr=>.aR<|f r)]=J (ej<|xs.all f):=by
 show (t9 _).map _=_;rw[Rv,AF,KI];rfl
theorem Jn:∀ds es:List ah,j8 ds es=(ds.zip es).map λp=>.tup [p.1,p.2]
 |[],_=>rfl
 |_::_,[]=>rfl
 |d::ds,e::es=>congrArg (_::·) (Jn ds es)
theorem ac7{f:ar}(h:D9 d):zW f [.im d,.im<|.fn f]=J (ej<|Jm d,[.im d,.im<|.fn f]):=by
 cases d with
 |fn a=>exact absurd rfl (h.1 a)
 |tup ds=>
  obtain⟨aF,hd⟩:=h.2 ds rfl;unfold zW Q4;refine hH (D:=[J (.im<|.tup ds),J<|.im<|.fn f]) rfl ?_ rfl;show ap _ _ [J (.im<|.tup ds),J<|.im<|.fn f]=_;have di:eJ 1 [1] (eQ<|ax 0) (b_ 0) gE (DX f) [J (.im<|.tup ds),J<|.im<|.fn f]=J (.lst<|ds.map λd=>.aR<|mB d,[J (.im<|.tup ds),J<|.im<|.fn f]):=by
   refine nX (xs:=ds.map id) (o:=aa) (D1:=[J (.im<|.tup ds),J<|.im<|.fn f]) (by rw[ET];rfl) (oW id (λd=>.aR<|mB d) _ (λx ag=>?_) (by lia)) rfl;refine⟨[J (.im x),J<|.im<|.fn f],_,[J (.im x),J<|.im<|.fn f],rfl,rfl,?_,rfl⟩;unfold DX;show (if f=f then _ else _)=_;rw[aV rfl];exact fb (cB rfl rfl) rfl rfl (ac6<|hd x ag) rfl
  have eh:fW (f5<|ai<|cV nd<|aB (ai<|eJ 1 [1] (eQ<|ax 0) (b_ 0) gE<|DX f) aW) [J (.im<|.tup ds),J<|.im<|.fn f]=J (!(ds.all mB),[J (.im<|.tup ds),J<|.im<|.fn f]):=Pz (kb (bh<|e_ (cB (bh di) rfl) rfl<|uN mB ds) rfl rfl);show _=J (tV.fQ<|ej<|ds.all mB&&z7 ds,_);cases az:ds.all mB with
  |false=>
   rw[az]at eh;exact y6 (uv (nY (mv<|kb rfl rfl rfl) eh) rfl)
  |true=>
   rw[az]at eh;refine dx (ci (nY (mv<|kb rfl rfl rfl) eh) rfl) ?_;have B4:=mH.mp az;have gA:eJ 2 [] (p4<|aB (ax 0)<|aB (ai<|nc (ax 0) (oP<|aN<|.int 1) nQ) aW) (hF 2<|ew (b_ 0)<|ew (b_ 1) hZ) gE (Q3 f) [J (.im<|.tup ds),J<|.im<|.fn f]=J (.lst<|(ds.zip<|ds.drop 1).map λp=>.aR<|cJ p.1 p.2,[J (.im<|.tup ds),J<|.im<|.fn f]):=by
    refine nX (xs:=(ds.zip<|ds.drop 1).map λp=>.tup [p.1,p.2]) (o:=aa) (D1:=[J (.im<|.tup ds),J<|.im<|.fn f]) ?_ (oW (λp:ah×ah=>.tup [p.1,p.2]) (λp=>.aR<|cJ p.1 p.2) _ (λp aE=>?_) ?_) rfl
    ·rw[<-Jn];exact PC (cB rfl (cB (bh (zv (d':=.im (.tup<|ds.drop 1)) rfl rfl rfl rfl (by show J (aC.im<|.tup<|ce ds (J ((1:Nat):Int)) aa)=_;rw[OH]))) rfl)) rfl
    ·obtain⟨a,iZ,_⟩:=Jl (B4 p.1 (sR aE).1);obtain⟨b,eG,_⟩:=Jl (B4 p.2<|pb (sR aE).2);obtain⟨x,y⟩:=p;dsimp only at iZ eG ⊢;subst iZ eG;exact⟨[J (.im<|aI a),J<|.im<|aI b],_,[J (.im<|aI a),J<|.im<|aI b],rfl,rfl,bL rfl rfl rfl rfl rfl,rfl⟩
    ·rw[EP,iu];lia
   exact bn (e_ (cB (bh gA) rfl) rfl<|uN (λp:ah×ah=>cJ p.1 p.2) _)
 |_=>rfl
theorem ac8{f:ar}(h:D9 d):w8 f [.im d]=J (ej<|Jm d,[.im d]):=by
 unfold w8 Q5;exact hH (D:=[J (.im d)]) rfl (bn<|fb (cB rfl<|cB rfl rfl) rfl rfl (ac7 h) rfl) rfl
noncomputable def ur:ah->Bool
 |.int i=>decide (0<=i)&&decide (i<31)
 |_=>aD
theorem Rw:∀{cs:List (Int×Int)},k' cs->z7 (cs.map aI)=af
 |[],_=>rfl
 |[a],_=>rfl
 |a::b::r,h=>by
  have h':=kj.mp h;show (cJ (aI a) (aI b)&&z7 ((b::r).map aI))=af;rw[h'.1 b (.head _),Rw h'.2];rfl
theorem Jo{cs:List (Int×Int)}(h:k' cs):cs.Nodup:=h.imp λ{a b} e z=>by rw[z,H0]at e;cases e
theorem ac9{g:M aC}{d:aC}{xs:List ah}(e:g D=J (d,D1))(k:oM d=J xs):eQ (ai g) D=J ((xs,aa),D1):=by
 unfold eQ;rw[bh e];show (oM d).map _=_;rw[k];rfl
noncomputable def xd(a b:dj):Bool:=decide ((if a.1-b.1<0 then -(a.1-b.1) else a.1-b.1)+(if a.2-b.2<0 then -(a.2-b.2) else a.2-b.2)=1)
theorem Rx{b:dj}:xd a b=af↔b∈nr a:=by
 obtain⟨a1,a2⟩:=a;obtain⟨cO,d1⟩:=b;unfold xd nr;rw[pn];simp only[cK,jH,lV,LM];lia
noncomputable def xe(l:List cD):Prop:=(l.map bg).Pairwise (λa b=>cJ a b=af)
theorem Ry(ks:List cD):ij [bQ ks]=kI (ks.map bg):=pi λd hd=>by
 obtain⟨c,_,rfl⟩:=e0.mp hd;exact⟨_,rfl⟩
theorem ac'(au:ks.Nodup)(aF:ks.length<=1000):∃ms:List cD,ms.Perm ks/\ij [bQ ks]=J (bQ ms)/\xe ms:=by
 have fI:=Du au aF;obtain⟨ms,pm,em⟩:=PN (q5<|ks.map bg);refine⟨ms,pm,?_,?_⟩
 ·rw[Ry];unfold kI;rw[aV (sx.mpr fI),em]
 ·unfold xe;rw[<-em];exact zf fI.1.3 fI.1.2
theorem ac_(au:ks.Nodup)(aF:ks.length<=1000)(r:xe ks):ij [bQ ks]=J (bQ ks):=by
 have fI:=Du au aF;rw[Ry];unfold kI;rw[aV (sx.mpr fI),<-zg fI.1 (.refl _) r]
theorem ada(aF:ps.length<=1000):zY [o0,J<|.a8<|mt bs,J<|bQ ps,J<|.im<|aI b,o4]=J (.bC,[o0,J<|.a8<|mt bs,J<|bQ<|ps++hc bs b,J<|.im<|aI b,J<|bJ [(b.1,b.2+2),(b.1+2,b.2)]]):=by
 have x0:bX (.im<|aI b) (a5 0)=J (a5 b.1):=rfl;have h8:bX (.im<|aI b) (a5 1)=J (a5 b.2):=rfl;have di:eJ 1 [1,3] (eQ<|ax 4) (b_ 0) G.I7 G.I6 [o0,J<|.a8<|mt bs,J<|bQ ps,J<|.im<|aI b,J<|bJ [(b.1,b.2+2),(b.1+2,b.2)]]=J (bQ<|hc bs b,[o0,J<|.a8<|mt bs,J<|bQ ps,J<|.im<|aI b,J<|bJ [(b.1,b.2+2),(b.1+2,b.2)]]):=by
  have k:=uf (own:=1) (tg:=b_ 0) (c:=G.I7) (e:=G.I6) (C:=[J (.a8<|mt bs),J<|.im<|aI b]) aI (λo=>decide (o∈bs)) (λo=>bg (b,o)) [(b.1,b.2+2),(b.1+2,b.2)] [] (λo aS=>?_) (by show 0+2<=100000;decide)
  ·rw[qn,show (([(b.1,b.2+2),(b.1+2,b.2)].filter λo=>decide (o∈bs)).map λo=>bg (b,o))=(hc bs b).map bg by unfold hc;rw[lP];rfl]at k;exact nX (xs:=[(b.1,b.2+2),(b.1+2,b.2)].map aI) (o:=J (4,bJ [(b.1,b.2+2),(b.1+2,b.2)])) (D1:=[o0,J<|.a8<|mt bs,J<|bQ ps,J<|.im<|aI b,J .fH]) rfl k rfl
  ·exact⟨[J (.im<|aI o),J<|.a8<|mt bs,J<|.im<|aI b],[J (.im<|aI o),J<|.a8<|mt bs,J<|.im<|aI b],rfl,fu<|bL rfl rfl rfl rfl<|Jh bs o,λ_=>rfl,λ_=>⟨[J (.im<|aI o),J<|.a8<|mt bs,J<|.im<|aI b],zt (cB rfl<|cB rfl rfl) rfl (nu rfl) rfl,rfl⟩⟩
 have bW:=zD bs b;have hm:sl (bQ ps) [bQ (hc bs b)]=J (.im .bu,bQ<|ps++hc bs b):=by
  show (if _ then _ else _)=_;rw[aV (by rw[b3,b3];lia),<-jl]
 unfold zY;exact dx (D1:=[o0,J<|.a8<|mt bs,J<|bQ ps,J<|.im<|aI b,J<|bJ [(b.1,b.2+2),(b.1+2,b.2)]]) (ik (Dm (cB (bh<|zt (cB (bh<|bL rfl rfl rfl rfl x0)<|cB (bh<|bL (bh<|bL rfl rfl rfl rfl h8) rfl rfl rfl rfl) rfl) rfl (nu rfl) rfl)<|cB (bh<|zt (cB (bh<|bL (bh<|bL rfl rfl rfl rfl x0) rfl rfl rfl rfl)<|cB (bh<|bL rfl rfl rfl rfl h8) rfl) rfl (nu rfl) rfl) rfl) rfl (nu rfl) rfl) (jF rfl) rfl) (wI<|uu rfl rfl (cB (bh di) rfl) rfl rfl hm rfl)
theorem Rz{bs:List a7}{o0:Option aC}:∀(todo:List a7) (ps:List cD) (o3 o4:Option aC),ps.length+2*todo.length<=1000->∃ck b4,fZ (b_ 3) zY (todo.map aI) [o0,J<|.a8<|mt bs,J<|bQ ps,o3,o4]=J (.bC,[o0,J<|.a8<|mt bs,J<|bQ<|ps++todo.flatMap (hc bs),ck,b4])
 |[],ps,o3,o4,_=>⟨o3,o4,by rw[KA,c5];rfl⟩
 |b::todo,ps,o3,o4,aF=>by
  rw[eS]at aF;have bW:=zD bs b;obtain⟨ck,b4,bS⟩:=Rz (bs:=bs) (o0:=o0) todo (ps++hc bs b) (J<|.im<|aI b) (J<|bJ [(b.1,b.2+2),(b.1+2,b.2)]) (by rw[eZ];lia);refine⟨ck,b4,?_⟩;rw[dQ,fZ];show (zY [o0,J<|.a8<|mt bs,J<|bQ ps,J<|.im<|aI b,o4]).bind _=_;rw[ada (by lia),xC,<-bY];exact bS
theorem RA(B:lH bs):uL [bD bs]=J (bQ<|eY bs,[bD bs]):=by
 have aF:=B.len;obtain⟨ck,b4,lp⟩:=Rz (bs:=bs) (o0:=J (bD bs)) bs [] aa aa (by simp;lia);rw[qn]at lp;unfold uL v4;exact hH (D:=[J (bD bs),J<|.a8<|mt bs,J .fH,ck,b4]) rfl (dx (D1:=[J (bD bs),J<|.a8<|mt bs,aa,aa,aa]) (ik (fb (os:=[.bK 0]) rfl rfl rfl (Ro B.au (by lia)) rfl) (jF rfl) rfl)<|dx (D1:=[J (bD bs),J<|.a8<|mt bs,J<|bQ [],aa,aa]) rfl<|dx (p8 (o:=aa) rfl lp rfl)<|bn rfl) rfl
theorem adb{d:a7}(h:c∈bs):mn (d0 bs q) (ft c) (aI d)=d0 bs (λb=>if b=c then d else q b):=by
 have az:((d0 bs q).any λdZ=>decide (dZ.1=ft c))=af:=u_.mpr ⟨(ft c,aI<|q c),e0.mpr ⟨c,h,rfl⟩,eL rfl⟩;unfold mn;rw[aV az];unfold d0;rw[lP];refine xB λb _=>?_;show (if ft b=ft c then (ft b,aI d) else (ft b,aI<|q b))=(ft b,aI<|if b=c then d else q b);by_cases z:b=c
 ·rw[aV (congrArg ft z),aV z]
 ·rw[aZ λw=>z<|zl w,aZ z]
theorem adc{p:a7->a7}(h:∀b∈bs,p b=q b):d0 bs p=d0 bs q:=xB λb ae=>by rw[h b ae]
theorem D_{c d:Prop}[Decidable c][Decidable d]{a b:α}(h:c↔d):(if c then a else b)=if d then a else b:=by
 by_cases z:c
 ·rw[aV z,aV<|h.mp z]
 ·rw[aZ z,aZ λw=>z<|h.mpr w]
noncomputable def n4(v u:a7)(q:a7->a7)(c:a7):a7->a7:=λb=>if b=c/\q c=v then u else q b
theorem RB{v u:a7}(ne:u≠v):∀(todo:List a7) (q:a7->a7) (b:a7),todo.foldl (n4 v u) q b=if b∈todo/\q b=v then u else q b
 |[],q,b=>by rw[aZ λz=>nomatch z.1];rfl
 |c::todo,q,b=>by
  rw[qm,RB ne todo];by_cases z:b=c
  ·subst z;by_cases w:q b=v
   ·have e:n4 v u q b b=u:=aV ⟨rfl,w⟩;rw[e,aZ λy=>ne y.2,aV ⟨.head _,w⟩]
   ·have e:n4 v u q b b=q b:=aZ λy=>w y.2;rw[e,aZ λy=>w y.2,aZ λy=>w y.2]
  ·have e:n4 v u q c b=q b:=aZ λy=>z y.1;rw[e];refine D_ ?_;rw[cK];exact⟨λy=>⟨.inr y.1,y.2⟩,λy=>⟨y.1.resolve_left z,y.2⟩⟩
theorem ade{d:a7}(h:c∈bs)(aF:bs.length<=1000):kH (.a8<|d0 bs q) (.im<|aI c) (.im<|aI d)=J (.a8<|d0 bs<|λb=>if b=c then d else q b):=by
 rw[<-adb h];exact aV ⟨rfl,by unfold d0;rw[b3];lia⟩
theorem adf{u v:a7}(h:c∈bs)(aF:bs.length<=1000):z0 [o0,o1,J<|.a8<|d0 bs q,J<|.im<|aI c,o4,o5,J<|.im<|aI u,J<|.im<|aI v]=J (.bC,[o0,o1,J<|.a8<|d0 bs<|n4 v u q c,J<|.im<|aI c,o4,o5,J<|.im<|aI u,J<|.im<|aI v]):=by
 have t:b9 (aT vEq (ai<|aT bX (ax 2)<|ax 3)<|ax 7) [o0,o1,J<|.a8<|d0 bs q,J<|.im<|aI c,o4,o5,J<|.im<|aI u,J<|.im<|aI v]=J (decide (q c=v),[o0,o1,J<|.a8<|d0 bs q,J<|.im<|aI c,o4,o5,J<|.im<|aI u,J<|.im<|aI v]):=fu (bL (bh<|bL rfl rfl rfl rfl<|Jc q h) rfl rfl rfl<|Jb _ _);unfold z0;by_cases z:q c=v
 ·rw[eL z]at t;have e:n4 v u q c=λb=>if b=c then u else q b:=funext λb=>by
   unfold n4;exact D_ ⟨λy=>y.1,λy=>⟨y,z⟩⟩
  rw[e];refine uv t (o9 rfl ?_);show (kH (.a8<|d0 bs q) (.im<|aI c)<|.im<|aI u).map _=_;rw[ade h aF];rfl
 ·rw[bi z]at t;have e:n4 v u q c=q:=funext λb=>by
   unfold n4;exact aZ λy=>z y.2
  rw[e];exact ci t rfl
theorem wP{bs:List a7}{u v:a7}{o0 o1 o4 o5:Option aC}(aF:bs.length<=1000):∀(todo:List a7) (q:a7->a7) (o3:Option aC),(∀c∈todo,c∈bs)->∃ck,fZ (b_ 3) z0 (todo.map aI) [o0,o1,J<|.a8<|d0 bs q,o3,o4,o5,J<|.im<|aI u,J<|.im<|aI v]=J (.bC,[o0,o1,J<|.a8<|d0 bs<|todo.foldl (n4 v u) q,ck,o4,o5,J<|.im<|aI u,J<|.im<|aI v])
 |[],q,o3,_=>⟨o3,rfl⟩
 |c::todo,q,o3,h=>by
  obtain⟨ck,bS⟩:=wP (bs:=bs) (u:=u) (v:=v) (o0:=o0) (o1:=o1) (o4:=o4) (o5:=o5) aF todo (n4 v u q c) (J<|.im<|aI c) λx ag=>h x (.tail _ ag);refine⟨ck,?_⟩;rw[dQ,fZ];show (z0 [o0,o1,J<|.a8<|d0 bs q,J<|.im<|aI c,o4,o5,J<|.im<|aI u,J<|.im<|aI v]).bind _=_;rw[adf (h c<|.head _) aF];exact bS
theorem adg{s:(a7->a7)×List cD}{e:cD}{o6 o7:Option aC}(aF:bs.length<=1000)(cE:s.2.length<=1000)(O:e.1∈bs)(U:e.2∈bs):∃ck sz sA,z1 [J (bD bs),o1,J<|.a8<|d0 bs s.1,o3,J<|bQ s.2,J<|.im<|bg e,o6,o7]=J (.bC,[J (bD bs),o1,J<|.a8<|d0 bs (b6 s e).1,ck,J<|bQ (b6 s e).2,J<|.im<|bg e,sz,sA]):=by
 obtain⟨p,dB⟩:=s;have x0:bX (.im<|bg e) (a5 0)=J (.im<|aI e.1):=rfl;have h8:bX (.im<|bg e) (a5 1)=J (.im<|aI e.2):=rfl;have s1:dI 6 (aT bX (ax 2)<|ai<|aT bX (ax 5)<|ai<|aN<|.int 0) [J (bD bs),o1,J<|.a8<|d0 bs p,o3,J<|bQ dB,J<|.im<|bg e,o6,o7]=J (.bC,[J (bD bs),o1,J<|.a8<|d0 bs p,o3,J<|bQ dB,J<|.im<|bg e,J<|.im<|aI<|p e.1,o7]):=ik (bL rfl (bh<|bL rfl rfl rfl rfl x0) rfl rfl<|Jc p O) (jF rfl) rfl;have s2:dI 7 (aT bX (ax 2)<|ai<|aT bX (ax 5)<|ai<|aN<|.int 1) [J (bD bs),o1,J<|.a8<|d0 bs p,o3,J<|bQ dB,J<|.im<|bg e,J<|.im<|aI<|p e.1,o7]=J (.bC,[J (bD bs),o1,J<|.a8<|d0 bs p,o3,J<|bQ dB,J<|.im<|bg e,J<|.im<|aI<|p e.1,J<|.im<|aI<|p e.2]):=ik (bL rfl (bh<|bL rfl rfl rfl rfl h8) rfl rfl<|Jc p U) (jF rfl) rfl;have t:b9 (aT lE (ax 6)<|ax 7) [J (bD bs),o1,J<|.a8<|d0 bs p,o3,J<|bQ dB,J<|.im<|bg e,J<|.im<|aI<|p e.1,J<|.im<|aI<|p e.2]=J (!decide (p e.1=p e.2),[J (bD bs),o1,J<|.a8<|d0 bs p,o3,J<|bQ dB,J<|.im<|bg e,J<|.im<|aI<|p e.1,J<|.im<|aI<|p e.2]):=fu (bL rfl rfl rfl rfl<|acP _ _);unfold z1;by_cases z:p e.1=p e.2
 ·rw[eL z]at t;rw[show b6 (p,dB) e=(p,dB) from aV z];exact⟨_,_,_,dx s1<|dx s2<|ci t rfl⟩
 ·rw[bi z]at t;rw[show b6 (p,dB) e=(kJ p e,dB++[e]) from aZ z];obtain⟨ck,lp⟩:=wP (bs:=bs) (u:=p e.1) (v:=p e.2) (o0:=J (bD bs)) (o1:=o1) (o4:=J (bQ<|dB++[e])) (o5:=J (.im<|bg e)) aF bs p o3 λ_ z=>z;have v7:d0 bs (bs.foldl (n4 (p e.2)<|p e.1) p)=d0 bs (kJ p e):=adc λb ae=>by
   rw[RB z];exact D_ ⟨λy=>y.2,λy=>⟨ae,y⟩⟩
  rw[v7]at lp;have hm:oR (bQ dB) [.im (bg e)]=J (.im .bu,bQ<|dB++[e]):=by
   have:oR (bQ dB) [.im (bg e)]=J (.im .bu,.lst<|dB.map bg++[bg e]):=Ig (by rw[b3];dsimp only at cE;lia);rw[this];simp
  exact⟨_,_,_,dx s1<|dx s2<|uv t<|dx (wI<|uu rfl rfl (cB rfl rfl) rfl rfl hm rfl)<|p8 (o:=aa) rfl lp rfl⟩
theorem RC{bs:List a7}{o1:Option aC}(aF:bs.length<=1000):∀(es:List cD) (s:(a7->a7)×List cD) (o3 o5 o6 o7:Option aC),s.2.length+es.length<=1000->(∀e∈es,e.1∈bs/\e.2∈bs)->∃ck p9 sz sA,fZ (b_ 5) z1 (es.map bg) [J (bD bs),o1,J<|.a8<|d0 bs s.1,o3,J<|bQ s.2,o5,o6,o7]=J (.bC,[J (bD bs),o1,J<|.a8<|d0 bs (g6 es s).1,ck,J<|bQ (g6 es s).2,p9,sz,sA])
 |[],s,o3,o5,o6,o7,_,_=>⟨o3,o5,o6,o7,rfl⟩
 |e::es,s,o3,o5,o6,o7,aq,h=>by
  rw[eS]at aq;obtain⟨pM,Cc,Cd,st⟩:=adg (o1:=o1) (o3:=o3) (o6:=o6) (o7:=o7) (s:=s) aF (by lia) (h e<|.head _).1 (h e<|.head _).2;have ls:(b6 s e).2.length<=s.2.length+1:=by
   unfold b6;split
   ·lia
   ·rw[eZ];exact cp _
  obtain⟨ck,p9,sz,sA,bS⟩:=RC (bs:=bs) (o1:=o1) aF es (b6 s e) pM (J<|.im<|bg e) Cc Cd (by lia) λx ag=>h x (.tail _ ag);refine⟨ck,p9,sz,sA,?_⟩;rw[dQ,fZ];show (z1 [J (bD bs),o1,J<|.a8<|d0 bs s.1,o3,J<|bQ s.2,J<|.im<|bg e,o6,o7]).bind _=_;rw[st];exact bS
theorem RD{bs:List a7}{o0 o1:Option aC}(aF:bs.length<=1000):∀(todo done:List a7) (o3:Option aC),(done++todo)=bs->bs.Nodup->∃ck,fZ (b_ 3) zZ (todo.map aI) [o0,o1,J<|.a8<|d0 done λb=>b,o3,aa,aa,aa,aa]=J (.bC,[o0,o1,J<|.a8<|d0 bs λb=>b,ck,aa,aa,aa,aa])
 |[],done,o3,e,_=>⟨o3,by rw[c5]at e;rw[e];rfl⟩
 |c::todo,done,o3,e,au=>by
  have av:c∉done:=λz=>by
   rw[<-e]at au;exact (eA.mp au).2.2 c z c (.head _) rfl
  obtain⟨ck,bS⟩:=RD (bs:=bs) (o0:=o0) (o1:=o1) aF todo (done++[c]) (J<|.im<|aI c) (by rw[bY];exact e) au;refine⟨ck,?_⟩;have ld:done.length<=bs.length:=by rw[<-e,eZ];lia
  have aE:kH (.a8<|d0 done λb=>b) (.im<|aI c) (.im<|aI c)=J (.a8<|d0 (done++[c]) λb=>b):=by
   have:mn (d0 done λb=>b) (ft c) (aI c)=d0 (done++[c]) λb=>b:=by
    unfold mn;rw[aZ λz=>by
     obtain⟨q,bk,h⟩:=u_.mp z;obtain⟨b,ae,rfl⟩:=e0.mp bk;exact av (zl (gg h) ▸ ae)]
    unfold d0;rw[jl];rfl
   rw[<-this];exact aV ⟨rfl,by unfold d0;rw[b3];lia⟩
  have st:zZ [o0,o1,J<|.a8<|d0 done λb=>b,J<|.im<|aI c,aa,aa,aa,aa]=J (.bC,[o0,o1,J<|.a8<|d0 (done++[c]) λb=>b,J<|.im<|aI c,aa,aa,aa,aa]):=by
   unfold zZ;refine o9 rfl ?_;show (kH (.a8<|d0 done λb=>b) (.im<|aI c)<|.im<|aI c).map _=_;rw[aE];rfl
  rw[dQ,fZ];show (zZ [o0,o1,J<|.a8<|d0 done λb=>b,J<|.im<|aI c,aa,aa,aa,aa]).bind _=_;rw[st];exact bS
theorem adh(au:bs.Nodup)(aF:bs.length<=1000)(aq:es.length<=1000)(h:∀e∈es,e.1∈bs/\e.2∈bs)(bb:ij [bQ (g6 es (λb=>b,[])).2]=J (bQ ms)):z2 [bD bs,bQ es]=J (.im<|.tup<|ms.map bg,[bD bs,bQ es]):=by
 obtain⟨ck,g⟩:=RD (bs:=bs) (o0:=J (bD bs)) (o1:=J (bQ es)) aF bs [] aa rfl au;obtain⟨ed,kr,iW,gY,l⟩:=RC (bs:=bs) (o1:=J .fH) aF es (λb=>b,[]) ck aa aa aa (by show 0+_<=_;lia) h;unfold z2 Ra;exact hH (D:=[J (bD bs),J<|bQ es,J<|.a8<|d0 bs (g6 es (λb=>b,[])).1,ed,J<|bQ (g6 es (λb=>b,[])).2,kr,iW,gY]) rfl (dx (D1:=[J (bD bs),J<|bQ es,J<|.a8<|d0 [] λb=>b,aa,aa,aa,aa,aa]) rfl (dx (p8 (o:=aa) rfl g rfl)<|dx (D1:=[J (bD bs),J<|bQ es,J<|.a8<|d0 bs λb=>b,ck,J<|bQ [],aa,aa,aa]) rfl<|dx (p8 (o:=J (1,bQ es)) (D1:=[J (bD bs),J .fH,J<|.a8<|d0 bs λb=>b,ck,J<|bQ [],aa,aa,aa]) rfl l rfl)<|bn<|wN<|e_ (cB rfl rfl) rfl bb) ) rfl
theorem wS{kept:List cD}(B:lH bs)(aY:∀e∈kept,zw bs e)(aF:kept.length<=100)(bb:ij [bQ (g6 (kept++eY bs) (λb=>b,[])).2]=J (bQ ms)):sE [bD bs,.im<|.tup<|kept.map bg]=J (.im<|.tup<|ms.map bg,[bD bs,.im<|.tup<|kept.map bg]):=by
 have aR:=B.len;have bW:=Dv bs bs;have adi:(eY bs).length<=2*bs.length:=bW;have he:∀e∈kept++eY bs,e.1∈bs/\e.2∈bs:=λe h=>by
  rcases e3.mp h with z|z
  ·exact⟨(aY e z).1,(aY e z).2.1⟩
  ·exact⟨(p'.mp z).1,(p'.mp z).2.1⟩
 have j:=adh B.au (by lia) (by rw[eZ];lia) he bb;have ad:eK (bQ kept) (bQ<|eY bs)=J (bQ<|kept++eY bs):=by
  rw[show bQ (kept++eY bs)=.lst (kept.map bg++(eY bs).map bg) by rw[bQ,jl]];exact aV (by rw[b3,b3];lia)
 unfold sE Rb;exact hH (D:=[J (bD bs),J<|.im<|.tup<|kept.map bg]) rfl (bn<|fb (os:=[.bK 0,.dE<|bQ<|kept++eY bs]) (cB rfl<|cB (bh<|bL (bh<|e_ (cB rfl rfl) rfl rfl) (bh<|fb (os:=[.bK 0]) rfl rfl rfl (RA B) rfl) rfl rfl ad) rfl) rfl rfl j rfl) rfl
inductive gu (cs:List dj) (s:dj):dj->Prop
 | self:gu cs s s
 | step {a b:dj}:gu cs s a->b∈cs->xd a b=af->gu cs s b
theorem adj(ks:List dj)(c:dj):oY (.im<|aI c) (.a8<|mt ks)=J (ej<|!decide (c∈ks)):=by
 have:=Jh ks c;show (jd (aI c)<|.a8<|mt ks).map (λr=>aC.im<|.aR<|!r)=_;have U:(jd (aI c)<|.a8<|mt ks).map (λr=>aC.im<|.aR r)=J (ej<|decide (c∈ks)):=this;obtain⟨r,ay,aG⟩:=dK.mp U;rw[ay];cases aG;rfl
theorem Ea{α:Type}[DecidableEq α]:∀{l m:List α},l.Nodup->(∀x∈l,x∈m)->l.length<=m.length
 |[],_,_,_=>lR _
 |x::l,m,au,h=>by
  have bC:=lO.mp au;have:=Ea (m:=m.erase x) bC.2 λy aw=>(Kt (λe=>bC.1 (by rw[<-e];exact aw))).mpr (h y<|.tail _ aw);have e:=Kp (h x<|.head _);have p:=Kq (h x<|.head _);rw[eS];lia
noncomputable def fv(cs:List dj)(p:List dj×List dj)(c:dj):List dj×List dj:=if c∈cs/\c∉p.1 then (p.1++[c],p.2++[c]) else p
noncomputable abbrev ke(o1:Option aC)(cs:List dj)(p:List dj×List dj)(o4:Option aC):bq:=[J (.a8<|mt cs),o1,J<|.a8<|mt p.1,J<|bJ p.2,o4]
theorem adk{c:dj}(O:p.1.length<10000)(U:p.2.length<10000):kw (ke o1 cs p<|J<|.im<|aI c)=J (.bC,ke o1 cs (fv cs p c)<|J<|.im<|aI c):=by
 have k1:b9 (aT oX (ax 4)<|ax 0) (ke o1 cs p<|J<|.im<|aI c)=J (decide (c∈cs),ke o1 cs p<|J<|.im<|aI c):=fu (bL rfl rfl rfl rfl<|Jh cs c);have k2:b9 (aT oY (ax 4)<|ax 2) (ke o1 cs p<|J<|.im<|aI c)=J (!decide (c∈p.1),ke o1 cs p<|J<|.im<|aI c):=fu (bL rfl rfl rfl rfl<|adj p.1 c);unfold kw fv;by_cases a:c∈cs
 ·rw[eL a]at k1;by_cases b:c∈p.1
  ·rw[eL b]at k2;rw[aZ λz=>z.2 b];exact ci (nZ k1 k2) rfl
  ·rw[bi b]at k2;rw[aV ⟨a,b⟩];have aE:kH (.a8<|mt p.1) (.im<|.tup<|ft c) (ej af)=J (.a8<|mt<|p.1++[c]):=by
    have e:iG p.1 c=p.1++[c]:=by unfold iG;rw[aZ b]
    rw[<-e,<-Rm];exact aV ⟨rfl,by unfold mt;rw[b3];lia⟩
   refine uv (nZ k1 k2) (dx (D1:=[J (.a8<|mt cs),o1,J<|.a8<|mt<|p.1++[c],J<|bJ p.2,J<|.im<|aI c]) ?_ ?_)
   ·refine o9 rfl ?_;show (kH (.a8<|mt p.1) (.im<|.tup<|ft c)<|ej af).map _=_;rw[aE];rfl
   ·refine wI (uu rfl rfl (cB rfl rfl) rfl rfl (Ig (by rw[b3];lia)) ?_);show _=[J (.a8<|mt cs),o1,J<|.a8<|mt<|p.1++[c],J<|bJ<|p.2++[c],J<|.im<|aI c];unfold bJ;rw[jl];rfl
 ·rw[bi a]at k1;rw[aZ λz=>a z.1];exact ci (zu k1) rfl
theorem adl(cs:List dj)(p:List dj×List dj)(c:dj):(fv cs p c).1.length<=p.1.length+1/\(fv cs p c).2.length<=p.2.length+1:=by
 unfold fv;split
 ·rw[eZ,eZ];exact⟨cp _,cp _⟩
 ·exact⟨by lia,by lia⟩
theorem wT{o1:Option aC}{cs:List dj}:∀(xs:List dj) (p:List dj×List dj) (o4:Option aC),p.1.length+xs.length<10000->p.2.length+xs.length<10000->∃rk,fZ (b_ 4) kw (xs.map aI) (ke o1 cs p o4)=J (.bC,ke o1 cs (xs.foldl (fv cs) p) rk)
 |[],p,o4,_,_=>⟨o4,rfl⟩
 |c::xs,p,o4,O,U=>by
  rw[eS]at O U;have l:=adl cs p c;obtain⟨rk,bS⟩:=wT (o1:=o1) xs (fv cs p c) (J<|.im<|aI c) (by lia) (by lia);refine⟨rk,?_⟩;rw[dQ,fZ];show (kw<|ke o1 cs p<|J<|.im<|aI c).bind _=_;rw[adk (by lia) (by lia)];exact bS
structure sG(cs:List dj)(s:dj)(p:List dj×List dj):Prop where
 au:p.1.Nodup
 Jp:s∈p.1
 con:∀x∈p.1,gu cs s x
 sub:∀x∈p.1,x=s\/x∈cs
 Jq:∀x∈p.2,x∈p.1
theorem sG.step(P:sG cs s p)(ag:x∈p.1){c:dj}(av:c∈nr x):sG cs s (fv cs p c):=by
 unfold fv;split
 ·rename_i h;refine⟨?_,fD _ P.Jp,λy aw=>?_,λy aw=>?_,λy aw=>?_⟩
  ·rw[eA];exact⟨P.au,h4 _ _,λa az b ae e=>h.2 (by rw[<-c2.mp ae,<-e];exact az)⟩
  ·rcases e3.mp aw with z|z
   ·exact P.con y z
   ·rw[c2.mp z];exact .step (P.con x ag) h.1 (Rx.mpr av)
  ·rcases e3.mp aw with z|z
   ·exact P.sub y z
   ·rw[c2.mp z];exact .inr h.1
  ·rcases e3.mp aw with z|z
   ·exact fD _ (P.Jq y z)
   ·exact fR _ z
 ·exact P
theorem adm{c y:dj}:(y∈p.1->y∈(fv cs p c).1)/\(y∈p.2->y∈(fv cs p c).2)/\(y∈(fv cs p c).1->y∈p.1\/y∈(fv cs p c).2)/\(c∈cs->c∈(fv cs p c).1):=by
 unfold fv;split
 ·rename_i h;refine⟨λz=>fD _ z,λz=>fD _ z,λz=>?_,λ_=>fR _<|.head _⟩;rcases e3.mp z with z|z
  ·exact .inl z
  ·exact .inr (fR _ z)
 ·rename_i h;refine⟨λz=>z,λz=>z,.inl,λz=>?_⟩;by_cases q:c∈p.1
  ·exact q
  ·exact absurd ⟨z,q⟩ h
theorem RE{cs:List dj}{s x:dj}:∀(xs:List dj) (p:List dj×List dj),(∀c∈xs,c∈nr x)->x∈p.1->sG cs s p->sG cs s (xs.foldl (fv cs) p)/\(∀y,y∈p.1->y∈(xs.foldl (fv cs) p).1)/\(∀y,y∈p.2->y∈(xs.foldl (fv cs) p).2)/\(∀y,y∈(xs.foldl (fv cs) p).1->y∈p.1\/y∈(xs.foldl (fv cs) p).2)/\(∀c∈xs,c∈cs->c∈(xs.foldl (fv cs) p).1)/\(xs.foldl (fv cs) p).1.length+p.2.length=(xs.foldl (fv cs) p).2.length+p.1.length
 |[],p,_,_,P=>⟨P,λ_ h=>h,λ_ h=>h,λ_ h=>.inl h,λc h=>(by cases h),A5 _ _⟩
 |c::xs,p,az,ag,P=>by
  have m:=λy=>adm (cs:=cs) (p:=p) (c:=c) (y:=y);obtain⟨d2,e8,Eb,Jr,Js,RF⟩:=RE xs (fv cs p c) (λd hd=>az d<|.tail _ hd) ((m x).1 ag) (P.step ag<|az c<|.head _);refine⟨d2,λy h=>e8 y<|(m y).1 h,λy h=>Eb y<|(m y).2.1 h,λy h=>?_,λd hd h=>?_,?_⟩
  ·rcases Jr y h with z|z
   ·rcases (m y).2.2.1 z with w|w
    ·exact .inl w
    ·exact .inr (Eb y w)
   ·exact .inr z
  ·rcases cK.mp hd with rfl|hd
   ·exact e8 d ((m d).2.2.2 h)
   ·exact Js d hd h
  ·have e:(fv cs p c).1.length+p.2.length=(fv cs p c).2.length+p.1.length:=by
    unfold fv;split
    ·rw[eZ,eZ,qk];lia
    ·exact A5 _ _
   show (xs.foldl (fv cs)<|fv cs p c).1.length+p.2.length=(xs.foldl (fv cs)<|fv cs p c).2.length+p.1.length;lia
structure sH(cs:List dj)(s:dj)(p:List dj×List dj):Prop where
 i:sG cs s p
 done:∀a∈p.1,a∉p.2->∀b∈cs,xd a b=af->b∈p.1
theorem sG.len(P:sG cs s p):p.1.length<=cs.length+1:=
 Ea (m:=s::cs) P.au λx ag=>by
  rcases P.sub x ag with h|h
  ·rw[h];exact .head _
  ·exact .tail _ h
theorem sH.next(P:sH cs s (f,w++[x])):sH cs s ((nr x).foldl (fv cs) (f,w))/\((nr x).foldl (fv cs) (f,w)).1.length+w.length=((nr x).foldl (fv cs) (f,w)).2.length+f.length:=by
 have ag:x∈f:=P.i.Jq x (fR _<|.head _);obtain⟨d2,e8,Eb,Jr,Js,RF⟩:=RE (cs:=cs) (s:=s) (nr x) (f,w) (λ_ h=>h) ag ⟨P.i.au,P.i.Jp,P.i.con,P.i.sub,λy aw=>P.i.Jq y<|fD _ aw⟩;refine⟨⟨d2,λa az na b ae e=>?_⟩,RF⟩;have adn:a∈f:=(Jr a az).resolve_right na;by_cases RG:a=x
 ·subst RG;exact Js b (Rx.mp e) ae
 ·refine e8 b (P.done a adn (λz=>?_) b ae e);rcases e3.mp z with z|z
  ·exact na (Eb a z)
  ·exact RG (c2.mp z)
theorem sH.fin(P:sH cs s (f,[]))(x:dj):x∈f↔gu cs s x:=by
 refine⟨P.i.con x,λh=>?_⟩;induction h with
 |self=>exact P.i.Jp
 |step _ ae e bS=>exact P.done _ bS (λz=>by cases z) _ ae e
theorem EQ{s x:dj}(O:f.length<5000)(U:w.length<5000):∃rk,D3 (ke o1 cs (f,w++[x]) o4)=J (.bC,ke o1 cs ((nr x).foldl (fv cs) (f,w)) rk):=by
 obtain⟨rk,lp⟩:=wT (o1:=o1) (cs:=cs) (nr x) (f,w) o4 (by show _+4<_;lia) (by show _+4<_;lia);refine⟨rk,?_⟩;unfold D3;refine p8 (o:=aa) (D1:=ke o1 cs (f,w) o4) (ac9 (d:=bJ (nr x)) (fb (cB (bh<|uu (c:=bJ (w++[x])) (c':=bJ w) rfl rfl rfl rfl rfl ?_ rfl) rfl) rfl rfl (acV x) rfl) rfl) lp rfl;show (((w++[x]).map aI).getLast?).map (λd=>(aC.im d,aC.lst ((w++[x]).map aI).dropLast))=J (.im<|aI x,bJ w);rw[jl,List.map_singleton,List.getLast?_concat,List.dropLast_concat];rfl
theorem ado(aF:cs.length<=900):∃pt,uJ [.a8 (mt cs),.im<|aI s]=J (bD pt,[.a8 (mt cs),.im<|aI s])/\k' pt/\(∀x,x∈pt↔gu cs s x):=by
 have adp:sH cs s ([s],[s]):=⟨⟨h4 _ _,.head _,λx ag=>by rw[c2.mp ag];exact .self,λx ag=>.inl<|c2.mp ag,λx ag=>ag⟩,λa az na=>absurd az na⟩;obtain⟨D',ee,f,o4,rfl,P⟩:=OK (c:=Q6) (b:=D3) (λm D=>∃f w o4,D=ke (J<|.im<|aI s) cs (f,w) o4/\sH cs s (f,w)/\w.length<=f.length/\m+f.length=cs.length+1+w.length) (λD=>∃f o4,D=ke (J<|.im<|aI s) cs (f,[]) o4/\sH cs s (f,[])) (λm D ⟨f,w,o4,e,P,lw,em⟩=>by
  subst e;have bf:=P.i.len;rcases List.eq_nil_or_concat w with rfl|⟨w,x,rfl⟩
  ·exact⟨aD,_,kb rfl rfl rfl,λh=>(by cases h),λ_=>⟨f,o4,rfl,P⟩⟩
  ·rw[List.concat_eq_append] at *;refine⟨af,_,kb (d:=bJ (w++[x])) rfl rfl ?_,λ_=>?_,λh=>by cases h⟩
   ·show J (!((w++[x]).map aI).isEmpty)=J af;rw[jl,List.isEmpty_eq_false_iff.mpr (by simp)];rfl
   ·rw[eZ,qk]at lw em;obtain⟨rk,fj⟩:=EQ (cs:=cs) (s:=s) (x:=x) (f:=f) (w:=w) (o1:=J (.im<|aI s)) (o4:=o4) (by show _<_;dsimp only at bf;lia) (by dsimp only at bf;lia);obtain⟨N,nl⟩:=P.next;have ct:=N.i.len;generalize (nr x).foldl (fv cs) (f,w)=p at fj N nl ct;obtain⟨dF,bI⟩:=p;dsimp only at bf ct nl;exact⟨.bC,_,fj,.inl rfl,m-1,by omega,dF,bI,rk,rfl,N,by omega,by omega⟩) 1000000 (cs.length+1) (ke (J<|.im<|aI s) cs ([s],[s]) aa) ⟨[s],[s],aa,rfl,adp,cp _,by show _=cs.length+1+1;rfl⟩ (by lia)
 have RH:=P.i.au;have lp:=P.i.len;obtain⟨pt,s1,s2,s3⟩:=acU RH (by dsimp only at lp ⊢;lia);refine⟨pt,?_,s3,λx=>s2.mem_iff.trans<|P.fin x⟩;have aq:ij [.a8 (mt f)]=J (bJ pt):=by
  show kI ((mt f).map λp=>.tup p.1)=_;have e:((mt f).map λp=>ah.tup p.1)=f.map aI:=by unfold mt;rw[lP];rfl
  rw[e];unfold kI;rw[aV (sx.mpr (H_ RH (by dsimp only at lp ⊢;lia))),s1]
 unfold uJ Q7;refine hH (D:=ke (J<|.im<|aI s) cs (f,[]) o4) rfl (dx (D1:=[J (.a8<|mt cs),J<|.im<|aI s,J<|.a8<|mt [s],aa,aa]) rfl<|dx (D1:=ke (J<|.im<|aI s) cs ([s],[s]) aa) rfl<|dx ee ?_) rfl;exact (bn<|e_ (cB (bh<|e_ (cB rfl rfl) rfl aq) rfl) rfl rfl)
theorem RI(i:Int):z5 (.int i):=λa e=>by cases e
theorem adq(c:Int×Int):xc (aI c):=⟨(λa e=>by cases e),λes e y aw=>by
 cases e;rcases cK.mp aw with rfl|aw
 ·exact RI _
 ·rw[c2.mp aw];exact RI _⟩
theorem adr{cs:List (Int×Int)}{x:ah}(h:x∈cs.map aI):xc x:=by
 obtain⟨c,_,rfl⟩:=e0.mp h;exact adq c
theorem ads{ds:List ah}(h:∀x∈ds,xc x)(aF:ds.length<=290):D9 (.tup ds):=⟨(λa e=>by cases e),λes e=>by cases e;exact⟨aF,h⟩⟩
structure xf(cs:List dj):Prop where
 up:k' cs
 wO:∀c∈cs,0<=c.1/\c.1<=30/\0<=c.2/\c.2<=30
 len:cs.length<=200
theorem xf.vK(F:xf cs):D9 (.tup<|cs.map aI):=ads (λx ag=>adr ag) (by rw[b3];have:=F.len;lia)
theorem xf.is(F:xf cs):Jm (.tup<|cs.map aI)=af:=by
 show ((cs.map aI).all mB&&z7 (cs.map aI))=af;rw[Rw F.up,EX,mH];intro x ag;obtain⟨c,av,rfl⟩:=e0.mp ag;exact ac4 (F.wO c av)
theorem adt(a b:List dj):vEq (a5 ((a.map aI).length:Int)) (a5 ((b.map aI).length:Int))=J (ej<|decide (a.length=b.length)):=by
 rw[sy,b3,b3];have:decide ((a.length:Int)=(b.length:Int))=decide (a.length=b.length):=Fz.mpr ⟨λh=>by lia,λh=>by lia⟩;rw[this]
theorem adu(s:dj)(r:List dj):bX (bD (s::r)) (a5 0)=J (.im<|aI s):=by
 show (gZ ((s::r).map aI) 0).map aC.im=_;rw[HR (vg 0) (d:=aI s) rfl];rfl
theorem adv{f:ar}{r dF:List dj}(F:xf (s::r))(a9:uJ [.a8 (mt (s::r)),.im<|aI s]=J (bD dF,[.a8 (mt (s::r)),.im<|aI s])):uK f [bD (s::r)]=J (ej<|decide (dF.length=(s::r).length),[bD (s::r)]):=by
 have e:=ac8 (f:=f) F.vK;rw[F.is]at e;have bf:=F.len;have g:=Ro (cs:=s::r) (Jo F.up) (by lia);have ne:vEq (a5 (((s::r).map aI).length:Int)) (a5 0)=J (ej aD):=by
  rw[sy,bi (by rw[b3,eS];lia)]
 have k1:f5 (ai<|am 1 (G.w8 f)<|aB (ax 0) aW) [J (bD (s::r))]=J (af,[J (bD (s::r))]):=kb (bh<|fb (os:=[.bK 0]) (outs:=[bD (s::r)]) (r:=ej af) rfl rfl rfl e rfl) rfl rfl;have k2:b9 (aT vEq (ai<|cV f3<|aB (ax 0) aW)<|ai<|aN<|.int 0) [J (bD (s::r))]=J (aD,[J (bD (s::r))]):=fu (bL (bh<|e_ (cB rfl rfl) rfl rfl) rfl rfl rfl ne);have k3:am 2 G.uJ (aB (ai<|am 1 G.jj<|aB (ax 0) aW)<|aB (ai<|aT bX (ax 0)<|ai<|aN<|.int 0) aW) [J (bD (s::r))]=J (bD dF,[J (bD (s::r))]):=fb (os:=[.dE (.a8<|mt (s::r)),.dE<|.im<|aI s]) (cB (bh<|fb (os:=[.bK 0]) (outs:=[bD (s::r)]) rfl rfl rfl g rfl)<|cB (bh<|bL rfl rfl rfl rfl<|adu s r) rfl) rfl rfl a9 rfl;unfold uK Q8;exact hH (D:=[J (bD (s::r))]) rfl (dx (ci (nY (mv k1) k2) rfl)<|bn<|bL (bh<|e_ (cB (bh k3) rfl) rfl rfl) (bh<|e_ (cB rfl rfl) rfl rfl) rfl rfl<|adt dF (s::r)) rfl
theorem Jt(B:lH bs)(pm:fs.Perm (cells bs))(rs:gH fs):∃o,fs[0]?=J o/\o∈bs:=by
 cases fs with
 |nil=>
  have O:=pm.length_eq;rw[zx]at O;have:=AK.mpr B.ne;simp at O;lia
 |cons o r=>
  refine⟨o,rfl,?_⟩;obtain⟨b,ae,k,aY,e⟩:=PG.mp (pm.mem_iff.mp<|.head _);have nV:b∈o::r:=pm.mem_iff.mpr (PG.mpr ⟨b,ae,0,by decide,rfl⟩);by_cases z:b=o
  ·rw[<-z];exact ae
  ·have aO:b∈r:=(cK.mp nV).resolve_left z;unfold gH at rs;rw[dQ,kj]at rs;have lt:=Ik.mp (rs.1 _<|EH aO);have f:=Dp.mp (PF b aY);rw[<-e]at f;lia
theorem adw{b' ct:List a7}(O:b'.Pairwise z4)(U:ct.Pairwise z4)(p:b'.Perm ct):b'=ct:=Sg (le:=z4) (λa b _ _ x y=>by unfold z4 at x y;exact nx (by lia) (by lia)) O U p
structure j5(bs fs:List a7):Prop where
 B:lH bs
 Ju:gH bs
 pm:fs.Perm (cells bs)
 Jv:gH fs
theorem j5.len(F:j5 bs fs):fs.length=4*bs.length:=by rw[F.pm.length_eq,zx]
theorem j5.blocks(F:j5 bs fs):kP [bD fs]=J (bD bs,[bD fs]):=by
 obtain⟨o,aS,xg⟩:=Jt F.B F.pm F.Jv;have bf:=F.len;have aR:=F.B.len;have nH:=acW F.pm F.B.au (λb ae=>F.B.par b ae o xg);obtain⟨ms,e,p,r⟩:=acZ aS (by lia) (by rw[bf,nH.length_eq]);cases adw (Rk.mp r) (Rk.mp F.Ju) (p.trans nH);exact e
structure xh(bs:List a7)(T:List cD):Prop where
 sI:∀e∈T,zw bs e
 au:T.Nodup
 up:xe T
 len:T.length+1=bs.length
 sp:pp bs T
theorem RJ(F:j5 bs fs):∃T,lL [bD fs]=J (.im<|.tup<|T.map bg,[bD fs])/\xh bs T:=by
 have aR:=F.B.len;obtain⟨s1,s2,s3⟩:=Ch F.B;have au:(g6 (eY bs) (λb=>b,[])).2.Nodup:=(Im F.B.au).sublist s1;obtain⟨T,pm,bb,up⟩:=ac' au (by lia);have Jw:=wS (kept:=[]) F.B (λ_ z=>nomatch z) (by decide) bb;refine⟨T,?_,λe he=>p'.mp<|s1.subset<|pm.mem_iff.mp he,pm.nodup_iff.mpr au,up,by rw[pm.length_eq];exact s2,λq bk=>s3 q λe he=>bk e<|pm.mem_iff.mpr he⟩;unfold lL D5;exact hH (D:=[J (bD fs)]) rfl (bn<|fb (os:=[.dE (bD bs),.dE<|.im<|.tup []]) (cB (bh<|fb (os:=[.bK 0]) rfl rfl rfl F.blocks rfl)<|cB (bh rfl) rfl) rfl rfl Jw rfl) rfl
theorem adx(e:cD):w' [.im (bg e)]=J (ej af,[.im (bg e)]):=rfl
theorem RK:∀{l:List ah},l.Pairwise (λa b=>cJ a b=af)->((l.zip<|l.drop 1).all λp=>cJ p.1 p.2)=af
 |[],_=>rfl
 |[_],_=>rfl
 |a::b::r,h=>by
  show (cJ a b&&(((b::r).zip<|(b::r).drop 1).all λp=>cJ p.1 p.2))=af;obtain⟨O,U⟩:=kj.mp h;rw[O b (.head _),RK U];rfl
theorem ady{f:ar}(aF:T.length<=1000)(r:xe T):w_ f [.im (.tup<|T.map bg),.im<|.fn f]=J (ej af,[.im (.tup<|T.map bg),.im<|.fn f]):=by
 obtain⟨D,dV⟩:∃D:bq,D=[J (.im<|.tup<|T.map bg),J<|.im<|.fn f]:=⟨_,rfl⟩;have di:eJ 1 [1] (eQ<|ax 0) (b_ 0) gE (I5 f) D=J (.lst<|T.map λ_=>.aR af,D):=by
  rw[dV];refine nX (xs:=T.map bg) (o:=aa) (D1:=[J (.im<|.tup<|T.map bg),J<|.im<|.fn f]) rfl (oW bg (λ_=>.aR af) _ (λx ag=>?_) (by lia)) rfl;refine⟨[J (.im<|bg x),J<|.im<|.fn f],_,[J (.im<|bg x),J<|.im<|.fn f],rfl,rfl,?_,rfl⟩;unfold I5;show (if f=f then _ else _)=_;rw[aV rfl];exact fb (os:=[.bK 0]) rfl rfl rfl (adx x) rfl
 have gA:eJ 2 [] (p4<|aB (ax 0)<|aB (ai<|nc (ax 0) (oP<|aN<|.int 1) nQ) aW) (hF 2<|ew (b_ 0)<|ew (b_ 1) hZ) gE (Q9 f) D=J (.lst<|((T.map bg).zip<|(T.map bg).drop 1).map λp=>.aR<|cJ p.1 p.2,D):=by
  rw[dV];refine nX (xs:=((T.map bg).zip<|(T.map bg).drop 1).map λp=>.tup [p.1,p.2]) (o:=aa) (D1:=[J (.im<|.tup<|T.map bg),J<|.im<|.fn f]) ?_ (oW (λp:ah×ah=>.tup [p.1,p.2]) (λp=>.aR<|cJ p.1 p.2) _ (λp aE=>?_) ?_) rfl
  ·rw[<-Jn];exact PC (cB rfl (cB (bh (zv (d':=.im (.tup<|(T.map bg).drop 1)) rfl rfl rfl rfl (by show J (aC.im<|.tup<|ce (T.map bg) (J ((1:Nat):Int)) aa)=_;rw[OH]))) rfl)) rfl
  ·obtain⟨a,_,iZ⟩:=e0.mp (sR aE).1;obtain⟨b,_,eG⟩:=e0.mp (pb (sR aE).2);obtain⟨x,y⟩:=p;dsimp only at iZ eG ⊢;subst iZ eG;exact⟨[J (.im<|bg a),J<|.im<|bg b],_,[J (.im<|bg a),J<|.im<|bg b],rfl,rfl,bL rfl rfl rfl rfl rfl,rfl⟩
  ·rw[EP,iu,b3];lia
 have v1:nd [.lst (T.map λ_=>.aR af)]=J (ej af):=by
  rw[uN (λ_:cD=>af) T,show (T.all λ_=>af)=af from mH.mpr λ_ _=>rfl]
 have ng:=uN (λp:ah×ah=>cJ p.1 p.2) ((T.map bg).zip<|(T.map bg).drop 1);rw[RK r]at ng;unfold w_ Q_;refine hH (D:=D) rfl ?_ (by rw[dV];rfl);show ap _ _ [J (.im<|.tup<|T.map bg),J<|.im<|.fn f]=_;rw[<-dV];exact dx (ci (nY (mv (by rw[dV];exact kb rfl rfl rfl))<|mv<|kb (bh<|e_ (cB (bh di) rfl) rfl v1) rfl rfl) rfl) (bn<|e_ (cB (bh gA) rfl) rfl ng)
noncomputable def hI(es:List cD):List (List ah×ah):=es.map λe=>(gF e,.aR af)
theorem RL{o0:Option aC}:∀(todo done:List cD) (o2:Option aC),(done++todo).Nodup->done.length+todo.length<=1000->∃bI,fZ (b_ 2) ri (todo.map bg) [o0,J<|.a8<|hI done,o2]=J (.bC,[o0,J<|.a8<|hI<|done++todo,bI])
 |[],done,o2,_,_=>⟨o2,by rw[c5];rfl⟩
 |e::todo,done,o2,au,aF=>by
  rw[eS]at aF;have av:e∉done:=λz=>(eA.mp au).2.2 e z e (.head _) rfl;obtain⟨bI,bS⟩:=RL (o0:=o0) todo (done++[e]) (J<|.im<|bg e) (by rw[bY];exact au) (by rw[eZ];show done.length+1+_<=_;lia);refine⟨bI,?_⟩;have aE:kH (.a8<|hI done) (.im<|bg e) (.im<|.aR af)=J (.a8<|hI<|done++[e]):=by
   have:mn (hI done) (gF e) (.aR af)=hI (done++[e]):=by
    unfold mn;rw[aZ λz=>by
     obtain⟨q,bk,h⟩:=u_.mp z;obtain⟨b,ae,rfl⟩:=e0.mp bk;exact av (Ic (gg h) ▸ ae)]
    unfold hI;rw[jl];rfl
   rw[<-this];exact aV ⟨rfl,by unfold hI;rw[b3];lia⟩
  have st:ri [o0,J<|.a8<|hI done,J<|.im<|bg e]=J (.bC,[o0,J<|.a8<|hI<|done++[e],J<|.im<|bg e]):=by
   unfold ri;refine o9 rfl ?_;show (kH (.a8<|hI done) (.im<|bg e)<|.im<|.aR af).map _=_;rw[aE];rfl
  rw[dQ,fZ];show (ri [o0,J<|.a8<|hI done,J<|.im<|bg e]).bind _=_;rw[st,show done++e::todo=done++[e]++todo by rw[bY];rfl];exact bS
theorem adz(au:es.Nodup)(aF:es.length<=1000):jj [bQ es]=J (.a8<|hI es,[bQ es]):=by
 obtain⟨o,lp⟩:=RL (o0:=J .fH) es [] aa au (by show 0+_<=_;lia);unfold jj DY;exact hH (D:=[J (bQ es),J .fH,o]) rfl (dx (D1:=[J (bQ es),J<|.a8<|hI [],aa]) rfl<|dx (p8 (o:=J (0,bQ es)) (D1:=[J .fH,J<|.a8<|hI [],aa]) rfl lp rfl)<|bn rfl) rfl
theorem adA(es:List cD)(e:cD):oX (.im<|bg e) (.a8<|hI es)=J (ej<|decide (e∈es)):=by
 have g:(gT (hI es)<|gF e).isSome=decide (e∈es):=by
  unfold gT hI;induction es with
  |nil=>rfl
  |cons a r bS=>
   rw[dQ,n6];by_cases z:a=e
   ·subst z;simp
   ·rw[show decide (((gF a,ah.aR af):List ah×ah).1=gF e)=aD from bi λw=>z<|Ic w];dsimp only;rw[bS,Fz,cK];exact⟨.inr,λy=>y.resolve_left λw=>z w.symm⟩
 show ((if ah.keys 7 (gF e)=af then J (gT (hI es)<|gF e).isSome else aa).map λr=>aC.im<|.aR r)=_;rw[aV (show ah.keys 7 (gF e)=af from rfl),g];rfl
theorem rl{b:dj}(h:(a.1=b.1/\(a.2-b.2=1\/a.2-b.2 = -1))\/(a.2=b.2/\(a.1-b.1=1\/a.1-b.1 = -1))):xd a b=af:=by
 unfold xd;refine eL ?_;split<;>split<;>lia
theorem j5.Jx(F:j5 bs fs){o:a7}(xg:o∈bs):∀x∈fs,gu fs o x:=by
 have inf:∀{b c:a7},b∈bs->c∈gG b->c∈fs:=λae av=>F.pm.mem_iff.mpr (rz.mpr ⟨_,ae,av⟩);have f1:∀b:a7,(b.1,b.2+1)∈gG b:=λb=>.tail _ (.head _);have f2:∀b:a7,(b.1+1,b.2+1)∈gG b:=λb=>.tail _ (.tail _<|.head _);have d6:∀b:a7,(b.1+1,b.2)∈gG b:=λb=>.tail _ (.tail _<|.tail _<|.head _);have f0:∀b:a7,b∈gG b:=λb=>.head _;have st:∀b∈bs,gu fs o b->∀c∈gG b,gu fs o c:=λb ae h c av=>by
  have O:gu fs o (b.1,b.2+1):=.step h (inf ae<|f1 b) (rl (by dsimp only;lia));have aL:gu fs o (b.1+1,b.2):=.step h (inf ae<|d6 b) (rl (by dsimp only;lia));have U:gu fs o (b.1+1,b.2+1):=.step O (inf ae<|f2 b) (rl (by dsimp only;lia));simp only[gG,cK,jH,lV]at av;rcases av with z|z|z|z
  ·rw[z];exact h
  ·rw[z];exact O
  ·rw[z];exact U
  ·rw[z];exact aL
 have key:∀b∈bs,gu fs o b:=by
  classical
  have:=F.B.con (λb=>if gu fs o b then (0,0) else (1,1)) (λa az b ae z=>by
   have up:gu fs o a->gu fs o b:=λh=>by
    rcases z with z|z
    ·rw[z];exact .step (st a az h _<|f1 a) (by rw[<-z];exact inf ae (f0 b)) (rl (by dsimp only;lia))
    ·rw[z];exact .step (st a az h _<|d6 a) (by rw[<-z];exact inf ae (f0 b)) (rl (by dsimp only;lia))
   have adB:gu fs o b->gu fs o a:=λh=>by
    rcases z with z|z
    ·have O:gu fs o (a.1,a.2+1):=.step h (inf az<|f1 a) (rl (by rw[z];dsimp only;lia));exact .step O (inf az<|f0 a) (rl (by dsimp only;lia))
    ·have O:gu fs o (a.1+1,a.2):=.step h (inf az<|d6 a) (rl (by rw[z];dsimp only;lia));exact .step O (inf az<|f0 a) (rl (by dsimp only;lia))
   by_cases y:gu fs o a
   ·show (if gu fs o a then _ else _)=if gu fs o b then _ else _
    rw[aV y,aV<|up y]
   ·show (if gu fs o a then _ else _)=if gu fs o b then _ else _
    rw[aZ y,aZ λw=>y<|adB w])
  intro b ae;have e:=this o xg b ae;by_cases y:gu fs o b
  ·exact y
  ·exfalso;have e:(if gu fs o o then ((0:Int),(0:Int)) else (1,1))=if gu fs o b then (0,0) else (1,1):=e
   rw[aV .self,aZ y]at e;exact absurd (congrArg Prod.fst e) (by decide)
 intro x ag;obtain⟨b,ae,av⟩:=rz.mp (F.pm.mem_iff.mp ag);exact st b ae (key b ae) x av
theorem adC{fs:List dj}(aq:s∈fs)(h:gu fs s x):x∈fs:=by
 cases h with
 |self=>exact aq
 |step _ ae _=>exact ae
theorem j5.field(F:j5 bs fs)(f:ar):uK f [bD fs]=J (ej af,[bD fs]):=by
 obtain⟨o,aS,xg⟩:=Jt F.B F.pm F.Jv;have Jx:=F.Jx xg;have bf:=F.len;have aR:=F.B.len;have E:xf fs:=⟨AP.mp F.Jv,λc av=>by
  obtain⟨b,ae,aU⟩:=rz.mp (F.pm.mem_iff.mp av);have:=F.B.qv b ae;have:=Dp.mp aU;lia,by lia⟩
 cases fs with
 |nil=>cases aS
 |cons s r=>
  cases aS;obtain⟨dF,a9,iy,d8⟩:=ado (cs:=o::r) (s:=o) (by lia);have h:=adv (f:=f) E a9;have e:dF.length=(o::r).length:=K0 (Ea (Jo iy) λx ag=>adC (.head _)<|(d8 x).mp ag) (Ea (Jo E.up) λx ag=>(d8 x).mpr<|Jx x ag);rw[eL e]at h;exact h
theorem RM:∀T:List cD,ah.eC 7 (T.map bg)=af
 |[]=>rfl
 |e::r=>by rw[dQ,ah.eC,RM r];rfl
theorem Jy:∀T:List cD,hx (T.map bg) (T.map bg)=af
 |[]=>rfl
 |e::r=>by rw[dQ,hx,Jy r,Je,eL rfl];rfl
theorem eqT(T:List cD):vEq (.im<|.tup<|T.map bg) (.im<|.tup<|T.map bg)=J (ej af):=by
 show (if (ah.eC 7 (T.map bg)&&ah.eC 7 (T.map bg))=af then J (aC.im<|.aR<|hx (T.map bg)<|T.map bg) else aa)=_;rw[RM,aV<|show (af&&af)=af from rfl,Jy]
theorem BE(T:List cD):lE (bQ T) (bQ T)=J (ej aD):=by
 show (if (ah.eC 8 (T.map bg)&&ah.eC 8 (T.map bg))=af then J (aC.im<|.aR<|!hx (T.map bg) (T.map bg)) else aa)=_;rw[Jd,aV<|show (af&&af)=af from rfl,Jy];rfl
theorem adD(F:j5 bs fs)(t:xh bs T):xa f2 fc [bD fs,.im<|.tup<|T.map bg]=J (ej af,[bD fs,.im<|.tup<|T.map bg]):=by
 have aR:=F.B.len;have js:=t.len;have adi:(eY bs).length<=2*bs.length:=Dv bs bs;have bb:ij [bQ (g6 (T++eY bs) (λb=>b,[])).2]=J (bQ T):=by
  rw[aat F.B t.sI t.len t.sp];exact ac_ t.au (by lia) t.up
 have Jw:=wS F.B t.sI (by lia) bb;obtain⟨D,dV⟩:∃D:bq,D=[J (bD fs),J<|.im<|.tup<|T.map bg,J<|bD bs,J<|.a8<|hI<|eY bs]:=⟨_,rfl⟩;have di:eJ 1 [3] (eQ<|ax 1) (b_ 0) gE (Rc f2 fc) D=J (.lst<|T.map λe=>.aR<|decide (e∈eY bs),D):=by
  rw[dV];refine nX (xs:=T.map bg) (o:=aa) (D1:=[J (bD fs),J<|.im<|.tup<|T.map bg,J<|bD bs,J<|.a8<|hI<|eY bs]) rfl (oW bg (λe=>.aR<|decide (e∈eY bs)) _ (λx ag=>?_) (by lia)) rfl;exact⟨[J (.im<|bg x),J<|.a8<|hI<|eY bs],_,[J (.im<|bg x),J<|.a8<|hI<|eY bs],rfl,rfl,bL rfl rfl rfl rfl<|adA (eY bs) x,rfl⟩
 have v1:=uN (λe:cD=>decide (e∈eY bs)) T;rw[show (T.all λe=>decide (e∈eY bs))=af from mH.mpr λe he=>eL<|p'.mpr<|t.sI e he]at v1;have t1:ic (fW<|f5<|ai<|am 1 (G.uK fc)<|aB (ax 0) aW) (fW<|f5<|ai<|am 2 (G.w_ f2)<|aB (ax 1)<|aB (ai<|aN<|.fn f2) aW) [J (bD fs),J<|.im<|.tup<|T.map bg,aa,aa]=J (aD,[J (bD fs),J<|.im<|.tup<|T.map bg,aa,aa]):=
  nY (mv<|kb (bh<|fb (os:=[.bK 0]) rfl rfl rfl (F.field fc) rfl) rfl rfl) (mv (kb (bh (fb (os:=[.bK 1,.dE<|.im<|.fn f2]) rfl rfl rfl (ady (by lia) t.up) rfl)) rfl rfl));unfold xa Rd;refine hH (D:=D) rfl (dx (ci t1 rfl) (dx (D1:=[J (bD fs),J<|.im<|.tup<|T.map bg,J<|bD bs,aa]) (ik (fb (os:=[.bK 0]) rfl rfl rfl F.blocks rfl) (jF rfl) rfl) (dx (D1:=D) (by
  rw[dV];exact ik (fb (os:=[.dE (bQ<|eY bs)]) (cB (bh<|fb (os:=[.bK 2]) rfl rfl rfl (RA F.B) rfl) rfl) rfl rfl (adz (Im F.B.au) (by lia)) rfl) (jF rfl) rfl) (bn (wJ (nZ (fu<|e_ (cB (bh di) rfl) rfl v1) (fu (by
  rw[dV];exact bL (bh<|fb (os:=[.bK 2,.bK 1]) rfl rfl rfl Jw rfl) rfl rfl rfl (eqT T)))))))) ) (by rw[dV];rfl)
theorem adE(l:List ah):j8 l l=l.map λd=>.tup [d,d]:=by
 induction l with
 |nil=>rfl
 |cons d r bS=>rw[j8,bS];rfl
theorem RN(n:Nat){l:List ah}(aF:l.length<=1000)(h:∀d∈l,iF (n+1) [.im d,.im d]=J (ej af,[.im d,.im d])):iF (n+2) [.im (.tup l),.im<|.tup l]=J (ej af,[.im (.tup l),.im<|.tup l]):=by
 have Df:eJ 2 [] (p4<|aB (ax 0)<|aB (ax 1) aW) (hF 2<|ew (b_ 0)<|ew (b_ 1) hZ) gE (G.Di<|iF<|n+1) [J (.im<|.tup l),J<|.im<|.tup l]=J (.lst<|l.map λ_=>.aR af,[J (.im<|.tup l),J<|.im<|.tup l]):=by
  refine nX (xs:=l.map λd=>.tup [d,d]) (o:=aa) (D1:=[J (.im<|.tup l),J<|.im<|.tup l]) ?_ (oW (λd=>.tup [d,d]) (λ_=>.aR af) l (λd hd=>?_) (by lia)) rfl
  ·show J ((j8 l l,aa),_)=_;rw[adE]
  ·exact⟨[J (.im d),J<|.im d],_,[J (.im d),J<|.im d],rfl,rfl,fb (os:=[.bK 0,.bK 1]) rfl rfl rfl (h d hd) rfl,rfl⟩
 have v1:=uN (λ_:ah=>af) l;rw[show (l.all λ_=>af)=af from mH.mpr λ_ _=>rfl]at v1;have q:=Ih (l.length:Int) (l.length:Int);rw[eL rfl]at q;rw[iF];unfold Dj;exact hH (D:=[J (.im<|.tup l),J<|.im<|.tup l]) rfl (y6<|uv rfl<|dx (ci (nY rfl<|fu<|bL (bh<|e_ rfl rfl rfl) (bh<|e_ rfl rfl rfl) rfl rfl q) rfl)<|bn<|e_ (cB (bh Df) rfl) rfl v1) rfl
theorem RO(aF:T.length<=1000):iF 6 [.im (.tup<|T.map bg),.im<|.tup<|T.map bg]=J (ej af,[.im (.tup<|T.map bg),.im<|.tup<|T.map bg]):=
 RN 4 (by rw[b3];exact aF) λd hd=>by
  obtain⟨e,_,rfl⟩:=e0.mp hd;refine RN 3 (nu rfl) λd hd=>?_;simp only[gF,cK,jH,lV]at hd;rcases hd with rfl|rfl
  ·exact Rj 2 e.1
  ·exact Rj 2 e.2
theorem RP{gs:List a7}(aS:gs[0]?=J o)(aF:gs.length<=1000)(h:gs.length%4≠0):sF [bD gs]=J (ej af,[bD gs]):=by
 obtain⟨cO,d1⟩:=ac0 aS aF λz=>h (by lia);have kG:am 1 G.kP (aB (ax 0) aW) [J (bD gs)]=aa:=by
  show ((kP [bD gs]).map _)=aa;rw[cO];rfl
 have Ds:lL [bD gs]=aa:=by
  have:D5 [J (bD gs)]=aa:=by
   have fe:aB (ai<|am 1 G.kP<|aB (ax 0) aW) (aB (ai<|d9 aW) aW) [J (bD gs)]=aa:=by
    show ((am 1 G.kP (aB (ax 0) aW) [J (bD gs)]).map _).bind _=aa;rw[kG];rfl
   show ((aB (ai<|am 1 G.kP<|aB (ax 0) aW) (aB (ai<|d9 aW) aW) [J (bD gs)]).bind _).map _=aa;rw[fe];rfl
  unfold lL eR;rw[aV (show [bD gs].length=1 from rfl),show D5 ([bD gs].map J++List.replicate (1-1) aa)=aa from this]
 have Hx:mx 1 1 uM [bD gs]=af:=by
  have:uM [J (bD gs)]=J [J (bD gs)]:=by
   show (if mx 1 2 w9 [bD gs]=af then J _ else aa)=_;rw[aV d1]
  unfold mx;show (uM [J (bD gs)]).isSome=af;rw[this];rfl
 have t:mh (am 1 G.lL<|aB (ax 0) aW) [J (bD gs),J<|ej aD,aa]=aa:=by
  have:am 1 G.lL (aB (ax 0) aW) [J (bD gs),J<|ej aD,aa]=aa:=by
   show ((lL [bD gs]).map _)=aa;rw[Ds];rfl
  unfold mh;rw[this];rfl
 have u:I9 [J (bD gs),J<|ej aD,aa]=J [J (bD gs),J<|ej aD,aa]:=by
  show (if mx 1 1 uM [bD gs]=af then J _ else aa)=_;rw[aV Hx]
 unfold sF Ri;refine hH (D:=[J (bD gs),J<|ej af,aa]) rfl (dx (D1:=[J (bD gs),J<|ej aD,aa]) rfl<|dx (D1:=[J (bD gs),J<|ej af,aa]) ?_<|bn rfl) rfl;unfold zI;rw[t];show DJ _ _ _=_;unfold DJ;rw[u];rfl
theorem adF(l:List a7)(c:a7):oY (.im<|aI c) (bJ l)=J (ej<|!decide (c∈l)):=by
 show (jd (aI c)<|bJ l).map _=_;rw[Ib];rfl
theorem RQ:∀(l acc:List (List ah)),(acc++l).Nodup->l.foldl mz acc=acc++l
 |[],acc,_=>by rw[c5];rfl
 |k::l,acc,au=>by
  have aY:k∉acc:=λz=>(eA.mp au).2.2 k z k (.head _) rfl;rw[qm,show mz acc k=acc++[k] from aZ aY,RQ l (acc++[k]) (by rw[bY];exact au),bY];rfl
theorem adG{g:M (List cH)}{os:List cH}(au:T.Nodup)(aF:T.length<=100)(up:xe T)(ay:g D=J (os,D1))(aG:j2 D1 os=J [.im (.tup<|T.map bg)]):uH g D=J (bQ T,D1):=by
 have bT:(T.map gF).map ah.tup=T.map bg:=by rw[lP];rfl
 have dd:kO (T.map gF)=T.map gF:=by
  unfold kO;rw[RQ _ [] (by rw[qn];exact Dq au λa _ b _ z=>Ic z),qn]
 have fI:=Du au (by lia);unfold uH;rw[ay];show (j2 D1 os).bind _=_;rw[aG];show (w7<|T.map bg).bind _=_;rw[<-bT,QY];have O:DV (T.map gF)=af:=by
  rw[QZ,dd,b3];refine⟨λk aY=>?_,by lia⟩;obtain⟨e,_,rfl⟩:=e0.mp aY;rfl
 have U:zi ((kO<|T.map gF).map .tup)=af:=by
  rw[dd,bT];exact sx.mpr fI
 refine (aV ⟨O,U⟩).trans ?_;rw[dd,bT,<-zg fI.1 (.refl _) up]
theorem adH(ps:List cD)(e:cD):oX (.im<|bg e) (bQ ps)=J (ej<|decide (e∈ps)):=by
 have:=acR ps e;show (jd (bg e)<|bQ ps).map (λr=>aC.im<|.aR r)=_;have U:jd (bg e) (bQ ps)=jd (bg e) (.im<|.tup<|ps.map bg):=rfl;rw[U,this];rfl
noncomputable def g7(T:List cD)(x:a7):List a7:=(T.filter λe=>decide (e.1=x)).map (·.2)++(T.filter λe=>decide (e.2=x)).map (·.1)
theorem Jz{x y:a7}:y∈g7 T x↔(x,y)∈T\/(y,x)∈T:=by
 unfold g7;rw[e3,e0,e0];constructor
 ·rintro (⟨e,he,rfl⟩|⟨e,he,rfl⟩)
  ·obtain⟨O,U⟩:=jk.mp he;exact .inl (gg U ▸ O)
  ·obtain⟨O,U⟩:=jk.mp he;exact .inr (gg U ▸ O)
 ·rintro (h|h)
  ·exact .inl ⟨(x,y),jk.mpr ⟨h,eL rfl⟩,rfl⟩
  ·exact .inr ⟨(y,x),jk.mpr ⟨h,eL rfl⟩,rfl⟩
theorem adI(t:xh bs T)(x:a7):(g7 T x).Nodup:=by
 refine eA.mpr ⟨Dq (t.au.sublist EI) λa az b ae z=>?_,Dq (t.au.sublist EI) λa az b ae z=>?_,λy aw z hz e=>?_⟩
 ·exact nx ((gg (jk.mp az).2).trans (gg (jk.mp ae).2).symm) z
 ·exact nx z ((gg (jk.mp az).2).trans (gg (jk.mp ae).2).symm)
 ·subst e;obtain⟨a,az,rfl⟩:=e0.mp aw;obtain⟨b,ae,eG⟩:=e0.mp hz;have a2:=gg (jk.mp az).2;have d1:=gg (jk.mp ae).2;have d2:=(t.sI a (jk.mp az).1).2.2;have e8:=(t.sI b (jk.mp ae).1).2.2;rw[a2]at d2;rw[d1,eG]at e8;rcases d2 with z|z<;>rcases e8 with w|w<;>
   (have dG:=congrArg Prod.fst z;have dH:=congrArg Prod.snd z;have ee:=congrArg Prod.fst w;have ec:=congrArg Prod.snd w;simp only at dG dH ee ec;lia)
noncomputable abbrev kf(bs:List a7)(T ps:List cD)(met:List a7)(k:Int)(o5:Option aC):bq:=[J (bJ bs),J<|.im<|.tup<|T.map bg,J<|bQ ps,J<|bJ met,J<|a5 k,o5]
theorem Fa(av:met[k]?=J c)(aF:met.length<=1000)(dM:T.length<=100)(o5:Option aC):
  D7 (kf bs T ps met (k:Int) o5)=J (.bC,kf bs T ps (met++(g7 T c).filter λx=>!decide (x∈met)) ((k:Int)+1)<|J<|bJ<|g7 T c):=by
 have RR:bX (bJ met) (a5 (k:Int))=J (.im<|aI c):=by
  have t:gZ (met.map aI) (k:Int)=J (aI c):=atC (by lia) (by simpa using av);show (gZ (met.map aI) (k:Int)).map aC.im=_;rw[t];rfl
 have fy:∀(o5:Option aC) (c':M Bool) (b7:M aC) (p:cD->a7) (r:cD->a7),(∀e:cD,c' [J (.im<|aI e.1),J<|.im<|aI e.2,J<|bJ met,J<|a5 (k:Int)]=J (decide (p e=c),[J (.im<|aI e.1),J<|.im<|aI e.2,J<|bJ met,J<|a5 (k:Int)]))->(∀e:cD,b7 [J (.im<|aI e.1),J<|.im<|aI e.2,J<|bJ met,J<|a5 (k:Int)]=J (.im<|aI<|r e,[J (.im<|aI e.1),J<|.im<|aI e.2,J<|bJ met,J<|a5 (k:Int)]))->
   eJ 2 [3,4] (eQ<|ax 1) (hF 2<|ew (b_ 0)<|ew (b_ 1) hZ) c' b7 (kf bs T ps met (k:Int) o5)=J (bJ<|(T.filter λe=>decide (p e=c)).map r,kf bs T ps met (k:Int) o5):=λo5 c' b7 p r O U=>by
  have q:=uf (own:=2) (tg:=hF 2 (ew (b_ 0)<|ew (b_ 1) hZ)) (c:=c') (e:=b7) (C:=[J (bJ met),J<|a5 (k:Int)]) bg (λe=>decide (p e=c)) (λe=>aI<|r e) T [] (λe he=>⟨[J (.im<|aI e.1),J<|.im<|aI e.2,J<|bJ met,J<|a5 (k:Int)],_,rfl,O e,λ_=>rfl,λ_=>⟨_,U e,rfl⟩⟩) (by show 0+_<=_;lia);rw[qn,show ((T.filter λe=>decide (p e=c)).map λe=>aI<|r e)=((T.filter λe=>decide (p e=c)).map r).map aI by rw[lP];rfl]at q;exact nX (xs:=T.map bg) (o:=aa) (D1:=kf bs T ps met (k:Int) o5) rfl q rfl
 have di:=fy o5 Re wf (·.1) (·.2) (λe=>fu<|bL rfl (bh<|bL rfl rfl rfl rfl RR) rfl rfl<|Jb _ _) λe=>rfl;have eh:=fy (J (bJ ((T.filter λe=>decide (e.1=c)).map (·.2)))) wl Rf (·.2) (·.1) (λe=>fu<|bL rfl (bh<|bL rfl rfl rfl rfl RR) rfl rfl<|Jb _ _) λe=>rfl;have b':(T.filter λe=>decide (e.1=c)).length<=T.length:=AI _ _;have ct:(T.filter λe=>decide (e.2=c)).length<=T.length:=AI _ _;have adJ:eK (bJ ((T.filter λe=>decide (e.1=c)).map (·.2))) (bJ ((T.filter λe=>decide (e.2=c)).map (·.1)))=J (bJ<|g7 T c):=by
  rw[show bJ (g7 T c)=.lst (((T.filter λe=>decide (e.1=c)).map (·.2)).map aI++((T.filter λe=>decide (e.2=c)).map (·.1)).map aI) by rw[bJ,g7,jl]];exact aV (by rw[b3,b3,b3,b3];lia)
 have ln:(g7 T c).length<=200:=by unfold g7;rw[eZ,b3,b3];lia
 have gA:eJ 1 [3] (eQ<|ax 5) (b_ 0) G.wn G.Rg (kf bs T ps met ((k:Int)+1)<|J<|bJ<|g7 T c)=J (bJ<|(g7 T c).filter λx=>!decide (x∈met),kf bs T ps met ((k:Int)+1)<|J<|bJ<|g7 T c):=by
  refine nX (xs:=(g7 T c).map aI) (o:=J (5,bJ<|g7 T c)) (D1:=kf bs T ps met ((k:Int)+1) (J .fH)) rfl (uf aI (λx=>!decide (x∈met)) aI (g7 T c) [] (λx ag=>?_) (by show 0+_<=_;lia)) rfl;exact⟨[J (.im<|aI x),J<|bJ met],[J (.im<|aI x),J<|bJ met],rfl,fu<|bL rfl rfl rfl rfl<|adF met x,λ_=>rfl,λ_=>⟨[J (.im<|aI x),J<|bJ met],rfl,rfl⟩⟩
 have bf:((g7 T c).filter λx=>!decide (x∈met)).length<=200:=hh (AI _ _) ln;have adK:eK (bJ met) (bJ<|(g7 T c).filter λx=>!decide (x∈met))=J (bJ<|met++(g7 T c).filter λx=>!decide (x∈met)):=by
  rw[show bJ (met++(g7 T c).filter λx=>!decide (x∈met))=.lst (met.map aI++((g7 T c).filter λx=>!decide (x∈met)).map aI) by rw[bJ,jl]];exact aV (by rw[b3,b3];lia)
 unfold D7;exact dx (ik di (jF rfl) rfl) (dx (D1:=kf bs T ps met (k:Int) (J<|bJ<|g7 T c)) (ik (bL rfl (bh eh) rfl rfl adJ) (jF rfl) rfl)<|dx (D1:=kf bs T ps met ((k:Int)+1) (J<|bJ<|g7 T c)) (ik (bL rfl rfl rfl rfl rfl) (jF rfl) rfl)<|ik (bL rfl (bh gA) rfl rfl adK) (jF rfl) rfl)
structure jc(bs:List a7)(T:List cD)(met:List a7)(k:Nat):Prop where
 au:met.Nodup
 sub:∀x∈met,x∈bs
 fst:∀o,bs[0]?=J o->o∈met
 cl:∀i x,i<k->met[i]?=J x->∀y,y∈g7 T x->y∈met
theorem jc.full(I:jc bs T met k)(t:xh bs T)(adL:bs.Nodup)(ne:bs≠[])(aY:met.length<=k):met.length=bs.length:=by
 obtain⟨o,aS⟩:∃o,bs[0]?=J o:=by
  cases bs with
  |nil=>exact absurd rfl ne
  |cons b r=>exact⟨b,rfl⟩
 have cl:∀x∈met,∀y,y∈g7 T x->y∈met:=λx ag=>by
  obtain⟨i,ao,e⟩:=sO.mp ag;exact I.cl i x (by lia) (by rw[fg ao,e])
 have all:∀b∈bs,b∈met:=λb ae=>by
  have:=t.sp (λc=>if c∈met then (0,0) else (1,1)) (λe he=>by
   have h:e.1∈met↔e.2∈met:=⟨λh=>cl _ h _<|Jz.mpr<|.inl he,λh=>cl _ h _<|Jz.mpr<|.inr he⟩;exact D_ h) o (iq aS) b ae
  by_cases y:b∈met
  ·exact y
  ·exfalso;have e:(if o∈met then ((0:Int),(0:Int)) else (1,1))=if b∈met then (0,0) else (1,1):=this
   rw[aV (I.fst o aS),aZ y]at e;exact absurd (congrArg Prod.fst e) (by decide)
 exact K0 (I.au.length_le_of_subset I.sub) (adL.length_le_of_subset all)
theorem jc.next(I:jc bs T met k)(t:xh bs T)(av:met[k]?=J c):jc bs T (met++(g7 T c).filter λx=>!decide (x∈met)) (k+1):=by
 refine⟨eA.mpr ⟨I.au,(adI t c).sublist EI,λx ag y aw e=>?_⟩,λx ag=>?_,λo aS=>fD _<|I.fst o aS,λi x ao ag y aw=>?_⟩
 ·subst e;have:=(jk.mp aw).2;rw[eL ag]at this;cases this
 ·rcases e3.mp ag with h|h
  ·exact I.sub x h
  ·rcases Jz.mp (jk.mp h).1 with z|z
   ·exact (t.sI _ z).2.1
   ·exact (t.sI _ z).1
 ·have aY:=(iJ.mp av).1;have kk:met[i]?=J x:=by rwa [qi (by lia)]at ag
  by_cases z:i<k
  ·exact fD _ (I.cl i x z kk y aw)
  ·have:i=k:=by lia
   subst this;rw[av]at kk;cases kk;by_cases w:y∈met
   ·exact fD _ w
   ·exact fR _ (jk.mpr ⟨aw,by rw[bi w];rfl⟩)
theorem adM(T:List cD):f3 [.im (.tup<|T.map bg)]=J (a5 (T.length:Int)):=by
 show J (a5 ((T.map bg).length:Int))=_;rw[b3]
theorem adN(B:lH bs)(t:xh bs T):xb [bJ bs,.im<|.tup<|T.map bg]=J (ej af,[bJ bs,.im<|.tup<|T.map bg]):=by
 have aR:=B.len;have js:=t.len;obtain⟨ps,fj,pm⟩:=aaq B;have s1:dI 2 (am 1 G.wH<|aB (ax 0) aW) [J (bJ bs),J<|.im<|.tup<|T.map bg,aa,aa,aa,aa]=J (.bC,[J (bJ bs),J<|.im<|.tup<|T.map bg,J<|bQ ps,aa,aa,aa]):=ik (fb (os:=[.bK 0]) rfl rfl rfl fj rfl) (jF rfl) rfl;obtain⟨D,dV⟩:∃D:bq,D=[J (bJ bs),J<|.im<|.tup<|T.map bg,J<|bQ ps,aa,aa,aa]:=⟨_,rfl⟩;have di:eJ 1 [2] (eQ<|ax 1) (b_ 0) gE I8 D=J (.lst<|T.map λe=>.aR<|decide (e∈ps),D):=by
  rw[dV];refine nX (xs:=T.map bg) (o:=aa) (D1:=[J (bJ bs),J<|.im<|.tup<|T.map bg,J<|bQ ps,aa,aa,aa]) rfl (oW bg (λe=>.aR<|decide (e∈ps)) _ (λx ag=>?_) (by lia)) rfl;exact⟨[J (.im<|bg x),J<|bQ ps],_,[J (.im<|bg x),J<|bQ ps],rfl,rfl,bL rfl rfl rfl rfl<|adH ps x,rfl⟩
 have v1:=uN (λe:cD=>decide (e∈ps)) T;rw[show (T.all λe=>decide (e∈ps))=af from mH.mpr λe he=>eL<|pm.mem_iff.mpr<|p'.mpr<|t.sI e he]at v1;have eh:b9 (aT lE (ai<|cV sj<|aB (ax 1) aW)<|ai<|uH<|aB (ax 1) aW) D=J (aD,D):=by
  have ss:uH (aB (ax 1) aW) D=J (bQ T,D):=adG (os:=[.bK 1]) t.au (by lia) t.up (by rw[dV];rfl) (by rw[dV];rfl);have li:cV sj (aB (ax 1) aW) D=J (bQ T,D):=by rw[dV];exact e_ (cB rfl rfl) rfl rfl
  exact fu (bL (bh li) (bh ss) rfl rfl<|BE T)
 have t1:ic (fW<|f5<|ai<|lF "tuple"<|ax 1) (ic (fW<|f5<|ai<|cV nd<|aB (ai<|eJ 1 [2] (eQ<|ax 1) (b_ 0) gE G.I8) aW)<|b9<|aT lE (ai<|cV sj<|aB (ax 1) aW)<|ai<|uH<|aB (ax 1) aW) D=J (aD,D):=
  nY (mv (by rw[dV];exact kb rfl rfl rfl)) (nY (mv<|kb (bh<|e_ (cB (bh di) rfl) rfl v1) rfl rfl) eh);have aq:si (bJ bs) aa (J 1)=J (bJ<|bs.take 1):=by
  show J (aC.lst<|ce (bs.map aI) aa<|J ((1:Nat):Int))=_;rw[OI,<-mI]
 have s3:yK 3 4 (aB (ai<|nc (ax 0) nQ<|oP<|aN<|.int 1)<|aB (ai<|aN<|.int 0) aW) D=J (.bC,kf bs T ps (bs.take 1) 0 aa):=by
  rw[dV];exact Z2 (cB (bh<|zv rfl rfl rfl rfl aq)<|cB rfl rfl) rfl (jF rfl) (jF rfl) rfl
 have IL:jc bs T (bs.take 1) 0:=⟨B.au.sublist<|u6 _ _,λx ag=>rx ag,λo aS=>by
  cases bs with
  |nil=>cases aS
  |cons b r=>cases aS;exact .head _,λi x ao=>absurd ao<|vc i⟩
 obtain⟨D',w,met,k,o5,rfl,I,aY⟩:=OK (c:=D6) (b:=D7) (λm D=>∃(k:Nat) (met:List a7) (o5:Option aC),D=kf bs T ps met (k:Int) o5/\jc bs T met k/\m=bs.length-k)
  (λD=>∃(met:List a7) (k:Nat) (o5:Option aC),D=kf bs T ps met (k:Int) o5/\jc bs T met k/\met.length<=k) (λm D ⟨k,met,o5,dV,I,hm⟩=>by
   subst dV;have Cq:met.length<=bs.length:=I.au.length_le_of_subset I.sub;have dA:D6 (kf bs T ps met (k:Int) o5)=J (decide ((k:Int)<(met.length:Int)),kf bs T ps met (k:Int) o5):=by
    unfold D6;exact fu (bL rfl (bh<|e_ (cB rfl rfl) rfl<|wL met) rfl rfl rfl)
   refine⟨_,_,dA,λcE=>?_,λhf=>⟨met,k,o5,rfl,I,by have:=of_decide_eq_false hf;lia⟩⟩;have aY:k<met.length:=by have:=gg cE;lia
   exact⟨_,_,Fa (fg aY) (by lia) (by lia) o5,.inl rfl,bs.length-(k+1),by lia,k+1,_,_,rfl,I.next t<|fg aY,rfl⟩) 1000000 bs.length (kf bs T ps (bs.take 1) 0 aa) ⟨0,bs.take 1,aa,rfl,IL,rfl⟩ (by lia)
 have Cq:=I.full t B.au B.ne aY;have bz:=sy (met.length:Int) (bs.length:Int);rw[eL (by rw[Cq])]at bz;have cR:=sy (T.length:Int) ((bs.length:Int)-1);rw[eL (by lia)]at cR;unfold xb Rh;refine hH (D:=kf bs T ps met (k:Int) o5) rfl (dx s1 ?_) rfl;rw[<-dV];exact dx (ci t1 rfl) (dx s3<|dx w<|bn<|wJ<|nZ (fu<|bL (bh<|e_ (cB rfl rfl) rfl<|wL met) (bh<|e_ (cB rfl rfl) rfl<|wL bs) rfl rfl bz)<|fu<|bL (bh<|e_ (cB rfl rfl) rfl<|adM T) (bh<|bL (bh<|e_ (cB rfl rfl) rfl<|wL bs) rfl rfl rfl rfl) rfl rfl cR)
noncomputable abbrev nt(o0 o1 o2 o3 o4 o5:Option aC):bq:=[o0,o1,o2,o3,o4,o5]
theorem adO{ns:List Int}{k:Int}{o2:Option aC}(aY:0<=k)(jV:k<1000):
  ∃bI ck b4 p9,D8 f2 fc (nt (J<|.e2<|ns.map .int) (J<|a5 k) o2 o3 o4 o5)=J (.bC,nt (J<|.e2<|ns.map .int) (J<|a5 k) bI ck b4 p9):=by
 obtain⟨h,ay,H⟩:=aaa (ns:=ns) aY jV;obtain⟨O,bs,aG,H1,B,Ju⟩:=aah (n:=999000) H;obtain⟨fs,bT,pm,rs⟩:=aam B;have F:j5 bs fs:=⟨B,Ju,pm,rs⟩;obtain⟨T,eH,t⟩:=RJ F;have aR:=B.len;have js:=t.len;have bf:=F.len;have ne:=AK.mpr B.ne;obtain⟨o,aS,xg⟩:=Jt B pm rs;obtain⟨q,rfl⟩:=H.lst;obtain⟨bz,rfl⟩:=H1.lst;have cU:fs.dropLast[0]?=J o:=by
  rw[AH,EB (by lia)];exact aS
 have Hu:(fs.take 1)[0]?=J o:=by rw[EB (by decide)];exact aS
 have a9:=RP cU (by rw[EF];lia) (by rw[EF];lia);have bF:=RP Hu (by rw[ir];lia) (by rw[ir];lia);have v1:si (bD fs) aa (J<|-1)=J (bD fs.dropLast):=by
  show J (aC.im<|.tup<|ce (fs.map aI) aa<|J<|-1)=_;rw[Za,show (fs.map aI).dropLast=fs.dropLast.map aI from (List.map_dropLast).symm]
 have v2:si (bD fs) aa (J 1)=J (bD<|fs.take 1):=by
  show J (aC.im<|.tup<|ce (fs.map aI) aa<|J ((1:Nat):Int))=_;rw[OI,<-mI]
 obtain⟨D,dV⟩:∃D:bq,D=nt (J<|.e2<|ns.map .int) (J<|a5 k) (J<|.lst bz) (J<|bJ bs) (J<|bD fs) (J<|.im<|.tup<|T.map bg):=⟨_,rfl⟩;have t1:ic (fW<|f5<|ai<|am 2 G.xb<|aB (ax 3)<|aB (ax 5) aW) (ic (b9<|aT (CT af) (ai<|am 2 (G.xa f2 fc)<|aB (ax 4)<|aB (ax 5) aW)<|ai<|aN<|.aR af)<|fW<|f5<|ai<|am 2 (G.iF 6)<|aB (ai<|am 1 G.lL<|aB (ax 4) aW)<|aB (ax 5) aW) D=J (aD,D):=by
  rw[dV];exact nY (mv<|kb (bh<|fb (os:=[.bK 3,.bK 5]) rfl rfl rfl (adN B t) rfl) rfl rfl) (nY (fu<|bL (bh<|fb (os:=[.bK 4,.bK 5]) rfl rfl rfl (adD F t) rfl) rfl rfl rfl rfl) (mv (kb (bh (fb (os:=[.dE (.im<|.tup<|T.map bg),.bK 5]) (cB (bh<|fb (os:=[.bK 4]) rfl rfl rfl eH rfl)<|cB rfl rfl) rfl rfl (RO (by lia)) rfl)) rfl rfl)))
 have eh:eJ 1 [] (eQ<|ax 5) (b_ 0) gE (I_ f2 fc) D=J (bQ T,D):=by
  rw[dV];refine nX (xs:=T.map bg) (o:=aa) (D1:=nt (J<|.e2<|ns.map .int) (J<|a5 k) (J<|.lst bz) (J<|bJ bs) (J<|bD fs) (J<|.im<|.tup<|T.map bg)) rfl (oW bg bg _ (λx ag=>?_) (by lia)) rfl;refine⟨[J (.im<|bg x)],_,[J (.im<|bg x)],rfl,rfl,?_,rfl⟩;have gA:eJ 1 [] (eQ<|ax 0) (b_ 0) gE (wv f2 fc) [J (.im<|bg x)]=J (.lst [aI x.1,aI x.2],[J (.im<|bg x)]):=by
   refine nX (xs:=[x.1,x.2].map aI) (o:=aa) (D1:=[J (.im<|bg x)]) rfl (oW aI aI [x.1,x.2] (λy aw=>?_) (by show 2<=100000;decide)) rfl;exact⟨[J (.im<|aI y)],_,[J (.im<|aI y)],rfl,rfl,wN<|e_ (cB rfl rfl) rfl rfl,rfl⟩
  exact wN gA
 have gr:fW (f5<|ai<|am 2 (G.iF 6)<|aB (ax 5)<|aB (ai<|cV nR<|aB (ai<|eJ 1 [] (eQ<|ax 5) (b_ 0) gE<|G.I_ f2 fc) aW) aW) D=J (aD,D):=by
  have jQ:=wN eh;rw[dV]at jQ ⊢;exact mv (kb (bh (fb (os:=[.bK 5,.dE<|.im<|.tup<|T.map bg]) (cB rfl<|cB (bh jQ) rfl) rfl rfl (RO (by lia)) rfl)) rfl rfl)
 have t3:ic (fW<|f5<|ai<|am 1 G.sF<|aB (ai<|nc (ax 4) nQ<|oP<|oO<|aN<|.int 1) aW) (fW<|f5<|ai<|am 1 G.sF<|aB (ai<|nc (ax 4) nQ<|oP<|aN<|.int 1) aW) D=J (aD,D):=by
  rw[dV];exact nY (mv<|kb (bh<|fb (os:=[.dE (bD fs.dropLast)]) (cB (bh<|zv rfl rfl rfl rfl v1) rfl) rfl rfl a9 rfl) rfl rfl) (mv<|kb (bh<|fb (os:=[.dE (bD<|fs.take 1)]) (cB (bh<|zv rfl rfl rfl rfl v2) rfl) rfl rfl bF rfl) rfl rfl)
 unfold D8;refine⟨_,_,_,_,dx (D1:=nt (J<|.e2<|ns.map .int) (J<|a5 k) (J<|.lst q) o3 o4 o5) (ik (fb (os:=[.bK 0,.bK 1]) rfl rfl rfl ay rfl) (jF rfl) rfl) (dx (D1:=nt (J<|.e2<|ns.map .int) (J<|a5 k) (J<|.lst bz) (J<|bJ bs) o4 o5) (ik (fb (os:=[.bK 2]) rfl rfl rfl aG rfl) (jF rfl) rfl) (dx (D1:=nt (J<|.e2<|ns.map .int) (J<|a5 k) (J<|.lst bz) (J<|bJ bs) (J<|bD fs) o5) (ik (fb (os:=[.bK 3]) rfl rfl rfl bT rfl) (jF rfl) rfl) (dx (D1:=D) (by rw[dV];exact ik (fb (os:=[.bK 4]) rfl rfl rfl eH rfl) (jF rfl) rfl) (dx (ci t1 rfl) (dx (ci gr rfl) (ci t3 (by rw[dV];rfl)))))))⟩
theorem adP:lH [(0,0)]:=⟨by simp,by simp,by decide,λb ae=>by rw[c2.mp ae];decide,λa az b ae=>by rw[c2.mp ae,c2.mp az];decide,λp _ a az b ae=>by rw[c2.mp ae,c2.mp az]⟩
theorem adQ(f2 fc:ar)(ns:List Int)(Gu:ns.length<100000):∃outs,z3 f2 fc [.e2 (ns.map .int)]=J (.im<|.aR af,outs):=by
 obtain⟨n,bo,jA,jY⟩:∃n:Int,cV CW (aB (ai<|aN<|.int 1)<|aB (ai<|cV CY<|aB (ai<|aN<|.int 8)<|aB (ai<|cV f3<|aB (ax 0) aW) aW) aW) (nt (J<|.e2<|ns.map .int) aa aa aa aa aa)=J (a5 n,nt (J<|.e2<|ns.map .int) aa aa aa aa aa)/\0<=n/\n<=8:=by
  refine⟨_,e_ (cB rfl<|cB (bh<|e_ (cB rfl<|cB (bh<|e_ (cB rfl rfl) rfl rfl) rfl) rfl rfl) rfl) rfl rfl,?_,?_⟩
  ·split<;>split<;>lia
  ·split<;>split<;>lia
 obtain⟨D',b',cn,o2,o3,o4,o5,rfl⟩:=OJ (tg:=b_ 1) (b:=D8 f2 fc) (xs:=mj 0 n.toNat) (λi D=>∃o1 o2 o3 o4 o5,D=nt (J<|.e2<|ns.map .int) o1 o2 o3 o4 o5) (D:=nt (J<|.e2<|ns.map .int) aa aa aa aa aa)
  ⟨_,_,_,_,_,rfl⟩ (λi x D ag l9=>by
   obtain⟨o1,o2,o3,o4,o5,rfl⟩:=l9;obtain⟨ao,rfl⟩:=acT ag;obtain⟨bI,ck,b4,p9,e⟩:=adO (ns:=ns) (k:=0+(i:Int)) (f2:=f2) (fc:=fc) (o2:=o2) (o3:=o3) (o4:=o4) (o5:=o5) (by lia) (by lia);exact⟨_,_,_,rfl,e,.inl rfl,_,bI,ck,b4,p9,rfl⟩)
 have kF:j5 [(0,0)] [(0,0),(0,1),(1,0),(1,1)]:=⟨adP,h4 _ _,by decide,by unfold gH;decide⟩;obtain⟨T,eH,t⟩:=RJ kF;have js:=t.len;have:T=[]:=List.length_eq_zero_iff.mp (by simpa using js);subst this;refine⟨_,hH (D:=nt (J<|.e2<|ns.map .int) cn o2 o3 o4 o5) rfl ?_ rfl⟩;show Ja f2 fc (nt (J<|.e2<|ns.map .int) aa aa aa aa aa)=_;unfold Ja;refine dx (p8 (o:=aa) (PD (cB (bh bo) rfl) rfl ⟨by lia,by lia⟩) b' rfl) ?_;exact bn (bL (bh<|fb (os:=[.dE (bD [(0,0),(0,1),(1,0),(1,1)])]) rfl rfl rfl eH rfl) (bh rfl) rfl rfl rfl)
end G
namespace L2
open PySem
end L2
set_option maxHeartbeats 4000000
namespace K39
open PySem L2 PyProof.Rows
variable{z8 z9 f:ar}{l:PySem.W.OpenLaw}{k:Nat}{A:cj}
noncomputable def top(i:Nat):cg:=PySem.Challenge.pw_mowfloor_k39_some_tree.main.body.getD i (.Pass ⟨0,0,0,0⟩)
structure Txt(mg:aQ->Option aj):Prop where
 adR:mg "ValueError" = aa
 uO:mg "all" = aa
 RS:mg "bool" = aa
 JA:mg "int" = aa
 lM:mg "isinstance" = aa
 iH:mg "len" = aa
 JB:mg "list" = aa
 adS:mg "max" = aa
 adT:mg "min" = aa
 RT:mg "range" = aa
 adU:mg "set" = aa
 uP:mg "sorted" = aa
 RU:mg "str" = aa
 mC:mg "tuple" = aa
 JC:mg "zip" = aa
 RV:∃t,mg "GREATEST" = J (.int 30 t)
 sJ:∃t,mg "SIDE" = J (.int 2 t)
theorem adV:gL "ValueError" = J (.type "ValueError"):=by decide +kernel
theorem uQ:gL "all" = J (.builtin "all"):=by decide +kernel
theorem RW:gL "bool" = J (.type "bool"):=by decide +kernel
theorem JD:gL "int" = J (.type "int"):=by decide +kernel
theorem lN:gL "isinstance" = J (.builtin "isinstance"):=by decide +kernel
theorem iI:gL "len" = J (.builtin "len"):=by decide +kernel
theorem JE:gL "list" = J (.type "list"):=by decide +kernel
theorem adW:gL "max" = J (.builtin "max"):=by decide +kernel
theorem adX:gL "min" = J (.builtin "min"):=by decide +kernel
theorem xi:gL "sorted" = J (.builtin "sorted"):=by decide +kernel
theorem RX:gL "str" = J (.type "str"):=by decide +kernel
theorem mD:gL "tuple" = J (.type "tuple"):=by decide +kernel
theorem ez(aO:gb k A):A.units+20<c6:=by have:=aO.un;omega
theorem adY(aO:gb k A):A.units+30<c6:=by have:=aO.un;omega
noncomputable abbrev z':cg:=top 2
noncomputable abbrev adZ:List aQ:=["thing"]
noncomputable abbrev xj:cg:=top 3
noncomputable abbrev Fk:List aQ:=["thing"]
noncomputable abbrev uR:cg:=top 4
noncomputable abbrev ad0:List aQ:=["thing"]
noncomputable abbrev rm:cg:=top 5
noncomputable abbrev ad1:List aQ:=["thing"]
noncomputable abbrev uS:cg:=top 6
noncomputable abbrev JF:List aQ:=["thing","is_kind"]
noncomputable abbrev ii:cg:=top 6
noncomputable abbrev JG:List aQ:=["thing","is_kind"]
noncomputable abbrev rn:cg:=top 7
noncomputable abbrev ad2:List aQ:=["things","found","thing"]
noncomputable abbrev z_:cg:=top 8
noncomputable abbrev Fr:List aQ:=["cell","row","column"]
noncomputable abbrev Aa:cg:=top 9
noncomputable abbrev ad3:List aQ:=["free","start","found","waiting","cell"]
noncomputable abbrev xk:cg:=top 15
noncomputable abbrev ad4:List aQ:=["field","cell"]
noncomputable abbrev n5:cg:=top 16
noncomputable abbrev JH:List aQ:=["field","found"]
noncomputable abbrev Ab:cg:=top 18
noncomputable abbrev ad5:List aQ:=["thing"]
noncomputable abbrev Ac:cg:=top 19
noncomputable abbrev ad6:List aQ:=["thing"]
noncomputable abbrev uT:cg:=top 21
noncomputable abbrev RY:List aQ:=["some","every","found","block","onward"]
noncomputable abbrev Ad:cg:=top 22
noncomputable abbrev ad7:List aQ:=["some","branches","group","block","found","branch","stays","given_up"]
noncomputable abbrev uU:cg:=top 23
noncomputable abbrev ad8:List aQ:=["some","kept"]
noncomputable abbrev xl:cg:=top 24
noncomputable abbrev RZ:List aQ:=["field","thing","some","every"]
noncomputable abbrev ro:cg:=top 25
noncomputable abbrev ad9:List aQ:=["field"]
noncomputable abbrev Ae:cg:=top 27
noncomputable abbrev ad':List aQ:=["_law_script","_law_k"]
noncomputable abbrev Af:cg:=top 28
noncomputable abbrev ad_:List aQ:=["_law_script","_law_k","_law_cell","_law_bound","_law_seed"]
noncomputable abbrev Ag:cg:=top 29
noncomputable abbrev FB:List aQ:=["_law_hand_here","_law_many","_law_digit"]
noncomputable abbrev xm:cg:=top 30
noncomputable abbrev R0:List aQ:=["_law_got","_law_due"]
noncomputable abbrev Ah:cg:=top 31
noncomputable abbrev aea:List aQ:=["_law_hand_here","_law_many","_law_some","_law_turn","_law_row","_law_column","_law_down","_law_right","_law_one"]
noncomputable abbrev Ai:cg:=top 32
noncomputable abbrev aeb:List aQ:=["_law_block","_law_row","_law_column"]
noncomputable abbrev Aj:cg:=top 33
noncomputable abbrev aec:List aQ:=["_law_some","_law_cells","_law_block"]
noncomputable abbrev xn:cg:=top 34
noncomputable abbrev R1:List aQ:=["_law_some","_law_pairs_here","_law_row","_law_column"]
noncomputable abbrev rp:cg:=top 35
noncomputable abbrev Ak:List aQ:=["_law_some","_law_tree","_law_pairs_here","_law_met","_law_at","_law_near"]
noncomputable abbrev Al:cg:=top 36
noncomputable abbrev aed:List aQ:=["_law_field_here","_law_refused_here","error"]
noncomputable abbrev Am:cg:=top 37
noncomputable abbrev R2:List aQ:=["_law_script","_law_k","_law_hand_here","_law_some","_law_field_here","_law_tree"]
section
variable{P:cc}{w:bN}{K:PySem.W.Frag}{mg:aQ->Option aj}{base:br}
theorem aee:fq adZ ["thing"] (c3 z'):=⟨rfl,rfl,rfl,by decide +kernel,rfl,by decide +kernel,by decide +kernel⟩
theorem aef(F:fJ K mg "is_whole" z' f ["thing"])(T:Txt mg):
  cC P w K mg base 1 "is_whole" z' f ["thing"] 1 G.uI:=by
 refine gI F aee rfl (by decide) λau cf A outer s H E aO=>?_;exact (dg<|eI<|lz (g4<|nf rfl T.lM lN rfl T.JA JD<|aX 0)<|g4<|qW<|NO<|g4<|nf rfl T.lM lN rfl T.RS RW<|aX 0)
theorem aeg:fq Fk ["thing"] (c3 xj):=⟨rfl,rfl,rfl,by decide +kernel,rfl,by decide +kernel,by decide +kernel⟩
theorem aeh(F:fJ K mg "is_pair" xj f ["thing"])(T:Txt mg){aei:ar}(R3:cC P w K mg base 1 "is_whole" z' aei ["thing"] 1 G.uI):
  cC P w K mg base 2 "is_pair" xj f ["thing"] 1 G.rg:=by
 refine gI F aeg rfl (by decide) λau cf A outer s H E aO=>?_;exact (dg (eI (lz (g4<|nf rfl T.lM lN rfl T.mC mD<|aX 0) (lz (g4 (me (mm<|ez aO) (a0 (fz jy (by rfl) T.iH iI<|bl<|aX 0)) bV<|gP _))<|lz (g4<|d7 R3 aO rfl<|bl<|a0<|ey aO (aX 0) bV)<|g4<|qW<|d7 R3 aO rfl<|bl<|a0<|ey aO (aX 0) bV))))
theorem aej:fq ad0 ["thing"] (c3 uR):=⟨rfl,rfl,rfl,by decide +kernel,rfl,by decide +kernel,by decide +kernel⟩
theorem aek(F:fJ K mg "are_two_pairs" uR f ["thing"])(T:Txt mg){JI:ar}(Ec:cC P w K mg base 2 "is_pair" xj JI ["thing"] 1 G.rg):
  cC P w K mg base 3 "are_two_pairs" uR f ["thing"] 1 G.w':=by
 refine gI F aej rfl (by decide) λau cf A outer s H E aO=>?_;exact (dg (eI (lz (g4<|nf rfl T.lM lN rfl T.mC mD<|aX 0) (lz (g4 (me (mm<|ez aO) (a0 (fz jy (by rfl) T.iH iI<|bl<|aX 0)) bV<|gP _))<|lz (g4<|d7 Ec aO rfl<|bl<|a0<|ey aO (aX 0) bV)<|g4<|qW<|d7 Ec aO rfl<|bl<|a0<|ey aO (aX 0) bV))))
theorem FM:fq ad1 ["thing"] (c3 rm):=⟨rfl,rfl,rfl,by decide +kernel,rfl,by decide +kernel,by decide +kernel⟩
theorem ael(F:fJ K mg "is_cell" rm f ["thing"])(T:Txt mg){JI:ar}(Ec:cC P w K mg base 2 "is_pair" xj JI ["thing"] 1 G.rg):
  cC P w K mg base 3 "is_cell" rm f ["thing"] 1 G.rh:=by
 refine gI F FM rfl (by decide) λau cf A outer s H E aO=>?_;exact (dg<|eI<|lz (g4<|d7 Ec aO rfl<|bl<|aX 0)<|lz (g4<|OV sh sh bV (a0<|ey aO (aX 0) bV)<|a0<|p2 rfl T.RV.choose_spec)<|g4<|qW<|OV sh sh bV (a0<|ey aO (aX 0) bV)<|a0<|p2 rfl T.RV.choose_spec)
theorem aem:fq JF ["thing","is_kind"] (c3 uS):=⟨rfl,rfl,rfl,by decide +kernel,rfl,by decide +kernel,by decide +kernel⟩
theorem aen(F:fJ K mg "is_rising" uS f ["thing","is_kind"])(T:Txt mg){dX:ar}(xo:cC P w K mg base 3 "is_cell" rm dX ["thing"] 1 G.rh):
  cC P w K mg base 4 "is_rising" uS f ["thing","is_kind"] 2 (G.zW dX):=by
 refine gI F aem rfl (by decide) λau cf A outer s H E aO=>?_;exact (c7 (jb (jx.pQ (pP (ly<|jz<|a0<|nf rfl T.lM lN rfl T.mC mD<|aX 0) (r6 (ly (jz (a0 (fz (t_ rfl) (by rfl) T.uO uQ (bl (a0 (lD (own:=["part"]) (caps:=[1]) rfl (kv (c3 uS) JF (by decide +kernel)) (by decide) (iC<|aX 0) (λY=>(eX (i:=0) (show (["part","is_kind"]:List aQ).Nodup by decide +kernel) rfl (Or.inl rfl) (by decide))) (λY=>oN)<|λY=>(PU xo aO (f7 1)<|bl<|aX 0))))))))))) (dg<|eI md) ja) (dg (eI (fz (t_ rfl) (by rfl) T.uO uQ (bl (a0 (lD (own:=["ahead","behind"]) (caps:=[]) rfl (kv (c3 uS) JF (by decide +kernel)) (by decide) (HH rfl T.JC (cW (aX 0) (by exact (bl<|a0<|yX (aX 0) (yW m5) yV)))) (λY=>(pW rfl (iz (eX (i:=0) (show (["ahead","behind"]:List aQ).Nodup by decide +kernel) rfl (Or.inl rfl) (by decide)) (iz (eX (i:=1) (show (["ahead","behind"]:List aQ).Nodup by decide +kernel) rfl (Or.inl rfl) (by decide)) pV)))) (λY=>oN)<|λY=>(me (Q0<|ez aO) (aX 0) (aX 1)<|gP _))))))))
theorem aeo:fq JG ["thing","is_kind"] (c3 ii):=⟨rfl,rfl,rfl,by decide +kernel,rfl,by decide +kernel,by decide +kernel⟩
theorem aep(F:fJ K mg "is_rising" ii f ["thing","is_kind"])(T:Txt mg){fC:ar}(Ed:cC P w K mg base 3 "are_two_pairs" uR fC ["thing"] 1 G.w'):
  cC P w K mg base 4 "is_rising" ii f ["thing","is_kind"] 2 (G.w_ fC):=by
 refine gI F aeo rfl (by decide) λau cf A outer s H E aO=>?_;exact (c7 (jb (jx.pQ (pP (ly<|jz<|a0<|nf rfl T.lM lN rfl T.mC mD<|aX 0) (r6 (ly (jz (a0 (fz (t_ rfl) (by rfl) T.uO uQ (bl (a0 (lD (own:=["part"]) (caps:=[1]) rfl (kv (c3 ii) JG (by decide +kernel)) (by decide) (iC<|aX 0) (λY=>(eX (i:=0) (show (["part","is_kind"]:List aQ).Nodup by decide +kernel) rfl (Or.inl rfl) (by decide))) (λY=>oN)<|λY=>(PU Ed aO (f7 1)<|bl<|aX 0))))))))))) (dg<|eI md) ja) (dg (eI (fz (t_ rfl) (by rfl) T.uO uQ (bl (a0 (lD (own:=["ahead","behind"]) (caps:=[]) rfl (kv (c3 ii) JG (by decide +kernel)) (by decide) (HH rfl T.JC (cW (aX 0) (by exact (bl<|a0<|yX (aX 0) (yW m5) yV)))) (λY=>(pW rfl (iz (eX (i:=0) (show (["ahead","behind"]:List aQ).Nodup by decide +kernel) rfl (Or.inl rfl) (by decide)) (iz (eX (i:=1) (show (["ahead","behind"]:List aQ).Nodup by decide +kernel) rfl (Or.inl rfl) (by decide)) pV)))) (λY=>oN)<|λY=>(me (Q0<|ez aO) (aX 0) (aX 1)<|gP _))))))))
theorem FS:fq ad2 ["things"] (c3 rn):=⟨rfl,rfl,rfl,by decide +kernel,rfl,by decide +kernel,by decide +kernel⟩
theorem aeq(F:fJ K mg "lookup" rn f ["things"])(T:Txt mg):
  cC P w K mg base 1 "lookup" rn f ["things"] 1 G.jj:=by
 refine gI F FS rfl (by decide) λau cf A outer s H E aO=>?_;exact (c7 (fB (i:=1) au rfl (Or.inl rfl) OP (by decide)) (c7 (q0 (fx:=[0]) nv rfl (iC<|aX 0) (eX (i:=2) au rfl (Or.inl rfl) (by decide)) (dg<|oL md<|uc (f7 1) (lx<|f7 2)<|C8<|ez aO) (by decide) (wd (by decide)))<|dg<|eI<|lx<|f7 1))
theorem aer:fq Fr ["cell"] (c3 z_):=⟨rfl,rfl,rfl,by decide +kernel,rfl,by decide +kernel,by decide +kernel⟩
theorem aes(F:fJ K mg "around" z_ f ["cell"])(T:Txt mg):
  cC P w K mg base 1 "around" z_ f ["cell"] 1 G.DZ:=by
 refine gI F aer rfl (by decide) λau cf A outer s H E aO=>?_;exact (c7 (fB (i:=1) au rfl (Or.inl rfl) (ey aO (aX 0) bV) (by decide)) (c7 (fB (i:=2) au rfl (Or.inl rfl) (ey aO (aX 0) bV) (by decide)) (dg (eI (m7 (by exact (cW (a0 (gq (by exact (cW (a0<|dt t7 (aX 1) bV) (by exact (bl<|aX 2)))))) (by exact (cW (a0 (gq (by exact (cW (aX 1) (by exact (bl<|a0<|dt t7 (aX 2) bV)))))) (by exact (cW (a0 (gq (by exact (cW (aX 1) (by exact (bl<|a0<|dt h2 (aX 2) bV)))))) (by exact (bl (a0 (gq (by exact (cW (a0<|dt h2 (aX 1) bV) (by exact (bl<|aX 2)))))))))))))))))))
theorem aet:fq ad3 ["free","start"] (c3 Aa):=⟨rfl,rfl,rfl,by decide +kernel,rfl,by decide +kernel,by decide +kernel⟩
theorem aeu(F:fJ K mg "reached" Aa f ["free","start"])(T:Txt mg){aev:ar}(aew:cC P w K mg base 1 "around" z_ aev ["cell"] 1 G.DZ):
  cC P w K mg base 2 "reached" Aa f ["free","start"] 2 G.uJ:=by
 refine gI F aet rfl (by decide) λau cf A outer s H E aO=>?_;exact (c7 (fB (i:=2) au rfl (Or.inl rfl) (ZE (ez aO) (lx<|f7 1) md) (by decide)) (c7 (fB (i:=3) au rfl (Or.inl rfl) (m7 (by exact (bl<|aX 1))) (by decide)) (c7 (NW 1000000 nv (jz<|aX 3) (dg (q0 (fx:=[0,1]) nv rfl (iC<|a0<|d7 aew aO rfl<|bl<|a0<|YW ub s8 PySem.F.slot_list_pop PySem.F.type_list_pop YX<|f7 3) (eX (i:=4) au rfl (Or.inl rfl) (by decide)) (dg<|jb (jx.pQ<|CC (ib (zd<|ez aO) (aX 4) (aX 0) rfl)<|NM<|ib (HX<|ez aO) (aX 4) (aX 2) rfl) (c7 (oL md<|uc (f7 2) (lx<|f7 4)<|C8<|ez aO)<|dg<|tX<|wq ub s8 Fb Fc Hz (f7 3)<|bl<|aX 4) ja) (by decide) Ye))) (dg (eI (oI t8 rfl T.mC mD (bl (a0 (fz (wC rfl<|ez aO) (by rfl) T.uP xi<|bl<|aX 2)))))))))
theorem aex:fq ad4 ["field","cell"] (c3 xk):=⟨rfl,rfl,rfl,by decide +kernel,rfl,by decide +kernel,by decide +kernel⟩
theorem aey(F:fJ K mg "block_of" xk f ["field","cell"])(T:Txt mg):
  cC P w K mg base 1 "block_of" xk f ["field","cell"] 2 G.wF:=by
 refine gI F aex rfl (by decide) λau cf A outer s H E aO=>?_;exact (dg (eI (gq (by exact (cW (a0<|dt t7 (a0<|ey aO (aX 1) bV)<|a0<|dt q1 (a0<|dt t7 (a0<|ey aO (aX 1) bV)<|a0<|ey aO (a0<|ey aO (aX 0) bV) bV)<|a0<|p2 rfl T.sJ.choose_spec) (by exact (bl<|a0<|dt t7 (a0<|ey aO (aX 1) bV)<|a0<|dt q1 (a0<|dt t7 (a0<|ey aO (aX 1) bV)<|a0<|ey aO (a0<|ey aO (aX 0) bV) bV)<|a0<|p2 rfl T.sJ.choose_spec)))))))
theorem R4:fq JH ["field"] (c3 n5):=⟨rfl,rfl,rfl,by decide +kernel,rfl,by decide +kernel,by decide +kernel⟩
theorem aez(F:fJ K mg "blocks" n5 f ["field"])(T:Txt mg){rq:ar}(rr:cC P w K mg base 1 "lookup" rn rq ["things"] 1 G.jj){JJ:ar}(JK:cC P w K mg base 1 "block_of" xk JJ ["field","cell"] 2 G.wF):
  cC P w K mg base 2 "blocks" n5 f ["field"] 1 G.kP:=by
 refine gI F R4 rfl (by decide) λau cf A outer s H E aO=>?_;exact (c7 (fB (i:=1) au rfl (Or.inl rfl) (d7 rr aO rfl (bl (a0 (lD (own:=["cell"]) (caps:=[0]) rfl (kv (c3 n5) JH (by decide +kernel)) (by decide) (iC<|aX 0) (λY=>(eX (i:=0) (show (["cell","field"]:List aQ).Nodup by decide +kernel) rfl (Or.inl rfl) (by decide))) (λY=>oN) (λY=>(d7 JK aO rfl (cW (aX 1) (by exact (bl<|aX 0))))))))) (by decide)) (c7 (jb (ib (yU<|ez aO) (a0 (fz jy (by rfl) T.iH iI<|bl<|aX 0)) (a0 (dt ml (a0 (dt ml (a0 (fz u8 (by rfl) T.iH iI<|bl<|aX 1))<|a0<|p2 rfl T.sJ.choose_spec))<|a0<|p2 rfl T.sJ.choose_spec))<|gP _) (dg X9) ja) (dg (eI (oI t8 rfl T.mC mD (bl (a0 (fz (wC rfl<|ez aO) (by rfl) T.uP xi<|bl<|aX 1))))))))
theorem aeA(F:fJ K mg "blocks" n5 f ["field"])(T:Txt mg){rq:ar}(rr:cC P w K mg base 1 "lookup" rn rq ["things"] 1 G.jj){JJ:ar}(JK:cC P w K mg base 1 "block_of" xk JJ ["field","cell"] 2 G.wF){kg:ar}(rt:DK K mg "NoBlocks" kg):
  wU P w K mg base 2 "blocks" n5 f ["field"] 1 (mx 1 2 G.w9) kg:=by
 refine P5 (fix:=[]) F R4 rfl λau cf A outer s H E aO=>?_;exact (aa5 (fB (i:=1) au rfl (Or.inl rfl) (d7 rr aO rfl (bl (a0 (lD (own:=["cell"]) (caps:=[0]) rfl (kv (c3 n5) JH (by decide +kernel)) (by decide) (iC<|aX 0) (λY=>(eX (i:=0) (show (["cell","field"]:List aQ).Nodup by decide +kernel) rfl (Or.inl rfl) (by decide))) (λY=>oN) (λY=>(d7 JK aO rfl (cW (aX 1) (by exact (bl<|aX 0))))))))) (by decide)) (aa6 (ib (yU<|ez aO) (a0 (fz jy (by rfl) T.iH iI<|bl<|aX 0)) (a0 (dt ml (a0 (dt ml (a0 (fz u8 (by rfl) T.iH iI<|bl<|aX 1))<|a0<|p2 rfl T.sJ.choose_spec))<|a0<|p2 rfl T.sJ.choose_spec))<|gP _)<|aa7 rfl rfl rt.1 rt.2<|λD σ H z=>aaK D σ H z))
theorem aeB:fq ad5 ["thing"] (c3 Ab):=⟨rfl,rfl,rfl,by decide +kernel,rfl,by decide +kernel,by decide +kernel⟩
theorem aeC(F:fJ K mg "is_floor" Ab f ["thing"])(T:Txt mg){dX:ar}(xo:cC P w K mg base 3 "is_cell" rm dX ["thing"] 1 G.rh){aeD:ar}(aeE:cC P w K mg base 4 "is_rising" uS aeD ["thing","is_kind"] 2 (G.zW dX)):
  cC P w K mg base 5 "is_floor" Ab f ["thing"] 1 (G.w8 dX):=by
 refine gI F aeB rfl (by decide) λau cf A outer s H E aO=>?_;exact (dg (eI (d7 aeE aO rfl (cW (aX 0) (by exact (bl<|a0<|On rfl xo.m))))))
theorem aeF:fq ad6 ["thing"] (c3 Ac):=⟨rfl,rfl,rfl,by decide +kernel,rfl,by decide +kernel,by decide +kernel⟩
theorem Gc(F:fJ K mg "is_field" Ac f ["thing"])(T:Txt mg){dX:ar}(xo:cC P w K mg base 3 "is_cell" rm dX ["thing"] 1 G.rh){aeG:ar}(aeH:cC P w K mg base 5 "is_floor" Ab aeG ["thing"] 1 (G.w8 dX)){aeI:ar}(aeJ:cC P w K mg base 2 "reached" Aa aeI ["free","start"] 2 G.uJ){rq:ar}(rr:cC P w K mg base 1 "lookup" rn rq ["things"] 1 G.jj):
  cC P w K mg base 6 "is_field" Ac f ["thing"] 1 (G.uK dX):=by
 refine gI F aeF rfl (by decide) λau cf A outer s H E aO=>?_;exact (c7 (jb (jx.pQ (pP (ly<|jz<|a0<|d7 aeH aO rfl<|bl<|aX 0) (r6 (ib (mm<|ez aO) (a0 (fz jy (by rfl) T.iH iI<|bl<|aX 0)) bV<|gP _)))) (dg<|eI md) ja) (dg (eI (me (mm<|ez aO) (a0 (fz jy (by rfl) T.iH iI (bl (a0 (d7 aeJ aO rfl (cW (a0<|d7 rr aO rfl<|bl<|aX 0) (by exact (bl<|a0<|ey aO (aX 0) bV)))))))) (a0 (fz jy (by rfl) T.iH iI<|bl<|aX 0))<|gP _))))
theorem aeK:fq RY ["some"] (c3 uT):=⟨rfl,rfl,rfl,by decide +kernel,rfl,by decide +kernel,by decide +kernel⟩
theorem aeL(F:fJ K mg "all_branches" uT f ["some"])(T:Txt mg){rq:ar}(rr:cC P w K mg base 1 "lookup" rn rq ["things"] 1 G.jj):
  cC P w K mg base 2 "all_branches" uT f ["some"] 1 G.uL:=by
 refine gI F aeK rfl (by decide) λau cf A outer s H E aO=>?_;exact (c7 (fB (i:=1) au rfl (Or.inr rfl) (d7 rr aO rfl<|bl<|aX 0) (by decide)) (c7 (fB (i:=2) au rfl (Or.inl rfl) (m7 (by exact tU)) (by decide)) (c7 (q0 (fx:=[0]) nv rfl (iC<|aX 0) (eX (i:=3) au rfl (Or.inr rfl) (by decide)) (c7 (fB (i:=4) au rfl (Or.inl rfl) (m7 (by exact (cW (a0 (gq (by exact (cW (a0<|ey aO (aX 3) bV) (by exact (bl<|a0<|dt h2 (a0<|ey aO (aX 3) bV)<|a0<|p2 rfl T.sJ.choose_spec)))))) (by exact (bl (a0 (gq (by exact (cW (a0<|dt h2 (a0<|ey aO (aX 3) bV)<|a0<|p2 rfl T.sJ.choose_spec) (by exact (bl<|a0<|ey aO (aX 3) bV))))))))))) (by decide)) (dg (tX (wq ub s8 Fd Fe HB (f7 2) (bl (a0 (lD (own:=["other"]) (caps:=[1,3]) rfl (kv (c3 uT) RY (by decide +kernel)) (by decide) (iC<|aX 4) (λY=>(eX (i:=0) (show (["other","every","block"]:List aQ).Nodup by decide +kernel) rfl (Or.inl rfl) (by decide))) (λY=>(yQ<|ib (zd<|ez aO) (aX 0) (aX 1) rfl)) (λY=>(gq (by exact (cW (aX 2) (by exact (bl<|aX 0))))))))))))) (by decide) (wd (by decide)))<|dg<|eI<|lx<|f7 2)))
theorem aeM:fq ad7 ["some","branches"] (c3 Ad):=⟨rfl,rfl,rfl,by decide +kernel,rfl,by decide +kernel,by decide +kernel⟩
theorem aeN(F:fJ K mg "joining" Ad f ["some","branches"])(T:Txt mg):
  cC P w K mg base 1 "joining" Ad f ["some","branches"] 2 G.z2:=by
 refine gI F aeM rfl (by decide) λau cf A outer s H E aO=>?_;exact (c7 (fB (i:=2) au rfl (Or.inl rfl) OP (by decide)) (c7 (q0 (fx:=[0,1]) nv rfl (iC<|aX 0) (eX (i:=3) au rfl (Or.inl rfl) (by decide)) (dg<|oL (lx<|f7 3)<|uc (f7 2) (lx<|f7 3)<|C8<|ez aO) (by decide) (wd (by decide))) (c7 (fB (i:=4) au rfl (Or.inl rfl) (m7 (by exact tU)) (by decide)) (c7 (q0 (fx:=[0,1]) nv rfl (iC<|aX 1) (eX (i:=5) au rfl (Or.inl rfl) (by decide)) (c7 (fB (i:=6) au rfl (Or.inl rfl) (ey aO (aX 2)<|a0<|ey aO (aX 5) bV) (by decide)) (c7 (fB (i:=7) au rfl (Or.inl rfl) (ey aO (aX 2)<|a0<|ey aO (aX 5) bV) (by decide)) (dg (jb (ib (yU<|ez aO) (aX 6) (aX 7)<|gP _) (c7 (tX<|wq ub s8 Fb Fc Hz (f7 4)<|bl<|aX 5) (dg (q0 (fx:=[0,1]) nv rfl (iC<|aX 0) (eX (i:=3) au rfl (Or.inl rfl) (by decide)) (dg<|jb (ib (mm<|ez aO) (a0<|ey aO (aX 2)<|aX 3) (aX 7)<|gP _) (dg<|oL (lx<|f7 6)<|uc (f7 2) (lx<|f7 3)<|C8<|ez aO) ja) (by decide) (wd (by decide))))) ja)))) (by decide) (wd (by decide))) (dg (eI (oI t8 rfl T.mC mD (bl (a0 (fz (wC rfl<|ez aO) (by rfl) T.uP xi<|bl<|aX 4))))))))))
theorem aeO:fq ad8 ["some","kept"] (c3 uU):=⟨rfl,rfl,rfl,by decide +kernel,rfl,by decide +kernel,by decide +kernel⟩
theorem aeP(F:fJ K mg "full_tree" uU f ["some","kept"])(T:Txt mg){aeQ:ar}(aeR:cC P w K mg base 1 "joining" Ad aeQ ["some","branches"] 2 G.z2){JL:ar}(JM:cC P w K mg base 2 "all_branches" uT JL ["some"] 1 G.uL):
  cC P w K mg base 3 "full_tree" uU f ["some","kept"] 2 G.sE:=by
 refine gI F aeO rfl (by decide) λau cf A outer s H E aO=>?_;exact (dg (eI (d7 aeR aO rfl (cW (aX 0) (by exact (bl<|a0<|dt h2 (a0<|oI Hv rfl T.JB JE<|bl<|aX 1)<|a0<|d7 JM aO rfl<|bl<|aX 0))))))
theorem aeS:fq RZ ["field","thing"] (c3 xl):=⟨rfl,rfl,rfl,by decide +kernel,rfl,by decide +kernel,by decide +kernel⟩
theorem aeT(F:fJ K mg "is_tree" xl f ["field","thing"])(T:Txt mg){dX:ar}(xo:cC P w K mg base 3 "is_cell" rm dX ["thing"] 1 G.rh){fC:ar}(Ed:cC P w K mg base 3 "are_two_pairs" uR fC ["thing"] 1 G.w'){aeU:ar}(aeV:cC P w K mg base 6 "is_field" Ac aeU ["thing"] 1 (G.uK dX)){aeW:ar}(aeX:cC P w K mg base 4 "is_rising" ii aeW ["thing","is_kind"] 2 (G.w_ fC)){xp:ar}(Ee:cC P w K mg base 2 "blocks" n5 xp ["field"] 1 G.kP){rq:ar}(rr:cC P w K mg base 1 "lookup" rn rq ["things"] 1 G.jj){JL:ar}(JM:cC P w K mg base 2 "all_branches" uT JL ["some"] 1 G.uL){An:ar}(Ao:cC P w K mg base 3 "full_tree" uU An ["some","kept"] 2 G.sE):
  cC P w K mg base 7 "is_tree" xl f ["field","thing"] 2 (G.xa fC dX):=by
 refine gI F aeS rfl (by decide) λau cf A outer s H E aO=>?_;exact (c7 (jb (jx.pQ (pP (ly<|jz<|a0<|d7 aeV aO rfl<|bl<|aX 0) (r6 (ly (jz (a0 (d7 aeX aO rfl (cW (aX 1) (by exact (bl<|a0<|On rfl Ed.m)))))))))) (dg<|eI md) ja) (c7 (PY (λE p=>(dg (fB (i:=2) au rfl (Or.inl rfl) (d7 Ee aO rfl<|bl<|aX 0) (by decide))))) (c7 (fB (i:=3) au rfl (Or.inr rfl) (d7 rr aO rfl<|bl<|a0<|d7 JM aO rfl<|bl<|aX 2) (by decide)) (dg (eI (lz (g4 (fz (t_ rfl) (by rfl) T.uO uQ (bl (a0 (lD (own:=["branch"]) (caps:=[3]) rfl (kv (c3 xl) RZ (by decide +kernel)) (by decide) (iC<|aX 1) (λY=>(eX (i:=0) (show (["branch","every"]:List aQ).Nodup by decide +kernel) rfl (Or.inl rfl) (by decide))) (λY=>oN)<|λY=>(me (zd<|ez aO) (aX 0) (aX 1) rfl)))))) (g4 (qW (me (mm<|ez aO) (a0 (d7 Ao aO rfl (cW (aX 2) (by exact (bl<|aX 1))))) (aX 1)<|gP _)))))))))
theorem R5:fq ad9 ["field"] (c3 ro):=⟨rfl,rfl,rfl,by decide +kernel,rfl,by decide +kernel,by decide +kernel⟩
theorem aeY(F:fJ K mg "some_tree" ro f ["field"])(T:Txt mg){An:ar}(Ao:cC P w K mg base 3 "full_tree" uU An ["some","kept"] 2 G.sE){xp:ar}(Ee:cC P w K mg base 2 "blocks" n5 xp ["field"] 1 G.kP):
  cC P w K mg base 4 "some_tree" ro f ["field"] 1 G.lL:=by
 refine gI F R5 rfl (by decide) λau cf A outer s H E aO=>?_;exact (dg (eI (d7 Ao aO rfl (cW (a0<|d7 Ee aO rfl<|bl<|aX 0) (by exact (bl (a0 (gq (by exact tU)))))))))
theorem Go(F:fJ K mg "some_tree" ro f ["field"])(T:Txt mg){An:ar}(Ao:cC P w K mg base 3 "full_tree" uU An ["some","kept"] 2 G.sE){xp:ar}(Ee:cC P w K mg base 2 "blocks" n5 xp ["field"] 1 G.kP){kg:ar}(rt:DK K mg "NoBlocks" kg)(aeZ:wU P w K mg base 2 "blocks" n5 xp ["field"] 1 (mx 1 2 G.w9) kg):
  wU P w K mg base 4 "some_tree" ro f ["field"] 1 (mx 1 1 G.uM) kg:=by
 refine P5 (fix:=[]) F R5 rfl λau cf A outer s H E aO=>?_;exact (abe<|abd Ao aO rfl<|aa'<|P6 aeZ aO rfl rfl (λσ H z=>aba σ H z)<|bl<|aX 0)
theorem ae0:fq ad' ["_law_script","_law_k"] (c3 Ae):=⟨rfl,rfl,rfl,by decide +kernel,rfl,by decide +kernel,by decide +kernel⟩
theorem ae1(F:fJ K mg "_law_cell_at" Ae f ["_law_script","_law_k"])(T:Txt mg):
  cC P w K mg base 1 "_law_cell_at" Ae f ["_law_script","_law_k"] 2 G.wG:=by
 refine gI F ae0 rfl (by decide) λau cf A outer s H E aO=>?_;exact (c7 (jb (ib Hr (aX 1) (a0 (fz jy (by rfl) T.iH iI<|bl<|aX 0))<|gP _) (dg<|eI<|ey aO (aX 0)<|aX 1) ja)<|dg<|eI m5)
theorem ae2:fq ad_ ["_law_script","_law_k"] (c3 Af):=⟨rfl,rfl,rfl,by decide +kernel,rfl,by decide +kernel,by decide +kernel⟩
theorem Gt(F:fJ K mg "_law_hand" Af f ["_law_script","_law_k"])(T:Txt mg){ae3:ar}(ae4:cC P w K mg base 1 "_law_cell_at" Ae ae3 ["_law_script","_law_k"] 2 G.wG):
  cC P w K mg base 2 "_law_hand" Af f ["_law_script","_law_k"] 2 G.zm:=by
 refine gI F ae2 rfl (by decide) λau cf A outer s H E aO=>?_;exact (c7 (fB (i:=2) au rfl (Or.inl rfl) (d7 ae4 aO rfl (cW (aX 0) (by exact (bl<|aX 1)))) (by decide)) (c7 (fB (i:=3) au rfl (Or.inl rfl) (dt ml (a0<|dt ml (a0<|dt CS bV bV)<|a0<|dt CS bV bV)<|a0<|dt CS bV bV) (by decide)) (c7 (fB (i:=4) au rfl (Or.inl rfl) (dt q1 (a0<|dt ml (a0<|dt h2 (a0<|dt h2 (a0<|dt q1 (aX 2) bV)<|a0<|dt ml (a0<|dt ml bV<|aX 1)<|aX 1) bV) bV) bV) (by decide)) (dg (eI (m7 (by exact (cW (a0<|dt ml (a0<|dt q1 (aX 2)<|aX 3)<|a0<|oI YL rfl T.JA JD<|bl<|a0<|me Yv (aX 2) (a0<|dt CS bV bV)<|gP _) (by exact (cW (aX 4) (by exact (bl bV))))))))))))
theorem ae5:fq FB ["_law_hand_here","_law_many"] (c3 Ag):=⟨rfl,rfl,rfl,by decide +kernel,rfl,by decide +kernel,by decide +kernel⟩
theorem ae6(F:fJ K mg "_law_pick" Ag f ["_law_hand_here","_law_many"])(T:Txt mg):
  cC P w K mg base 1 "_law_pick" Ag f ["_law_hand_here","_law_many"] 2 G.jh:=by
 refine gI F ae5 rfl (by decide) λau cf A outer s H E aO=>?_;exact (c7 (jb (ib Yu (a0<|ey aO (aX 0) bV) bV<|gP _) (c7 (fB (i:=2) au rfl (Or.inl rfl) (dt q1 (a0<|ey aO (aX 0) bV)<|aX 1) (by decide))<|c7 (oL (dt Oh (a0<|ey aO (aX 0) bV)<|aX 1)<|uc (f7 0) m5<|HM<|ez aO)<|dg<|eI<|lx<|f7 2) ja)<|c7 (oL (dt h2 (a0<|ey aO (aX 0) bV) bV)<|uc (f7 0) m5<|HM<|ez aO)<|c7 (oL (dt q1 (a0<|dt h2 (a0<|dt h2 (a0<|dt ml (a0<|ey aO (aX 0) bV) bV) bV)<|a0<|dt ml bV<|a0<|ey aO (aX 0) bV) bV)<|uc (f7 0) m5<|HM<|ez aO)<|dg<|eI<|dt q1 (a0<|dt Oh (a0<|dt q1 (a0<|dt ml (a0<|ey aO (aX 0) bV)<|a0<|ey aO (aX 0) bV) bV) bV)<|aX 1)
theorem R6:fq R0 ["_law_got","_law_due"] (c3 xm):=⟨rfl,rfl,rfl,by decide +kernel,rfl,by decide +kernel,by decide +kernel⟩
theorem ae7{Ap:ar}{JN:iN}(R7:jT K "_law_same" "_law_same" xm Ap JN)(T:Txt mg)(ae8:kY K JN ["_law_got","_law_due"] [])(ae9:mg "_law_same" = J (.ref Ap)):
  ∀k,iX P w K mg base k9 (1+k) Ap JN ["_law_got","_law_due"] (nP 2<|G.iF k):=by
 intro k;induction k with
 |zero=>exact⟨λvs H Q E h=>h.1,λA outer s H args us vs Q E aO he ae bb h=>absurd h.2 (by rintro⟨_,_,_,_,_,_,e,_⟩;cases e)⟩
 |succ k ae'=>
  have au:=R6.au;refine Oc (k:=1+k) R7 R6 rfl (by decide) (λcf A outer s H E aO=>?_);exact (c7 (jb (jz<|a0<|nf rfl T.lM lN rfl T.mC mD<|aX 1) (c7 (jb (jx.pQ (pP (ly<|jz<|a0<|nf rfl T.lM lN rfl T.mC mD<|aX 0) (r6 (ib (yU<|ez aO) (a0 (fz jy (by rfl) T.iH iI<|bl<|aX 0)) (a0 (fz jy (by rfl) T.iH iI<|bl<|aX 1))<|gP _)))) (dg<|eI md) ja) (dg (eI (fz (t_ rfl) (by rfl) T.uO uQ (bl (a0 (lD (own:=["_law_one","_law_other"]) (caps:=[]) rfl (kv (c3 xm) R0 (by decide +kernel)) (by decide) (HH rfl T.JC (cW (aX 0) (by exact (bl<|aX 1)))) (λY=>(pW rfl (iz (eX (i:=0) (show (["_law_one","_law_other"]:List aQ).Nodup by decide +kernel) rfl (Or.inl rfl) (by decide)) (iz (eX (i:=1) (show (["_law_one","_law_other"]:List aQ).Nodup by decide +kernel) rfl (Or.inl rfl) (by decide)) pV)))) (λY=>oN) (λY=>(NS ae' (aO.mono<|cp _) rfl ae9 R7.fk ae8 (cW (aX 0) (by exact (bl<|aX 1)))))))))))) ja)<|c7 (jb (jz<|a0<|nf rfl T.lM lN rfl T.RU RX<|aX 1) (dg<|eI<|lz (g4<|nf rfl T.lM lN rfl T.RU RX<|aX 0)<|g4<|qW<|me (mm<|ez aO) (aX 0) (aX 1)<|gP _) ja)<|dg<|eI<|lz (g4<|nf rfl T.lM lN rfl T.JA JD<|aX 0)<|lz (g4<|NO<|g4<|nf rfl T.lM lN rfl T.RS RW<|aX 0)<|g4<|qW<|me (mm<|ez aO) (aX 0) (aX 1)<|gP _)
theorem ae_:fq aea ["_law_hand_here"] (c3 Ah):=⟨rfl,rfl,rfl,by decide +kernel,rfl,by decide +kernel,by decide +kernel⟩
theorem afa(F:fJ K mg "_law_some_blocks" Ah f ["_law_hand_here"])(T:Txt mg){afb:ar}(uV:cC P w K mg base 1 "_law_pick" Ag afb ["_law_hand_here","_law_many"] 2 G.jh):
  cC P w K mg base 2 "_law_some_blocks" Ah f ["_law_hand_here"] 1 G.zo:=by
 refine gI F ae_ rfl (by decide) λau cf A outer s H E aO=>?_;exact (c7 (fB (i:=1) au rfl (Or.inl rfl) (dt h2 bV (a0 (d7 uV aO rfl (cW (aX 0) (by exact (bl (a0 (ey aO (a0 (m7 (by exact (cW bV (by exact (cW bV (by exact (cW bV (by exact (bl bV)))))))))) (a0 (d7 uV aO rfl (cW (aX 0) (by exact (bl bV))))))))))))) (by decide)) (c7 (fB (i:=2) au rfl (Or.inl rfl) (m7 (by exact (bl (a0 (gq (by exact (cW (a0 (d7 uV aO rfl (cW (aX 0) (by exact (bl bV))))) (by exact (bl (a0 (d7 uV aO rfl (cW (aX 0) (by exact (bl bV)))))))))))))) (by decide)) (c7 (q0 (fx:=[0]) nv rfl (N0 rfl T.RT<|bl<|a0<|dt ml bV<|aX 1) (eX (i:=3) au rfl (Or.inl rfl) (by decide)) (c7 (oL (ey aO (aX 2) (a0 (d7 uV aO rfl (cW (aX 0) (by exact (bl (a0 (fz jy (by rfl) T.iH iI<|bl<|aX 2)))))))) (pW rfl (iz (eX (i:=4) au rfl (Or.inl rfl) (by decide)) (iz (eX (i:=5) au rfl (Or.inl rfl) (by decide)) pV)))) (c7 (jb (ib (mm<|ez aO) (a0 (d7 uV aO rfl (cW (aX 0) (by exact (bl bV))))) bV<|gP _) (dg (oL (ey aO (aX 2)<|a0<|CU m5) (pW rfl (iz (eX (i:=4) au rfl (Or.inl rfl) (by decide)) (iz (eX (i:=5) au rfl (Or.inl rfl) (by decide)) pV))))) ja) (c7 (oL (ey aO (a0 (m7 (by exact (cW (a0 (gq (by exact (cW bV (by exact (bl bV)))))) (by exact (cW (a0 (gq (by exact (cW bV (by exact (bl bV)))))) (by exact (cW (a0 (gq (by exact (cW bV (by exact (bl<|a0<|CU m5)))))) (by exact (bl (a0 (gq (by exact (cW (a0<|CU m5) (by exact (bl bV)))))))))))))))) (a0 (d7 uV aO rfl (cW (aX 0) (by exact (bl bV)))))) (pW rfl (iz (eX (i:=6) au rfl (Or.inl rfl) (by decide)) (iz (eX (i:=7) au rfl (Or.inl rfl) (by decide)) pV)))) (c7 (fB (i:=8) au rfl (Or.inl rfl) (gq (by exact (cW (a0<|dt h2 (aX 4)<|aX 6) (by exact (bl<|a0<|dt h2 (aX 5)<|aX 7))))) (by decide)) (dg (jb (jx.pQ (CC (ib (HX<|ez aO) (aX 8) (aX 2) rfl) (CC (ib Hr (a0 (fz jy (by rfl) T.iH iI<|bl<|aX 2)) (aX 1)<|gP _)<|CC (OW sh sh bV (a0<|ey aO (aX 8) bV) bV)<|NM<|OW sh sh bV (a0<|ey aO (aX 8) bV) bV))) (dg<|tX<|wq ub s8 Fb Fc Hz (f7 2)<|bl<|aX 8) ja)))))) (by decide) N1) (dg (eI (fz (wC rfl<|ez aO) (by rfl) T.uP xi<|bl<|aX 2))))))
theorem afc:fq aeb ["_law_block"] (c3 Ai):=⟨rfl,rfl,rfl,by decide +kernel,rfl,by decide +kernel,by decide +kernel⟩
theorem afd(F:fJ K mg "_law_four" Ai f ["_law_block"])(T:Txt mg):
  cC P w K mg base 1 "_law_four" Ai f ["_law_block"] 1 G.zp:=by
 refine gI F afc rfl (by decide) λau cf A outer s H E aO=>?_;exact (c7 (oL (lx<|f7 0) (pW rfl (iz (eX (i:=1) au rfl (Or.inl rfl) (by decide)) (iz (eX (i:=2) au rfl (Or.inl rfl) (by decide)) pV)))) (dg (eI (m7 (by exact (cW (a0 (gq (by exact (cW (aX 1) (by exact (bl<|aX 2)))))) (by exact (cW (a0 (gq (by exact (cW (aX 1) (by exact (bl<|a0<|dt h2 (aX 2) bV)))))) (by exact (cW (a0 (gq (by exact (cW (a0<|dt h2 (aX 1) bV) (by exact (bl<|a0<|dt h2 (aX 2) bV)))))) (by exact (bl (a0 (gq (by exact (cW (a0<|dt h2 (aX 1) bV) (by exact (bl<|aX 2))))))))))))))))))
theorem afe:fq aec ["_law_some"] (c3 Aj):=⟨rfl,rfl,rfl,by decide +kernel,rfl,by decide +kernel,by decide +kernel⟩
theorem aff(F:fJ K mg "_law_field" Aj f ["_law_some"])(T:Txt mg){afg:ar}(afh:cC P w K mg base 1 "_law_four" Ai afg ["_law_block"] 1 G.zp):
  cC P w K mg base 2 "_law_field" Aj f ["_law_some"] 1 G.zq:=by
 refine gI F afe rfl (by decide) λau cf A outer s H E aO=>?_;exact (c7 (fB (i:=1) au rfl (Or.inl rfl) (m7 (by exact tU)) (by decide)) (c7 (q0 (fx:=[0]) nv rfl (iC<|aX 0) (eX (i:=2) au rfl (Or.inl rfl) (by decide)) (dg<|tX<|wq ub s8 Fd Fe HB (f7 1)<|bl<|a0<|d7 afh aO rfl<|bl<|aX 2) (by decide) (wd (by decide))) (dg (eI (oI t8 rfl T.mC mD (bl (a0 (fz (wC rfl<|ez aO) (by rfl) T.uP xi<|bl<|aX 1))))))))
theorem afi:fq R1 ["_law_some"] (c3 xn):=⟨rfl,rfl,rfl,by decide +kernel,rfl,by decide +kernel,by decide +kernel⟩
theorem GE(F:fJ K mg "_law_pairs" xn f ["_law_some"])(T:Txt mg):
  cC P w K mg base 1 "_law_pairs" xn f ["_law_some"] 1 G.wH:=by
 refine gI F afi rfl (by decide) λau cf A outer s H E aO=>?_;exact (c7 (fB (i:=1) au rfl (Or.inl rfl) (m7 (by exact tU)) (by decide)) (c7 (ZZ (fx:=[0]) nv rfl (aX 0) (pW rfl (iz (eX (i:=2) au rfl (Or.inr rfl) (by decide)) (iz (eX (i:=3) au rfl (Or.inr rfl) (by decide)) pV))) (dg (tX (wq ub s8 Fd Fe HB (f7 1) (bl (a0 (lD (own:=["_law_one"]) (caps:=[0,2,3]) rfl (kv (c3 xn) R1 (by decide +kernel)) (by decide) (iC (a0 (m7 (by exact (cW (a0 (gq (by exact (cW (aX 2) (by exact (bl<|a0<|dt h2 (aX 3) bV)))))) (by exact (bl (a0 (gq (by exact (cW (a0<|dt h2 (aX 2) bV) (by exact (bl<|aX 3))))))))))))) (λY=>(eX (i:=0) (show (["_law_one","_law_some","_law_row","_law_column"]:List aQ).Nodup by decide +kernel) rfl (Or.inl rfl) (by decide))) (λY=>(yQ<|ib (zd<|ez aO) (aX 0) (aX 1) rfl)) (λY=>(gq (by exact (cW (a0 (gq (by exact (cW (aX 2) (by exact (bl<|aX 3)))))) (by exact (bl<|aX 0)))))))))))) (by decide) (by decide)) (dg (eI (fz (wC rfl<|ez aO) (by rfl) T.uP xi<|bl<|aX 1)))))
theorem afj:fq Ak ["_law_some","_law_tree"] (c3 rp):=⟨rfl,rfl,rfl,by decide +kernel,rfl,by decide +kernel,by decide +kernel⟩
theorem afk(F:fJ K mg "_law_is_tree" rp f ["_law_some","_law_tree"])(T:Txt mg){afl:ar}(afm:cC P w K mg base 1 "_law_pairs" xn afl ["_law_some"] 1 G.wH):
  cC P w K mg base 2 "_law_is_tree" rp f ["_law_some","_law_tree"] 2 G.xb:=by
 refine gI F afj rfl (by decide) λau cf A outer s H E aO=>?_;exact (c7 (fB (i:=2) au rfl (Or.inr rfl) (d7 afm aO rfl<|bl<|aX 0) (by decide)) (c7 (jb (jx.pQ (pP (ly<|jz<|a0<|nf rfl T.lM lN rfl T.mC mD<|aX 1) (pP (ly (jz (a0 (fz (t_ rfl) (by rfl) T.uO uQ (bl (a0 (lD (own:=["_law_one"]) (caps:=[2]) rfl (kv (c3 rp) Ak (by decide +kernel)) (by decide) (iC<|aX 1) (λY=>(eX (i:=0) (show (["_law_one","_law_pairs_here"]:List aQ).Nodup by decide +kernel) rfl (Or.inl rfl) (by decide))) (λY=>oN)<|λY=>(me (zd<|ez aO) (aX 0) (aX 1) rfl))))))))<|r6<|ib (yU<|ez aO) (a0<|oI Hv rfl T.JB JE<|bl<|aX 1) (a0<|acJ (adY aO) rfl T.uP rfl T.adU<|bl<|aX 1)<|gP _))) (dg<|eI md) ja) (c7 (abi (i:=3) (j:=4) rfl au rfl rfl (Or.inr rfl) (Or.inr rfl) (cW (a0<|yX (aX 0) yV<|yW m5) (by exact (bl bV))) (by decide) (by decide)) (c7 (NW 1000000 nv (ib Hr (aX 4) (a0 (fz jy (by rfl) T.iH iI<|bl<|aX 3))<|gP _) (c7 (Zk (i:=5) (own:=["_law_one","_law_other"]) (caps:=[3,4]) au rfl (Or.inl rfl) rfl (kv (c3 rp) Ak (by decide +kernel)) (by decide) (iC<|aX 1) (λY=>(pW rfl (iz (eX (i:=0) (show (["_law_one","_law_other","_law_met","_law_at"]:List aQ).Nodup by decide +kernel) rfl (Or.inl rfl) (by decide)) (iz (eX (i:=1) (show (["_law_one","_law_other","_law_met","_law_at"]:List aQ).Nodup by decide +kernel) rfl (Or.inl rfl) (by decide)) pV)))) (λY=>(yQ<|ib (mm<|ez aO) (aX 0) (a0<|ey aO (aX 2)<|aX 3)<|gP _)) (λY=>(lx<|f7 1)) (by decide)) (c7 (fB (i:=5) au rfl (Or.inl rfl) (dt h2 (aX 5) (a0 (lD (own:=["_law_one","_law_other"]) (caps:=[3,4]) rfl (kv (c3 rp) Ak (by decide +kernel)) (by decide) (iC<|aX 1) (λY=>(pW rfl (iz (eX (i:=0) (show (["_law_one","_law_other","_law_met","_law_at"]:List aQ).Nodup by decide +kernel) rfl (Or.inl rfl) (by decide)) (iz (eX (i:=1) (show (["_law_one","_law_other","_law_met","_law_at"]:List aQ).Nodup by decide +kernel) rfl (Or.inl rfl) (by decide)) pV)))) (λY=>(yQ<|ib (mm<|ez aO) (aX 1) (a0<|ey aO (aX 2)<|aX 3)<|gP _))<|λY=>(lx<|f7 0)))) (by decide)) (c7 (fB (i:=4) au rfl (Or.inr rfl) (dt h2 (aX 4) bV) (by decide)) (dg (fB (i:=3) au rfl (Or.inr rfl) (dt h2 (aX 3) (a0 (lD (own:=["_law_block"]) (caps:=[3]) rfl (kv (c3 rp) Ak (by decide +kernel)) (by decide) (iC<|aX 5) (λY=>(eX (i:=0) (show (["_law_block","_law_met"]:List aQ).Nodup by decide +kernel) rfl (Or.inl rfl) (by decide))) (λY=>(yQ<|ib (HX<|ez aO) (aX 0) (aX 1) rfl))<|λY=>(lx<|f7 0)))) (by decide))))))) (dg (eI (lz (g4 (me (mm<|ez aO) (a0 (fz jy (by rfl) T.iH iI<|bl<|aX 3)) (a0 (fz jy (by rfl) T.iH iI<|bl<|aX 0))<|gP _)) (g4 (qW (me (mm<|ez aO) (a0 (fz jy (by rfl) T.iH iI<|bl<|aX 1)) (a0 (dt t7 (a0 (fz jy (by rfl) T.iH iI<|bl<|aX 0)) bV))<|gP _))))))))))
theorem afn:fq aed ["_law_field_here"] (c3 Al):=⟨rfl,rfl,rfl,by decide +kernel,rfl,by decide +kernel,by decide +kernel⟩
theorem afo(F:fJ K mg "_law_refused" Al f ["_law_field_here"])(T:Txt mg){Ef:ar}(Aq:cC P w K mg base 4 "some_tree" ro Ef ["field"] 1 G.lL){kg:ar}(rt:DK K mg "NoBlocks" kg)(afp:wU P w K mg base 4 "some_tree" ro Ef ["field"] 1 (mx 1 1 G.uM) kg){Ar:ar}(JO:mg "MowError" = J (.ref Ar))(Q_MowError:PySem.W.exmOne K (.ref kg) (.ref Ar)=J af)(V_ValueError:PySem.W.kitOne K (.ref kg) (.type "ValueError")=J af):
  cC P w K mg base 5 "_law_refused" Al f ["_law_field_here"] 1 G.sF:=by
 refine gI F afn rfl (by decide) λau cf A outer s H E aO=>?_;exact (c7 (fB (i:=1) au rfl (Or.inl rfl) md (by decide)) (c7 (aa8 (i:=2) (r:=G.I9) (g:=G.I') (gs:=G.D4) rfl rfl rfl rfl JO Q_MowError au rfl rfl (by decide) (λE p=>(dg<|tX<|d7 Aq aO rfl<|bl<|aX 0)) (λE p Z hz=>(abf<|P6 afp aO rfl rfl hz<|bl<|aX 0)) (λp e cz av aE=>(dg (fB (i:=1) au rfl (Or.inl rfl) (lz (g4<|aa1 aE av aa9 rfl T.lM lN rfl rt.1<|aX 2)<|g4<|qW<|aa2 aE av V_ValueError rfl T.lM lN rfl T.adR adV<|aX 2) (by decide)))) G.acO)<|dg<|eI<|lx<|f7 1))
theorem afq:fq R2 ["_law_script"] (c3 Am):=⟨rfl,rfl,rfl,by decide +kernel,rfl,by decide +kernel,by decide +kernel⟩
theorem afr(F:fJ K mg "law" Am f ["_law_script"])(T:Txt mg){fC:ar}(Ed:cC P w K mg base 3 "are_two_pairs" uR fC ["thing"] 1 G.w'){dX:ar}(xo:cC P w K mg base 3 "is_cell" rm dX ["thing"] 1 G.rh){afs:ar}(aft:cC P w K mg base 2 "_law_hand" Af afs ["_law_script","_law_k"] 2 G.zm){afu:ar}(afv:cC P w K mg base 2 "_law_some_blocks" Ah afu ["_law_hand_here"] 1 G.zo){afw:ar}(afx:cC P w K mg base 2 "_law_field" Aj afw ["_law_some"] 1 G.zq){Ef:ar}(Aq:cC P w K mg base 4 "some_tree" ro Ef ["field"] 1 G.lL){afy:ar}(afz:cC P w K mg base 2 "_law_is_tree" rp afy ["_law_some","_law_tree"] 2 G.xb){afA:ar}(afB:cC P w K mg base 7 "is_tree" xl afA ["field","thing"] 2 (G.xa fC dX)){Ap:ar}(R8:cC P w K mg base 7 "_law_same" xm Ap ["_law_got","_law_due"] 2 (G.iF 6)){afC:ar}(R9:cC P w K mg base 5 "_law_refused" Al afC ["_law_field_here"] 1 G.sF):
  cC P w K mg base 8 "law" Am f ["_law_script"] 1 (G.z3 fC dX):=by
 refine gI F afq rfl (by decide) λau cf A outer s H E aO=>?_;exact (c7 (q0 (fx:=[0]) nv rfl (N0 rfl T.RT (bl (a0 (fz (YM rfl) (by rfl) T.adS adW (cW bV (by exact (bl (a0 (fz (YN rfl) (by rfl) T.adT adX (cW bV (by exact (bl (a0 (fz jy (by rfl) T.iH iI<|bl<|aX 0)))))))))))))) (eX (i:=1) au rfl (Or.inl rfl) (by decide)) (c7 (fB (i:=2) au rfl (Or.inl rfl) (d7 aft aO rfl (cW (aX 0) (by exact (bl<|aX 1)))) (by decide)) (c7 (fB (i:=3) au rfl (Or.inl rfl) (d7 afv aO rfl<|bl<|aX 2) (by decide)) (c7 (fB (i:=4) au rfl (Or.inl rfl) (d7 afx aO rfl<|bl<|aX 3) (by decide)) (c7 (fB (i:=5) au rfl (Or.inl rfl) (d7 Aq aO rfl<|bl<|aX 4) (by decide)) (c7 (jb (jx.pQ (pP (ly (jz (a0 (d7 afz aO rfl (cW (aX 3) (by exact (bl<|aX 5))))))) (pP (ib YB (a0 (d7 afB aO rfl (cW (aX 4) (by exact (bl<|aX 5))))) (a0 md)<|gP _) (r6 (ly (jz (a0 (d7 R8 aO rfl (cW (a0<|d7 Aq aO rfl<|bl<|aX 4) (by exact (bl<|aX 5))))))))))) (dg<|eI md) ja) (c7 (jb (ly (jz (a0 (d7 R8 aO rfl (cW (aX 5) (by exact (bl (a0 (oI t8 rfl T.mC mD (bl (a0 (lD (own:=["_law_branch"]) (caps:=[]) rfl (kv (c3 Am) R2 (by decide +kernel)) (by decide) (iC<|aX 5) (λY=>(eX (i:=0) (show (["_law_branch"]:List aQ).Nodup by decide +kernel) rfl (Or.inl rfl) (by decide))) (λY=>oN) (λY=>(oI t8 rfl T.mC mD (bl (a0 (lD (own:=["_law_block"]) (caps:=[]) rfl (acK (by with_unfolding_all rfl)) (by decide) (iC<|aX 0) (λY=>(eX (i:=0) (show (["_law_block"]:List aQ).Nodup by decide +kernel) rfl (Or.inl rfl) (by decide))) (λY=>oN)<|λY=>(oI t8 rfl T.mC mD<|bl<|a0<|oI Hv rfl T.JB JE<|bl<|aX 0)))))))))))))))))) (dg<|eI md) ja)<|dg<|jb (jx.pQ<|pP (ly<|jz<|a0<|d7 R9 aO rfl<|bl<|a0<|yX (aX 4) yV<|yW<|CU m5)<|r6<|ly<|jz<|a0<|d7 R9 aO rfl<|bl<|a0<|yX (aX 4) yV<|yW m5) (dg<|eI md) ja)))))) (by decide) N1) (dg (eI (me (mm<|ez aO) (a0 (d7 Aq aO rfl (bl (a0 (gq (by exact (cW (a0 (gq (by exact (cW bV (by exact (bl bV)))))) (by exact (cW (a0 (gq (by exact (cW bV (by exact (bl bV)))))) (by exact (cW (a0 (gq (by exact (cW bV (by exact (bl bV)))))) (by exact (bl (a0 (gq (by exact (cW bV (by exact (bl bV))))))))))))))))))) (a0 (gq (by exact tU)))<|gP _))))
end
theorem all_mk{w:bN}{K:PySem.W.Frag}{h:br}{mg:aQ->Option aj}{fa afD afE afF afG afH afI afJ afK afL afM afN afO afP afQ afR afS afT afU afV R_ afW afX afY afZ af0 af1 af2:ar}(X:K.In h)(dJ:h.Ns fm mg)(Iq:mg "law" = J (.ref fa)){Sa Sb:lS}(r_w0:Raw K "is_whole" z' afD)(r_w1:Raw K "is_pair" xj afE)(r_w2:Raw K "are_two_pairs" uR z9)(r_w3:Raw K "is_cell" rm z8)(r_w4:Raw K "is_rising" uS afF)(r_w5:Raw K "is_rising" ii afG)(r_w6:Raw K "lookup" rn afH)(r_w7:Raw K "around" z_ afI)(r_w8:Raw K "reached" Aa afJ)(r_w9:Raw K "block_of" xk afK)(r_w10:Raw K "blocks" n5 afL)(r_w11:Raw K "is_floor" Ab afM)(r_w12:Raw K "is_field" Ac afN)(r_w13:Raw K "all_branches" uT afO)(r_w14:Raw K "joining" Ad afP)(r_w15:Raw K "full_tree" uU afQ)(r_w16:Raw K "is_tree" xl afR)(r_w17:Raw K "some_tree" ro afS)(r_w18:Raw K "_law_cell_at" Ae afT)(r_w19:Raw K "_law_hand" Af afU)(r_w20:Raw K "_law_pick" Ag afV)(r_w21:Raw K "_law_same" xm R_)(r_w22:Raw K "_law_some_blocks" Ah afW)(r_w23:Raw K "_law_four" Ai afX)(r_w24:Raw K "_law_field" Aj afY)(r_w25:Raw K "_law_pairs" xn afZ)(r_w26:Raw K "_law_is_tree" rp af0)(r_w27:Raw K "_law_refused" Al af1)(r_law:Raw K "law" Am af2)(g_GREATEST:PySem.W.nsIn K fm "GREATEST" = J (J<|.int 30 Sa))(g_SIDE:PySem.W.nsIn K fm "SIDE" = J (J<|.int 2 Sb)){kg:ar}(g_NoBlocks:PySem.W.nsIn K fm "NoBlocks" = J (J<|.ref kg))(x_NoBlocks:PySem.W.excIn K kg [.type "ValueError",.type "Exception",.type "BaseException",.type "object"] "ValueError.__new__" = af){Ar:ar}(g_MowError:PySem.W.nsIn K fm "MowError" = J (J<|.ref Ar))(Q_MowError:PySem.W.exmOne K (.ref kg) (.ref Ar)=J af)(V_ValueError:PySem.W.kitOne K (.ref kg) (.type "ValueError")=J af)(z_ValueError:PySem.W.nsIn K fm "ValueError" = J aa)(z_all:PySem.W.nsIn K fm "all" = J aa)(z_bool:PySem.W.nsIn K fm "bool" = J aa)(z_int:PySem.W.nsIn K fm "int" = J aa)(z_isinstance:PySem.W.nsIn K fm "isinstance" = J aa)(z_len:PySem.W.nsIn K fm "len" = J aa)(z_list:PySem.W.nsIn K fm "list" = J aa)(z_max:PySem.W.nsIn K fm "max" = J aa)(z_min:PySem.W.nsIn K fm "min" = J aa)(z_range:PySem.W.nsIn K fm "range" = J aa)(z_set:PySem.W.nsIn K fm "set" = J aa)(z_sorted:PySem.W.nsIn K fm "sorted" = J aa)(z_str:PySem.W.nsIn K fm "str" = J aa)(z_tuple:PySem.W.nsIn K fm "tuple" = J aa)(z_zip:PySem.W.nsIn K fm "zip" = J aa):
  ∃fd:iN,(∀(s:aA) (v:aj),rE s fd ⟨[v],[]⟩ [("_law_script",v)])/\∀base:br,K.In base->base.Ns fm mg->iX l.prog w K mg base k9 8 fa fd ["_law_script"] (nP 1<|G.z3 z9 z8):=by
 have T:Txt mg:=⟨kR X dJ z_ValueError,kR X dJ z_all,kR X dJ z_bool,kR X dJ z_int,kR X dJ z_isinstance,kR X dJ z_len,kR X dJ z_list,kR X dJ z_max,kR X dJ z_min,kR X dJ z_range,kR X dJ z_set,kR X dJ z_sorted,kR X dJ z_str,kR X dJ z_tuple,kR X dJ z_zip,⟨Sa,sV X dJ g_GREATEST⟩,⟨Sb,sV X dJ g_SIDE⟩⟩;have h_w0:=r_w0.cO (ps:=["thing"]) X dJ λ_ _ _ _ _ _ _=>rfl;have h_w1:=r_w1.cO (ps:=["thing"]) X dJ λ_ _ _ _ _ _ _=>rfl;have h_w2:=r_w2.cO (ps:=["thing"]) X dJ λ_ _ _ _ _ _ _=>rfl;have h_w3:=r_w3.cO (ps:=["thing"]) X dJ λ_ _ _ _ _ _ _=>rfl;have h_w4:=r_w4.d1 (ps:=["thing","is_kind"]) X dJ λ_ _ _ _ _ _ _ _=>rfl;have h_w5:=r_w5.d1 (ps:=["thing","is_kind"]) X dJ λ_ _ _ _ _ _ _ _=>rfl;have h_w6:=r_w6.cO (ps:=["things"]) X dJ λ_ _ _ _ _ _ _=>rfl;have h_w7:=r_w7.cO (ps:=["cell"]) X dJ λ_ _ _ _ _ _ _=>rfl;have h_w8:=r_w8.d1 (ps:=["free","start"]) X dJ λ_ _ _ _ _ _ _ _=>rfl;have h_w9:=r_w9.d1 (ps:=["field","cell"]) X dJ λ_ _ _ _ _ _ _ _=>rfl;have h_w10:=r_w10.cO (ps:=["field"]) X dJ λ_ _ _ _ _ _ _=>rfl;have h_w11:=r_w11.cO (ps:=["thing"]) X dJ λ_ _ _ _ _ _ _=>rfl;have h_w12:=r_w12.cO (ps:=["thing"]) X dJ λ_ _ _ _ _ _ _=>rfl;have h_w13:=r_w13.cO (ps:=["some"]) X dJ λ_ _ _ _ _ _ _=>rfl;have h_w14:=r_w14.d1 (ps:=["some","branches"]) X dJ λ_ _ _ _ _ _ _ _=>rfl;have h_w15:=r_w15.d1 (ps:=["some","kept"]) X dJ λ_ _ _ _ _ _ _ _=>rfl;have h_w16:=r_w16.d1 (ps:=["field","thing"]) X dJ λ_ _ _ _ _ _ _ _=>rfl;have h_w17:=r_w17.cO (ps:=["field"]) X dJ λ_ _ _ _ _ _ _=>rfl;have h_w18:=r_w18.d1 (ps:=["_law_script","_law_k"]) X dJ λ_ _ _ _ _ _ _ _=>rfl;have h_w19:=r_w19.d1 (ps:=["_law_script","_law_k"]) X dJ λ_ _ _ _ _ _ _ _=>rfl;have h_w20:=r_w20.d1 (ps:=["_law_hand_here","_law_many"]) X dJ λ_ _ _ _ _ _ _ _=>rfl;have h_w21:=r_w21.d1 (ps:=["_law_got","_law_due"]) X dJ λ_ _ _ _ _ _ _ _=>rfl;have h_w22:=r_w22.cO (ps:=["_law_hand_here"]) X dJ λ_ _ _ _ _ _ _=>rfl;have h_w23:=r_w23.cO (ps:=["_law_block"]) X dJ λ_ _ _ _ _ _ _=>rfl;have h_w24:=r_w24.cO (ps:=["_law_some"]) X dJ λ_ _ _ _ _ _ _=>rfl;have h_w25:=r_w25.cO (ps:=["_law_some"]) X dJ λ_ _ _ _ _ _ _=>rfl;have h_w26:=r_w26.d1 (ps:=["_law_some","_law_tree"]) X dJ λ_ _ _ _ _ _ _ _=>rfl;have h_w27:=r_w27.cO (ps:=["_law_field_here"]) X dJ λ_ _ _ _ _ _ _=>rfl;have h_law:=r_law.cO (ps:=["_law_script"]) X dJ λ_ _ _ _ _ _ _=>rfl;have rt:DK K mg "NoBlocks" kg:=⟨sV X dJ g_NoBlocks,x_NoBlocks⟩;have JO:=sV X dJ g_MowError;refine aaz r_law X dJ Iq (λ_ _ _ _ _ _ _ _=>.of_eq rfl) λbase=>?_;have af3:=aef (P:=l.prog) (w:=w) (base:=base) h_w0 T;have Sc:=aeh (P:=l.prog) (w:=w) (base:=base) h_w1 T af3;have JP:=aek (P:=l.prog) (w:=w) (base:=base) h_w2 T Sc;have As:=ael (P:=l.prog) (w:=w) (base:=base) h_w3 T Sc;have af4:=aen (P:=l.prog) (w:=w) (base:=base) h_w4 T As;have af5:=aep (P:=l.prog) (w:=w) (base:=base) h_w5 T JP;have Au:=aeq (P:=l.prog) (w:=w) (base:=base) h_w6 T;have af6:=aes (P:=l.prog) (w:=w) (base:=base) h_w7 T;have af7:=aeu (P:=l.prog) (w:=w) (base:=base) h_w8 T af6;have Sd:=aey (P:=l.prog) (w:=w) (base:=base) h_w9 T;have af8:=aeA (P:=l.prog) (w:=w) (base:=base) h_w10 T Au Sd rt;have JQ:=aez (P:=l.prog) (w:=w) (base:=base) h_w10 T Au Sd;have af9:=aeC (P:=l.prog) (w:=w) (base:=base) h_w11 T As af4;have af':=Gc (P:=l.prog) (w:=w) (base:=base) h_w12 T As af9 af7 Au;have Se:=aeL (P:=l.prog) (w:=w) (base:=base) h_w13 T Au;have af_:=aeN (P:=l.prog) (w:=w) (base:=base) h_w14 T;have JR:=aeP (P:=l.prog) (w:=w) (base:=base) h_w15 T af_ Se;have aga:=aeT (P:=l.prog) (w:=w) (base:=base) h_w16 T As JP af' af5 JQ Au Se JR;have agb:=Go (P:=l.prog) (w:=w) (base:=base) h_w17 T JR JQ rt af8;have Sf:=aeY (P:=l.prog) (w:=w) (base:=base) h_w17 T JR JQ;have agc:=ae1 (P:=l.prog) (w:=w) (base:=base) h_w18 T;have agd:=Gt (P:=l.prog) (w:=w) (base:=base) h_w19 T agc;have age:=ae6 (P:=l.prog) (w:=w) (base:=base) h_w20 T;have agf:cC l.prog w K mg base 7 "_law_same" xm R_ ["_law_got","_law_due"] 2 (G.iF 6):=have ⟨_,gU,b,m⟩:=h_w21;⟨_,gU,b,m,ae7 gU T b m 6⟩;have agg:=afa (P:=l.prog) (w:=w) (base:=base) h_w22 T age;have agh:=afd (P:=l.prog) (w:=w) (base:=base) h_w23 T;have agi:=aff (P:=l.prog) (w:=w) (base:=base) h_w24 T agh;have agj:=GE (P:=l.prog) (w:=w) (base:=base) h_w25 T;have agk:=afk (P:=l.prog) (w:=w) (base:=base) h_w26 T agj;have agl:=afo (P:=l.prog) (w:=w) (base:=base) h_w27 T Sf rt agb JO Q_MowError V_ValueError;exact afr h_law T JP As agd agg agi Sf agk aga agf agl
theorem walk{q:cc}{loose:List aQ}{vN:(aQ->Option aj)->br->Prop}{rS:bN->br->Prop}{d:DefRec}{K:Bl->PySem.W.Frag}(bo:l.most=J 63)(yl:d.params.defaults=[])(Gx:∀(w:bN) (h:br),rS w h->(K w.params).In h)(hK:∀p,zE (K p)=af)(F:∀(w:bN) (mg:aQ->Option aj) (fa:ar) (h:br),(K w.params).In h->h.Ns fm mg->mg d.name=J (.ref fa)->
   ∃fd:iN,(∀(s:aA) (u:aj),rE s fd ⟨[u],[]⟩ [("_law_script",u)])/\∀base:br,(K w.params).In base->base.Ns fm mg->iX l.prog w (K w.params) mg base k9 8 fa fd ["_law_script"] (nP 1<|G.z3 z9 z8)):
  PySem.W.WalkO q loose vN rS l.row.toRowW d [] (λf vs=>PySem.call f vs):=
 L2.Wn (n:=63) (k:=8) (x := "_law_script") (CX:=λ_=>k9) (sp:=λw=>nP 1<|G.z3 z9 z8) bo (by decide) yl ⟨rfl,by decide,by decide,rfl⟩ Gx F (λw H a ns aF rT dq=>aav (hK w.params) H a ns rT dq (G.adQ z9 z8 ns (A2 aF (by decide)))) λ_ _ _ _ _ z=>z
end K39
noncomputable def PySem.W.Fast.tw10570500764390857199:=0
noncomputable def PySem.W.Fast.tw1754001671640197472:=0
noncomputable def PySem.W.Fast.tw5293991156350835616:=0
noncomputable def PySem.W.Fast.tw13660067382501883169:=0
noncomputable def PySem.W.Fast.tw3155744636238175938:=0
noncomputable def PySem.W.Fast.tw6781933437630944452:=0
noncomputable def PySem.W.Fast.tw2447905215216899812:=0
noncomputable def PySem.W.Fast.tw16317423499984429860:=0
noncomputable def PySem.W.Fast.tw6451892266456194374:=0
noncomputable def PySem.W.Fast.tw5567191546275672455:=0
noncomputable def PySem.W.Fast.tw6836493658590979911:=0
noncomputable def PySem.W.Fast.tw11713870305400348425:=0
noncomputable def PySem.W.Fast.tw16226678176910470442:=0
noncomputable def PySem.W.Fast.tw3228792912977595531:=0
noncomputable def PySem.W.Fast.tw16447519636287891787:=0
noncomputable def PySem.W.Fast.tw17475837747177020780:=0
noncomputable def PySem.W.Fast.tw6288318921607920524:=0
noncomputable def PySem.W.Fast.tw2760602638264131789:=0
noncomputable def PySem.W.Fast.tw1761616168529872525:=0
noncomputable def PySem.W.Fast.tw3513418530225369901:=0
noncomputable def PySem.W.Fast.tw12660345603359227247:=0
noncomputable def PySem.W.Fast.tw12190717693263044271:=0
noncomputable def PySem.W.Fast.tw11262138909073364689:=0
noncomputable def PySem.W.Fast.tw15680710978968650194:=0
noncomputable def PySem.W.Fast.tw7065499812329643668:=0
noncomputable def PySem.W.Fast.tw8930340534481739126:=0
noncomputable def PySem.W.Fast.tw9329808317064837526:=0
noncomputable def PySem.W.Fast.tw12188685926617823543:=0
noncomputable def PySem.W.Fast.tw2663681242683670584:=0
noncomputable def PySem.W.Fast.tw11257232258386145561:=0
noncomputable def PySem.W.Fast.tw4079984586452417881:=0
noncomputable def PySem.W.Fast.tw16543237617640251161:=0
noncomputable def PySem.W.Fast.tw3297758141478174681:=0
noncomputable def PySem.W.Fast.tw15225609916015006139:=0
noncomputable def PySem.W.Fast.tw17818960531750209788:=0
noncomputable def PySem.W.Fast.tw17344684653228357340:=0
noncomputable def PySem.W.Fast.tw16346437212147761597:=0
noncomputable def PySem.W.Fast.tw8464247184606723805:=0
noncomputable def PySem.W.Fast.tw1057112365233528991:=0
end
open PySem PySem.W PyProof.Rows
set_option maxRecDepth 100000 in
set_option maxHeartbeats 0 in
theorem PySem.Challenge.cw_mowfloor_k39_some_tree_holds : PySem.Challenge.rw_mowfloor_k39_some_tree.Holds := by
  w_on; o_law; k_head; (case hw => w_witness2)
  k_fill
  refine' K39.walk (l := PySem.Challenge.rw_mowfloor_k39_some_tree) rfl rfl (fun w h Y => PySem.W.kIn_of Y) ?hK ?F
  case hK => intro p; rfl
  case F =>
    intro w mg fa h KX G hmg
    refine' K39.all_mk KX G hmg ?r_w0 ?r_w1 ?r_w2 ?r_w3 ?r_w4 ?r_w5 ?r_w6 ?r_w7 ?r_w8 ?r_w9 ?r_w10 ?r_w11 ?r_w12 ?r_w13 ?r_w14 ?r_w15 ?r_w16 ?r_w17 ?r_w18 ?r_w19 ?r_w20 ?r_w21 ?r_w22 ?r_w23 ?r_w24 ?r_w25 ?r_w26 ?r_w27 ?r_law ?g_GREATEST ?g_SIDE ?g_NoBlocks ?x_NoBlocks ?g_MowError ?Q_MowError ?V_ValueError ?z_ValueError ?z_all ?z_bool ?z_int ?z_isinstance ?z_len ?z_list ?z_max ?z_min ?z_range ?z_set ?z_sorted ?z_str ?z_tuple ?z_zip
    case r_w0 | r_w1 | r_w2 | r_w3 | r_w4 | r_w5 | r_w6 | r_w7 | r_w8 | r_w9 | r_w10 | r_w11 | r_w12 | r_w13 | r_w14 | r_w15 | r_w16 | r_w17 | r_w18 | r_w19 | r_w20 | r_w21 | r_w22 | r_w23 | r_w24 | r_w25 | r_w26 | r_w27 | r_law => refine' L2.Cl ?a ?l ?c ?k; (case a => k_is); (case l => k_is); (case c => k_is); (case k => k_is)
    case g_GREATEST | g_SIDE | g_NoBlocks | g_MowError | z_ValueError | z_all | z_bool | z_int | z_isinstance | z_len | z_list | z_max | z_min | z_range | z_set | z_sorted | z_str | z_tuple | z_zip => k_is
    case x_NoBlocks => k_exc
    case Q_MowError => kts_exm
    case V_ValueError => kit_is
