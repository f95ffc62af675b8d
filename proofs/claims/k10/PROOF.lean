import PyProof.Rows.All
import Wide.All
import OpenK.AllK
import Wide.FinOn
import Lean
import PyProof.EqAt
import PyProof.EqKinds
import PyProof.TupleCall
import PyProof.IsiNone
import PyProof.NeKinds
import PyProof.MaxThree
import PyProof.Rows.SetFrom
import PyProof.WalksMore
import PyProof.CallStr
import PySem.Challenge.RW_mowfloor_k10_walks_and_turns
set_option maxHeartbeats 4000000
set_option Elab.async false
set_option linter.all false
set_option maxRecDepth 100000
open List (range range')
open Option (getD_none map_some)
open Nat (beq)
abbrev Z9:=@PySem.wpAny_bind
abbrev Z8:=@Option.bind_eq_some_iff
abbrev Z7:=@PySem.Heap.get?_push_of_some
abbrev Z6:=@PySem.wpAny_pure
abbrev Z5:=@List.getD_eq_getElem?_getD
abbrev Z4:=@List.append_assoc
abbrev Z3:=@List.length_map
abbrev Z2:=@Option.map_eq_some_iff
abbrev Z1:=@PySem.W.kasC_pure
abbrev Z0:=@List.getElem?_eq_getElem
abbrev ZZ:=@List.mem_singleton
abbrev ZY:=@if_pos
abbrev ZX:=@PySem.W.kasC_bind
abbrev ZW:=@if_neg
abbrev ZV:=@Nat.le_refl
abbrev ZU:=@Bool.and_eq_true
abbrev ZT:=@List.perm_append_comm
abbrev ZS:=@PySem.Heap.get?_push_size
abbrev ZR:=@List.length_append
abbrev ZQ:=@List.size_toArray
abbrev ZP:=@PySem.Heap.lt_size
abbrev ZO:=@List.append_nil
abbrev ZN:=@Array.length_toList
abbrev ZM:=@Bool.false_ne_true
abbrev ZL:=@List.Perm.append_left
abbrev ZK:=@Nat.le_of_ble_eq_true
abbrev ZJ:=@List.length_cons
abbrev ZI:=@List.mem_append_right
abbrev ZH:=@List.nodup_append
abbrev ZG:=@List.mem_cons
abbrev ZF:=@List.map_cons
abbrev ZE:=@List.Perm.append_right
abbrev ZD:=@Array.getElem?_toList
abbrev ZC:=@List.Perm.refl
abbrev ZB:=@List.getElem?_map
abbrev ZA:=@List.mem_append
abbrev Zz:=@List.pairwise_singleton
abbrev Zy:=@List.take_append_drop
abbrev Zx:=@Nat.ne_of_lt
abbrev Zw:=@List.mem_append_left
abbrev Zv:=@List.getElem?_eq_some_iff
abbrev Zu:=@decide_eq_true
abbrev Zt:=@Nat.lt_of_lt_of_le
abbrev Zs:=@decide_eq_false
abbrev Zr:=@List.mem_of_getElem?
abbrev Zq:=@Option.some.inj
abbrev Zp:=@List.length_singleton
abbrev Zo:=@PySem.wpAny_newObj_type
abbrev Zn:=@Nat.le_trans
abbrev Zm:=@List.length_drop
abbrev Zl:=@List.mem_map
abbrev Zk:=@List.length_range
abbrev Zj:=@PySem.wpAny_call_entry
abbrev Zi:=@List.mem_range
abbrev Zh:=@PyProof.Rows.slot_tuple_getitem
abbrev Zg:=@Bool.false_eq_true
abbrev Zf:=@List.pairwise_cons
abbrev Ze:=@PySem.W.mg_none_of
abbrev Zd:=@Array.getElem?_eq_getElem
abbrev Zc:=@List.length_take
abbrev Zb:=@PySem.wpAny_callSpecial?_slot
abbrev Za:=@PySem.wpAny_field
abbrev Y9:=@PySem.wpAny_seqItems
abbrev Y8:=@of_decide_eq_true
abbrev Y7:=@List.map_append
abbrev Y6:=@List.getElem?_append_right
abbrev Y5:=@PySem.wpAny_setField_rec
abbrev Y4:=@List.getElem?_append_left
abbrev Y3:=@List.drop_eq_getElem_cons
abbrev Y2:=@List.lookup_cons
abbrev Y1:=@List.mem_cons_of_mem
abbrev Y0:=@PySem.Heap.get?_update_other
abbrev YZ:=@PySem.Heap.size_push
abbrev YY:=@PySem.wpAny_holding
abbrev YX:=@PySem.W.kasC_range
abbrev YW:=@decide_eq_true_iff
abbrev YV:=@List.getElem?_eq_none
abbrev YU:=@PySem.PassesOwn.never
abbrev YT:=@Array.getElem?_eq_some_iff
abbrev YS:=@List.mem_of_mem_drop
abbrev YR:=@List.eq_nil_of_length_eq_zero
abbrev YQ:=@List.pairwise_iff_getElem
abbrev YO:=@List.nodup_cons
abbrev YN:=@Nat.le_add_right
abbrev YM:=@PySem.Heap.SameBut.update
abbrev YL:=@PyProof.Rows.callWith_type1
abbrev YK:=@List.map_map
abbrev YJ:=@Nat.lt_or_ge
abbrev YI:=@PySem.wpAny_setState_of
abbrev YH:=@List.mem_cons_self
abbrev YG:=@List.nodup_nil
abbrev YF:=@List.getElem?_drop
abbrev YE:=@List.map_drop
abbrev YD:=@List.all_eq_true
abbrev YC:=@List.mem_nil_iff
abbrev YB:=@List.not_mem_nil
abbrev YA:=@PySem.wpAny_mono
abbrev Yz:=@Nat.zero_le
abbrev Yy:=@PySem.Heap.get?_update_self
abbrev Yx:=@List.map_take
abbrev Yw:=@List.mem_filter
abbrev Yv:=@PySem.F.slot_dict_keyiterator_next
abbrev Yu:=@List.getElem?_take
abbrev Ys:=@PySem.F.called_set
abbrev Yr:=@if_false
abbrev Yq:=@List.getElem?_set_ne
abbrev Yp:=@beq_self_eq_true
abbrev Yo:=@List.mem_of_mem_take
abbrev Yn:=@PySem.W.kasC_modify
abbrev Ym:=@Nat.lt_irrefl
abbrev Yl:=@PySem.wpAny_rule
abbrev Yk:=@PySem.wpAny_truthy_bool
abbrev Yj:=@Int.toNat_natCast
abbrev Yi:=@List.ext_getElem?
abbrev Yg:=@List.filterMap_cons
abbrev Yf:=@List.find?_cons
abbrev Ye:=@PySem.wpAny_typeNameOfWhole_keyiter
abbrev Yd:=@List.mem_iff_getElem
abbrev Yc:=@PySem.wpAny_updateSeq_pair
abbrev Yb:=@Ne.symm
abbrev Ya:=@PySem.F.plainAttrs_list
abbrev X9:=@PySem.F.slot_zip_next
abbrev X8:=@PyProof.Rows.F.plain_set_update_loop
abbrev X7:=@List.map_eq_nil_iff
abbrev X6:=@Nat.ne_of_gt
abbrev X5:=@List.drop_of_length_le
abbrev X4:=@PySem.Obj.data_mapFields
abbrev X3:=@List.drop_zero
abbrev X2:=@PySem.F.slot_tuple_iterator_next
abbrev X1:=@List.length_filter_le
abbrev X0:=@Classical.byContradiction
abbrev XZ:=@PySem.wpAny_passesOwn
abbrev XY:=@List.foldl_cons
abbrev XX:=@Nat.min_eq_left
abbrev XW:=@List.take_sublist
abbrev XV:=@List.getElem_drop
abbrev XU:=@PySem.Around.under_plainId
abbrev XT:=@PySem.wpAny_attempt
abbrev XS:=@PySem.wpAny_onRaise
abbrev XR:=@PySem.F.slot_list_append
abbrev XQ:=@PySem.F.type_list_append
abbrev XO:=@PySem.mem_of_lookup
abbrev XN:=@List.getElem?_range
abbrev XM:=@PySem.wpAny_setEntries_of
abbrev XL:=@PySem.wpAny_forIn_list
abbrev XJ:=@PySem.wpAny_isInstance
abbrev XI:=@Nat.lt_succ_self
abbrev XH:=@PySem.wpAny_setField
abbrev XG:=@List.drop_drop
abbrev XF:=@decide_eq_false_iff_not
abbrev XE:=@List.take_length
abbrev XD:=@List.any_eq_true
abbrev XC:=@List.getElem?_set_self
abbrev XB:=@PySem.wpAny_Call_Name_kw
abbrev XA:=@Array.ext'
abbrev Xz:=@Int.emod_lt_of_pos
abbrev Xy:=@List.length_nil
abbrev Xx:=@List.forIn_cons
abbrev Xw:=@PySem.W.kasC_get
abbrev Xv:=@Int.emod_nonneg
abbrev Xu:=@PySem.codeAny_builtin
abbrev Xt:=@List.any_cons
abbrev Xs:=@PySem.F.slot_tuple_hash
abbrev Xr:=@if_true
abbrev Xq:=@List.drop_sublist
abbrev Xp:=@Array.toList_push
abbrev Xo:=@Nat.le_of_lt_succ
abbrev Xn:=@PySem.wpAny_fieldsOf
abbrev Xm:=@Int.le_refl
abbrev Xl:=@or_false
abbrev Xk:=@List.getElem?_of_mem
abbrev Xj:=@List.cons_append
abbrev Xi:=@Nat.le_of_lt
abbrev Xh:=@PySem.wpAny_typeOf
abbrev Xg:=@List.zipIdx_cons
abbrev Xf:=@PySem.Calls.call_function_entry
abbrev Xe:=@List.getElem?_zip_eq_some
abbrev Xd:=@List.length_pos_iff
abbrev Xc:=@PyProof.Rows.F.entry_set_update_loop
abbrev Xb:=@Bool.not_true
abbrev Xa:=@PySem.F.args_tuple_add_2
abbrev W9:=@List.filterMap_cons_some
abbrev W8:=@PySem.wpAny_specialOf
abbrev W7:=@Bool.eq_iff_iff
abbrev W6:=@List.of_mem_zip
abbrev W5:=@Nat.not_lt_zero
abbrev W4:=@Array.forIn_toList
abbrev W3:=@List.mem_filterMap
abbrev W2:=@Nat.lt_of_le_of_lt
abbrev W1:=@PySem.F.entry_tuple_add
abbrev W0:=@List.range_succ_eq_map
abbrev WZ:=@PySem.F.slot_tuple_add
abbrev WY:=@List.reverse_cons
abbrev WX:=@Option.isSome_map
abbrev WW:=@Array.getElem?_eq_none
abbrev WV:=@List.getElem_take
abbrev WU:=@List.take_of_length_le
abbrev WT:=@Bool.not_eq_true'
abbrev WS:=@decide_eq_true_eq
abbrev WR:=@List.drop_take
abbrev WQ:=@PySem.F.args_zip_next_1
abbrev WP:=@Nat.lt_trichotomy
abbrev WO:=@Array.toList_filterMap
abbrev WN:=@PySem.isSubtype_type
abbrev WM:=@List.pairwise_map
abbrev WL:=@List.eraseIdxIfInBounds_toArray
abbrev WK:=@PySem.Obj.isFreed_of_fields
abbrev WJ:=@List.getElem?_toArray
abbrev WI:=@PyProof.Rows.callWith_builtin1
abbrev WH:=@beq_iff_eq
abbrev WG:=@PySem.F.args_dict_keyiterator_next_1
abbrev WF:=@List.nodup_range
abbrev WE:=@List.getElem_mem
abbrev WD:=@PySem.F.entry_zip_next
abbrev WC:=@PySem.wpAny_pyIter_zip
abbrev WB:=@Option.getD_some
abbrev WA:=@List.filter_cons
abbrev Wz:=@List.any_toArray
abbrev Wy:=@Nat.add_assoc
abbrev Wx:=@List.all_cons
abbrev Ww:=@PySem.Paired.length
abbrev Wv:=@Bool.and_true
abbrev Wu:=@PySem.plainId_quiet
abbrev Wt:=@PySem.W.mg_of
abbrev Ws:=@PySem.F.entry_dict_keyiterator_next
abbrev Wr:=@PySem.wpAny_letGo
abbrev Wq:=@List.map_eq_cons_iff
abbrev Wp:=@PySem.wpAny_execs_nil
abbrev Wo:=@List.length_set
abbrev Wn:=@PySem.F.args_tuple_iterator_next_1
abbrev Wm:=@List.zipIdx_nil
abbrev Wl:=@PyProof.Rows.entry_tuple_getitem
abbrev Wk:=@List.map_congr_left
abbrev Wj:=@List.mem_map_of_mem
abbrev Wi:=@PySem.codeAny_mono
abbrev Wh:=@Nat.lt_trans
abbrev Wg:=@Array.getD_eq_getD_getElem?
abbrev Wf:=@Nat.succ_pos
abbrev We:=@PySem.W.kasC_lift
abbrev Wd:=@PyProof.Rows.slicePart_none
abbrev Wc:=@PySem.isSubtype_stop
abbrev Wb:=@Array.perm_iff_toList_perm
abbrev Wa:=@List.take_take
abbrev V9:=@List.take_zero
abbrev V8:=@List.setIfInBounds_toArray
abbrev V7:=@List.forIn_nil
abbrev V6:=@Bool.and_false
abbrev V5:=@Nat.not_lt
abbrev V4:=@List.zip_cons_cons
abbrev V3:=@List.perm_ext_iff_of_nodup
abbrev V2:=@List.length_eraseIdx_of_lt
abbrev V1:=@PySem.F.plain_extend_loop
abbrev V0:=@List.isEmpty_eq_false_iff
abbrev VZ:=@PySem.SeqAt.RcAt.tuples
abbrev VY:=@PySem.wpAny_sequenceKey
abbrev VX:=@Nat.lt_succ_of_lt
abbrev VV:=@PySem.wpAny_pyIter_slot
abbrev VU:=@PySem.wpAny_dictEntries
abbrev VR:=@PySem.Obj.cls_mapFields
abbrev VQ:=@PySem.wpAny_standAt
abbrev VN:=@Option.isSome_iff_exists
abbrev VM:=@PySem.wpAny_newList
abbrev VL:=@List.length_erase_of_mem
abbrev VJ:=@List.getElem_inj
abbrev VH:=@PySem.noFill_tuple_add
abbrev VF:=@List.drop_length
abbrev VD:=@List.ext_getElem
abbrev VC:=@PySem.wpAny_askSetting
abbrev VB:=@PySem.F.plain_list_iadd
abbrev Vz:=@decide_eq_decide
abbrev Vy:=@List.filter_append_perm
abbrev Vx:=@PySem.W.cellsFrom_some
abbrev Vw:=@Nat.add_comm
abbrev Vv:=@List.length_pos_of_mem
abbrev Vu:=@Nat.lt_of_succ_lt_succ
abbrev Vt:=@Bool.or_eq_true
abbrev Vs:=@PySem.wpAny_dictEpoch
abbrev Vr:=@List.nil_append
abbrev Vq:=@List.length_zip
abbrev Vp:=@PySem.wpAny_ite_split
abbrev Vo:=@PySem.wpAny_of_eq
abbrev Vn:=@List.map_id
abbrev Vm:=@Array.size_map
abbrev Vk:=@List.set_comm
abbrev Vj:=@List.Perm.map
abbrev Vi:=@Nat.mod_lt
abbrev Vh:=@List.all_map
abbrev Vg:=@Int.le_trans
abbrev Vf:=@Nat.add_zero
abbrev Ve:=@Nat.sub_self
abbrev Vd:=@List.set_set
abbrev Vc:=@List.any_map
namespace L2
open PySem PySem.Spec PyProof.Rows
variable{scope:Scope}{qual x:Str}{base h:Heap}{mg:Str->Option Value}{ps N:List Str}{us:List Value}{op:CmpOp}{f:Value->Value->Sem Value}{fp ch:List Addr}{p pos:Pos}{body:List Stmt}{j n k i t':Nat}{g:Int->Int->Int}{tg c e:Expr}{es:List Expr}{K:PySem.W.Frag}{pins:List (Addr×Obj)}{s s':Shared}{Q E:Value->Shared->Prop}{A:Around}{it b a:Addr}{d':Drawn}{g':Array GenState}{w:World}{P:Program}{u:Value}
inductive Im where
 | l_ | bl (b:Bool) | int (i:Int) | str (x:Str) | tup (ds:List Im) | fn (a:Addr) | fl (ds:List Im) | fd
mutual
def Im.beq:Im->Im->Bool
 | .l_,.l_=>true
 | .bl a,.bl b=>a == b
 | .int i,.int j=>decide (i=j)
 | .str x,.str y=>decide (x=y)
 | .tup a,.tup b=>Im.GT a b
 | .fn a,.fn b=>decide (a=b)
 | .fl a,.fl b=>Im.GT a b
 | .fd,.fd=>true
 | _,_=>false
def Im.GT:List Im->List Im->Bool
 | [],[]=>true
 | a::r,b::t=>Im.beq a b && Im.GT r t
 | _,_=>false
end
mutual
theorem Im.beq_iff:∀ a b:Im,Im.beq a b=true↔a=b
 | .l_,b=>by cases b<;>simp[Im.beq]
 | .bl a,b=>by cases b<;>simp[Im.beq]
 | .int i,b=>by cases b<;>simp[Im.beq]
 | .str x,b=>by cases b<;>simp[Im.beq]
 | .tup x,b=>by
  cases b with
  | tup y=>rw[Im.beq,Im.Gm x y];simp
  | _=>simp[Im.beq]
 | .fn a,b=>by cases b<;>simp[Im.beq]
 | .fl x,b=>by
  cases b with
  | fl y=>rw[Im.beq,Im.Gm x y];simp
  | _=>simp[Im.beq]
 | .fd,b=>by cases b<;>simp[Im.beq]
theorem Im.Gm:∀ a b:List Im,Im.GT a b=true↔a=b
 | [],b=>by cases b<;>simp[Im.GT]
 | x::r,b=>by
  cases b with
  | nil=>simp[Im.GT]
  | cons y t=>rw[Im.GT,ZU,Im.beq_iff x y,Im.Gm r t];simp
end
instance:DecidableEq Im:=fun a b=>decidable_of_iff (Im.beq a b=true) (Im.beq_iff a b)
mutual
def FF(h:Heap):Im->Value->Prop
 | .l_,v=>v=.none
 | .bl b,v=>v=.bool b
 | .int i,v=>∃ t,v=.int i t
 | .str x,v=>∃ t,v=.str x t
 | .fn a,v=>v=.ref a
 | .fl _,v=>∃ a,v=.ref a
 | .fd,v=>∃ a,v=.ref a
 | .tup ds,v=>∃ a o items n,v=.ref a/\h.get? a=some o/\o.cls=.type "tuple" /\ o.data=.seq items n/\aU h ds items.toList
def aU(h:Heap):List Im->List Value->Prop
 | [],vs=>vs=[]
 | d::ds,vs=>∃ v r,vs=v::r/\FF h d v/\aU h ds r
end
mutual
def Im.key:Nat->Im->Bool
 | _,.int _=>true
 | _,.str _=>true
 | n+1,.tup ds=>Im.keys n ds
 | _,_=>false
def Im.keys:Nat->List Im->Bool
 | _,[]=>true
 | n,d::ds=>Im.key n d && Im.keys n ds
end
mutual
def Fm(w:World):Im->Int
 | .int i=>hashInt i
 | .str x=>hashStr w x
 | .tup ds=>reduceHash (Builtin.Tuple.tupleHashOf<|cX w ds)
 | _=>0
def cX(w:World):List Im->List Int
 | []=>[]
 | d::ds=>Fm w d::cX w ds
end
mutual
def Np:Im->Nat
 | .tup ds=>dF ds+1
 | _=>1
def dF:List Im->Nat
 | []=>0
 | d::ds=>Np d+dF ds
end
theorem lU(w:World):∀ a b:List Im,cX w (a++b)=cX w a++cX w b
 | [],b=>rfl
 | d::a,b=>by rw[Xj,cX,cX,lU w a b,Xj]
theorem lV:∀ a b:List Im,dF (a++b)=dF a+dF b
 | [],b=>by simp[dF]
 | d::a,b=>by rw[Xj,dF,dF,lV a b];lia
theorem oO{n:Nat}:∀ {a b:List Im},Im.keys n (a++b)=true->Im.keys n b=true
 | [],b,h=>h
 | d::a,b,h=>by rw[Xj,Im.keys,ZU] at h;exact oO h.2
theorem aU.length{h:Heap}:∀ {ds:List Im}{vs:List Value},aU h ds vs->ds.length=vs.length
 | [],vs,e=>by rw[show vs=[] from e];rfl
 | d::ds,vs,e=>by
  obtain⟨v,r,rfl,_,e⟩:=e;rw[ZJ,ZJ,aU.length e]
def j6(h h':Heap):Prop:=∀ a o items n,h.get? a=some o->o.cls=.type "tuple" -> o.data=.seq items n->h'.get? a=some o
mutual
theorem FF.keep{h h':Heap}(k:j6 h h'):∀ {d:Im}{v:Value},FF h d v->FF h' d v
 | .l_,_,e=>e
 | .bl _,_,e=>e
 | .int _,_,e=>e
 | .str _,_,e=>e
 | .fn _,_,e=>e
 | .fl _,_,e=>e
 | .fd,_,e=>e
 | .tup ds,_,e=>by
  obtain⟨a,o,items,n,rfl,h1,h2,h3,h4⟩:=e;exact⟨a,o,items,n,rfl,k a o items n h1 h2 h3,h2,h3,aU.keep k h4⟩
theorem aU.keep{h h':Heap}(k:j6 h h'):∀ {ds:List Im}{vs:List Value},aU h ds vs->aU h' ds vs
 | [],_,e=>e
 | d::ds,_,e=>by
  obtain⟨v,r,rfl,h1,h2⟩:=e;exact⟨v,r,rfl,FF.keep k h1,aU.keep k h2⟩
end
theorem oP{h:Heap}:∀ (n:Nat) {x y:Im}{v:Value},Im.key n x=true->Im.key n y=true->FF h x v->FF h y v->x=y
 | n,.int i,y,v,_,ky,hx,hy=>by
  obtain⟨t,rfl⟩:=hx;cases y with
  | int j=>obtain⟨u,e⟩:=hy;injection e with e;rw[e]
  | str z=>obtain⟨u,e⟩:=hy;cases e
  | tup ds=>obtain⟨_,_,_,_,e,_⟩:=hy;cases e
  | _=>cases n<;>cases ky
 | n,.str z,y,v,_,ky,hx,hy=>by
  obtain⟨t,rfl⟩:=hx;cases y with
  | int j=>obtain⟨u,e⟩:=hy;cases e
  | str z=>obtain⟨u,e⟩:=hy;injection e with e;rw[e]
  | tup ds=>obtain⟨_,_,_,_,e,_⟩:=hy;cases e
  | _=>cases n<;>cases ky
 | n+1,.tup ds,y,v,kx,ky,hx,hy=>by
  obtain⟨a,o,items,m,rfl,h1,h2,h3,h4⟩:=hx;cases y with
  | int j=>obtain⟨u,e⟩:=hy;cases e
  | str z=>obtain⟨u,e⟩:=hy;cases e
  | tup es=>
   obtain⟨a',o',s_,m',e,g1,g2,g3,g4⟩:=hy;cases e;rw[h1] at g1;cases g1;rw[h3] at g3;injection g3 with g3 _;subst g3;have all:∀ (ds es:List Im) (vs:List Value),Im.keys n ds=true->Im.keys n es=true->aU h ds vs->aU h es vs->ds=es:=by
    intro ds;induction ds with
    | nil=>
     intro es vs _ _ a b;cases es with
     | nil=>rfl
     | cons e es=>obtain⟨_,_,q,_⟩:=b;rw[show vs=[] from a] at q;cases q
    | cons d ds ih=>
     intro es vs k1 k2 a b;obtain⟨v,r,rfl,a1,a2⟩:=a;cases es with
     | nil=>cases (show v::r=[] from b)
     | cons e es=>
      obtain⟨v',r',q,b1,b2⟩:=b;cases q;rw[Im.keys,ZU] at k1 k2;rw[oP n k1.1 k2.1 a1 b1,ih es r k1.2 k2.2 a2 b2]
   rw[all ds es _ kx ky h4 g4]
  | _=>cases ky
 | _,.l_,_,_,k,_,_,_=>by cases ‹Nat›<;>cases k
 | _,.bl _,_,_,k,_,_,_=>by cases ‹Nat›<;>cases k
 | _,.fn _,_,_,k,_,_,_=>by cases ‹Nat›<;>cases k
 | _,.fl _,_,_,k,_,_,_=>by cases ‹Nat›<;>cases k
 | _,.fd,_,_,k,_,_,_=>by cases ‹Nat›<;>cases k
 | 0,.tup _,_,_,k,_,_,_=>by cases k
section
variable{prog:Program}{w:World}
theorem oQ:∀ (n:Nat) {A:Around}{E:Value->Shared->Prop}{s:Shared}{d:Im}{v:Value}{Q:Int->Shared->Prop},Im.key n d=true->A.units+n<cLine->FF s.heap d v->Q (Fm w d) { s with toks:=s.toks+Np d }->
  wpAny (model prog w) A (pyHash v) Q E s
 | n,A,E,s,.int i,v,Q,_,_,hv,h=>by
  obtain⟨t,rfl⟩:=hv;exact wpAny_pyHash_int h
 | n,A,E,s,.str i,v,Q,_,_,hv,h=>by
  obtain⟨t,rfl⟩:=hv;exact wpAny_pyHash_str h
 | n+1,A,E,s,.tup ds,v,Q,k,hu,hv,h=>by
  obtain⟨a,o,items,m,rfl,ho,hc,hd,hi⟩:=hv;have hT:s.TypeIs (.ref a) "tuple" := ⟨o,ho,hc⟩;unfold pyHash;first | unfold pyHashByItsType | skip
  first | refine Z9 (wpAny_cRoomFor_or (.inr (by lia)) ?_) | skip
  refine Z9 (W8 hT Xs.lookup ?_);show wpAny _ _ (if (some (Value.builtin "tuple.__hash__") == some Value.none)=true then _ else _) Q E s;rw[ZW (by rw[beq_builtin_none];exact ZM)];refine Z9 (W8 hT Xs.lookup ?_);show wpAny _ _ (callSpecialIfBoundUnlessNone? (.ref a) "__hash__" _ >>= _) Q E s;refine Z9 (wpAny_callSpecialIfBoundUnlessNone?_slot hT Xs<|Zj Xs hT F.entry_tuple_hash ?_<|F.args_tuple_hash_1 _);show wpAny _ _ (Builtin.Tuple.tupleItemsOf (.ref a) >>= _) _ _ s;refine Z9 (wpAny_tupleItemsOf ho hd ?_);refine Z9 ?_;rw[<- W4];refine XL _
   (fun rest (b:Array Int) s'=>∃ done left,ds=done++left/\aU s.heap left rest/\b.toList=cX w done/\s'={ s with toks:=s.toks+dF done })
   _ ?_ ?_ _ _ ⟨[],ds,rfl,hi,rfl,rfl⟩
  ·rintro x rest b s' ⟨done,left,rfl,hl,hb,rfl⟩;cases left with
   | nil=>cases (show x::rest=[] from hl)
   | cons d left=>
    obtain⟨v,r,e,h1,Gn⟩:=hl;cases e;have k2:=oO (a:=done) (show Im.keys n (done++d::left)=true from k);rw[Im.keys,ZU] at k2;refine Z9 (oQ n k2.1 (by show A.units+1+n<cLine;lia) h1 ?_);first
     | exact Z6 ⟨done++[d],left,by simp,Gn,by simp[hb,lU,cX],by simp[lV,dF,Wy]⟩
     | exact Z9 (Z6 (Z6 ⟨done++[d],left,by simp,Gn,by simp[hb,lU,cX],by simp[lV,dF,Wy]⟩))
  ·rintro b s' ⟨done,left,rfl,hl,hb,rfl⟩;cases left with
   | cons d left=>obtain⟨_,_,e,_⟩:=hl;cases e
   | nil=>
   rw[ZO] at h;show wpAny _ _ (retInt<|Builtin.Tuple.tupleHashOf b.toList) _ _ _;rw[hb];refine wpAny_ret_mkInt ?_;show wpAny _ _ (if (decide (-(2:Int) ^ 63<=Builtin.Tuple.tupleHashOf (cX w done)) && decide (Builtin.Tuple.tupleHashOf (cX w done)<2 ^ 63))=true then _ else _) Q E _;rw[Fm,Np] at h;unfold reduceHash at h;by_cases hr:(decide (-(2:Int) ^ 63<=Builtin.Tuple.tupleHashOf (cX w done)) && decide (Builtin.Tuple.tupleHashOf (cX w done)<2 ^ 63))=true
   ·rw[ZY hr];rw[ZY hr] at h;exact Z6 (by simpa [Wy] using h)
   ·rw[ZW hr];rw[ZW hr] at h;exact Z9 (Yl (Z6 (by simpa [Wy] using h)))
 | _,_,_,_,.l_,_,_,k,_,_,_=>by cases ‹Nat›<;>cases k
 | _,_,_,_,.bl _,_,_,k,_,_,_=>by cases ‹Nat›<;>cases k
 | _,_,_,_,.fn _,_,_,k,_,_,_=>by cases ‹Nat›<;>cases k
 | _,_,_,_,.fl _,_,_,k,_,_,_=>by cases ‹Nat›<;>cases k
 | _,_,_,_,.fd,_,_,k,_,_,_=>by cases ‹Nat›<;>cases k
 | 0,_,_,_,.tup _,_,_,k,_,_,_=>by cases k
mutual
def aA:Im->Im->Bool
 | .l_,.l_=>true
 | .bl a,.bl b=>a == b
 | .bl a,.int j=>(if a then 1 else 0) == j
 | .int i,.bl b=>i == (if b then 1 else 0)
 | .int i,.int j=>i == j
 | .str x,.str y=>x == y
 | .tup a,.tup b=>bC a b
 | _,_=>false
def bC:List Im->List Im->Bool
 | [],[]=>true
 | a::r,b::t=>aA a b && bC r t
 | _,_=>false
end
mutual
def Im.pl:Nat->Im->Bool
 | _,.l_=>true
 | _,.bl _=>true
 | _,.int _=>true
 | _,.str _=>true
 | n+1,.tup ds=>Im.pls n ds
 | _,_=>false
def Im.pls:Nat->List Im->Bool
 | _,[]=>true
 | n,d::ds=>Im.pl n d && Im.pls n ds
end
theorem dG{n:Nat}:∀ {ds:List Im}{j:Nat}{d:Im},Im.pls n ds=true->ds[j]?=some d->Im.pl n d=true
 | [],j,d,_,h=>by simp at h
 | e::ds,0,d,k,h=>by
  rw[Im.pls,ZU] at k;simp at h;subst h;exact k.1
 | e::ds,j+1,d,k,h=>by
  rw[Im.pls,ZU] at k;exact dG k.2 (by simpa using h)
theorem aU.get{h:Heap}:∀ {ds:List Im}{vs:List Value}{j:Nat}{v:Value},aU h ds vs->vs[j]?=some v->∃ d,ds[j]?=some d/\FF h d v
 | [],vs,j,v,a,e=>by rw[show vs=[] from a] at e;simp at e
 | d::ds,vs,0,v,a,e=>by
  obtain⟨u,r,rfl,a1,a2⟩:=a;simp at e;subst e;exact⟨d,rfl,a1⟩
 | d::ds,vs,j+1,v,a,e=>by
  obtain⟨u,r,rfl,a1,a2⟩:=a;obtain⟨d',h1,h2⟩:=aU.get (j:=j) a2 (by simpa using e);exact⟨d',by simpa using h1,h2⟩
theorem oR{h:Heap}:∀ (n:Nat) {x y:Im}{v:Value},Im.pl n x=true->Im.pl n y=true->FF h x v->FF h y v->aA x y=true
 | n,.l_,y,v,_,ky,hx,hy=>by
  cases (show v=.none from hx);cases y with
  | l_=>rfl
  | bl b=>cases hy
  | int j=>obtain⟨u,e⟩:=hy;cases e
  | str z=>obtain⟨u,e⟩:=hy;cases e
  | tup ds=>obtain⟨_,_,_,_,e,_⟩:=hy;cases e
  | fn a=>cases n<;>cases ky
  | fl a=>cases n<;>cases ky
  | fd=>cases n<;>cases ky
 | n,.bl b,y,v,_,ky,hx,hy=>by
  cases (show v=.bool b from hx);cases y with
  | l_=>cases hy
  | bl c=>cases hy;simp[aA]
  | int j=>obtain⟨u,e⟩:=hy;cases e
  | str z=>obtain⟨u,e⟩:=hy;cases e
  | tup ds=>obtain⟨_,_,_,_,e,_⟩:=hy;cases e
  | fn a=>cases n<;>cases ky
  | fl a=>cases n<;>cases ky
  | fd=>cases n<;>cases ky
 | n,.int i,y,v,_,ky,hx,hy=>by
  obtain⟨t,rfl⟩:=hx;cases y with
  | l_=>cases hy
  | bl c=>cases hy
  | int j=>obtain⟨u,e⟩:=hy;cases e;simp[aA]
  | str z=>obtain⟨u,e⟩:=hy;cases e
  | tup ds=>obtain⟨_,_,_,_,e,_⟩:=hy;cases e
  | fn a=>cases n<;>cases ky
  | fl a=>cases n<;>cases ky
  | fd=>cases n<;>cases ky
 | n,.str i,y,v,_,ky,hx,hy=>by
  obtain⟨t,rfl⟩:=hx;cases y with
  | l_=>cases hy
  | bl c=>cases hy
  | int j=>obtain⟨u,e⟩:=hy;cases e
  | str z=>obtain⟨u,e⟩:=hy;cases e;simp[aA]
  | tup ds=>obtain⟨_,_,_,_,e,_⟩:=hy;cases e
  | fn a=>cases n<;>cases ky
  | fl a=>cases n<;>cases ky
  | fd=>cases n<;>cases ky
 | n+1,.tup ds,y,v,kx,ky,hx,hy=>by
  obtain⟨a,o,items,m,rfl,h1,h2,h3,h4⟩:=hx;cases y with
  | l_=>cases hy
  | bl c=>cases hy
  | int j=>obtain⟨u,e⟩:=hy;cases e
  | str z=>obtain⟨u,e⟩:=hy;cases e
  | fn a=>cases ky
  | fl a=>cases ky
  | fd=>cases ky
  | tup es=>
   obtain⟨a',o',s_,m',e,g1,g2,g3,g4⟩:=hy;cases e;rw[h1] at g1;cases g1;rw[h3] at g3;injection g3 with g3 _;subst g3;have all:∀ (ds es:List Im) (vs:List Value),Im.pls n ds=true->Im.pls n es=true->aU h ds vs->aU h es vs->bC ds es=true:=by
    intro ds;induction ds with
    | nil=>
     intro es vs _ _ a b;cases es with
     | nil=>rfl
     | cons e es=>obtain⟨_,_,q,_⟩:=b;rw[show vs=[] from a] at q;cases q
    | cons d ds ih=>
     intro es vs k1 k2 a b;obtain⟨v,r,rfl,a1,a2⟩:=a;cases es with
     | nil=>cases (show v::r=[] from b)
     | cons e es=>
      obtain⟨v',r',q,b1,b2⟩:=b;cases q;rw[Im.pls,ZU] at k1 k2;rw[bC,oR n k1.1 k2.1 a1 b1,ih es r k1.2 k2.2 a2 b2];rfl
   rw[aA];exact all ds es _ kx ky h4 g4
 | n,.fn _,_,_,k,_,_,_=>by cases n<;>cases k
 | n,.fl _,_,_,k,_,_,_=>by cases n<;>cases k
 | n,.fd,_,_,k,_,_,_=>by cases n<;>cases k
 | 0,.tup _,_,_,k,_,_,_=>by cases k
theorem iU{e:Nat->Bool}:∀ {ds es:List Im},(∀ (j:Nat) (x y:Im),ds[j]?=some x->es[j]?=some y->e j=aA x y)->((range<|min ds.length es.length).all e && ds.length == es.length)=bC ds es:=by
 have key:∀ (ds es:List Im) (f:Nat->Bool),(∀ (j:Nat) (x y:Im),ds[j]?=some x->es[j]?=some y->f j=aA x y)->((range<|min ds.length es.length).all f && ds.length == es.length)=bC ds es:=by
  intro ds;induction ds with
  | nil=>intro es f _;cases es<;>simp[bC]
  | cons d ds ih=>
   intro es f h;cases es with
   | nil=>simp[bC]
   | cons c es=>
    have:=ih es (fun j=>f<|j+1) fun j x y a b=>h (j+1) x y (by simpa using a) (by simpa using b);rw[bC,<- this,<- h 0 d c rfl rfl];rw[ZJ,ZJ,show min (ds.length+1) (es.length+1)=min ds.length es.length+1 by lia,W0,Wx,Vh,Bool.and_assoc];congr 2;rw[W7];simp
 exact fun {ds es} h=>key ds es e h
theorem dr{s:Shared}:∀ (n:Nat) {A:Around}{x y:Im}{u v:Value},Im.pl n x=true->Im.pl n y=true->A.units+n+1<cLine->FF s.heap x u->FF s.heap y v->SeqAt.EqAt A s u v (aA x y)
 | n,A,.l_,y,u,v,_,ky,hu,hx,hy=>by
  cases (show u=.none from hx);cases y with
  | l_=>cases (show v=.none from hy);exact SeqAt.EqAt.same _
  | bl b=>cases (show v=.bool b from hy);exact SeqAt.EqAt.none_bool b
  | int j=>obtain⟨t,rfl⟩:=hy;exact SeqAt.EqAt.none_int j t
  | str z=>obtain⟨t,rfl⟩:=hy;exact SeqAt.EqAt.none_str z t
  | tup ds=>obtain⟨a,o,items,m,rfl,h1,h2,h3,_⟩:=hy;exact SeqAt.EqAt.none_tuple ⟨o,h1,h2,m,h3⟩ (by lia)
  | fn a=>cases n<;>cases ky
  | fl a=>cases n<;>cases ky
  | fd=>cases n<;>cases ky
 | n,A,.bl b,y,u,v,_,ky,hu,hx,hy=>by
  cases (show u=.bool b from hx);cases y with
  | l_=>cases (show v=.none from hy);exact SeqAt.EqAt.bool_none b
  | bl c=>cases (show v=.bool c from hy);exact SeqAt.EqAt.bool_bool b c
  | int j=>obtain⟨t,rfl⟩:=hy;exact SeqAt.EqAt.bool_int b j t
  | str z=>obtain⟨t,rfl⟩:=hy;exact SeqAt.EqAt.bool_str b z t
  | tup ds=>obtain⟨a,o,items,m,rfl,h1,h2,h3,_⟩:=hy;exact SeqAt.EqAt.bool_tuple b ⟨o,h1,h2,m,h3⟩ (by lia)
  | fn a=>cases n<;>cases ky
  | fl a=>cases n<;>cases ky
  | fd=>cases n<;>cases ky
 | n,A,.int i,y,u,v,_,ky,hu,hx,hy=>by
  obtain⟨t0,rfl⟩:=hx;cases y with
  | l_=>cases (show v=.none from hy);exact SeqAt.EqAt.int_none i t0
  | bl c=>cases (show v=.bool c from hy);exact SeqAt.EqAt.int_bool i t0 c
  | int j=>obtain⟨t,rfl⟩:=hy;exact SeqAt.EqAt.int_int i t0 j t
  | str z=>obtain⟨t,rfl⟩:=hy;exact SeqAt.EqAt.int_str i t0 z t
  | tup ds=>obtain⟨a,o,items,m,rfl,h1,h2,h3,_⟩:=hy;exact SeqAt.EqAt.int_tuple i t0 ⟨o,h1,h2,m,h3⟩ (by lia)
  | fn a=>cases n<;>cases ky
  | fl a=>cases n<;>cases ky
  | fd=>cases n<;>cases ky
 | n,A,.str i,y,u,v,_,ky,hu,hx,hy=>by
  obtain⟨t0,rfl⟩:=hx;cases y with
  | l_=>cases (show v=.none from hy);exact SeqAt.EqAt.str_none i t0
  | bl c=>cases (show v=.bool c from hy);exact SeqAt.EqAt.str_bool i t0 c
  | int j=>obtain⟨t,rfl⟩:=hy;exact SeqAt.EqAt.str_int i t0 j t
  | str z=>obtain⟨t,rfl⟩:=hy;exact SeqAt.EqAt.str_str i t0 z t
  | tup ds=>obtain⟨a,o,items,m,rfl,h1,h2,h3,_⟩:=hy;exact SeqAt.EqAt.str_tuple i t0 ⟨o,h1,h2,m,h3⟩ (by lia)
  | fn a=>cases n<;>cases ky
  | fl a=>cases n<;>cases ky
  | fd=>cases n<;>cases ky
 | n+1,A,.tup ds,y,u,v,kx,ky,hu,hx,hy=>by
  have HG:=hx;obtain⟨a,o,items,m,rfl,h1,h2,h3,h4⟩:=hx;have ta:s.heap.IsTuple a items:=⟨o,h1,h2,m,h3⟩;cases y with
  | l_=>cases (show v=.none from hy);exact SeqAt.EqAt.tuple_none ta (by lia)
  | bl c=>cases (show v=.bool c from hy);exact SeqAt.EqAt.tuple_bool c ta (by lia)
  | int j=>obtain⟨t,rfl⟩:=hy;exact SeqAt.EqAt.tuple_int j t ta (by lia)
  | str z=>obtain⟨t,rfl⟩:=hy;exact SeqAt.EqAt.tuple_str z t ta (by lia)
  | fn a=>cases ky
  | fl a=>cases ky
  | fd=>cases ky
  | tup es=>
   have N3:=hy;obtain⟨b,o',s_,m',rfl,g1,g2,g3,g4⟩:=hy;by_cases e:a=b
   ·subst e;rw[oR (n+1) kx ky HG N3];exact SeqAt.EqAt.same _
   ·have tb:s.heap.IsTuple b s_:=⟨o',g1,g2,m',g3⟩;have l1:=h4.length;have l2:=g4.length;have l3:items.toList.length=items.size:=by simp
    have l4:s_.toList.length=s_.size:=by simp
    rw[l3] at l1;rw[l4] at l2;have q:=SeqAt.EqAt.of_refs (A:=A) e (VZ (e:=fun j=>aA (ds.getD j .l_)<|es.getD j .l_) ta tb (by lia) fun j j1 j2=>by
     obtain⟨d1,e1,r1⟩:=h4.get (j:=j) (v:=items[j]) (by rw[ZD];simp[j1]);obtain⟨d2,e2,r2⟩:=g4.get (j:=j) (v:=s_[j]) (by rw[ZD];simp[j2]);rw[Z5,e1,Z5,e2];exact dr n (dG kx e1) (dG ky e2) (by show A.units+1+n+1<cLine;lia) r1 r2)
    rw[<- l1,<- l2,iU (ds:=ds) (es:=es) (fun j x y a b=>by rw[Z5,a,Z5,b];rfl)] at q;rw[aA];exact q
 | n,A,.fn _,_,_,_,k,_,_,_,_=>by cases n<;>cases k
 | n,A,.fl _,_,_,_,k,_,_,_,_=>by cases n<;>cases k
 | n,A,.fd,_,_,_,k,_,_,_,_=>by cases n<;>cases k
 | 0,A,.tup _,_,_,_,k,_,_,_,_=>by cases k
mutual
theorem lX:∀ {n:Nat}{d:Im},Im.key n d=true->Im.pl n d=true
 | n,.int _,_=>by cases n<;>rfl
 | n,.str _,_=>by cases n<;>rfl
 | n+1,.tup ds,h=>by rw[Im.key] at h;rw[Im.pl];exact oT h
 | 0,.tup _,h=>by cases h
 | n,.l_,h=>by cases n<;>cases h
 | n,.bl _,h=>by cases n<;>cases h
 | n,.fn _,h=>by cases n<;>cases h
 | n,.fl _,h=>by cases n<;>cases h
 | n,.fd,h=>by cases n<;>cases h
theorem oT:∀ {n:Nat}{ds:List Im},Im.keys n ds=true->Im.pls n ds=true
 | n,[],_=>by rw[Im.pls]
 | n,d::ds,h=>by rw[Im.keys,ZU] at h;rw[Im.pls,lX h.1,oT h.2];rfl
end
mutual
theorem oU:∀ {n:Nat}{x y:Im},Im.key n x=true->Im.key n y=true->aA x y=decide (x=y)
 | n,.int i,y,_,hy=>by
  cases y with
  | int j=>rw[aA];by_cases e:i=j<;>simp[e]
  | str z=>simp[aA]
  | tup z=>simp[aA]
  | _=>cases n<;>cases hy
 | n,.str i,y,_,hy=>by
  cases y with
  | int j=>simp[aA]
  | str z=>rw[aA];by_cases e:i=z<;>simp[e]
  | tup z=>simp[aA]
  | _=>cases n<;>cases hy
 | n+1,.tup ds,y,hx,hy=>by
  cases y with
  | int j=>simp[aA]
  | str z=>simp[aA]
  | tup es=>
   rw[Im.key] at hx hy;rw[aA,lY hx hy];simp
  | _=>cases hy
 | 0,.tup _,_,h,_=>by cases h
 | n,.l_,_,h,_=>by cases n<;>cases h
 | n,.bl _,_,h,_=>by cases n<;>cases h
 | n,.fn _,_,h,_=>by cases n<;>cases h
 | n,.fl _,_,h,_=>by cases n<;>cases h
 | n,.fd,_,h,_=>by cases n<;>cases h
theorem lY:∀ {n:Nat}{x y:List Im},Im.keys n x=true->Im.keys n y=true->bC x y=decide (x=y)
 | n,[],y,_,_=>by cases y<;>simp[bC]
 | n,d::ds,[],_,_=>by simp[bC]
 | n,d::ds,e::es,hx,hy=>by
  rw[Im.keys,ZU] at hx hy;rw[bC,oU hx.1 hy.1,lY hx.2 hy.2];by_cases h1:d=e<;>by_cases h2:ds=es<;>simp[h1,h2]
end
theorem j9:∀ (n:Nat) {A:Around}{E:Value->Shared->Prop}{s:Shared}{d:Im}{v:Value}{Q:Bool->Shared->Prop},Im.key n d=true->FF s.heap d v->Q true s->wpAny (model prog w) A (eqIsQuiet n v) Q E s
 | n,A,E,s,.int i,v,Q,_,hv,h=>by
  obtain⟨t,rfl⟩:=hv;rw[eqIsQuiet_byValue n rfl];exact Z6 h
 | n,A,E,s,.str i,v,Q,_,hv,h=>by
  obtain⟨t,rfl⟩:=hv;rw[eqIsQuiet_byValue n rfl];exact Z6 h
 | n+1,A,E,s,.tup ds,v,Q,k,hv,h=>by
  obtain⟨a,o,items,m,rfl,ho,hc,hd,hi⟩:=hv;have hT:s.TypeIs (.ref a) "tuple" := ⟨o,ho,hc⟩;unfold eqIsQuiet;refine Z9 (W8 hT F.slot_tuple_eq.lookup ?_);show wpAny _ _ (isInstance (.ref a) (.type "tuple") >>= _) _ _ s;refine Z9 (XJ hT isSubtype_tuple_tuple ?_);simp only[Xb,Zg,Yr];refine Z9 (Y9 ho hd ?_);refine Z9 ?_;show wpAny _ _ (forIn items _ _) _ _ s;rw[<- W4];rw[Im.key] at k;refine XL _ (fun rest r s'=>r.1=none/\s'=s/\∃ left,Im.keys n left=true/\aU s.heap left rest) _ ?_ ?_ _ _ ⟨rfl,rfl,ds,k,hi⟩
  ·rintro v rest r s' ⟨hr,rfl,left,hk,hl⟩;cases left with
   | nil=>cases (show v::rest=[] from hl)
   | cons d left=>
    obtain⟨v',r',e,h1,Gn⟩:=hl;cases e;rw[Im.keys,ZU] at hk;refine Z9 (j9 n hk.1 h1 ?_);simp only[Xb,Zg,Yr];exact Z6 ⟨rfl,rfl,left,hk.2,Gn⟩
  ·rintro⟨r1,r2⟩ s' ⟨hr,rfl,_⟩;simp only at hr;subst hr;exact Z6 h
 | _,_,_,_,.l_,_,_,k,_,_=>by cases ‹Nat›<;>cases k
 | _,_,_,_,.bl _,_,_,k,_,_=>by cases ‹Nat›<;>cases k
 | _,_,_,_,.fn _,_,_,k,_,_=>by cases ‹Nat›<;>cases k
 | _,_,_,_,.fl _,_,_,k,_,_=>by cases ‹Nat›<;>cases k
 | _,_,_,_,.fd,_,_,k,_,_=>by cases ‹Nat›<;>cases k
 | 0,_,_,_,.tup _,_,_,k,_,_=>by cases k
def bD(prog:Program)(w:World):HeapKind prog w (List Im) where
 is:=fun h ds a=>Im.keys 7 ds=true/\FF h (.tup ds) (.ref a)
 hash:=fun ds=>Fm w (.tup ds)
 draws:=fun ds=>Np (.tup ds)
 room:=fun A=>A.units+10<cLine
 inj:=fun hx hy=>by
  have:=oP 8 (x:=.tup _) (y:=.tup _) hx.1 hy.1 hx.2 hy.2;injection this
 keeps:=fun {h h' k a d o es ep} x ho hd hs=>⟨x.1,x.2.keep fun b u items n hb hc Jr=>by
  have N4:b≠d:=by
   rintro rfl;rw[ho] at hb;cases hb;rw[hd] at Jr;cases Jr
  exact (hs.2 b N4).trans hb⟩
 pyHash:=fun hu hk h=>oQ 8 (d:=.tup _) hk.1 (show _ < _ by have:_+10<cLine:=hu;lia) hk.2 h
 eqBool:=fun {A E s x y a b Q} hu hx hy h=>by
  have q:=dr (s:=s) 8 (A:=A) (x:=.tup x) (y:=.tup y) (lX (n:=8) (d:=.tup x) hx.1) (lX (n:=8) (d:=.tup y) hy.1) (show _ < _ by have:A.units+10<cLine:=hu;lia) hx.2 hy.2;rw[oU (n:=8) (x:=.tup x) (y:=.tup y) hx.1 hy.1] at q;exact q _ _ E Q (by simpa using h)
 quiet:=fun hk h=>j9 8 (d:=.tup _) hk.1 hk.2 h
end
abbrev Key:=Sum Int Str
def gS:Key->Value->Bool
 | .inl k,v=>Value.isInt k v
 | .inr x,v=>Value.isStrOf x v
def vg(w:World):Key->Int
 | .inl k=>hashInt k
 | .inr x=>hashStr w x
theorem ej:∀ {k:Key}{v:Value},gS k v=true->(∃ i t,k=Sum.inl i/\v=Value.int i t)\/(∃ x t,k=Sum.inr x/\v=Value.str x t)
 | .inl i,v,h=>by
  obtain⟨t,e⟩:=Value.isInt_shape (k:=i) (v:=v) h;exact .inl ⟨i,t,rfl,e⟩
 | .inr x,v,h=>by
  obtain⟨t,e⟩:=Value.isStrOf_shape (x:=x) (v:=v) h;exact .inr ⟨x,t,rfl,e⟩
theorem vh(i:Int)(t:Tok):gS (.inl i) (.int i t)=true:=by simp[gS,Value.isInt]
theorem vj(x:Str)(t:Tok):gS (.inr x) (.str x t)=true:=by simp[gS,Value.isStrOf]
theorem vk(a b:Int):decide ((Sum.inl a:Key)=Sum.inl b)=(a == b):=by
 by_cases e:a=b
 ·subst e;simp
 ·have h:¬ (Sum.inl a:Key)=Sum.inl b:=fun q=>e (Sum.inl.inj q);rw[Zs h];exact (beq_eq_false_iff_ne.mpr e).symm
theorem vm(a b:Str):decide ((Sum.inr a:Key)=Sum.inr b)=decide (a=b):=by
 by_cases e:a=b
 ·subst e;simp
 ·have h:¬ (Sum.inr a:Key)=Sum.inr b:=fun q=>e (Sum.inr.inj q);rw[Zs h,Zs e]
theorem vn(a:Int)(b:Str):decide ((Sum.inl a:Key)=Sum.inr b)=false:=Zs (fun q=>nomatch q)
theorem vo(a:Str)(b:Int):decide ((Sum.inr a:Key)=Sum.inl b)=false:=Zs (fun q=>nomatch q)
def ft(prog:Program)(w:World):PySem.KeyKind prog w Key where
 is:=gS
 hash:=vg w
 inj:=fun v a b ha hb=>by
  rcases ej ha with ⟨i,t,rfl,rfl⟩ | ⟨x,t,rfl,rfl⟩
  ·rcases ej hb with ⟨j,u,rfl,e⟩ | ⟨y,u,rfl,e⟩
   ·injection e with e1 _;rw[e1]
   ·exact nomatch e
  ·rcases ej hb with ⟨j,u,rfl,e⟩ | ⟨y,u,rfl,e⟩
   ·exact nomatch e
   ·injection e with e1 _;rw[e1]
 byValue:=fun k v h=>by
  rcases ej h with ⟨i,t,rfl,rfl⟩ | ⟨x,t,rfl,rfl⟩<;>rfl
 pyHash:=fun hv h=>by
  rcases ej hv with ⟨i,t,rfl,rfl⟩ | ⟨x,t,rfl,rfl⟩
  ·exact wpAny_pyHash_int h
  ·exact wpAny_pyHash_str h
 eqBool:=fun hu hv h=>by
  rcases ej hu with ⟨i,t,rfl,rfl⟩ | ⟨x,t,rfl,rfl⟩
  ·rcases ej hv with ⟨j,u,rfl,rfl⟩ | ⟨y,u,rfl,rfl⟩
   ·rw[vk] at h;exact wpAny_eqBool_int h
   ·rw[vn] at h;exact SeqAt.EqAt.int_str i t y u _ _ _ _ h
  ·rcases ej hv with ⟨j,u,rfl,rfl⟩ | ⟨y,u,rfl,rfl⟩
   ·rw[vo] at h;exact SeqAt.EqAt.str_int x t j u _ _ _ _ h
   ·rw[vm] at h;exact wpAny_eqBool_str h
 «strs»:=fun k x t v h=>by
  rcases ej h with ⟨i,u,rfl,e⟩ | ⟨y,u,rfl,e⟩
  ·exact nomatch e
  ·injection e with e1 _;subst e1;cases v<;>rfl
theorem vq(prog:Program)(w:World)(i:Int)(t:Tok):(ft prog w).is (.inl i) (.int i t)=true:=vh i t
theorem vw(prog:Program)(w:World)(x:Str)(t:Tok):(ft prog w).is (.inr x) (.str x t)=true:=vj x t
inductive V where
 | l_ | bl (b:Bool) | int (i:Int) | str (x:Str) | LS (b:Array UInt8) | N5 (b:UInt64) | ref (a:Addr) | ty (n:String)
 deriving DecidableEq
variable{vs:List V}{v:V}
def ay:V->Value->Prop
 | .l_,u=>u=Value.none
 | .bl b,u=>u=Value.bool b
 | .int i,u=>∃ t,u=Value.int i t
 | .str x,u=>∃ t,u=Value.str x t
 | .LS b,u=>∃ t,u=Value.bytes b t
 | .N5 b,u=>∃ t,u=Value.float b t
 | .ref a,u=>u=Value.ref a
 | .ty n,u=>u=Value.type n
abbrev au:List V->List Value->Prop:=Paired ay
theorem au.length{xs:List V}{us:List Value}(r:au xs us):xs.length=us.length:=Ww r
theorem au.get:∀ {xs:List V}{us:List Value}{i:Nat}{x:V},au xs us->xs[i]?=some x->∃ u,us[i]?=some u/\ay x u
 | _,_,_,_,.nil,e=>by simp at e
 | _,_,0,_,.cons r _,e=>by simp at e;subst e;exact⟨_,rfl,r⟩
 | _,_,i+1,x,.cons _ t,e=>by
  obtain⟨u,h1,h2⟩:=au.get (i:=i) (x:=x) t (by simpa using e);exact⟨u,by simpa using h1,h2⟩
theorem au.set{x:V}{u:Value}(r:ay x u):∀ {xs:List V}{us:List Value} (i:Nat),au xs us->au (xs.set i x) (us.set i u)
 | _,_,_,.nil=>.nil
 | _,_,0,.cons _ t=>.cons r t
 | _,_,i+1,.cons q t=>.cons q (au.set r i t)
theorem au.append:∀ {xs ys:List V}{us ws:List Value},au xs us->au ys ws->au (xs++ys) (us++ws)
 | _,_,_,_,.nil,s=>s
 | _,_,_,_,.cons r t,s=>.cons r (au.append t s)
theorem au.take:∀ {xs:List V}{us:List Value} (n:Nat),au xs us->au (xs.take n) (us.take n)
 | _,_,0,_=>.nil
 | _,_,_+1,.nil=>.nil
 | _,_,n+1,.cons r t=>.cons r (au.take n t)
theorem au.drop:∀ {xs:List V}{us:List Value} (n:Nat),au xs us->au (xs.drop n) (us.drop n)
 | _,_,0,r=>r
 | _,_,_+1,.nil=>.nil
 | _,_,n+1,.cons _ t=>au.drop n t
def dW:Option V->Option Value->Prop
 | some v,some u=>ay v u
 | none,none=>True
 | _,_=>False
def KV{κ:Type}:List (κ×V)->List (κ×Value)->Prop:=Paired fun (p:κ×V) (q:κ×Value)=>p.1=q.1/\ay p.2 q.2
def kV:Key->V
 | .inl i=>.int i
 | .inr x=>.str x
inductive HO where
 | lst (xs:List V)
 | tup (xs:List V)
 | dK (kvs:List (Key×V)) | dT (kvs:List (List Im×V))
 | set (S:Int->Bool) (n:Nat)
 | ins (C dx:Addr) (fs:List (Str×V))
 | own (x:Addr)
 | xd (fs:List (Str×V))
 | met (f x:Addr)
 | N6 (lo hi:Int)
 | Fj (o:Obj) (u:HO)
 | KA (ps:Array Value)
 | ext (φ:Heap->Prop)
variable{o:HO}
abbrev Hp:=Addr->Option HO
variable{H' H:Hp}
def upd(H:Hp)(a:Addr)(o:HO):Hp:=fun b=>if b=a then some o else H b
theorem bm:upd H a o a=some o:=by unfold upd;rw[ZY rfl]
theorem aD(h:b≠a):upd H a o b=H b:=by unfold upd;rw[ZW h]
theorem oW{u:HO}(h:H a=some o)(h':H b=some u)(d:o≠u):a≠b:=by
 intro e;subst e;rw[h] at h';exact d (Zq h')
theorem cy(h:H a=some o)(h':H b=none):a≠b:=by
 intro e;subst e;rw[h] at h';cases h'
mutual
def E7(H:Hp):Im->V->Prop
 | .l_,v=>v=.l_
 | .bl b,v=>v=.bl b
 | .int i,v=>v=.int i
 | .str x,v=>v=.str x
 | .fn a,v=>v=.ref a
 | .fl ds,v=>∃ a xs o,v=.ref a/\H a=some (.Fj o<|.lst xs)/\am H ds xs
 | .fd,v=>∃ a o,v=.ref a/\H a=some (.Fj o<|.dT [])
 | .tup ds,v=>∃ a xs,v=.ref a/\H a=some (.tup xs)/\am H ds xs
def am(H:Hp):List Im->List V->Prop
 | [],vs=>vs=[]
 | d::ds,vs=>∃ v r,vs=v::r/\E7 H d v/\am H ds r
end
def iV(H H':Hp):Prop:=∀ a xs,H a=some (.tup xs)->H' a=some (.tup xs)
structure H9(H H':Hp):Prop where
 t:iV H H'
 z:∀ a o u,H a=some (.Fj o u)->H' a=some (.Fj o u)
instance {H H':Hp}:CoeFun (H9 H H') (fun _=>∀ a xs,H a=some (.tup xs)->H' a=some (.tup xs)):=⟨fun t=>t.t⟩
mutual
theorem E7.mono{H H':Hp}(k:H9 H H'):∀ {d:Im}{v:V},E7 H d v->E7 H' d v
 | .l_,_,e=>e
 | .bl _,_,e=>e
 | .int _,_,e=>e
 | .str _,_,e=>e
 | .fn _,_,e=>e
 | .tup ds,_,e=>by
  obtain⟨a,xs,rfl,h1,h2⟩:=e;exact⟨a,xs,rfl,k.t a xs h1,am.mono k h2⟩
 | .fl ds,_,e=>by
  obtain⟨a,xs,o,rfl,h1,h2⟩:=e;exact⟨a,xs,o,rfl,k.z a _ _ h1,am.mono k h2⟩
 | .fd,_,e=>by
  obtain⟨a,o,rfl,h1⟩:=e;exact⟨a,o,rfl,k.z a _ _ h1⟩
theorem am.mono{H H':Hp}(k:H9 H H'):∀ {ds:List Im}{vs:List V},am H ds vs->am H' ds vs
 | [],_,e=>e
 | d::ds,_,e=>by
  obtain⟨v,r,rfl,h1,h2⟩:=e;exact⟨v,r,rfl,E7.mono k h1,am.mono k h2⟩
end
def H_(H:Hp)(k:List Im)(b:Addr):Prop:=Im.keys 7 k=true/\E7 H (.tup k) (.ref b)
mutual
theorem E7.Hc{H H':Hp}(k:iV H H'):∀ {d:Im}{n:Nat}{v:V},Im.key n d=true->E7 H d v->E7 H' d v
 | .l_,_,_,_,e=>e
 | .bl _,_,_,_,e=>e
 | .int _,_,_,_,e=>e
 | .str _,_,_,_,e=>e
 | .fn _,_,_,_,e=>e
 | .tup ds,n+1,_,q,e=>by
  obtain⟨a,xs,rfl,h1,h2⟩:=e;exact⟨a,xs,rfl,k a xs h1,am.Hc k q h2⟩
 | .tup ds,0,_,q,e=>nomatch q
 | .fl ds,0,_,q,e=>nomatch q
 | .fl ds,n+1,_,q,e=>nomatch q
 | .fd,0,_,q,e=>nomatch q
 | .fd,n+1,_,q,e=>nomatch q
theorem am.Hc{H H':Hp}(k:iV H H'):∀ {ds:List Im}{n:Nat}{vs:List V},Im.keys n ds=true->am H ds vs->am H' ds vs
 | [],_,_,_,e=>e
 | d::ds,n,_,q,e=>by
  obtain⟨v,r,rfl,h1,h2⟩:=e;rw[Im.keys,ZU] at q;exact⟨v,r,rfl,E7.Hc k q.1 h1,am.Hc k q.2 h2⟩
end
theorem H_.mono{k:List Im}(h:H_ H k b)(t:iV H H'):H_ H' k b:=by
 obtain⟨h0,a,xs,e,h1,h2⟩:=h;exact⟨h0,a,xs,e,t a xs h1,h2.Hc t h0⟩
section
variable(P:Program)(w:World)
def bv(H:Hp)(h:Heap)(a:Addr):HO->Prop
 | .lst xs=>xs.length<=sizeLine/\∃ (f_:List Value) (n:Nat),au xs f_/\h.get? a=some { cls:=.type "list",data:=.seq f_.toArray n }
 | .tup xs=>xs.length<=sizeLine/\∃ f_:List Value,au xs f_/\IsTup h a f_.toArray
 | .dK kvs=>kvs.length<=sizeLine/\(a == sysModules)=false/\∃ vs,KV kvs vs/\h.DictOf (ft P w) a vs
 | .dT kvs=>kvs.length<=sizeLine/\(a == sysModules)=false/\∃ xs:List (List Im×Addr×Value),
   Paired (fun (p:List Im×V) (q:List Im×Addr×Value)=>p.1=q.1/\H_ H p.1 q.2.1/\ay p.2 q.2.2) kvs xs/\
   ∃ o es ep,h.get? a=some o/\o.ExactDict/\o.data=.dict es ep/\es.toList=xs.map (entryOfKey<|bD P w)/\(xs.map (·.1)).Nodup
 | .set S n=>h.SetOf (intKind P w) a S n
 | .ins C dx fs=>H dx=some (.own a)/\fs.length<=1000/\dx≠a/\h.get? a=some (PySem.W.instObj C dx)/\
   ∃ mA,h.Ns1 dx mA/\(∀ f,dW (fs.lookup f)<|mA f)/\PySem.Within mA (fs.map (·.1))
 | .own _=>∃ o,h.get? a=some o
 | .xd fs=>∃ mA,h.Ns1 a mA/\∀ f,dW (fs.lookup f) (mA f)
 | .N6 lo hi=>∃ t u v,h.get? a=some { cls:=.type "range",data:=.fields #[.int lo t,.int hi u,.int 1 v] }
 | .Fj o u=>h.get? a=some o/\bv H h a u
 | .KA ps=>h.get? a=some { cls:=.none,data:=.fields ps }
 | .met f x=>h.get? a=some (PySem.W.methodObj (.ref f)<|.ref x)
 | .ext φ=>φ h/\(∃ o,h.get? a=some o)/\∀ h1 h2:Heap,φ h1->(∀ o,h1.get? a=some o->h2.get? a=some o)->φ h2
def FH(H:Hp)(h:Heap):Prop:=∀ a o,H a=some o->bv P w H h a o
end
section
variable{P:Program}{w:World}{H H':Hp}{h h':Heap}{a:Addr}{o:HO}
theorem bv.lt(x:bv P w H h a o):a<h.objs.size:=by
 cases o with
 | lst xs=>obtain⟨_,_,_,_,e⟩:=x;exact ZP e
 | tup xs=>obtain⟨_,_,_,p⟩:=x;exact p.lt
 | dK kvs=>obtain⟨_,_,_,_,o,_,_,e,_⟩:=x;exact ZP e
 | dT kvs=>obtain⟨_,_,_,_,o,_,_,e,_⟩:=x;exact ZP e
 | set S n=>obtain⟨o,_,_,_,e,_⟩:=x;exact ZP e
 | ins C dx fs=>obtain⟨_,_,_,e,_⟩:=x;exact ZP e
 | own y=>obtain⟨_,e⟩:=x;exact ZP e
 | xd fs=>obtain⟨_,⟨_,_,_,e,_⟩,_⟩:=x;exact ZP e
 | N6 lo hi=>obtain⟨_,_,_,e⟩:=x;exact ZP e
 | Fj ob u=>obtain⟨e,_⟩:=x;exact ZP e
 | KA ps=>exact ZP (show h.get? a=some _ from x)
 | met f y=>exact ZP (show h.get? a=some _ from x)
 | ext φ=>obtain⟨_,⟨_,e⟩,_⟩:=x;exact ZP e
theorem Paired.JC{α β:Type}{F G:α->β->Prop}:∀ {l₁:List α}{l₂:List β},Paired F l₁ l₂->(∀ a b,F a b->G a b)->Paired G l₁ l₂
 | _,_,.nil,_=>.nil
 | _,_,.cons r t,f=>.cons (f _ _ r) (Paired.JC t f)
theorem bv.Fr(x:bv P w H h a o)(k:∀ b u,(b=a\/H b=some (.own a))->h.get? b=some u->h'.get? b=some u)(ho:∀ b,H b=some (.own a)->H' b=some (.own a))(ht:∀ b xs,H b=some (.tup xs)->H' b=some (.tup xs)):bv P w H' h' a o:=by
 induction o with
 | lst xs=>obtain⟨z,f_,n,r,e⟩:=x;exact⟨z,f_,n,r,k _ _ (.inl rfl) e⟩
 | tup xs=>obtain⟨z,f_,r,ob,e,c⟩:=x;exact⟨z,f_,r,ob,k _ _ (.inl rfl) e,c⟩
 | dK kvs=>obtain⟨z,y,vs,r,ob,es,ep,e,c⟩:=x;exact⟨z,y,vs,r,ob,es,ep,k _ _ (.inl rfl) e,c⟩
 | dT kvs=>
  obtain⟨z,y,xs,r,ob,es,ep,e,c⟩:=x;exact⟨z,y,xs,Paired.JC r fun p q z=>⟨z.1,z.2.1.mono ht,z.2.2⟩,ob,es,ep,k _ _ (.inl rfl) e,c⟩
 | set S n=>obtain⟨ob,es,ep,t,e,c⟩:=x;exact⟨ob,es,ep,t,k _ _ (.inl rfl) e,c⟩
 | ins C dx fs=>
  obtain⟨d,z,ne,e,mA,⟨od,es,ep,e2,c⟩,r⟩:=x;exact⟨ho _ d,z,ne,k _ _ (.inl rfl) e,mA,⟨od,es,ep,k _ _ (.inr d) e2,c⟩,r⟩
 | own y=>obtain⟨ob,e⟩:=x;exact⟨ob,k _ _ (.inl rfl) e⟩
 | xd fs=>obtain⟨mA,⟨od,es,ep,e,c⟩,r⟩:=x;exact⟨mA,⟨od,es,ep,k _ _ (.inl rfl) e,c⟩,r⟩
 | N6 lo hi=>obtain⟨t,u,v,e⟩:=x;exact⟨t,u,v,k _ _ (.inl rfl) e⟩
 | Fj ob u ih=>obtain⟨e,q⟩:=x;exact⟨k _ _ (.inl rfl) e,ih q⟩
 | KA ps=>
  have e:h.get? a=some { cls:=.none,data:=.fields ps }:=x;show h'.get? a=some { cls:=.none,data:=.fields ps };exact k a _ (.inl rfl) e
 | met f y=>
  have e:h.get? a=some (PySem.W.methodObj (.ref f)<|.ref y):=x;show h'.get? a=some (PySem.W.methodObj (.ref f)<|.ref y);exact k a _ (.inl rfl) e
 | ext φ=>obtain⟨p,⟨o,e⟩,st⟩:=x;exact⟨st _ _ p fun o q=>k _ _ (.inl rfl) q,⟨o,k _ _ (.inl rfl) e⟩,st⟩
theorem FH.lt(x:FH P w H h)(e:H a=some o):a<h.objs.size:=(x a o e).lt
theorem FH.fresh(x:FH P w H h)(e:h.objs.size<=a):H a=none:=by
 cases q:H a with
 | none=>rfl
 | some u=>exact absurd (Zt (x.lt q) e) (Ym _)
theorem FH.kept(x:FH P w H h)(k:∀ b u,h.get? b=some u->h'.get? b=some u):FH P w H h':=fun a o e=>
 (x a o e).Fr (fun b u _ q=>k b u q) (fun _ q=>q) fun _ _ q=>q
theorem FH.laid(x:FH P w H h)(k:∀ b u,h.get? b=some u->h'.get? b=some u)(hp:h.objs.size<=a)(new:bv P w (upd H a o) h' a o):FH P w (upd H a o) h':=fun b u e=>by
 have hn:=x.fresh hp;by_cases hb:b=a
 ·subst hb;rw[bm] at e;cases e;exact new
 ·rw[aD hb] at e;exact (x b u e).Fr (fun c v _ q=>k c v q) (fun c q=>by rw[aD (cy q hn)];exact q) fun c xs q=>by rw[aD (cy q hn)];exact q
end
def Rd(H:Hp)(a:Addr)(u:HO):Prop:=H a=some u\/∃ o,H a=some (.Fj o u)
theorem Rd.ok{u:HO}(r:Rd H a u)(x:FH P w H h):bv P w H h a u:=by
 rcases r with r | ⟨o,r⟩
 ·exact x a u r
 ·obtain⟨_,q⟩:=x a _ r;exact q
def LT:Option HO->Prop
 | some (.lst _)=>True
 | some (.dK _)=>True
 | some (.dT _)=>True
 | some (.set _ _)=>True
 | some (.ins _ _ _)=>True
 | some (.ext _)=>True
 | _=>False
section
variable{P:Program}{w:World}{H:Hp}{h h':Heap}{x e:Addr}{o':HO}
theorem FH.write(ok:FH P w H h)(mu:LT (H x))(he:e=x\/H e=some (.own x))(k:∀ b u,b≠e->h.get? b=some u->h'.get? b=some u)(Lp:∃ u,h'.get? e=some u)(new:bv P w (upd H x o') h' x o'):FH P w (upd H x o') h':=fun b u q=>by
 have LU:∀ c y,H c=some (.own y)->c≠x:=fun c y r z=>by subst z;rw[r] at mu;exact mu
 have N7:∀ c xs,H c=some (.tup xs)->c≠x:=fun c xs r z=>by subst z;rw[r] at mu;exact mu
 by_cases hb:b=x
 ·subst hb;rw[bm] at q;cases q;exact new
 ·rw[aD hb] at q;by_cases KB:b=e
  ·have q':H b=some (.own x):=by
    rcases he with z | z
    ·exact absurd (KB.trans z) hb
    ·rw[KB];exact z
   rw[q] at q';cases q';obtain⟨v,hv⟩:=Lp;exact⟨v,by rw[KB];exact hv⟩
  ·refine (ok b u q).Fr (fun c v hc r=>k c v ?_ r) (fun c r=>by rw[aD (LU c b r)];exact r) fun c xs r=>by rw[aD (N7 c xs r)];exact r
   rcases hc with rfl | hc
   ·exact KB
   ·rintro rfl;rcases he with z | z
    ·exact LU c b hc z
    ·rw[hc] at z;cases z;exact hb rfl
end
structure Un(fs ex:List Addr)(H H':Hp)(h h':Heap):Prop where
 keep:∀ b o,h.get? b=some o->H b=none->b∉fs->b∉ex->h'.get? b=some o
 slot:∀ b o,h.get? b=some o->H b=none->b∈fs->b∉ex->∃ sl,h'.get? b=some { o with slots:=sl }
 free:∀ b o,h.get? b=some o->H b=none->b∉ex->H' b=none
 there:∀ b o,h.get? b=some o->b∉ex->∃ o',h'.get? b=some o'
 GI:∀ b xs,H b=some (.tup xs)->H' b=some (.tup xs)
 Go:∀ b o u,H b=some (.Fj o u)->H' b=some (.Fj o u)
 GU:∀ b ps,H b=some (.KA ps)->∃ more,H' b=some (.KA<|ps++more)
section
variable{fs Q0 ex Tk:List Addr}{H H1 H2:Hp}{h h1 h2 h':Heap}{a x e:Addr}{o:HO}
theorem Un.any(u:Un fs ex H H1 h h1){b:Addr}{ob:Obj}(q:h.get? b=some ob)(n:H b=none)(hx:b∉ex):∃ sl,h1.get? b=some { ob with slots:=sl }:=by
 by_cases hb:b∈fs
 ·exact u.slot b ob q n hb hx
 ·exact⟨ob.slots,u.keep b ob q n hb hx⟩
theorem Un.kept(k:∀ b u,h.get? b=some u->h'.get? b=some u):Un fs ex H H h h':=
 ⟨fun b ob q _ _ _=>k b ob q,fun b ob q _ _ _=>⟨ob.slots,k b ob q⟩,fun _ _ _ n _=>n,fun b ob q _=>⟨ob,k b ob q⟩,fun _ _ q=>q,fun _ _ _ q=>q,fun _ ps q=>⟨#[],by rw[q];simp⟩⟩
theorem Un.refl:Un fs ex H H h h:=Un.kept fun _ _ q=>q
theorem Un.laid(k:∀ b u,h.get? b=some u->h'.get? b=some u)(hp:h.objs.size<=a)(hn:H a=none):Un fs ex H (upd H a o) h h' where
 keep:=fun b u q _ _ _=>k b u q
 slot:=fun b u q _ _ _=>⟨u.slots,k b u q⟩
 free:=fun b u q n _=>by rw[aD (Zx<|Zt (ZP q) hp)];exact n
 there:=fun b u q _=>⟨u,k b u q⟩
 GI:=fun b xs q=>by rw[aD (cy q hn)];exact q
 Go:=fun b u xs q=>by rw[aD (cy q hn)];exact q
 GU:=fun b ps q=>⟨#[],by rw[aD (cy q hn),q];simp⟩
theorem Un.write(mu:LT (H x))(he:e=x\/H e=some (.own x))(k:∀ b u,b≠e->h.get? b=some u->h'.get? b=some u)(Lp:∃ u,h'.get? e=some u):Un fs ex H (upd H x o) h h':=by
 have hx:∀ b,H b=none->b≠x:=fun b n z=>by subst z;rw[n] at mu;exact mu
 have hb:∀ b,H b=none->b≠e:=fun b n z=>by
  subst z;rcases he with r | r
  ·exact hx b n r
  ·rw[n] at r;cases r
 have hm:∀ b u,H b=some u->¬ LT (some u)->b≠x:=fun b u q nm z=>by subst z;rw[q] at mu;exact nm mu
 refine⟨fun b u q n _ _=>k b u (hb b n) q,fun b u q n _ _=>⟨u.slots,k b u (hb b n) q⟩,fun b u q n _=>by rw[aD (hx b n)];exact n,fun b u q _=>?_,
  fun b xs q=>by rw[aD (hm b _ q fun z=>z)];exact q,fun b u xs q=>by rw[aD (hm b _ q fun z=>z)];exact q,fun b ps q=>⟨#[],by rw[aD (hm b _ q fun z=>z),q];simp⟩⟩;by_cases KB:b=e
 ·subst KB;exact Lp
 ·exact⟨u,k b u KB q⟩
end
def Nq(h:Heap)(H:Hp):List Addr:=(range h.objs.size).filter fun a=>(H a).isSome
def er(h:Heap)(H:Hp):Heap:=PySem.W.hideAll h (Nq h H)
theorem vx(h:Heap)(H:Hp):(er h H).objs.size=h.objs.size:=PySem.W.hideAll_size _ _
theorem vy{o:Obj}(e:h.get? b=some o)(n:H b=none):(er h H).get? b=some o:=
 PySem.W.hideAll_get _ e fun hm=>by
  have q:(H b).isSome=true:=(Yw.mp hm).2;rw[n] at q;simp at q
theorem vz{o:Obj}(e:(er h H).get? b=some o):h.get? b=some o/\H b=none:=by
 have e':h.get? b=some o:=PySem.W.of_hideAll (Nq h H) e;refine⟨e',?_⟩;cases q:H b with
 | none=>rfl
 | some x=>
  have hm:b∈Nq h H:=Yw.mpr ⟨Zi.mpr<|ZP e',by simp[q]⟩;have z:(er h H).get? b=none:=PySem.W.hideAll_none (Nq h H) hm;rw[z] at e;cases e
def vA(g h:Heap)(L:Addr):List (Addr×Obj):=(range h.objs.size).filterMap fun a=>if a=L\/(g.get? a).isSome=true then none else (h.get? a).map fun o=>(a,o)
def rest(g h:Heap)(L d:Addr):List (Addr×Obj):=(vA g h L).filter fun p=>decide (p.1≠d)
structure Mod(K:PySem.W.Frag)(mg:Str->Option Value)(base:Heap):Prop where
 Nr:K.In base
 glob:base.Ns mainGlobals mg
 blt:∃ mb,base.Ns builtinsNs mb/\∀ x:Str,x ≠ "__name__" -> mb x=bootBuiltins x
 nolimit:base.NoLimit
structure Cx where
 prog:Program
 w:World
 K:PySem.W.Frag
 mg:Str->Option Value
 base:Heap
 A:Around
 N:List Str
 s₀:Shared
 H₀:Hp
 env:Env
 outer:List Env
 stack:List Env
 ex:List Addr
 fn:Str->Bool
 calm:Bool
 pn:List (Addr×Obj)
 xe:Value->Shared->Prop
variable{X:Cx}
def HH(l:List Env):List Addr:=l.filterMap (·.frame)
abbrev Cx.fs(X:Cx):List Addr:=HH X.outer
def Nt(sc:Scope)(x:Str):Prop:=sc.names.lookup x=some .local\/sc.names.lookup x=some .cell\/sc.names.lookup x=some .free
def Loc(sc:Scope)(x:Str):Prop:=sc.names.lookup x=some .local\/sc.names.lookup x=some .cell
def vB(env:Env)(h:Heap)(m:Str->Option Value)(x:Str)(u:Value):Prop:=
 (env.kindOf x=some .local/\m x=some u)\/((env.kindOf x=some .cell\/env.kindOf x=some .free)/\∃ c,env.cells.lookup x=some c/\h.IsCell c (some u))
structure Cx.Ok(X:Cx):Prop where
 mod:Mod X.K X.mg X.base
 kind:X.env.scope.kind=.function
 glob:X.env.globals=mainGlobals
 blt:X.env.builtins=builtinsNs
 above:X.s₀.heap.objs.size<=X.env.locals
 inj:∀ x y c,X.env.cells.lookup x=some c->X.env.cells.lookup y=some c->x=y
 has:∀ x,(X.env.kindOf x=some .cell\/X.env.kindOf x=some .free)->∃ c,X.env.cells.lookup x=some c
 Lq:∀ x c,X.fn x=true->X.env.cells.lookup x=some c->X.s₀.heap.objs.size<=c
 hd:X.calm=true->X.A.handled=none
 frames:X.A.frames=some X.stack
 LV:X.stack=X.outer\/(X.stack=X.env::X.outer/\X.env.frame=some X.env.locals)
 N8:∀ b∈X.ex,b≠X.env.locals/\∀ x c,X.env.cells.lookup x=some c->c≠b
 bs:∀ b o,X.base.get? b=some o->X.s₀.heap.get? b=some o/\X.H₀ b=none
 JD:X.base.objs.size<=X.s₀.heap.objs.size
 Ia:∀ b o,X.base.get? b=some o->b∉X.ex
 Ib:∀ b∈X.ex,b∉X.fs
 FU:X.s₀.heap.FunFrames X.base X.outer
 KC:∀ b∈X.fs,X.H₀ b=none
structure Inv(X:Cx)(pins:List (Addr×Obj))(σ:List (Option V))(H:Hp)(s:Shared):Prop where
 ok:X.Ok
 os:s.os=X.s₀.os
 bare:AllBare s.gens
 base:Un X.fs X.ex X.H₀ H X.s₀.heap s.heap
 loc:∃ m,s.heap.Ns X.env.locals m/\∀ (i:Nat) (x:Str) (v:V),X.N[i]?=some x->σ[i]?=some (some v)->Nt X.env.scope x->∃ u,ay v u/\vB X.env s.heap m x u
 cell:∀ x c,X.env.cells.lookup x=some c->∃ v,s.heap.IsCell c v
 free:H X.env.locals=none
 Ff:∀ x c,X.env.cells.lookup x=some c->H c=none
 pin:∀ p∈X.pn++pins,s.heap.get? p.1=some p.2/\H p.1=none/\p.1≠X.env.locals/\p.1∉X.fs/\∀ v,p.2.data≠.cell v
 n_:FH X.prog X.w H s.heap
 len:σ.length=X.N.length
section
variable{X:Cx}{pins:List (Addr×Obj)}{σ:List (Option V)}{H H':Hp}{s:Shared}{h':Heap}
theorem Cx.Ok.N9(ok:X.Ok){b:Addr}{o:Obj}(e:X.base.get? b=some o):b∉X.fs:=fun hb=>by
 have:=(ok.FU.mem hb).1;rw[e] at this;cases this
theorem Inv.bs(I:Inv X pins σ H s):∀ b o,X.base.get? b=some o->s.heap.get? b=some o/\H b=none:=fun b o e=>
 ⟨I.base.keep b o (I.ok.bs b o e).1 (I.ok.bs b o e).2 (I.ok.N9 e) (I.ok.Ia b o e),I.base.free b o (I.ok.bs b o e).1 (I.ok.bs b o e).2 (I.ok.Ia b o e)⟩
theorem Inv.bk(I:Inv X pins σ H s):∀ b o,X.base.get? b=some o->s.heap.get? b=some o:=fun b o e=>(I.bs b o e).1
theorem Inv.mod(I:Inv X pins σ H s):Mod X.K X.mg X.base:=I.ok.mod
theorem Inv.KD(I:Inv X pins σ H s):X.K.In s.heap:=I.ok.mod.Nr.keeps I.bk
theorem Inv.lt(I:Inv X pins σ H s):X.env.locals<s.heap.objs.size:=let ⟨_,hn,_⟩:=I.loc;hn.lt
theorem Inv.sz(I:Inv X pins σ H s):X.s₀.heap.objs.size<=s.heap.objs.size:=Zn I.ok.above (Xi I.lt)
theorem Inv.N_(I:Inv X pins σ H s){a:Addr}(h:s.heap.objs.size<=a):a∉X.fs:=fun hb=>by
 obtain⟨_,o,ho,_⟩:=I.ok.FU.mem hb;exact absurd (Zt (ZP ho)<|Zn I.sz h) (Ym _)
theorem Inv.KE(I:Inv X pins σ H s):∀ x c,X.env.cells.lookup x=some c->c≠X.env.locals:=fun x c e z=>by
 obtain⟨v,o,ho,hd⟩:=I.cell x c e;obtain⟨m,⟨o',es,ep,IK,Jr,_⟩,_⟩:=I.loc;rw[z,IK] at ho;cases ho;rw[Jr] at hd;cases hd
theorem Inv.FU(I:Inv X pins σ H s):s.heap.FunFrames X.base X.outer:=by
 have all:∀ (l:List Env),(∀ b∈HH l,b∈X.fs)->X.s₀.heap.FunFrames X.base l->s.heap.FunFrames X.base l:=by
  intro l;induction l with
  | nil=>intro _ _;trivial
  | cons env r ih=>
   intro hs hl;obtain⟨hk,⟨L,o,hf,hn,ho,hd⟩,hr⟩:=hl;have hL:L∈X.fs:=hs L (by unfold HH;rw[Yg,hf];exact YH);obtain⟨sl,e⟩:=I.base.slot L o ho (I.ok.KC L hL) hL fun z=>I.ok.Ib L z hL;exact⟨hk,⟨L,_,hf,hn,e,hd⟩,ih (fun b hb=>hs b (by unfold HH;rw[Yg,hf];exact Y1 _ hb)) hr⟩
 exact all X.outer (fun _ hb=>hb) I.ok.FU
theorem Inv.stack(I:Inv X pins σ H s):s.heap.FunFrames X.base X.stack:=by
 rcases I.ok.LV with e | ⟨e,hf⟩
 ·rw[e];exact I.FU
 ·rw[e];obtain⟨m,hn,_⟩:=I.loc;refine .cons (by rw[I.ok.kind];decide) hf hn ?_ I.FU;exact Heap.get?_none_of_le (Zn I.ok.JD I.ok.above)
theorem Inv.Ho(I:Inv X pins σ H s):∀ b∈HH X.stack,b∈X.env.locals::X.fs:=fun b hb=>by
 rcases I.ok.LV with e | ⟨e,hf⟩
 ·rw[e] at hb;exact Y1 _ hb
 ·rw[e] at hb;unfold HH at hb;rw[Yg,hf] at hb;exact hb
theorem Inv.HI(I:Inv X pins σ H s):∀ b∈HH X.stack,H b=none:=fun b hb=>by
 rcases ZG.mp (I.Ho b hb) with e | hb
 ·rw[e];exact I.free
 ·obtain⟨_,o,ho,_⟩:=I.ok.FU.mem hb;exact I.base.free b o ho (I.ok.KC b hb) fun z=>I.ok.Ib b z hb
theorem Inv.step(I:Inv X pins σ H s)(Gd:∀ b∈ch,(b∈X.ex\/X.s₀.heap.objs.size<=b)/\b≠X.env.locals/\(∀ x c,X.env.cells.lookup x=some c->c≠b)/\∀ p∈X.pn++pins,p.1≠b)(keep:∀ b o,b≠X.env.locals->b∉X.fs->b∉ch->s.heap.get? b=some o->H b=none->h'.get? b=some o)(slot:∀ b o,b≠X.env.locals->b∈X.fs->b∉ch->s.heap.get? b=some o->H b=none->∃ sl,h'.get? b=some { o with slots:=sl })(free:∀ b o,b∉ch->s.heap.get? b=some o->H b=none->H' b=none)(there:∀ b o,b∉ch->s.heap.get? b=some o->∃ o',h'.get? b=some o')(GI:∀ b xs,H b=some (.tup xs)->H' b=some (.tup xs))(Go:∀ b o u,H b=some (.Fj o u)->H' b=some (.Fj o u))(GU:∀ b ps,H b=some (.KA ps)->∃ more,H' b=some (.KA<|ps++more))(ns:∀ m,s.heap.Ns X.env.locals m->h'.Ns X.env.locals m)(n_:FH X.prog X.w H' h')(hg:AllBare g'):
  Inv X pins σ H' { s with heap:=h',gens:=g',drawn:=d',toks:=t' }:=by
 have PP:∀ b o,X.s₀.heap.get? b=some o->b≠X.env.locals:=fun b o e=>Zx (Zt (ZP e) I.ok.above);have Nu:∀ b o,X.s₀.heap.get? b=some o->b∉X.ex->b∉ch:=fun b o e hx hb=>by
  rcases (Gd b hb).1 with z | z
  ·exact hx z
  ·exact absurd (Zt (ZP e) z) (Ym _)
 have cellK:∀ x c,X.env.cells.lookup x=some c->∀ v,s.heap.IsCell c v->h'.IsCell c v:=fun x c e v ⟨o,ho,hd⟩=>by
  have LW:c∉ch:=fun z=>(Gd c z).2.2.1 x c e rfl;by_cases hc:c∈X.fs
  ·obtain⟨sl,q⟩:=slot c o (I.KE x c e) hc LW ho (I.Ff x c e);exact⟨_,q,hd⟩
  ·exact⟨o,keep c o (I.KE x c e) hc LW ho<|I.Ff x c e,hd⟩
 refine⟨I.ok,I.os,hg,⟨fun b o e n hb hx=>?_,fun b o e n hb hx=>?_,fun b o e n hx=>?_,fun b o e hx=>?_,fun b xs e=>GI b xs<|I.base.GI b xs e,fun b o xs e=>Go b o xs<|I.base.Go b o xs e,fun b ps e=>?_⟩,?_,fun x c e=>?_,?_,fun x c e=>?_,fun p hp=>?_,n_,I.len⟩
 ·exact keep b o (PP b o e) hb (Nu b o e hx) (I.base.keep b o e n hb hx) (I.base.free b o e n hx)
 ·obtain⟨sl,e1⟩:=I.base.slot b o e n hb hx;obtain⟨Oa,e2⟩:=slot b _ (PP b o e) hb (Nu b o e hx) e1 (I.base.free b o e n hx);exact⟨Oa,e2⟩
 ·obtain⟨o',e1⟩:=I.base.there b o e hx;exact free b o' (Nu b o e hx) e1 (I.base.free b o e n hx)
 ·obtain⟨o',e1⟩:=I.base.there b o e hx;exact there b o' (Nu b o e hx) e1
 ·obtain⟨m1,e1⟩:=I.base.GU b ps e;obtain⟨m2,e2⟩:=GU b _ e1;exact⟨m1++m2,by rw[e2,Array.append_assoc]⟩
 ·obtain⟨m,hn,hl⟩:=I.loc;refine⟨m,ns m hn,fun i x v e1 e2 e3=>?_⟩;obtain⟨u,r,l⟩:=hl i x v e1 e2 e3;refine⟨u,r,?_⟩;rcases l with l | ⟨k,c,e,z⟩
  ·exact .inl l
  ·exact .inr ⟨k,c,e,cellK x c e _ z⟩
 ·obtain⟨v,z⟩:=I.cell x c e;exact⟨v,cellK x c e v z⟩
 ·obtain⟨m,⟨o,_,_,ho,_⟩,_⟩:=I.loc;exact free _ o (fun z=>(Gd _ z).2.1 rfl) ho I.free
 ·obtain⟨v,o,ho,hd⟩:=I.cell x c e;exact free c o (fun z=>(Gd c z).2.2.1 x c e rfl) ho (I.Ff x c e)
 ·obtain⟨e,n,ne,nf,d⟩:=I.pin p hp;have LW:p.1∉ch:=fun z=>(Gd p.1 z).2.2.2 p hp rfl;exact⟨keep p.1 p.2 ne nf LW e n,free p.1 p.2 LW e n,ne,nf,d⟩
theorem Inv.un(I:Inv X pins σ H s)(u:Un X.fs [] H H' s.heap h')(n_:FH X.prog X.w H' h'):Inv X pins σ H' { s with heap:=h',toks:=t' }:=by
 obtain⟨m,⟨o,es,ep,ho,r⟩,_⟩:=id I.loc;obtain⟨sl,hL⟩:=u.any ho I.free (by simp);exact I.step (g':=s.gens) (d':=s.drawn) (ch:=[]) (fun _ z=>nomatch z) (fun b o _ hb _ e n=>u.keep b o e n hb (by simp)) (fun b o _ hb _ e n=>u.slot b o e n hb (by simp)) (fun b o _ e n=>u.free b o e n (by simp)) (fun b o _ e=>u.there b o e (by simp)) u.GI u.Go u.GU (fun m' hm=>by
  obtain⟨o',es',Ob,IK,r'⟩:=hm;rw[ho] at IK;cases IK;exact⟨_,es',Ob,hL,r'⟩) n_ I.bare
theorem Inv.call(I:Inv X pins σ H s)(u:Un (HH X.stack) ch H H' s.heap h')(n_:FH X.prog X.w H' h')(hg:AllBare g')(Gd:∀ b∈ch,(b∈X.ex\/X.s₀.heap.objs.size<=b)/\b≠X.env.locals/\(∀ x c,X.env.cells.lookup x=some c->c≠b)/\∀ p∈X.pn++pins,p.1≠b):
  Inv X pins σ H' { s with heap:=h',gens:=g',drawn:=d',toks:=t' }:=by
 obtain⟨m,⟨o,es,ep,ho,r⟩,_⟩:=id I.loc;obtain⟨sl,hL⟩:=u.any ho I.free fun z=>(Gd _ z).2.1 rfl;exact I.step (ch:=ch) Gd (fun b o hL hb hc e n=>u.keep b o e n (fun z=>(ZG.mp<|I.Ho b z).elim hL hb) hc) (fun b o _ _ hc e n=>u.any e n hc) (fun b o hc e n=>u.free b o e n hc) (fun b o hc e=>u.there b o e hc) u.GI u.Go u.GU (fun m' hm=>by
  obtain⟨o',es',Ob,IK,r'⟩:=hm;rw[ho] at IK;cases IK;exact⟨_,es',Ob,hL,r'⟩) n_ hg
theorem Inv.turned(I:Inv X pins σ H s)(k:∀ b o,b≠it->s.heap.get? b=some o->h'.get? b=some o)(hn:H it=none)(hL:it≠X.env.locals)(h1:it∈X.ex\/X.s₀.heap.objs.size<=it)(h2:∀ x c,X.env.cells.lookup x=some c->c≠it)(h3:∀ p∈X.pn++pins,p.1≠it):Inv X pins σ H { s with heap:=h',toks:=t' }:=by
 have PQ:∀ b u,H b=some u->b≠it:=fun b u e z=>by rw[z,hn] at e;cases e
 refine I.step (g':=s.gens) (d':=s.drawn) (ch:=[it]) (fun b hb=>?_) (fun b o _ _ hc e _=>k b o (fun z=>hc (by simp[z])) e) (fun b o _ _ hc e _=>⟨o.slots,k b o (fun z=>hc (by simp[z])) e⟩) (fun _ _ _ _ n=>n)
  (fun b o hc e=>⟨o,k b o (fun z=>hc (by simp[z])) e⟩) (fun _ _ e=>e) (fun _ _ _ e=>e) (fun b ps e=>⟨#[],by rw[e];simp⟩) (fun m hm=>?_) (fun b u e=>?_) I.bare
 ·have e:b=it:=by simpa using hb
  subst e;exact⟨h1,hL,h2,h3⟩
 ·obtain⟨o,es,ep,ho,r⟩:=hm;exact⟨o,es,ep,k _ o (Yb hL) ho,r⟩
 ·refine (I.n_ b u e).Fr (fun c v hc q=>k c v ?_ q) (fun _ q=>q) fun _ _ q=>q;rcases hc with z | z
  ·rw[z];exact PQ b u e
  ·exact PQ c _ z
theorem Inv.tok(I:Inv X pins σ H s)(t:Nat):Inv X pins σ H { s with toks:=t }:=I.un (h':=s.heap) (t':=t) Un.refl I.n_
theorem Inv.kept(I:Inv X pins σ H s)(k:∀ b u,s.heap.get? b=some u->h'.get? b=some u):Inv X pins σ H { s with heap:=h',toks:=t' }:=I.un (Un.kept k) (I.n_.kept k)
theorem Inv.laid(I:Inv X pins σ H s)(k:∀ b u,s.heap.get? b=some u->h'.get? b=some u)(hp:s.heap.objs.size<=a)(new:bv X.prog X.w (upd H a o) h' a o):
  Inv X pins σ (upd H a o) { s with heap:=h',toks:=t' }:=I.un (Un.laid k hp<|I.n_.fresh hp) (I.n_.laid k hp new)
theorem Inv.write{x e:Addr}(I:Inv X pins σ H s)(mu:LT (H x))(he:e=x\/H e=some (.own x))(k:∀ b u,b≠e->s.heap.get? b=some u->h'.get? b=some u)(Lp:∃ u,h'.get? e=some u)(new:bv X.prog X.w (upd H x o) h' x o):Inv X pins σ (upd H x o) { s with heap:=h',toks:=t' }:=I.un (Un.write mu he k Lp) (I.n_.write mu he k Lp new)
theorem Inv.weak{σ':List (Option V)}(I:Inv X pins σ H s)(hl:σ'.length=σ.length)(w:∀ (i:Nat) v,σ'[i]?=some (some v)->σ[i]?=some (some v)):Inv X pins σ' H s:=
 ⟨I.ok,I.os,I.bare,I.base,let ⟨m,hn,Gn⟩:=I.loc;⟨m,hn,fun i x v e1 e2 e3=>Gn i x v e1 (w i v e2) e3⟩,I.cell,I.free,I.Ff,I.pin,I.n_,hl.trans I.len⟩
theorem Inv.FB{GP:List (Addr×Obj)}(I:Inv X pins σ H s)(h:∀ p∈GP,s.heap.get? p.1=some p.2/\H p.1=none/\p.1≠X.env.locals/\p.1∉X.fs/\∀ v,p.2.data≠.cell v):Inv X GP σ H s:=
 ⟨I.ok,I.os,I.bare,I.base,I.loc,I.cell,I.free,I.Ff,fun p hp=>(ZA.mp hp).elim (fun z=>I.pin p<|Zw _ z)<|h p,I.n_,I.len⟩
theorem oX(hN:N.Nodup){i j:Nat}{x:Str}(a:N[i]?=some x)(b:N[j]?=some x):i=j:=by
 obtain⟨h1,e1⟩:=Zv.mp a;obtain⟨h2,e2⟩:=Zv.mp b;exact (VJ hN).mp (e1.trans e2.symm)
variable{Q:Unit->Shared->Prop}
theorem oY{M:Model}(I:Inv X pins σ H s)(hN:X.N.Nodup)(hi:X.N[i]?=some x)(hx:Loc X.env.scope x)(r:ay v u)(h:∀ s',Inv X pins (σ.set i<|some v) H s'->(∃ a,Heap.SameBut a s.heap s'.heap/\(a=X.env.locals\/X.env.cells.lookup x=some a))->Q () s')(hf:X.fn x=true\/X.env.scope.names.lookup x=some .local:=by first | exact .inl rfl | exact .inr rfl | assumption):wpAny M A (storeName X.env x u) Q E s:=by
 obtain⟨m,hn,hl⟩:=id I.loc;have Oc:(X.env.scope.kind == .class || (X.env.scope.kind == .module && X.env.locals != X.env.globals))=false:=by rw[I.ok.kind];rfl
 have LX:i < σ.length:=by rw[I.len];exact (Zv.mp hi).1
 have KE:=I.KE;have tracked:∀ {a:Addr}{h':Heap},(∃ o,s.heap.get? a=some o/\H a=none)->Heap.SameBut a s.heap h'->FH X.prog X.w H h':=fun {a h'} ha hs b ob e=>by
  obtain⟨_,_,He⟩:=ha;refine (I.n_ b ob e).Fr (fun c w' hc q=>(hs.2 c ?_).trans q) (fun _ q=>q) fun _ _ q=>q;rintro rfl;rcases hc with rfl | hc
  ·rw[He] at e;cases e
  ·rw[He] at hc;cases hc
 rcases hx with hk | hk
 ·refine wpAny_storeName_local hk hn (fun h' LY hs=>?_) Oc;obtain⟨oL,_,_,Q1,_⟩:=id hn;refine h _ ⟨I.ok,I.os,I.bare,⟨fun b o e n hb hx=>?_,fun b o e n hb hx=>?_,I.base.free,fun b o e hx=>?_,I.base.GI,I.base.Go,I.base.GU⟩,⟨_,LY,fun j y v' e1 e2 e3=>?_⟩,fun y c e=>?_,I.free,I.Ff,fun p hp=>?_,tracked ⟨oL,Q1,I.free⟩ hs,by simpa using I.len⟩ ⟨_,hs,.inl rfl⟩
  ·exact (hs.2 b<|Zx<|Zt (ZP e) I.ok.above).trans (I.base.keep b o e n hb hx)
  ·obtain⟨sl,e1⟩:=I.base.slot b o e n hb hx;exact⟨sl,(hs.2 b<|Zx<|Zt (ZP e) I.ok.above).trans e1⟩
  ·obtain⟨o',e1⟩:=I.base.there b o e hx;exact⟨o',(hs.2 b<|Zx<|Zt (ZP e) I.ok.above).trans e1⟩
  ·by_cases hj:j=i
   ·subst hj;rw[hi] at e1;cases e1;rw[XC LX] at e2;cases e2;exact⟨u,r,.inl ⟨hk,by simp⟩⟩
   ·rw[Yq (Yb hj)] at e2;obtain⟨u',r',q⟩:=hl j y v' e1 e2 e3;refine⟨u',r',?_⟩;rcases q with ⟨k,e⟩ | ⟨k,c,e,z⟩
    ·refine .inl ⟨k,?_⟩;have:y≠x:=fun e=>hj (oX hN e1<|e ▸ hi);simp[this,e]
    ·exact .inr ⟨k,c,e,z.sameBut hs<|KE y c e⟩
  ·obtain⟨w',z⟩:=I.cell y c e;exact⟨w',z.sameBut hs<|KE y c e⟩
  ·obtain⟨e,n,ne,nf,d⟩:=I.pin p hp;exact⟨(hs.2 p.1 ne).trans e,n,ne,nf,d⟩
 ·have KF:X.fn x=true:=by
   rcases hf with z | z
   ·exact z
   ·rw[z] at hk;cases hk
  obtain⟨c,hc⟩:=I.ok.has x (.inl hk);obtain⟨w',z⟩:=I.cell x c hc;refine wpAny_storeName_cell I.ok.kind hk hc z (fun h' LZ hs=>?_);obtain⟨oc,PR,Od⟩:=id z;refine h { s with heap:=h' } ⟨I.ok,I.os,I.bare,⟨fun b o e n hb hx=>?_,fun b o e n hb hx=>?_,I.base.free,fun b o e hx=>?_,I.base.GI,I.base.Go,I.base.GU⟩,⟨m,hn.sameBut hs<|Yb<|KE x c hc,fun j y v' e1 e2 e3=>?_⟩,fun y c' e=>?_,I.free,I.Ff,fun p hp=>?_,tracked ⟨oc,PR,I.Ff x c hc⟩ hs,by simpa using I.len⟩ ⟨c,hs,.inr hc⟩
  ·exact (hs.2 b<|Zx<|Zt (ZP e)<|I.ok.Lq x c KF hc).trans (I.base.keep b o e n hb hx)
  ·obtain⟨sl,e1⟩:=I.base.slot b o e n hb hx;exact⟨sl,(hs.2 b<|Zx<|Zt (ZP e)<|I.ok.Lq x c KF hc).trans e1⟩
  ·obtain⟨o',e1⟩:=I.base.there b o e hx;exact⟨o',(hs.2 b<|Zx<|Zt (ZP e)<|I.ok.Lq x c KF hc).trans e1⟩
  ·by_cases hj:j=i
   ·subst hj;rw[hi] at e1;cases e1;rw[XC LX] at e2;cases e2;exact⟨u,r,.inr ⟨.inl hk,c,hc,LZ⟩⟩
   ·rw[Yq (Yb hj)] at e2;obtain⟨u',r',q⟩:=hl j y v' e1 e2 e3;refine⟨u',r',?_⟩;rcases q with q | ⟨k,c',e,z'⟩
    ·exact .inl q
    ·refine .inr ⟨k,c',e,z'.sameBut hs ?_⟩;rintro rfl;exact hj (oX hN e1<|I.ok.inj _ _ _ e hc ▸ hi)
  ·by_cases PU:c'=c
   ·subst PU;exact⟨_,LZ⟩
   ·obtain⟨w2,z2⟩:=I.cell y c' e;exact⟨w2,z2.sameBut hs PU⟩
  ·obtain⟨e,n,ne,nf,d⟩:=I.pin p hp;refine⟨(hs.2 p.1 ?_).trans e,n,ne,nf,d⟩;intro q;rw[q,PR] at e;have q':oc=p.2:=Zq e;exact d w' (by rw[<- q'];exact Od)
theorem kc{M:Model}(I:Inv X pins σ H s)(hN:X.N.Nodup)(hi:X.N[i]?=some x)(hx:Loc X.env.scope x)(r:ay v u)(h:∀ s',Inv X pins (σ.set i<|some v) H s'->Q () s')(hf:X.fn x=true\/X.env.scope.names.lookup x=some .local:=by first | exact .inl rfl | exact .inr rfl | assumption):wpAny M A (storeName X.env x u) Q E s:=
 oY I hN hi hx r (fun s' I' _=>h s' I') hf
theorem Inv.L1(I:Inv X pins σ H s)(ho:s'.os=s.os)(u:Un (HH X.stack) ch H H' s.heap s'.heap)(n_:FH X.prog X.w H' s'.heap)(hg:AllBare s'.gens)(Gd:∀ b∈ch,(b∈X.ex\/X.s₀.heap.objs.size<=b)/\b≠X.env.locals/\(∀ x c,X.env.cells.lookup x=some c->c≠b)/\∀ p∈X.pn++pins,p.1≠b):Inv X pins σ H' s':=by
 obtain⟨h',g',d',t',o'⟩:=s';have e:o'=s.os:=ho;subst e;exact I.call (g':=g') (t':=t') (d':=d') u n_ hg Gd
end
abbrev XK:=Value->Option Addr->Hp->Prop
abbrev St:=List (Option V)
variable{σ:St}
abbrev VK:=V->Hp->Prop
abbrev TE:=St->Hp->VK->Prop
variable{te:TE}
abbrev TT:=St->Hp->(Bool->Hp->Prop)->Prop
variable{tc:TT}
abbrev TA:=St->Hp->(List V->Hp->Prop)->Prop
variable{ta:TA}
structure Ends where
 nx:St->Hp->Prop
 rt:VK
 bk:St->Hp->Prop:=fun _ _=>False
 ct:St->Hp->Prop:=fun _ _=>False
abbrev TS:=Ends->St->Hp->Prop
variable{tb:TS}
def EP(X:Cx)(pins:List (Addr×Obj))(σ:St)(Q:VK)(u:Value)(s':Shared):Prop:=∃ v H',Inv X pins σ H' s'/\ay v u/\Q v H'
def TP(X:Cx)(pins:List (Addr×Obj))(σ:St)(Q:Bool->Hp->Prop)(b:Bool)(s':Shared):Prop:=∃ H',Inv X pins σ H' s'/\Q b H'
def AP(X:Cx)(pins:List (Addr×Obj))(σ:St)(Q:List V->Hp->Prop)(us:List Value)(s':Shared):Prop:=∃ vs H',Inv X pins σ H' s'/\au vs us/\Q vs H'
def SP(X:Cx)(pins:List (Addr×Obj))(D:Ends)(f:Flow)(s':Shared):Prop:=
 match f with
 | .next=>∃ σ' H',Inv X pins σ' H' s'/\D.nx σ' H'
 | .brk=>∃ σ' H',Inv X pins σ' H' s'/\D.bk σ' H'
 | .cont=>∃ σ' H',Inv X pins σ' H' s'/\D.ct σ' H'
 | .ret u=>∃ v σ' H',Inv X pins σ' H' s'/\ay v u/\D.rt v H'
def Oe(X:Cx)(e:Expr)(t:TE)(pins:List (Addr×Obj)):Prop:=
 ∀ (s:Shared) (σ:St) (H:Hp) (Q:VK),Inv X pins σ H s->t σ H Q->wpAny (model X.prog X.w) X.A (eval e X.env) (EP X pins σ Q) X.xe s
def PE(X:Cx)(e:Expr)(t:TE):Prop:=∀ pins,Oe X e t pins
def PV(X:Cx)(e:Expr)(t:TT)(pins:List (Addr×Obj)):Prop:=
 ∀ (s:Shared) (σ:St) (H:Hp) (Q:Bool->Hp->Prop),Inv X pins σ H s->t σ H Q->wpAny (model X.prog X.w) X.A (isTrue e X.env<|eval e X.env) (TP X pins σ Q) X.xe s
def PT(X:Cx)(e:Expr)(t:TT):Prop:=∀ pins,PV X e t pins
def PX(X:Cx)(e:Expr)(t:TT)(whole:Sem Value):Prop:=
 ∀ (pins:List (Addr×Obj)) (s:Shared) (σ:St) (H:Hp) (Q:Bool->Hp->Prop),Inv X pins σ H s->t σ H Q->wpAny (model X.prog X.w) X.A (isTrue e X.env whole) (TP X pins σ Q) X.xe s
def PW(X:Cx)(e:Expr)(t:TT):Prop:=∀ whole,PX X e t whole
theorem PW.pt{t:TT}(h:PW X e t):PT X e t:=h _
def PY(X:Cx)(es:List Expr)(t:TA)(pos:Pos):Prop:=
 ∀ (pins:List (Addr×Obj)) (s:Shared) (σ:St) (H:Hp) (Q:List V->Hp->Prop),Inv X pins σ H s->t σ H Q->wpAny (model X.prog X.w) X.A (spliced<|backTo pos<|starEach es X.env) (AP X pins σ Q) X.xe s
def PA(X:Cx)(es:List Expr)(t:TA):Prop:=∀ pos,PY X es t pos
def PZ(X:Cx)(st:Stmt)(t:TS)(pins:List (Addr×Obj)):Prop:=
 ∀ (s:Shared) (σ:St) (H:Hp) (D:Ends),Inv X pins σ H s->t D σ H->wpAny (model X.prog X.w) X.A (exec st X.env) (SP X pins D) X.xe s
def PS(X:Cx)(st:Stmt)(t:TS):Prop:=∀ pins,PZ X st t pins
def oZ(X:Cx)(st:List Stmt)(t:TS)(pins:List (Addr×Obj)):Prop:=
 ∀ (s:Shared) (σ:St) (H:Hp) (D:Ends),Inv X pins σ H s->t D σ H->wpAny (model X.prog X.w) X.A (execs st X.env) (SP X pins D) X.xe s
def Hr(X:Cx)(st:List Stmt)(t:TS):Prop:=∀ pins,oZ X st t pins
theorem y_{α:Type}{t:Sem α}{Q Q':α->Shared->Prop}{M:Model}(h:wpAny M A t Q E s)(hQ:∀ a s,Q a s->Q' a s):wpAny M A t Q' E s:=YA h hQ fun _ _ x=>x
section
variable{X:Cx}
def et(i:Nat):TE:=fun σ H Q=>∃ v,σ[i]?=some (some v)/\Q v H
def tC(v:V):TE:=fun _ H Q=>Q v H
theorem pc(hN:X.N[i]?=some x)(hv:Nt X.env.scope x)(hd:(x == ("__debug__" : Str))=false:=by decide)(Ic:(x == ("__classdict__" : Str))=false:=by decide):PE X (.Name x pos) (et i):=by
 intro pins s σ H Q I h;obtain⟨v,e,h⟩:=h;obtain⟨m,hn,hl⟩:=I.loc;obtain⟨u,r,l⟩:=hl i x v hN e hv;have fin:EP X pins σ Q u s:=⟨v,H,I,r,h⟩;rcases l with ⟨hk,hm⟩ | ⟨hk,c,hc,HJ⟩
 ·exact wpAny_Name (wpAny_loadName_local I.ok.kind hk hn hm fin) hd
 ·rcases hk with hk | hk
  ·exact wpAny_Name (wpAny_loadName_cell I.ok.kind hk hc HJ fin) hd
  ·exact wpAny_Name (wpAny_loadName_free I.ok.kind hk hc HJ fin Ic) hd
theorem vC{i j pos}:PE X (.Constant (.int i) j pos) (tC<|.int i):=fun _ _ _ H _ I h=>wpAny_Constant_int ⟨.int i,H,I.tok _,⟨_,rfl⟩,h⟩
theorem vD{b j pos}:PE X (.Constant (.bool b) j pos) (tC<|.bl b):=fun _ _ _ H _ I h=>Constant_bool ⟨.bl b,H,I,rfl,h⟩
theorem vE{j pos}:PE X (.Constant .none j pos) (tC .l_):=fun _ _ _ H _ I h=>Constant_none ⟨.l_,H,I,rfl,h⟩
theorem vF{x j pos}:PE X (.Constant (.str x) j pos) (tC<|.str x):=fun _ _ _ H _ I h=>Calls.Constant_str ⟨.str x,H,I.tok _,⟨_,rfl⟩,h⟩
def Gl(X:Cx)(x:Str):Prop:=X.env.kindOf x=some .globalImplicit
theorem pd(I:Inv X pins σ H s)(hg:Gl X x)(hm:X.mg x=some u)(h:Q u s)(hd:(x == ("__debug__" : Str))=false:=by decide):wpAny (model X.prog X.w) X.A (eval (.Name x pos) X.env) Q E s:=
 Calls.Name_function_global I.ok.kind hg (Calls.loadGlobal_global (by rw[I.ok.glob];exact I.mod.glob.keeps I.bk) hm h) hd
theorem eE(I:Inv X pins σ H s)(hg:Gl X x)(hm:X.mg x=none)(hv:bootBuiltins x=some u)(h:Q u s)(hn:x ≠ "__name__" := by decide)(hd:(x == ("__debug__" : Str))=false:=by decide):wpAny (model X.prog X.w) X.A (eval (.Name x pos) X.env) Q E s:=by
 obtain⟨mb,h1,h2⟩:=I.mod.blt;exact Calls.Name_function_global I.ok.kind hg (Calls.loadGlobal_builtin (by rw[I.ok.glob];exact I.mod.glob.keeps I.bk) hm (by rw[I.ok.blt];exact h1.keeps I.bk) ((h2 x hn).trans hv) h) hd
theorem pf(hg:Gl X x)(hm:X.mg x=some u)(r:ay v u)(hd:(x == ("__debug__" : Str))=false:=by decide):PE X (.Name x pos) (tC v):=
 fun _ _ _ H _ I h=>pd I hg hm ⟨v,H,I,r,h⟩ hd
theorem vG(hg:Gl X x)(hm:X.mg x=none)(hv:bootBuiltins x=some u)(r:ay v u)(hn:x ≠ "__name__" := by decide)(hd:(x == ("__debug__" : Str))=false:=by decide):PE X (.Name x pos) (tC v):=
 fun _ _ _ H _ I h=>eE I hg hm hv ⟨v,H,I,r,h⟩ hn hd
variable{a b:Expr}{ta tb:TE}{pos:Pos}
variable{tA Nv:TT}{rest:List Expr}
def pg(t u:TT):TT:=fun σ H Q=>t σ H fun c H1=>if c=true then u σ H1 Q else Q false H1
def P1(t u:TT):TT:=fun σ H Q=>t σ H fun c H1=>if c=true then Q true H1 else u σ H1 Q
def vH(t:TT):TT:=fun σ H Q=>t σ H fun c H1=>Q (!c) H1
theorem vI(ha:PT X a tA):PW X (.BoolOp .And [a] pos) tA:=by
 intro wh pins s σ H Q I h;refine isTrue_and (y_ (ha pins s σ H Q I h) fun c s1 e=>?_);cases c with
 | true=>exact isTrue_and_nil e
 | false=>exact e
theorem vJ(ha:PT X a tA):PW X (.BoolOp .Or [a] pos) tA:=by
 intro wh pins s σ H Q I h;refine isTrue_or (y_ (ha pins s σ H Q I h) fun c s1 e=>?_);cases c with
 | false=>exact isTrue_or_nil e
 | true=>exact e
theorem vK(ha:PT X a tA)(hb:PW X (.BoolOp .And (b::rest) pos) Nv):PW X (.BoolOp .And (a::b::rest) pos) (pg tA Nv):=by
 intro wh pins s σ H Q I h;refine isTrue_and (y_ (ha pins s σ H _ I h) fun c s1 ⟨H1,I1,q1⟩=>?_);cases c with
 | true=>exact hb wh pins s1 σ H1 Q I1 q1
 | false=>exact⟨H1,I1,q1⟩
theorem vL(ha:PT X a tA)(hb:PW X (.BoolOp .Or (b::rest) pos) Nv):PW X (.BoolOp .Or (a::b::rest) pos) (P1 tA Nv):=by
 intro wh pins s σ H Q I h;refine isTrue_or (y_ (ha pins s σ H _ I h) fun c s1 ⟨H1,I1,q1⟩=>?_);cases c with
 | true=>exact⟨H1,I1,q1⟩
 | false=>exact hb wh pins s1 σ H1 Q I1 q1
theorem vM(ha:PT X a tA):PT X (.UnaryOp .Not a pos) (vH tA):=by
 intro pins s σ H Q I h;exact isTrue_not (ha pins s σ H (fun c H1=>Q (!c) H1) I h)
def vN(ta tb:TE):TE:=fun σ H Q=>ta σ H fun x H1=>∃ c,x=.bl c/\if c=true then tb σ H1 Q else Q (.bl false) H1
def vO(ta tb:TE):TE:=fun σ H Q=>ta σ H fun x H1=>∃ c,x=.bl c/\if c=true then Q (.bl true) H1 else tb σ H1 Q
def vP(ta:TE):TE:=fun σ H Q=>ta σ H fun x H1=>∃ c,x=.bl c/\Q (.bl<|!c) H1
theorem vQ{op}{t:TE}(h:PE X a t):PE X (.BoolOp op [a] pos) t:=fun pins s σ H Q I hw=>BoolOp_one (h pins s σ H Q I hw)
theorem vR(ha:PE X a ta)(hb:PE X (.BoolOp .And (b::rest) pos) tb):PE X (.BoolOp .And (a::b::rest) pos) (vN ta tb):=by
 intro pins s σ H Q I h;refine BoolOp_and (y_ (ha pins s σ H _ I h) fun v s1 ⟨x,H1,I1,r1,q1⟩=>?_);obtain⟨c,rfl,q1⟩:=q1;cases r1;refine Yk ?_;cases c with
 | true=>exact hb pins s1 σ H1 Q I1 q1
 | false=>exact⟨.bl false,H1,I1,rfl,q1⟩
theorem vS(ha:PE X a ta)(hb:PE X (.BoolOp .Or (b::rest) pos) tb):PE X (.BoolOp .Or (a::b::rest) pos) (vO ta tb):=by
 intro pins s σ H Q I h;refine BoolOp_or (y_ (ha pins s σ H _ I h) fun v s1 ⟨x,H1,I1,r1,q1⟩=>?_);obtain⟨c,rfl,q1⟩:=q1;cases r1;refine Yk ?_;cases c with
 | false=>exact hb pins s1 σ H1 Q I1 q1
 | true=>exact⟨.bl true,H1,I1,rfl,q1⟩
theorem vT(ha:PE X a ta):PE X (.UnaryOp .Not a pos) (vP ta):=by
 intro pins s σ H Q I h;refine UnaryOp_ (y_ (ha pins s σ H _ I h) fun v s1 ⟨x,H1,I1,r1,q1⟩=>?_);obtain⟨c,rfl,q1⟩:=q1;cases r1;exact not_of (Yk ⟨.bl<|!c,H1,I1,rfl,q1⟩)
end
def Fd(K:PySem.W.Frag)(H:Hp)(a:Addr)(xs:List V):Prop:=
 Rd H a (.lst xs)\/
  ∃ (o:Obj) (f_:Array Value) (n:Nat),K.lookup a=some o/\o.cls=.type "list" /\ o.dict=none/\o.data=.seq f_ n/\f_.size<=sizeLine/\au xs f_.toList
def E1(K:PySem.W.Frag)(H:Hp)(a:Addr)(xs:List V):Prop:=
 Rd H a (.tup xs)\/
  ∃ (o:Obj) (f_:Array Value) (n:Nat),K.lookup a=some o/\o.cls=.type "tuple" /\ o.data=.seq f_ n/\f_.size<=sizeLine/\au xs f_.toList
def vU:Value->Option V
 | .none=>some .l_
 | .bool b=>some (.bl b)
 | .int i _=>some (.int i)
 | .str x _=>some (.str x)
 | .bytes b _=>some (.LS b)
 | .float b _=>some (.N5 b)
 | .ref a=>some (.ref a)
 | .type n=>some (.ty n)
 | _=>none
theorem ay.abs{x:V}(r:ay x u):vU u=some x:=by
 cases x with
 | l_=>cases r;rfl
 | bl _=>cases r;rfl
 | int _=>obtain⟨t,rfl⟩:=r;rfl
 | str _=>obtain⟨t,rfl⟩:=r;rfl
 | LS _=>obtain⟨t,rfl⟩:=r;rfl
 | N5 _=>obtain⟨t,rfl⟩:=r;rfl
 | ref _=>cases r;rfl
 | ty _=>cases r;rfl
theorem ay.inj{x y:V}{u:Value}(r:ay x u)(q:ay y u):x=y:=Zq (r.abs.symm.trans q.abs)
theorem au.inj:∀ {xs ys:List V}{us:List Value},au xs us->au ys us->xs=ys
 | _,_,_,.nil,.nil=>rfl
 | _,_,_,.cons r t,.cons r' t'=>by rw[r.inj r',au.inj t t']
section
variable{X:Cx}{pins:List (Addr×Obj)}{σ:St}{H:Hp}{s:Shared}{a:Addr}{xs ys:List V}
theorem Fd.of(h:H a=some (.lst xs)):Fd K H a xs:=.inl (.inl h)
theorem E1.of(h:H a=some (.tup xs)):E1 K H a xs:=.inl (.inl h)
theorem Inv.list(I:Inv X pins σ H s)(h:Fd X.K H a xs):∃ f_:List Value,au xs f_/\PlainL s.heap a f_.toArray/\xs.length<=sizeLine:=by
 rcases h with h | ⟨o,f_,n,hk,hc,hd,hs,hz,r⟩
 ·obtain⟨z,f_,n,r,e⟩:=h.ok I.n_;exact⟨f_,r,⟨_,n,e,rfl,rfl,rfl⟩,z⟩
 ·refine⟨f_.toList,r,⟨o,n,I.KD a o hk,hc,hd,by simpa using hs⟩,?_⟩;have e:=r.length;simp only[ZN] at e;lia
theorem Inv.tuple(I:Inv X pins σ H s)(h:E1 X.K H a xs):∃ f_:List Value,au xs f_/\IsTup s.heap a f_.toArray/\xs.length<=sizeLine:=by
 rcases h with h | ⟨o,f_,n,hk,hc,hs,hz,r⟩
 ·obtain⟨z,f_,r,p⟩:=h.ok I.n_;exact⟨f_,r,p,z⟩
 ·refine⟨f_.toList,r,⟨o,I.KD a o hk,hc,n,by simpa using hs⟩,?_⟩;have e:=r.length;simp only[ZN] at e;lia
theorem Inv.Hf(I:Inv X pins σ H s)(h:Fd X.K H a xs)(h':Fd X.K H a ys):xs=ys:=by
 obtain⟨f_,r,⟨o,n,e,_,_,d⟩,_⟩:=I.list h;obtain⟨its',r',⟨o',n',e',_,_,d'⟩,_⟩:=I.list h';rw[e] at e';cases e';rw[d] at d';injection d' with d1 _;have:f_=its':=by simpa using congrArg Array.toList d1
 subst this;exact r.inj r'
theorem Inv.FC(I:Inv X pins σ H s)(h:E1 X.K H a xs)(h':E1 X.K H a ys):xs=ys:=by
 obtain⟨f_,r,⟨o,e,_,n,d⟩,_⟩:=I.tuple h;obtain⟨its',r',⟨o',e',_,n',d'⟩,_⟩:=I.tuple h';rw[e] at e';cases e';rw[d] at d';injection d' with d1 _;have:f_=its':=by simpa using congrArg Array.toList d1
 subst this;exact r.inj r'
end
abbrev Cx.GJ(X:Cx)(E:Value->Shared->Prop):Cx:={ X with xe:=E }
abbrev Cx.Lr(X:Cx):Cx:=X.GJ fun _ _=>False
theorem Cx.Ok.GJ(ok:X.Ok)(E:Value->Shared->Prop):(X.GJ E).Ok:=
 ⟨ok.mod,ok.kind,ok.glob,ok.blt,ok.above,ok.inj,ok.has,ok.Lq,ok.hd,ok.frames,ok.LV,ok.N8,ok.bs,ok.JD,ok.Ia,ok.Ib,ok.FU,ok.KC⟩
theorem Cx.Ok.Fx(ok:(X.GJ E).Ok):X.Ok:=
 ⟨ok.mod,ok.kind,ok.glob,ok.blt,ok.above,ok.inj,ok.has,ok.Lq,ok.hd,ok.frames,ok.LV,ok.N8,ok.bs,ok.JD,ok.Ia,ok.Ib,ok.FU,ok.KC⟩
section
variable{X:Cx}{pins:List (Addr×Obj)}{σ:St}{H:Hp}{s:Shared}{E:Value->Shared->Prop}
theorem Inv.GJ(I:Inv X pins σ H s)(E:Value->Shared->Prop):Inv (X.GJ E) pins σ H s:=⟨I.ok.GJ E,I.os,I.bare,I.base,I.loc,I.cell,I.free,I.Ff,I.pin,I.n_,I.len⟩
theorem Inv.Fx(I:Inv (X.GJ E) pins σ H s):Inv X pins σ H s:=⟨I.ok.Fx,I.os,I.bare,I.base,I.loc,I.cell,I.free,I.Ff,I.pin,I.n_,I.len⟩
theorem SP.Fx{D:Ends}{f:Flow}(h:SP (X.GJ E) pins D f s'):SP X pins D f s':=by
 cases f with
 | next=>obtain⟨σ',H',I,q⟩:=h;exact⟨σ',H',I.Fx,q⟩
 | brk=>obtain⟨σ',H',I,q⟩:=h;exact⟨σ',H',I.Fx,q⟩
 | cont=>obtain⟨σ',H',I,q⟩:=h;exact⟨σ',H',I.Fx,q⟩
 | ret u=>obtain⟨v,σ',H',I,r,q⟩:=h;exact⟨v,σ',H',I.Fx,r,q⟩
theorem Hr.Lr{st:List Stmt}{t:TS}(h:Hr X.Lr st t):Hr X st t:=fun pins s σ H D I hw=>
 YA (h pins s σ H D (I.GJ _) hw) (fun _ _ q=>q.Fx) fun _ _ z=>False.elim z
end
section
variable{X:Cx}{st:Stmt}{rest:List Stmt}{t u:TS}{e:Expr}{te:TE}{pos:Pos}
def L3:TS:=fun D σ H=>D.nx σ H
def ph(t u:TS):TS:=fun D σ H=>t { D with nx:=u D } σ H
theorem vV:Hr X [] L3:=fun _ _ σ H _ I h=>Wp ⟨σ,H,I,h⟩
theorem vW(h1:PS X st t)(h2:Hr X rest u):Hr X (st::rest) (ph t u):=by
 intro pins s σ H D I h;refine wpAny_execs_cons (y_ (h1 pins s σ H { D with nx:=u D } I h) fun f s1 q=>?_);cases f with
 | next=>
  obtain⟨σ',H',I',q⟩:=q;exact h2 pins s1 σ' H' D I' q
 | ret v=>exact q
 | brk=>exact q
 | cont=>exact q
theorem vX(h1:PS X st t):Hr X [st] t:=by
 intro pins s σ H D I h;refine wpAny_execs_cons (y_ (h1 pins s σ H D I h) fun f s1 q=>?_);cases f with
 | next=>exact Wp q
 | ret v=>exact q
 | brk=>exact q
 | cont=>exact q
theorem Inv.quiet(I:Inv X pins σ H s):interactive X.env=false:=by simp[interactive,I.ok.kind]
def vY(te:TE):TS:=fun D σ H=>te σ H fun _ H1=>D.nx σ H1
theorem vZ(he:PE X e te)(hs:swapsWith e none pos.line X.env=pure false:=by rfl):PS X (.Expr e pos) (vY te):=by
 intro pins s σ H D I h;exact wpAny_Expr_any (y_ (he pins s σ H _ I h) fun v s1 ⟨x,H1,I1,r1,q1⟩=>⟨σ,H1,I1,q1⟩) I.quiet hs
def v3(te:TE):TS:=fun D σ H=>te σ H D.rt
theorem v4(he:PE X e te):PS X (.Return (some e) pos) (v3 te):=by
 intro pins s σ H D I h;exact wpAny_Return_some (y_ (he pins s σ H _ I h) fun v s1 ⟨x,H1,I1,r1,q1⟩=>⟨x,σ,H1,I1,r1,q1⟩)
def v6(c:TT)(t u:TS):TS:=fun D σ H=>c σ H fun b H1=>if b=true then t D σ H1 else u D σ H1
theorem v7{a b:List Stmt}(hc:PT X c tc)(ha:Hr X a t)(hb:Hr X b u):PS X (.If c a b pos) (v6 tc t u):=by
 intro pins s σ H D I h;refine wpAny_If (y_ (hc pins s σ H _ I h) fun d s1 ⟨H1,I1,q1⟩=>?_);cases d with
 | true=>exact ha pins s1 σ H1 D I1 q1
 | false=>exact hb pins s1 σ H1 D I1 q1
end
abbrev TG:=V->St->Hp->(St->Hp->Prop)->Prop
abbrev Js:=List V->St->Hp->(St->Hp->Prop)->Prop
def P2(X:Cx)(target:Expr)(t:TG)(pins:List (Addr×Obj)):Prop:=
 ∀ (s:Shared) (σ:St) (H:Hp) (v:V) (u:Value) (Q:St->Hp->Prop),Inv X pins σ H s->ay v u->t v σ H Q->
  wpAny (model X.prog X.w) X.A (assign target X.env u) (fun _ s'=>∃ σ' H',Inv X pins σ' H' s'/\Q σ' H') X.xe s
def PG(X:Cx)(target:Expr)(t:TG):Prop:=∀ pins,P2 X target t pins
def pi(X:Cx)(ts:List Expr)(t:Js)(pins:List (Addr×Obj)):Prop:=
 ∀ (s:Shared) (σ:St) (H:Hp) (vs:List V) (us:List Value) (Q:St->Hp->Prop),Inv X pins σ H s->au vs us->t vs σ H Q->
  wpAny (model X.prog X.w) X.A (assignInOrder ((assignEach ts X.env).map (·.2)) us) (fun _ s'=>∃ σ' H',Inv X pins σ' H' s'/\Q σ' H') X.xe s
def Ls(X:Cx)(ts:List Expr)(t:Js):Prop:=∀ pins,pi X ts t pins
abbrev KG:=V->V->V->Hp->(Hp->Prop)->Prop
def lZ(X:Cx)(t:KG):Prop:=
 ∀ (pins:List (Addr×Obj)) (s:Shared) (σ:St) (H:Hp) (o i v:V) (ov iv u:Value) (Q:Hp->Prop),Inv X pins σ H s->ay o ov->ay i iv->ay v u->t o i v H Q->
  wpAny (model X.prog X.w) X.A (setItem ov iv u) (fun _ s'=>∃ H',Inv X pins σ H' s'/\Q H') X.xe s
section
variable{X:Cx}{pos:Pos}
def l5(i:Nat):TG:=fun v σ H Q=>Q (σ.set i<|some v) H
theorem v9(hN:X.N.Nodup)(hi:X.N[i]?=some x)(hx:Loc X.env.scope x)(hf:X.fn x=true\/X.env.scope.names.lookup x=some .local:=by first | exact .inl rfl | exact .inr rfl | assumption):PG X (.Name x pos) (l5 i):=by
 intro pins s σ H v u Q I r h;exact wpAny_assign_Name (kc I hN hi hx r (fun s' I'=>⟨_,H,I',h⟩) hf)
def Of:Js:=fun vs σ H Q=>vs=[]/\Q σ H
def we(t:TG)(u:Js):Js:=fun vs σ H Q=>∃ v r,vs=v::r/\t v σ H fun σ' H'=>u r σ' H' Q
theorem wf:Ls X [] Of:=by
 intro pins s σ H vs us Q I r h;obtain⟨e,h⟩:=h;subst e;cases r;exact assignInOrder_nil ⟨σ,H,I,h⟩
theorem wg{t:TG}{u:Js}(h1:PG X e t)(h2:Ls X es u)(hs:(assignEach (e::es) X.env).map (·.2)=assign e X.env::(assignEach es X.env).map (·.2):=by rfl):Ls X (e::es) (we t u):=by
 intro pins s σ H vs us Q I r h;obtain⟨v,vr,e1,h⟩:=h;subst e1;cases r with
 | cons r rr=>
  rw[hs];refine assignInOrder_cons (y_ (h1 pins s σ H _ _ _ I r h) fun _ s1 ⟨σ1,H1,I1,q1⟩=>?_);exact h2 pins s1 σ1 H1 _ _ Q I1 rr q1
def wj(K:PySem.W.Frag)(n:Nat)(t:Js):TG:=fun v σ H Q=>∃ a xs,v=.ref a/\E1 K H a xs/\xs.length=n/\t xs σ H Q
theorem wl{t:Js}(hc:X.calm=true)(h:Ls X es t)(hn:(assignEach es X.env).length=n:=by rfl)(JE:(assignEach es X.env).findIdx? (·.1)=none:=by rfl):PG X (.Tuple es k pos) (wj X.K n t):=by
 intro pins s σ H v u Q I r hw;obtain⟨a,xs,e1,hq,hl,hw⟩:=hw;subst e1;cases r;obtain⟨f_,rv,ht,hz⟩:=I.tuple hq;refine assign_Tuple_tuple (I.ok.hd hc) ht (by simp[hn,<- hl,rv.length]) JE fun h' hx=>?_;have I1:Inv X pins σ H { s with heap:=h' }:=I.kept (t':=s.toks) fun b o e=>hx b o (Zx<|ZP e) e;exact h pins _ σ H xs _ Q I1 (by simpa using rv) hw
def wm(to ti:TE)(t:KG):TG:=fun v σ H Q=>to σ H fun o H1=>ti σ H1 fun i H2=>t o i v H2 fun H3=>Q σ H3
theorem wn{o i:Expr}{to ti:TE}{t:KG}(ho:PE X o to)(hi:PE X i ti)(hs:lZ X t)(ha:∀ v,assign (.Subscript o i pos) X.env v=(do
   let ov <- holding [v] (eval o X.env)
   let iv <- holding [v,ov] (eval i X.env)
   standAt pos
   holding [v,ov,iv] (setItem ov iv v)
   release [v,ov,iv] []):=by intro _;rfl):PG X (.Subscript o i pos) (wm to ti t):=by
 intro pins s σ H v u Q I r h;rw[ha];refine Z9 (YY<|y_ (ho pins s σ H _ I h) fun ov s1 ⟨x,H1,I1,r1,q1⟩=>?_);refine Z9 (YY<|y_ (hi pins s1 σ H1 _ I1 q1) fun iv s2 ⟨y,H2,I2,r2,q2⟩=>?_);refine Z9 (VQ<|Z9<|YY<|y_ (hs pins s2 σ H2 x y v ov iv u _ I2 r1 r2 r q2) fun _ s3 ⟨H3,I3,q3⟩=>?_);exact wpAny_release ⟨σ,H3,I3,q3⟩
def l6(te:TE)(g:TG):TS:=fun D σ H=>te σ H fun x H1=>g x σ H1 D.nx
theorem wo{g:TG}(he:PE X e te)(hg:PG X tg g)(hs:swapsWithSole [tg] e pos.line X.env=pure false:=by rfl)(hw:swappedStores [tg] e X.env=pure none:=by rfl)(h1:(assignEach [tg] X.env).map (·.2)=[assign tg X.env]:=by rfl):PS X (.Assign [tg] e pos) (l6 te g):=by
 intro pins s σ H D I h;refine wpAny_Assign_stores (y_ (he pins s σ H _ I h) fun v s1 ⟨x,H1,I1,r1,q1⟩=>?_) hs hw;rw[h1];exact y_ (hg pins s1 σ H1 x v _ I1 r1 q1) fun _ s2 q=>q
theorem wq{pos':Pos}(hN:X.N.Nodup)(hi:X.N[i]?=some x)(hx:Loc X.env.scope x)(he:PE X e te)(hs:swapsWith e (some<|.Name x pos') pos.line X.env=pure false:=by rfl)(hf:X.fn x=true\/X.env.scope.names.lookup x=some .local:=by first | exact .inl rfl | exact .inr rfl | assumption):
  PS X (.Assign [.Name x pos'] e pos) (l6 te<|l5 i):=by
 intro pins s σ H D I h;refine wpAny_Assign_Name (y_ (he pins s σ H _ I h) fun v s1 ⟨y,H1,I1,r1,q1⟩=>?_) hs;exact kc I1 hN hi hx r1 (fun s2 I2=>⟨_,H1,I2,q1⟩) hf
def wu(i j:Nat)(ta:TA):TS:=fun D σ H=>ta σ H fun vs H1=>∃ v w,vs=[v,w]/\D.nx ((σ.set i<|some v).set j<|some w) H1
theorem wv{y:Str}{a b:Expr}{px py pt:Pos}{kt k2 KH}(hc:X.calm=true)(hN:X.N.Nodup)(hi:X.N[i]?=some x)(hj:X.N[j]?=some y)(Gp:i≠j)(hx:X.env.scope.names.lookup x=some .local)(hy:X.env.scope.names.lookup y=some .local)(ha:PA X [a,b] ta)(hw:swappedStores [.Tuple [.Name x px,.Name y py] kt pt] (.Tuple [a,b] k2 KH) X.env=pure (some [x,y]))(hs:swapsWithSole [.Tuple [.Name x px,.Name y py] kt pt] (.Tuple [a,b] k2 KH) pos.line X.env=pure false:=by rfl):
  PS X (.Assign [.Tuple [.Name x px,.Name y py] kt pt] (.Tuple [a,b] k2 KH) pos) (wu i j ta):=by
 intro pins s σ H D I h;rw[exec_Assign_arm];refine Z9 (VQ ?_);rw[hs];refine Z9 (Z6 ?_);rw[ZW (by decide)];refine Z9 (Tuple_<|y_ (ha _ pins s σ H _ I h) fun us s1 ⟨vs,H1,I1,r1,q1⟩=>?_);obtain⟨v,w,e1,q1⟩:=q1;subst e1;obtain⟨u1,u2,rfl,rv,IL⟩:∃ u1 u2,us=[u1,u2]/\ay v u1/\ay w u2:=by
  cases r1 with
  | cons p q=>
   cases q with
   | cons p' q'=>
    cases q';exact⟨_,_,rfl,p,p'⟩
 refine Zo ?_ (by show 2<=sizeLine;decide);have I2:Inv X pins σ H1 { s1 with heap:=s1.heap.push { cls:=.type "tuple",data:=.seq [u1,u2].toArray } }:=I1.kept (t':=s1.toks) fun b o e=>Z7 _ e;rw[hw];refine Z9 (Z6 ?_);show wpAny (model X.prog X.w) X.A (do rule "assign.swapped-stores";let items <- unpackItems (.ref s1.heap.objs.size) 2 none;assignInOrder [fun v=>bindName X.env y v,fun v=>bindName X.env x v] items.reverse;pure Flow.next) _ _ _;refine Z9 (Yl<|Z9<|unpackItems_tuple (items:=#[u1,u2]) (I.ok.hd hc) (IsTup.new s1.heap _) fun h' HG=>?_);have I3:=I2.kept (h':=h') (t':=s1.toks) fun b o e=>HG b o (Zx<|ZP e) e;show wpAny _ _ (assignInOrder [fun v=>bindName X.env y v,fun v=>bindName X.env x v] [u2,u1] >>= fun _=>pure Flow.next) _ _ _;refine Z9 (assignInOrder_cons<|wpAny_bindName<|kc I3 hN hj (.inl hy) IL (fun s2 I4=>?_)<|.inr hy);refine assignInOrder_cons (wpAny_bindName<|kc I4 hN hi (.inl hx) rv (fun s3 I5=>assignInOrder_nil<|Z6 ?_)<|.inr hx);rw[Vk _ _ (Yb Gp)] at I5;exact⟨_,H1,I5,q1⟩
end
section
variable{X:Cx}{pos:Pos}
def ww(c:TT)(tb:TS):TS:=fun D σ H=>∃ W:Nat->St->Hp->Prop,(∃ m,W m σ H)/\∀ m σ H,W m σ H->
 c σ H fun b H1=>if b=true then ∃ N:St->Hp->Prop,(∀ σ' H',N σ' H'->∃ m',m'<m/\W m' σ' H')/\tb { D with nx:=N,ct:=N,bk:=D.nx } σ H1 else D.nx σ H1
theorem wx(hp:PassesOwn (model X.prog X.w) X.A X.env X.xe)(hc:PT X c tc)(hb:Hr X body tb):PS X (.While c body [] pos) (ww tc tb):=by
 intro pins s σ H D I h;obtain⟨W,⟨m0,w0⟩,turn⟩:=h;refine wpAny_While (codeAny_whileLoop (fun n s'=>∃ σ' H',Inv X pins σ' H' s'/\W n σ' H') ?_ m0 ⟨σ,H,I,w0⟩);rintro n s1 ⟨σ1,H1,I1,w1⟩;refine XZ hp (y_ (hc pins s1 σ1 H1 _ I1<|turn n σ1 H1 w1) fun b s2 ⟨H2,I2,q2⟩=>?_);cases b with
 | true=>
  obtain⟨N,hN,q2⟩:=q2;rw[ZY rfl];refine XZ hp (y_ (hb pins s2 σ1 H2 _ I2 q2) fun f s3 q3=>?_);cases f with
  | next=>
   obtain⟨σ3,H3,I3,n3⟩:=q3;obtain⟨m',hm,w3⟩:=hN σ3 H3 n3;exact⟨m',hm,σ3,H3,I3,w3⟩
  | cont=>
   obtain⟨σ3,H3,I3,n3⟩:=q3;obtain⟨m',hm,w3⟩:=hN σ3 H3 n3;exact⟨m',hm,σ3,H3,I3,w3⟩
  | brk=>exact q3
  | ret v=>exact q3
 | false=>
  rw[ZW ZM];exact Wp ⟨σ1,H2,I2,q2⟩
end
structure It where
 go:Nat->Hp->Prop
 Lu:Nat->Hp->V->Hp->Prop
 stop:Nat->Hp->Prop
def dH(X:Cx)(pins:List (Addr×Obj))(H:Hp)(b:Addr):Prop:=
 H b=none/\b≠X.env.locals/\b∉X.fs/\(b∈X.ex\/X.s₀.heap.objs.size<=b)/\(∀ x c,X.env.cells.lookup x=some c->c≠b)/\∀ p∈X.pn++pins,p.1≠b
theorem Inv.IM(I:Inv X pins σ H s)(hb:s.heap.objs.size<=b)(hn:H' b=none):dH X pins H' b:=by
 refine⟨hn,X6<|Zt I.lt hb,I.N_ hb,.inr<|Zn I.sz hb,fun x c e z=>?_,fun p hp z=>?_⟩
 ·obtain⟨v,q⟩:=I.cell x c e;exact absurd (Zt q.lt (by rw[z];exact hb)) (Ym _)
 ·exact absurd (Zt (ZP (I.pin p hp).1) (by rw[z];exact hb)) (Ym _)
structure Turn(P:Program)(w:World)(K:PySem.W.Frag)(tg:Expr)(J:It)(fp:List Addr)(it:Addr)(tn:Nat->Heap->Prop):Prop where
 mem:it∈fp
 obj:∀ i h,tn i h->∀ b∈fp,∃ o,h.get? b=some o/\∀ v,o.data≠.cell v
 keep:∀ i h h',tn i h->(∀ b∈fp,∀ o,h.get? b=some o->h'.get? b=some o)->tn i h'
 item:∀ (X:Cx),X.prog=P->X.w=w->X.K=K->X.calm=true->∀ (i:Nat) (pins:List (Addr×Obj)) (s:Shared) (σ:St) (H:Hp) (E:Value->Shared->Prop),Inv X pins σ H s->(∀ b∈fp,dH X pins H b)->tn i s.heap->J.go i H->
  wpAny (model P w) X.A (pyNext<|.ref it) (fun r s1=>∃ u,r=some u/\
   wpAny (model P w) X.A (letOwnedTupleGo tg (.ref it) u) (fun _ s2=>∃ x H',Inv X pins σ H' s2/\ay x u/\J.Lu i H x H'/\tn (i+1) s2.heap/\∀ b∈fp,H' b=none) E s1) E s
 done:∀ (X:Cx),X.prog=P->X.w=w->X.K=K->X.calm=true->∀ (i:Nat) (pins:List (Addr×Obj)) (s:Shared) (σ:St) (H:Hp) (E:Value->Shared->Prop),Inv X pins σ H s->(∀ b∈fp,dH X pins H b)->tn i s.heap->J.stop i H->
  wpAny (model P w) X.A (pyNext<|.ref it) (fun r s1=>r=none/\Inv X pins σ H s1) E s
 self:∀ (A:Around) (i:Nat) (s:Shared) (Q:Value->Shared->Prop) (E:Value->Shared->Prop),tn i s.heap->Q (.ref it) s->wpAny (model P w) A (pyIter<|.ref it) Q E s
abbrev TI:=St->Hp->(It->Hp->Prop)->Prop
def P3(X:Cx)(pins:List (Addr×Obj))(σ:St)(tg:Expr)(R:It->Hp->Prop)(Og:Value)(s2:Shared):Prop:=
 ∃ (it:Addr) (fp:List Addr) (tn:Nat->Heap->Prop) (J:It) (H':Hp),Og=.ref it/\Inv X pins σ H' s2/\Turn X.prog X.w X.K tg J fp it tn/\tn 0 s2.heap/\(∀ b∈fp,dH X pins H' b)/\R J H'
def P4(X:Cx)(tg iter:Expr)(wi:TI)(pins:List (Addr×Obj)):Prop:=
 ∀ (s:Shared) (σ:St) (H:Hp) (R:It->Hp->Prop),Inv X pins σ H s->wi σ H R->
  wpAny (model X.prog X.w) X.A (eval iter X.env) (fun v s1=>wpAny (model X.prog X.w) X.A (pyIter v) (P3 X pins σ tg R) X.xe s1) X.xe s
def PI(X:Cx)(tg iter:Expr)(wi:TI):Prop:=∀ pins,P4 X tg iter wi pins
theorem l7{M : Model}{E : Value -> Shared -> Prop}{o : Obj}{n : String}{vs : Array Value}{Q : Unit -> Shared -> Prop}(ho : s.heap.get? it = some o)(hc : o.cls = .type n)(hd : o.data = .fields vs)(hn : ["enumerate", "zip", "dict_itemiterator", "dict_reverseitemiterator", "odict_iterator", "itertools.zip_longest", "itertools.pairwise"].contains n = false)(hQ : Q () s): wpAny M A (letOwnedTupleGo tg (.ref it) u) Q E s := by
  unfold letOwnedTupleGo;cases tg <;> first
    | exact Z6 hQ
    | (cases u <;> first
        | exact Z6 hQ
        | (refine Z9 (wpAny_load ho ?_)
           rw [hc, hd];show wpAny M A (if (["enumerate", "zip", "dict_itemiterator", "dict_reverseitemiterator", "odict_iterator", "itertools.zip_longest", "itertools.pairwise"].contains n && vs[0]? == some (rawInt _)) = true then _ else _) Q E s;rw [ZW (by intro h; rw [hn, Bool.false_and] at h; cases h)];exact Z6 hQ))
def L4(K:PySem.W.Frag)(a:Addr):It:=
 ⟨fun i H=>∃ xs x,Fd K H a xs/\xs[i]?=some x,fun i H x H'=>H'=H/\∀ xs,Fd K H a xs->xs[i]?=some x,fun i H=>∃ xs,Fd K H a xs/\xs.length<=i⟩
def Nw(K:PySem.W.Frag)(a:Addr):It:=
 ⟨fun i H=>∃ xs x,E1 K H a xs/\xs[i]?=some x,fun i H x H'=>H'=H/\∀ xs,E1 K H a xs->xs[i]?=some x,fun i H=>∃ xs,E1 K H a xs/\xs.length<=i⟩
def L5(lo:Int)(n:Nat):It:=⟨fun i _=>i<n,fun i H x H'=>H'=H/\x=.int (lo+i),fun i _=>n<=i⟩
theorem wy(a it:Addr):Turn P w K tg (L4 K a) [it] it (fun i h=>h.IsListIter it a i) where
 mem:=by simp
 obj:=fun i h st b hb=>by
  have e:b=it:=by simpa using hb
  subst e;obtain⟨o,e,c,d⟩:=st;exact⟨o,e,fun v z=>by rw[d] at z;cases z⟩
 keep:=fun i h h' st k=>st.at fun o e=>k it (by simp) o e
 item:=by
  intro X hP hw hK hc i pins s σ H E I hf st hg;subst hP hw hK;obtain⟨xs,x,hq,hx⟩:=hg;obtain⟨f_,rv,p,hz⟩:=I.list hq;obtain⟨u,hu,ru⟩:=rv.get hx;obtain⟨f0,f1,f2,f3,f4,f5⟩:=hf it (by simp);refine wpAny_pyNext_list_item st p.isList (x:=u) (by simpa using hu) fun h' g_ sb=>?_;have I1:Inv X pins σ H { s with heap:=h' }:=I.turned (t':=s.toks) (fun b o hb e=>(sb.2 b hb).trans e) f0 f1 f3 f4 f5;obtain⟨o,e,c,d⟩:=id g_;exact⟨u,rfl,l7 (s:={ s with heap:=h' }) e c d (by decide) ⟨x,H,I1,ru,⟨rfl,fun ys hy=>by rw[I.Hf hy hq];exact hx⟩,g_,fun b hb=>(hf b hb).1⟩⟩
 done:=by
  intro X hP hw hK hc i pins s σ H E I hf st hg;subst hP hw hK;obtain⟨xs,hq,hx⟩:=hg;obtain⟨f_,rv,p,hz⟩:=I.list hq;obtain⟨f0,f1,f2,f3,f4,f5⟩:=hf it (by simp);have hl:=rv.length;exact wpAny_pyNext_list_end (I.ok.hd hc) st p.isList (by simp;lia) fun h' eb=>⟨rfl,I.turned (t':=s.toks) (fun b o hb e=>eb b o hb e) f0 f1 f3 f4 f5⟩
 self:=fun _ _ _ _ _ st h=>wpAny_pyIter_listiter st h
theorem wz(a it:Addr):Turn P w K tg (Nw K a) [it] it (fun i h=>h.IsTupleIter it a i) where
 mem:=by simp
 obj:=fun i h st b hb=>by
  have e:b=it:=by simpa using hb
  subst e;obtain⟨o,e,c,d⟩:=st;exact⟨o,e,fun v z=>by rw[d] at z;cases z⟩
 keep:=fun i h h' st k=>st.at fun o e=>k it (by simp) o e
 item:=by
  intro X hP hw hK hc i pins s σ H E I hf st hg;subst hP hw hK;obtain⟨xs,x,hq,hx⟩:=hg;obtain⟨f_,rv,p,hz⟩:=I.tuple hq;obtain⟨u,hu,ru⟩:=rv.get hx;obtain⟨f0,f1,f2,f3,f4,f5⟩:=hf it (by simp);refine wpAny_pyNext_tuple_item st (show s.heap.IsTuple a f_.toArray from p) (x:=u) (by simpa using hu) fun h' g_ sb=>?_;have I1:Inv X pins σ H { s with heap:=h' }:=I.turned (t':=s.toks) (fun b o hb e=>(sb.2 b hb).trans e) f0 f1 f3 f4 f5;obtain⟨o,e,c,d⟩:=id g_;exact⟨u,rfl,l7 (s:={ s with heap:=h' }) e c d (by decide) ⟨x,H,I1,ru,⟨rfl,fun ys hy=>by rw[I.FC hy hq];exact hx⟩,g_,fun b hb=>(hf b hb).1⟩⟩
 done:=by
  intro X hP hw hK hc i pins s σ H E I hf st hg;subst hP hw hK;obtain⟨xs,hq,hx⟩:=hg;obtain⟨f_,rv,p,hz⟩:=I.tuple hq;obtain⟨f0,f1,f2,f3,f4,f5⟩:=hf it (by simp);have hl:=rv.length;exact wpAny_pyNext_tuple_end (I.ok.hd hc) st (show s.heap.IsTuple a f_.toArray from p) (by simp;lia) fun h' eb=>⟨rfl,I.turned (t':=s.toks) (fun b o hb e=>eb b o hb e) f0 f1 f3 f4 f5⟩
 self:=fun _ _ _ _ _ st h=>wpAny_pyIter_tupleiter st h
theorem wA(it:Addr)(lo:Int)(n:Nat):Turn P w K tg (L5 lo n) [it] it (fun i h=>IsRangeIter h it (lo+(i:Nat) * 1) ((n:Int) - (i:Nat)) 1) where
 mem:=by simp
 obj:=fun i h st b hb=>by
  have e:b=it:=by simpa using hb
  subst e;exact⟨_,st,fun v z=>by
   have z':Data.fields _=Data.cell v:=z;cases z'⟩
 keep:=fun i h h' st k=>k it (by simp) _ st
 item:=by
  intro X hP hw hK hc i pins s σ H E I hf st hg;subst hP hw hK;obtain⟨f0,f1,f2,f3,f4,f5⟩:=hf it (by simp);have W:=Walks.range (prog:=X.prog) (w:=X.w) (I.ok.hd hc) it lo 1 n;refine W.item i s _ _ hg st fun v h' tk hv g_ kk=>?_;obtain⟨t,rfl⟩:=hv;have I1:Inv X pins σ H { s with heap:=h',toks:=tk }:=I.turned (fun b o hb e=>kk b o (by simpa using hb) e) f0 f1 f3 f4 f5;refine⟨_,rfl,l7 (s:={ s with heap:=h',toks:=tk }) (n := "range_iterator") g_ rfl rfl (by decide) ⟨.int<|lo+i,H,I1,⟨t,?_⟩,⟨rfl,rfl⟩,g_,fun b hb=>(hf b hb).1⟩⟩;rw[Int.mul_one]
 done:=by
  intro X hP hw hK hc i pins s σ H E I hf st hg;subst hP hw hK;obtain⟨f0,f1,f2,f3,f4,f5⟩:=hf it (by simp);exact wpAny_pyNext_range_end (I.ok.hd hc) st (by have:n<=i:=hg;lia) fun h' eb=>⟨rfl,I.turned (t':=s.toks) (fun b o hb e=>eb b o hb e) f0 f1 f3 f4 f5⟩
 self:=fun _ _ _ _ _ st h=>wpAny_pyIter_rangeiter st h
section
variable{X:Cx}{tg:Expr}
theorem pj{R:It->Hp->Prop}{lo hi:Int}{t u v:Tok}{tk:Nat}(I:Inv X pins σ H s)(h1 : -(2 ^ 62)<=lo)(h2:lo<2 ^ 62)(h3 : -(2 ^ 62)<=hi)(h4:hi<2 ^ 62)(q:R (L5 lo (hi - lo).toNat) H):wpAny (model X.prog X.w) X.A (pyIter<|.ref s.heap.objs.size) (P3 X pins σ tg R) E { s with heap:=s.heap.push { cls:=.type "range",data:=.fields #[.int lo t,.int hi u,.int 1 v] },toks:=tk }:=by
 refine wpAny_pyIter_range (IsRange.new ..) (small_one h1 h2 h3 h4) ?_;have I1:Inv X pins σ H { s with heap:=s.heap.push { cls:=.type "range",data:=.fields #[.int lo t,.int hi u,.int 1 v] },toks:=tk }:=I.kept fun b o e=>Z7 _ e;refine⟨(s.heap.push { cls:=.type "range",data:=.fields #[.int lo t,.int hi u,.int 1 v] }).objs.size,[(s.heap.push { cls:=.type "range",data:=.fields #[.int lo t,.int hi u,.int 1 v] }).objs.size],_,_,H,rfl,
  I1.kept (t':=tk) fun b o e=>Z7 _ e,wA _ lo (hi - lo).toNat,?_,fun b hb=>?_,q⟩
 ·have e1:lo+((0:Nat):Int) * 1=lo:=by simp
  have e2:(((hi - lo).toNat:Nat):Int) - ((0:Nat):Int)=Builtin.Range.rangeSize lo hi 1:=by rw[rangeSize_one];split<;>lia
  show IsRangeIter _ _ (lo+((0:Nat):Int) * 1) ((((hi - lo).toNat:Nat):Int) - ((0:Nat):Int)) 1;rw[e1,e2];exact ZS _ rfl
 ·have e:b=(s.heap.push { cls:=.type "range",data:=.fields #[.int lo t,.int hi u,.int 1 v] }).objs.size:=by simpa using hb
  subst e;exact I1.IM (ZV _) (I1.n_.fresh<|ZV _)
def wB(ta:TA):TI:=fun σ H R=>ta σ H fun vs H1=>∃ j:Int,vs=[.int j] /\ -(2 ^ 62)<=j/\j<2 ^ 62/\R (L5 0 j.toNat) H1
def wC(ta:TA):TI:=fun σ H R=>ta σ H fun vs H1=>∃ i j:Int,vs=[.int i,.int j]/\(-(2 ^ 62)<=i/\i<2 ^ 62 /\ -(2 ^ 62)<=j/\j<2 ^ 62)/\R (L5 i (j - i).toNat) H1
variable{a:Expr}
theorem wE(hg:Gl X "range")(hm:X.mg "range" = none)(ha:PA X [a] ta)(hs:starEach [a] X.env=[(false,eval a X.env)]:=by rfl):PI X tg (.Call (.Name "range" p) [a] [] pos) (wB ta):=by
 intro pins s σ H R I h;refine Call_ (eE I hg hm boot_range<|YL (y_ (ha pos pins s σ H _ I h) fun us s1 ⟨vs,H1,I1,r1,q1⟩=>?_) hs rfl);obtain⟨j,e,q1,q2,q⟩:=q1;subst e;cases r1 with
 | cons r rr=>
  cases rr;obtain⟨t,rfl⟩:=r;exact call_range_1 (pj I1 (by lia) (by lia) q1 q2 (by simpa using q))
theorem wF{b:Expr}(hg:Gl X "range")(hm:X.mg "range" = none)(ha:PA X [a,b] ta)(hs:starEach [a,b] X.env=[(false,eval a X.env),(false,eval b X.env)]:=by rfl)(GV:starEach [b] X.env=[(false,eval b X.env)]:=by rfl):
  PI X tg (.Call (.Name "range" p) [a,b] [] pos) (wC ta):=by
 intro pins s σ H R I h;refine Call_ (eE I hg hm boot_range (YL (y_ (ha pos pins s σ H _ I h) fun us s1 ⟨vs,H1,I1,r1,q1⟩=>?_) (by rw[hs,GV]) (by rw[GV];rfl)));obtain⟨i,j,e,⟨q1,q2,q3,q4⟩,q⟩:=q1;subst e;cases r1 with
 | cons r rr=>
  cases rr with
  | cons r' rr=>
   cases rr;obtain⟨t,rfl⟩:=r;obtain⟨t',rfl⟩:=r';exact call_range_2 (pj I1 q1 q2 q3 q4 q)
def pk(wi:TI)(g:TG)(tb:TS):TS:=fun D σ H=>wi σ H fun J H1=>∃ W:Nat->Nat->St->Hp->Prop,(∃ m,W 0 m σ H1)/\∀ i m σ H,W i m σ H->
 (J.stop i H/\D.nx σ H)\/(J.go i H/\∃ N:St->Hp->Prop,(∀ σ' H',N σ' H'->∃ m',m'<m/\W (i+1) m' σ' H')/\∀ x H',J.Lu i H x H'->g x σ H' fun σ2 H2=>tb { D with nx:=N,ct:=N,bk:=D.nx } σ2 H2)
def fu(fp:List Addr)(h:Heap):List (Addr×Obj):=fp.filterMap fun b=>(h.get? b).map fun o=>(b,o)
theorem ke{o:Obj}(hb:b∈fp)(e:h.get? b=some o):(b,o)∈fu fp h:=W3.mpr ⟨b,hb,by rw[e];rfl⟩
theorem pq{p:Addr×Obj}(hp:p∈fu fp h):p.1∈fp/\h.get? p.1=some p.2:=by
 obtain⟨b,hb,e⟩:=W3.mp hp;cases q:h.get? b with
 | none=>rw[q] at e;cases e
 | some o=>
  rw[q] at e;have e':(b,o)=p:=Zq e;subst e';exact⟨hb,q⟩
theorem Inv.pinned(I:Inv X pins σ H s)(hf:∀ b∈fp,dH X pins H b)(ho:∀ b∈fp,∃ o,s.heap.get? b=some o/\∀ v,o.data≠.cell v):Inv X (pins++fu fp s.heap) σ H s:=
 I.FB fun p hp=>(ZA.mp hp).elim (fun z=>I.pin p<|ZI _ z) fun z=>by
  obtain⟨hb,e⟩:=pq z;obtain⟨f0,f1,f2,_⟩:=hf p.1 hb;obtain⟨o,e',d⟩:=ho p.1 hb;rw[e] at e';cases e';exact⟨e,f0,f1,f2,d⟩
theorem Inv.Gq{pl:List (Addr×Obj)}(I:Inv X (pins++pl) σ H s):Inv X pins σ H s:=I.FB fun p hp=>I.pin p (ZI _<|Zw _ hp)
theorem wG{iter:Expr}{wi:TI}{g:TG}(hp:PassesOwn (model X.prog X.w) X.A X.env X.xe)(hc:X.calm=true)(hi:PI X tg iter wi)(hg:PG X tg g)(hb:Hr X body tb)(hs:∀ x,foldedSetIterable iter X.env x=pure x:=by intro _;rfl):PS X (.For tg iter body [] pos) (pk wi g tb):=by
 intro pins s σ H D I h;refine wpAny_For (y_ (hi pins s σ H _ I h) fun v s1 h1=>y_ h1 fun Og s2 h2=>?_) hs;obtain⟨it,fp,tn,J,H2,e,I2,T,p_,f2,W,⟨m0,w0⟩,turn⟩:=h2;subst e;have KI:∀ {H':Hp},(∀ b∈fp,H' b=none)->∀ b∈fp,dH X pins H' b:=fun hn b hb=>⟨hn b hb,(f2 b hb).2⟩;refine codeAny_forLoop_any (fun n s'=>∃ i σ' H',Inv X pins σ' H' s'/\tn i s'.heap/\(∀ b∈fp,H' b=none)/\W i n σ' H') ?_ m0 ⟨0,σ,H2,I2,p_,fun b hb=>(f2 b hb).1,w0⟩;rintro n s3 ⟨i,σ3,H3,I3,FM,L6,w3⟩;rcases turn i n σ3 H3 w3 with ⟨stop,qn⟩ | ⟨go,N,hN,step⟩
 ·refine XZ hp (y_ (T.done X rfl rfl rfl hc i pins s3 σ3 H3 X.xe I3 (KI L6) FM stop) fun r s4 ⟨hr,I4⟩=>?_);subst hr;exact Wp ⟨σ3,H3,I4,qn⟩
 ·refine XZ hp (y_ (T.item X rfl rfl rfl hc i pins s3 σ3 H3 X.xe I3 (KI L6) FM go) fun r s4 ⟨u,hr,h4⟩=>?_);subst hr;refine XZ hp (y_ h4 fun _ s5 ⟨x,H5,I5,r5,y5,Ge,Nx⟩=>?_);have Oh:=I5.pinned (KI Nx) (T.obj _ _ Ge);refine XZ hp (y_ (hg _ s5 σ3 H5 x u _ Oh r5<|step x H5 y5) fun _ s6 ⟨σ6,H6,I6,q6⟩=>?_);refine XZ hp (y_ (hb _ s6 σ6 H6 _ I6 q6) fun f s7 q7=>?_);have again:∀ {σ7:St}{H7:Hp},Inv X (pins++fu fp s5.heap) σ7 H7 s7->N σ7 H7->∃ m,m<n/\∃ i σ' H',Inv X pins σ' H' s7/\tn i s7.heap/\(∀ b∈fp,H' b=none)/\W i m σ' H':=fun {σ7 H7} I7 n7=>by
   obtain⟨m',hm,w7⟩:=hN σ7 H7 n7;refine⟨m',hm,i+1,σ7,H7,I7.Gq,T.keep _ _ _ Ge fun b hb o e=>(I7.pin (b,o)<|ZI _<|ZI _<|ke hb e).1,fun b hb=>?_,w7⟩;obtain⟨o,e,d⟩:=T.obj _ _ Ge b hb;exact (I7.pin (b,o)<|ZI _<|ZI _<|ke hb e).2.1
  cases f with
  | next=>obtain⟨σ7,H7,I7,n7⟩:=q7;exact again I7 n7
  | cont=>obtain⟨σ7,H7,I7,n7⟩:=q7;exact again I7 n7
  | brk=>obtain⟨σ7,H7,I7,q7⟩:=q7;exact⟨σ7,H7,I7.Gq,q7⟩
  | ret v=>obtain⟨x7,σ7,H7,I7,r7,q7⟩:=q7;exact⟨x7,σ7,H7,I7.Gq,r7,q7⟩
end
abbrev R2:=V->V->Hp->VK->Prop
variable{r' r:R2}
def FD(X:Cx)(f:Value->Value->Sem Value)(r:R2):Prop:=
 ∀ (pins:List (Addr×Obj)) (s:Shared) (σ:St) (H:Hp) (x y:V) (v u:Value) (Q:VK),Inv X pins σ H s->ay x v->ay y u->r x y H Q->
  wpAny (model X.prog X.w) X.A (f v u) (EP X pins σ Q) X.xe s
def Oi(X:Cx)(f:Value->Sem Value)(r:V->Hp->VK->Prop):Prop:=
 ∀ (pins:List (Addr×Obj)) (s:Shared) (σ:St) (H:Hp) (x:V) (v:Value) (Q:VK),Inv X pins σ H s->ay x v->r x H Q->
  wpAny (model X.prog X.w) X.A (f v) (EP X pins σ Q) X.xe s
def bt(X:Cx)(f:Value)(r:List V->Hp->VK->Prop):Prop:=
 ∀ (pins:List (Addr×Obj)) (s:Shared) (σ:St) (H:Hp) (xs:List V) (us:List Value) (Q:VK),Inv X pins σ H s->au xs us->r xs H Q->
  wpAny (model X.prog X.w) X.A (call f us) (EP X pins σ Q) X.xe s
def wH(X:Cx)(r:V->Hp->(Bool->Hp->Prop)->Prop):Prop:=
 ∀ (pins:List (Addr×Obj)) (s:Shared) (σ:St) (H:Hp) (x:V) (v:Value) (Q:Bool->Hp->Prop),Inv X pins σ H s->ay x v->r x H Q->
  wpAny (model X.prog X.w) X.A (truthy v) (TP X pins σ Q) X.xe s
def Ny(r:R2)(ta tb:TE):TE:=fun σ H Q=>ta σ H fun x H1=>tb σ H1 fun y H2=>r x y H2 Q
def Q2(r:V->Hp->VK->Prop)(ta:TE):TE:=fun σ H Q=>ta σ H fun x H1=>r x H1 Q
def rI(C:Int->Int->Prop)(g:Int->Int->V):R2:=fun x y H Q=>∃ i j,x=.int i/\y=.int j/\C i j/\Q (g i j) H
def JF(g:Int->Int->V):R2:=fun x y H Q=>∃ i j,x=.int i/\y=.int j/\Q (g i j) H
def rU(g:Int->V):V->Hp->VK->Prop:=fun x H Q=>∃ i,x=.int i/\Q (g i) H
section
variable{X:Cx}{a b c:Expr}{ta tb tc:TE}{pos:Pos}
theorem l8(ha:PE X a ta)(hb:PE X b tb){pins:List (Addr×Obj)}{s:Shared}{σ:St}{H:Hp}{R:V->V->Hp->Prop}(I:Inv X pins σ H s)(h:ta σ H fun x H1=>tb σ H1 fun y H2=>R x y H2){Q:Value->Shared->Prop}{f:Value->Value->Sem Value}(hf:∀ v u s2 x y H2,Inv X pins σ H2 s2->ay x v->ay y u->R x y H2->wpAny (model X.prog X.w) X.A (f v u) Q X.xe s2):
  wpAny (model X.prog X.w) X.A (eval a X.env) (fun v s₁=>wpAny (model X.prog X.w) X.A (eval b X.env) (fun u s₂=>wpAny (model X.prog X.w) X.A (f v u) Q X.xe s₂) X.xe s₁) X.xe s:=by
 refine y_ (ha pins s σ H _ I h) fun v s1 ⟨x,H1,I1,r1,q1⟩=>?_;refine y_ (hb pins s1 σ H1 _ I1 q1) fun u s2 ⟨y,H2,I2,r2,q2⟩=>?_;exact hf v u s2 x y H2 I2 r1 r2 q2
theorem wI{op:Operator}(ho:FD X (binaryOp op) r)(ha:PE X a ta)(hb:PE X b tb):PE X (.BinOp a op b pos) (Ny r ta tb):=by
 intro pins s σ H Q I h;exact wpAny_BinOp (l8 ha hb I h fun v u s2 x y H2 I2 rx ry q=>ho pins s2 σ H2 x y v u Q I2 rx ry q)
theorem wJ{op:UnaryOp}{r:V->Hp->VK->Prop}(ho:Oi X (unaryOp op) r)(ha:PE X a ta):PE X (.UnaryOp op a pos) (Q2 r ta):=by
 intro pins s σ H Q I h;exact UnaryOp_ (y_ (ha pins s σ H _ I h) fun v s1 ⟨x,H1,I1,r1,q1⟩=>ho pins s1 σ H1 x v Q I1 r1 q1)
theorem Nz{C:Int->Int->Prop}(rule:∀ (i j:Int) (t u:Tok) (s:Shared) (Q:Value->Shared->Prop) (E:Value->Shared->Prop),C i j->Q (.int (g i j) s.toks) { s with toks:=s.toks+1 }->wpAny (model X.prog X.w) X.A (f (.int i t)<|.int j u) Q E s):
  FD X f (rI C fun i j=>.int<|g i j):=by
 intro pins s σ H x y v u Q I rx ry h;obtain⟨i,j,rfl,rfl,hc,q⟩:=h;obtain⟨t,rfl⟩:=rx;obtain⟨t',rfl⟩:=ry;exact rule i j t t' s _ _ hc ⟨.int<|g i j,H,I.tok _,⟨_,rfl⟩,q⟩
theorem pz(rule:∀ (i j:Int) (t u:Tok) (s:Shared) (Q:Value->Shared->Prop) (E:Value->Shared->Prop),Q (.int (g i j) s.toks) { s with toks:=s.toks+1 }->wpAny (model X.prog X.w) X.A (f (.int i t)<|.int j u) Q E s):
  FD X f (JF fun i j=>.int<|g i j):=by
 intro pins s σ H x y v u Q I rx ry h;obtain⟨i,j,rfl,rfl,q⟩:=h;obtain⟨t,rfl⟩:=rx;obtain⟨t',rfl⟩:=ry;exact rule i j t t' s _ _ ⟨.int<|g i j,H,I.tok _,⟨_,rfl⟩,q⟩
theorem kf{g:Int->Int->Bool}(rule:∀ (i j:Int) (t u:Tok) (s:Shared) (Q:Value->Shared->Prop) (E:Value->Shared->Prop),Q (.bool<|g i j) s->wpAny (model X.prog X.w) X.A (f (.int i t)<|.int j u) Q E s):
  FD X f (JF fun i j=>.bl<|g i j):=by
 intro pins s σ H x y v u Q I rx ry h;obtain⟨i,j,rfl,rfl,q⟩:=h;obtain⟨t,rfl⟩:=rx;obtain⟨t',rfl⟩:=ry;exact rule i j t t' s _ _ ⟨.bl<|g i j,H,I,rfl,q⟩
def wK(i j:Int):Prop:=0<j/\j<1073741824
def wL(i j:Int):Prop:=0<=j/\j<=1000000/\i.natAbs<2 ^ 64
theorem wM:FD X (binaryOp .Add) (JF fun i j=>.int<|i+j):=pz fun _ _ _ _ _ _ _ q=>add_int q
theorem wN:FD X (binaryOp .Sub) (JF fun i j=>.int<|i - j):=pz fun _ _ _ _ _ _ _ q=>sub_int q
theorem wO:FD X (binaryOp .FloorDiv) (rI wK fun i j=>.int<|i / j):=Nz fun i j _ _ _ _ _ hc q=>by
 have h1:(0:Int)<j:=hc.1;have h2:j<1073741824:=hc.2;exact floordiv_int (by lia) (by rw[Int.fdiv_eq_ediv_of_nonneg i (by lia)];exact q) (.inl (PyProof.noPylong_small (by lia)))
theorem wP:FD X (binaryOp .Mod) (rI (fun _ j=>0<j) fun i j=>.int<|i % j):=Nz fun i j _ _ _ _ _ hc q=>by
 have h1:(0:Int)<j:=hc;exact mod_int' (by lia) (by rw[Int.fmod_eq_emod_of_nonneg i (by lia)];exact q)
theorem wQ:FD X (binaryOp .Pow) (rI wL fun i j=>.int<|i ^ j.toNat):=Nz fun _ _ _ _ _ _ _ hc q=>pow_int_small hc.1 hc.2.1 hc.2.2 q
theorem Q3{f:Value->Sem Value}{g:Int->Int}(rule:∀ (i:Int) (t:Tok) (s:Shared) (Q:Value->Shared->Prop) (E:Value->Shared->Prop),Q (.int (g i) s.toks) { s with toks:=s.toks+1 }->wpAny (model X.prog X.w) X.A (f<|.int i t) Q E s):
  Oi X f (rU fun i=>.int<|g i):=by
 intro pins s σ H x v Q I rx h;obtain⟨i,rfl,q⟩:=h;obtain⟨t,rfl⟩:=rx;exact rule i t s _ _ ⟨.int<|g i,H,I.tok _,⟨_,rfl⟩,q⟩
theorem wR:Oi X (unaryOp .USub) (rU fun i=>.int<|-i):=Q3 fun _ _ _ _ _ q=>neg_int q
end
section
variable{X:Cx}{a b c:Expr}{ta tb tc:TE}{pos:Pos}
theorem wS{Q:VK}{k k':Bool}(I:Inv X pins σ H s)(q:Q (.bl k) H)(e:k=k'):EP X pins σ Q (.bool k') s:=by
 subst e;exact⟨.bl k,H,I,rfl,q⟩
theorem wT:FD X (compareOp .Lt) (JF fun i j=>.bl<|decide (i<j)):=kf fun _ _ _ _ _ _ _ q=>lt_int q
theorem wU:FD X (compareOp .LtE) (JF fun i j=>.bl<|decide (i<=j)):=kf fun _ _ _ _ _ _ _ q=>le_int q
theorem wV:FD X (compareOp .Gt) (JF fun i j=>.bl<|decide (j<i)):=kf fun _ _ _ _ _ _ _ q=>gt_int q
theorem wW:FD X (compareOp .GtE) (JF fun i j=>.bl<|decide (j<=i)):=kf fun _ _ _ _ _ _ _ q=>ge_int q
theorem wX:FD X (compareOp .IsNot) (fun x y H Q=>y=.l_/\Q (.bl<|!decide (x=.l_)) H):=by
 intro pins s σ H x y v u Q I rx ry h;obtain⟨rfl,q⟩:=h;cases ry;refine isnot_none_gen (wS I q ?_);cases x<;>first
  | (cases rx;rfl)
  | (obtain⟨t,rfl⟩:=rx;rfl)
theorem FD.or(h:FD X f r)(h':FD X f r'):FD X f (fun x y H Q=>r x y H Q\/r' x y H Q):=by
 intro pins s σ H x y v u Q I rx ry q;rcases q with q | q
 ·exact h pins s σ H x y v u Q I rx ry q
 ·exact h' pins s σ H x y v u Q I rx ry q
theorem bn(b:Expr){op:CmpOp}(h:op≠.In:=by decide)(h2:op≠.NotIn:=by decide):behindInMarks op b=false:=by
 have e1:(op == CmpOp.In)=false:=by cases op<;>first | rfl | exact absurd rfl h
 have e2:(op == CmpOp.NotIn)=false:=by cases op<;>first | rfl | exact absurd rfl h2
 cases b<;>simp[behindInMarks,e1,e2]
theorem wY(ho:FD X (compareOp op) r)(ha:PE X a ta)(hb:PE X b tb)(hm:behindInMarks op b=false):PE X (.Compare a [op] [b] pos) (Ny r ta tb):=by
 intro pins s σ H Q I h;exact wpAny_Compare1 (l8 ha hb I h fun v u s2 x y H2 I2 rx ry q=>ho pins s2 σ H2 x y v u Q I2 rx ry q) hm
def wZ(t:TE):TT:=fun σ H Q=>t σ H fun x H'=>∃ k,x=.bl k/\Q k H'
theorem w9(ho:FD X (compareOp op) r)(ha:PE X a ta)(hb:PE X b tb)(hm:behindInMarks op b=false):PT X (.Compare a [op] [b] pos) (wZ<|Ny r ta tb):=by
 intro pins s σ H Q I h;refine wpAny_isTrue_Compare1 (y_ (ha pins s σ H _ I h) fun v s1 ⟨x,H1,I1,r1,q1⟩=>y_ (hb pins s1 σ H1 _ I1 q1) fun u s2 ⟨y,H2,I2,r2,q2⟩=>
  y_ (ho pins s2 σ H2 x y v u _ I2 r1 r2 q2) fun c s3 ⟨z,H3,I3,r3,k,e,q3⟩=>?_) hm;subst e;cases r3;exact Yk ⟨H3,I3,q3⟩
def pA(r r':R2)(ta tb tc:TE):TE:=fun σ H Q=>ta σ H fun x H1=>tb σ H1 fun y H2=>r x y H2 fun z H3=>∃ k,z=.bl k/\
 (if k=true then tc σ H3 fun w' H4=>r' y w' H4 Q else Q (.bl false) H3)
theorem xa{KJ:CmpOp}(ho:FD X (compareOp op) r)(IK:FD X (compareOp KJ) r')(ha:PE X a ta)(hb:PE X b tb)(hc:PE X c tc)(hm:lastMarks [op,KJ] [b,c]=false:=by with_unfolding_all rfl):PE X (.Compare a [op,KJ] [b,c] pos) (pA r r' ta tb tc):=by
 intro pins s σ H Q I h;refine Compare_chain (y_ (ha pins s σ H _ I h) fun v s1 ⟨x,H1,I1,r1,q1⟩=>chain_link (y_ (hb pins s1 σ H1 _ I1 q1) fun u s2 ⟨y,H2,I2,r2,q2⟩=>
  y_ (ho pins s2 σ H2 x y v u _ I2 r1 r2 q2) fun d s3 ⟨z,H3,I3,r3,k,e,q3⟩=>?_)) hm;subst e;cases r3;refine Yk ?_;cases k with
 | false=>exact ite_ff ⟨.bl false,H3,I3,rfl,q3⟩
 | true=>exact ite_tt (chain_last<|y_ (hc pins s3 σ H3 _ I3 q3) fun w' s4 ⟨z',H4,I4,r4,q4⟩=>IK pins s4 σ H4 y z' u w' Q I4 r2 r4 q4)
def l9(K:PySem.W.Frag)(x:V)(H:Hp)(k:Bool):Prop:=
 match x with
 | .l_=>k=false
 | .bl b=>k=b
 | .int i=>k=(i != 0)
 | .str y=>y.length<=sizeLine/\k=((y.length:Int) != 0)
 | .LS y=>y.size<=sizeLine/\k=((y.size:Int) != 0)
 | .ref p=>(∃ xs,Fd K H p xs/\k=!xs.isEmpty)\/(∃ xs,E1 K H p xs/\k=!xs.isEmpty)\/∃ kvs,H p=some (.dK kvs)/\k=!kvs.isEmpty
 | _=>False
theorem xb{κ:Type}{kvs:List (κ×V)}{vs:List (κ×Value)}(r:KV kvs vs):(!vs.isEmpty)=!kvs.isEmpty:=by
 cases r<;>rfl
theorem pB{xs:List V}{f_:List Value}(r:au xs f_):(!f_.toArray.isEmpty)=!xs.isEmpty:=by
 cases r<;>simp
theorem gU:(sizeLine:Nat)<2 ^ 63:=by rw[sizeLine_eq];decide
theorem xc:wH X (fun x H Q=>∃ k,l9 X.K x H k/\Q k H):=by
 intro pins s σ H x v Q I rx h;obtain⟨k,e,q⟩:=h;have hl:=gU;have hs:sizeLine=16777216:=sizeLine_eq;cases x with
 | l_=>
  cases rx;have e':k=false:=e;subst e';exact truthy_none ⟨H,I,q⟩
 | bl b=>
  cases rx;have e':k=b:=e;subst e';exact Yk ⟨H,I,q⟩
 | int i=>
  obtain⟨t,rfl⟩:=rx;have e':k=(i != 0):=e;subst e';exact PySem.P.truthy_int ⟨H,I,q⟩
 | str y=>
  obtain⟨t,rfl⟩:=rx;obtain⟨hy,e'⟩:y.length<=sizeLine/\k=((y.length:Int) != 0):=e;subst e';exact PySem.P.truthy_str (by lia) ⟨H,I.tok _,q⟩
 | LS y=>
  obtain⟨t,rfl⟩:=rx;obtain⟨hy,e'⟩:y.size<=sizeLine/\k=((y.size:Int) != 0):=e;subst e';exact PySem.W.truthy_bytes (by lia) ⟨H,I.tok _,q⟩
 | ref p=>
  cases rx;have e':(∃ xs,Fd X.K H p xs/\k=!xs.isEmpty)\/(∃ xs,E1 X.K H p xs/\k=!xs.isEmpty)\/∃ kvs,H p=some (.dK kvs)/\k=!kvs.isEmpty:=e;rcases e' with ⟨xs,hx,e'⟩ | ⟨xs,hx,e'⟩ | ⟨kvs,hx,e'⟩
  ·subst e';obtain⟨f_,r,pl,hz⟩:=I.list hx;have hlen:=r.length;exact wpAny_truthy_list pl.isList (by simp only[ZQ];lia) ⟨H,I.tok _,by rw[pB r];exact q⟩
  ·subst e';obtain⟨f_,r,pl,hz⟩:=I.tuple hx;have hlen:=r.length;exact truthy_tuple pl (by simp only[ZQ];lia) ⟨H,I.tok _,by rw[pB r];exact q⟩
  ·subst e';obtain⟨hz,hS,vs,r,m⟩:kvs.length<=sizeLine/\(p == sysModules)=false/\∃ vs,KV kvs vs/\s.heap.DictOf (ft X.prog X.w) p vs:=I.n_ p _ hx;have hlen:kvs.length=vs.length:=Ww r;exact wpAny_truthy_dict hS m (by lia) ⟨H,I.tok _,by rw[xb r];exact q⟩
 | _=>exact (show False from e).elim
theorem xf(ha:PE X a ta)(he:∀ whole,isTrue a X.env whole=(do let v <- whole;standAt a.pos;holding [v] (truthy v))):
  PT X a (fun σ H Q=>ta σ H fun x H'=>∃ k,l9 X.K x H' k/\Q k H'):=by
 intro pins s σ H Q I h;exact isTrue_plain (y_ (ha pins s σ H _ I h) fun v s1 ⟨x,H1,I1,r1,q1⟩=>xc pins s1 σ H1 x v Q I1 r1 q1) (he _)
theorem xg:FD X (binaryOp .Add) (fun x y H Q=>∃ i j,x=.str i/\y=.str j/\i.length+j.length<=sizeLine/\Q (.str<|i++j) H):=by
 intro pins s σ H x y v u Q I rx ry h;obtain⟨i,j,rfl,rfl,hz,q⟩:=h;obtain⟨t,rfl⟩:=rx;obtain⟨t',rfl⟩:=ry;exact add_str (fun t' tk=>⟨.str<|i++j,H,I.tok _,⟨_,rfl⟩,q⟩) hz
theorem cK{x:V}(r:au [x] us):∃ u,us=[u]/\ay x u:=by
 cases r with
 | cons r1 r2=>cases r2;exact⟨_,rfl,r1⟩
theorem pC{x y:V}(r:au [x,y] us):∃ u w',us=[u,w']/\ay x u/\ay y w':=by
 cases r with
 | cons r1 r2=>
  cases r2 with
  | cons r3 r4=>cases r4;exact⟨_,_,rfl,r1,r3⟩
theorem xh:bt X (.builtin "abs") (fun xs H Q=>∃ i,xs=[.int i]/\Q (.int<|if i<0 then -i else i) H):=by
 intro pins s σ H xs us Q I r h;obtain⟨i,rfl,q⟩:=h;obtain⟨u,rfl,t,rfl⟩:=cK r;exact call_abs_int fun u tk=>⟨.int<|if i<0 then -i else i,H,I.tok _,⟨_,rfl⟩,q⟩
theorem xi(hc:X.calm=true):bt X (.builtin "max") (fun xs H Q=>∃ i j,xs=[.int i,.int j]/\Q (.int<|if j > i then j else i) H):=by
 intro pins s σ H xs us Q I r h;obtain⟨i,j,rfl,q⟩:=h;obtain⟨u,w',rfl,⟨t,rfl⟩,⟨t',rfl⟩⟩:=pC r;refine max_two_ints (I.ok.hd hc) fun h' tk k=>⟨_,H,I.kept k,?_,q⟩;by_cases hj:j > i
 ·rw[ZY hj,ZY hj];exact⟨_,rfl⟩
 ·rw[ZW hj,ZW hj];exact⟨_,rfl⟩
theorem xj(hc:X.calm=true):bt X (.builtin "min") (fun xs H Q=>∃ i j,xs=[.int i,.int j]/\Q (.int<|if j<i then j else i) H):=by
 intro pins s σ H xs us Q I r h;obtain⟨i,j,rfl,q⟩:=h;obtain⟨u,w',rfl,⟨t,rfl⟩,⟨t',rfl⟩⟩:=pC r;refine min_two_ints (I.ok.hd hc) fun h' tk k=>⟨_,H,I.kept k,?_,q⟩;by_cases hj:j<i
 ·rw[ZY hj,ZY hj];exact⟨_,rfl⟩
 ·rw[ZW hj,ZW hj];exact⟨_,rfl⟩
theorem xk:bt X (.type "int") (fun xs H Q=>(∃ i,xs=[.int i]/\Q (.int i) H)\/∃ k,xs=[.bl k]/\Q (.int<|if k then 1 else 0) H):=by
 intro pins s σ H xs us Q I r h;rcases h with ⟨i,rfl,q⟩ | ⟨k,rfl,q⟩
 ·obtain⟨u,rfl,t,rfl⟩:=cK r;exact call_int_int ⟨.int i,H,I,⟨_,rfl⟩,q⟩
 ·obtain⟨u,rfl,r1⟩:=cK r;cases r1;exact call_int_bool ⟨.int<|if k then 1 else 0,H,I.tok _,⟨_,rfl⟩,q⟩
end
section
variable{prog:Program}{w:World}{A:Around}{E:Value->Shared->Prop}{s:Shared}{K:PySem.W.Frag}{x dx C f:Addr}{mA:Str->Option Value}{name:Str}{v:Value}
end
theorem dW.some_of{o:Option Value}(r:dW (some v) o):∃ u,o=some u/\ay v u:=by
 cases o with
 | none=>exact (show False from r).elim
 | some u=>exact⟨u,rfl,r⟩
section
variable{P:Program}{w:World}{H H':Hp}{h h':Heap}{a C dx:Addr}{fs Q0:List (Str×V)}
end
section
variable{X:Cx}{pins:List (Addr×Obj)}{σ:St}{H:Hp}{s:Shared}{a C dx:Addr}{fs:List (Str×V)}{f:Str}{v:V}{A:Around}{E:Value->Shared->Prop}
end
section
variable{X:Cx}{o e value:Expr}{f:Str}{pos pos' Oj:Pos}{ta tv:TE}
end
section
variable{X:Cx}{pins:List (Addr×Obj)}{σ:St}{H:Hp}{s:Shared}{A:Around}{E:Value->Shared->Prop}{Q:Value->Shared->Prop}{c:Value}{b:Bool}
end
structure E8(k:Nat)(A:Around):Prop where
 hd:A.handled=none
 dp:A.depth+3 * k+5<recursionLimit
 un:A.units+16 * k+200<cLine
 gd:A.guards=some []
theorem E8.mono(r:E8 k A)(h:j<=k):E8 j A:=⟨r.hd,by have:=r.dp;lia,by have:=r.un;lia,r.gd⟩
theorem E8.deeper(r:E8 (k+1) A)(env:Env):E8 k (A.deeper env):=
 ⟨r.hd,by have:=r.dp;show A.depth+1+3 * k+5 < _;lia,by have:=r.un;show A.units+3+16 * k+200 < _;lia,r.gd⟩
theorem E8.depth(r:E8 k A):A.depth<recursionLimit:=by have:=r.dp;lia
def Ol:TA:=fun _ H Q=>Q [] H
def xl(ta:TE)(tr:TA):TA:=fun σ H Q=>ta σ H fun x H1=>tr σ H1 fun xs H2=>Q (x::xs) H2
section
variable{X:Cx}{e:Expr}{es:List Expr}{te:TE}{t:TA}{pos:Pos}
theorem pE:PA X [] Ol:=fun _ _ _ _ H Q I h=>Calls.spliced_nil ⟨[],H,I,.nil,h⟩
theorem ma(ha:PE X e te)(hr:PA X es t)(hs:starEach (e::es) X.env=(false,eval e X.env)::starEach es X.env:=by rfl):PA X (e::es) (xl te t):=by
 intro pos pins s σ H Q I h;rw[hs];show wpAny _ _ (spliced ((false,eval e X.env)::backTo pos (starEach es X.env))) _ _ s;refine Calls.spliced_cons (y_ (ha pins s σ H _ I h) fun u s1 ⟨x,H1,I1,r1,q1⟩=>?_);exact y_ (hr pos pins s1 σ H1 _ I1 q1) fun us s2 ⟨xs,H2,I2,r2,q2⟩=>⟨x::xs,H2,I2,.cons r1 r2,q2⟩
def xm(t:TA):TE:=fun σ H Q=>t σ H fun xs H1=>xs.length<=sizeLine/\∀ p,H1 p=none->Q (.ref p) (upd H1 p<|.tup xs)
def xn(t:TA):TE:=fun σ H Q=>t σ H fun xs H1=>xs.length<=sizeLine/\∀ p,H1 p=none->Q (.ref p) (upd H1 p<|.lst xs)
theorem xo{x1}(h:PA X es t):PE X (.Tuple es x1 pos) (xm t):=by
 intro pins s σ H Q I hq;refine wpAny_Tuple_spliced (y_ (h pos pins s σ H _ I hq) fun us s1 ⟨xs,H1,I1,r,z,q⟩=>⟨by rw[<- r.length];exact z,?_⟩);have hf:H1 s1.heap.objs.size=none:=I1.n_.fresh (ZV _);refine⟨.ref s1.heap.objs.size,upd H1 s1.heap.objs.size<|.tup xs,I1.laid (t':=s1.toks) (fun b u e=>Z7 _ e) (ZV _) ?_,rfl,q _ hf⟩;exact⟨z,us,r,⟨_,ZS _ rfl,rfl,_,rfl⟩⟩
theorem xp(h:PA X es t):PE X (.List es pos) (xn t):=by
 intro pins s σ H Q I hq;refine wpAny_List_spliced (y_ (h pos pins s σ H _ I hq) fun us s1 ⟨xs,H1,I1,r,z,q⟩=>⟨by rw[<- r.length];exact z,?_⟩);have hf:H1 s1.heap.objs.size=none:=I1.n_.fresh (ZV _);refine⟨.ref s1.heap.objs.size,upd H1 s1.heap.objs.size<|.lst xs,I1.laid (t':=s1.toks) (fun b u e=>Z7 _ e) (ZV _) ?_,rfl,q _ hf⟩;exact⟨z,us,0,r,ZS _ rfl⟩
end
abbrev Sp:=List V->Hp->VK->XK->Prop
abbrev IN:=List Env->Hp->Shared->XK->Value->Shared->Prop
variable{CX:IN}
structure JG(P:Program)(w:World)(K:PySem.W.Frag)(mg:Str->Option Value)(base:Heap)(A:Around)(outer:List Env)(s:Shared)(H:Hp):Prop where
 frames:A.frames=some outer
 mod:Mod K mg base
 bs:∀ b o,base.get? b=some o->s.heap.get? b=some o/\H b=none
 JD:base.objs.size<=s.heap.objs.size
 FU:s.heap.FunFrames base outer
 KC:∀ b∈HH outer,H b=none
 n_:FH P w H s.heap
 bare:AllBare s.gens
def CE(outer:List Env)(P:Program)(w:World)(H:Hp)(s:Shared)(Q:VK)(u:Value)(s':Shared):Prop:=
 ∃ v H',s'.os=s.os/\AllBare s'.gens/\Un (HH outer) [] H H' s.heap s'.heap/\FH P w H' s'.heap/\ay v u/\Q v H'
def CR(CX:IN)(outer:List Env)(P:Program)(w:World)(H:Hp)(s:Shared)(Q:VK)(E:XK)(r:Result)(s':Shared):Prop:=
 match r with
 | .ok (.ret u)=>CE outer P w H s Q u s'
 | .ok _=>False
 | .error e=>CX outer H s E e s'
structure FJ(P:Program)(w:World)(K:PySem.W.Frag)(mg:Str->Option Value)(base:Heap)(CX:IN)(k:Nat)(f:Addr)(fd:FuncData)(ps:List Str)(sp:Sp):Prop where
 len:∀ vs H Q E,sp vs H Q E->vs.length=ps.length
 run:∀ (A:Around) (outer:List Env) (s:Shared) (H:Hp) (args:Args) (us:List Value) (vs:List V) (Q:VK) (E:XK),E8 k A->JG P w K mg base A outer s H->BindsTo s fd args (ps.zip us)->au vs us->sp vs H Q E->
  codeAny (model P w) A (.call (.ref f) args) (CR CX outer P w H s Q E) s
section
variable{X:Cx}{pins:List (Addr×Obj)}{σ:St}{H:Hp}{s s':Shared}
theorem Inv.Om(I:Inv X pins σ H s):JG X.prog X.w X.K X.mg X.base X.A X.stack s H:=
 ⟨I.ok.frames,I.ok.mod,I.bs,Zn I.ok.JD I.sz,I.stack,I.HI,I.n_,I.bare⟩
theorem Inv.after{Q:VK}(I:Inv X pins σ H s)(h:CE X.stack X.prog X.w H s Q u s'):EP X pins σ Q u s':=by
 obtain⟨v,H',os,bare,un,n_,r,q⟩:=h;obtain⟨hh,g,d,t,Q4⟩:=s';obtain rfl:Q4=s.os:=os;exact⟨v,H',I.call (h':=hh) (g':=g) (d':=d) (t':=t) (ch:=[]) un n_ bare (fun b z=>absurd z (by simp)),r,q⟩
end
def md(sp:Sp)(IO:List V)(E:XK)(t:TA):TE:=fun σ H Q=>t σ H fun vs H1=>sp (vs++IO) H1 Q E
def c9(K:PySem.W.Frag)(fd:FuncData)(ps:List Str)(ds:List Value):Prop:=
 ∀ (s:Shared) (us:List Value),K.In s.heap->(us++ds).length=ps.length->BindsTo s fd ⟨us,[]⟩ (ps.zip<|us++ds)
theorem c9.all{fd:FuncData}(h:∀ us:List Value,us.length=ps.length->bindArgs fd ⟨us,[]⟩=pure (ps.zip us)):c9 K fd ps []:=fun s us _ hl=>by
 rw[ZO] at hl ⊢;exact .of_eq (h us hl)
def kg(CX:IN)(X:Cx)(E:XK):Prop:=∀ (pins:List (Addr×Obj)) (σ:St) (H:Hp) (s:Shared) (e:Value) (s':Shared),Inv X pins σ H s->CX X.stack H s E e s'->X.xe e s'
section
variable{X:Cx}{CX:IN}{k:Nat}{f C:Addr}{fd:FuncData}{ps:List Str}{sp:Sp}{IO:List V}{ds:List Value}{E:XK}{x m:Str}{p pos apos:Pos}{e o:Expr}{es:List Expr}{ta:TE}{t:TA}
theorem pF{Q:VK}(F:FJ X.prog X.w X.K X.mg X.base CX k f fd ps sp)(hr:E8 k X.A)(hb:c9 X.K fd ps ds)(hd:au IO ds)(hx:kg CX X E)(I:Inv X pins σ H s)(r:au vs us)(h:sp (vs++IO) H Q E):wpAny (model X.prog X.w) X.A (call (.ref f) us) (EP X pins σ Q) X.xe s:=by
 have r2:au (vs++IO) (us++ds):=r.append hd;have hl:(us++ds).length=ps.length:=by rw[<- r2.length];exact F.len _ _ _ _ h
 refine wpAny_call (Wi (F.run X.A X.stack s H ⟨us,[]⟩ (us++ds) (vs++IO) Q E hr I.Om (hb s us I.KD hl) r2 h) fun r s' hq=>?_);cases r with
 | error e=>exact hx pins σ H s e s' I hq
 | ok fl=>
  cases fl with
  | ret u=>exact I.after hq
  | next=>exact False.elim hq
  | brk=>exact False.elim hq
  | cont=>exact False.elim hq
theorem xq(F:FJ X.prog X.w X.K X.mg X.base CX k f fd ps sp)(hr:E8 k X.A)(hg:Gl X x)(hm:X.mg x=some (.ref f))(hk:PySem.W.keepIn X.K (.ref f)=true)(hb:c9 X.K fd ps ds)(hd:au IO ds)(hx:kg CX X E)(ha:PA X (e::es) t)(Id:(x == ("__debug__" : Str))=false:=by decide)(he:starEach (e::es) X.env=(false,eval e X.env)::starEach es X.env:=by rfl)(GF:(backTo pos<|starEach es X.env).any (·.1)=false:=by rfl):
  PE X (.Call (.Name x p) (e::es) [] pos) (md sp IO E t):=by
 intro pins s σ H Q I h;refine XB (pd I hg hm ?_ Id);refine PySem.W.callWith_K (h₀:=X.base) I.ok.mod.Nr hk (y_ (ha pos pins s σ H _ I h) fun us s1 ⟨vs,H1,I1,r,q⟩=>⟨I1.KD,?_⟩) he GF;exact pF F hr hb hd hx I1 r q
end
section
variable{X:Cx}{CX:IN}{k:Nat}{f C:Addr}{fd:FuncData}{ps ks:List Str}{sp:Sp}{E:XK}{x m:Str}{p pos apos Q5:Pos}{e o:Expr}{es:List Expr}{Fv:List Keyword}{te ta:TE}{t tk:TA}{nm:Option Str}
variable{g:List Value->List Value->List Value}{gV:List V->List V->List V}
end
structure k_(N P:List Str)(sc:Scope):Prop where
 kind:sc.kind=.function
 co:sc.isCoroutine=false
 gen:sc.isGenerator=false
 nd:N.Nodup
 pre:N.take P.length=P
 par:∀ x∈P,sc.names.lookup x=some .local\/sc.names.lookup x=some .cell
 KK:∀ y∈sc.names,y.2≠.free
theorem pG{kindOf:Str->Option NameKind}{x:Str}:∀ {binds:List (Str×Value)}{m:Str->Option Value},(∀ v,(x,v)∉binds)->bindL kindOf binds m x=m x
 | [],_,_=>rfl
 | (n,v)::r,m,h=>by
  unfold bindL;rw[pG fun w hw=>h w<|Y1 _ hw];split
  ·have:x≠n:=by rintro rfl;exact h v YH
   simp[this]
  ·rfl
theorem pH{kindOf:Str->Option NameKind}{x:Str}:∀ {binds:List (Str×Value)}{m:Str->Option Value},(∀ v,(x,v)∉binds)->bindC kindOf binds m x=m x
 | [],_,_=>rfl
 | (n,v)::r,m,h=>by
  unfold bindC;rw[pH fun w hw=>h w<|Y1 _ hw];split
  ·rfl
  ·have:x≠n:=by rintro rfl;exact h v YH
   simp[this]
theorem pI{kindOf:Str->Option NameKind}{x:Str}{v:Value}:∀ {P:List Str}{vs:List Value}{i:Nat}{m:Str->Option Value},P.Nodup->P[i]?=some x->vs[i]?=some v->kindOf x=some .local->
  bindL kindOf (P.zip vs) m x=some v
 | [],_,_,_,_,h,_,_=>by simp at h
 | _::_,[],_,_,_,_,h,_=>by simp at h
 | p::P,w::vs,0,m,nd,h1,h2,hk=>by
  simp at h1 h2;subst h1;subst h2;show bindL kindOf ((p,w)::P.zip vs) m p=_;unfold bindL;rw[pG fun v hv=>(YO.mp nd).1 (W6 hv).1,ZY hk];simp
 | p::P,w::vs,i+1,m,nd,h1,h2,hk=>by
  show bindL kindOf ((p,w)::P.zip vs) m x=_;unfold bindL;exact pI (i:=i) (YO.mp nd).2 (by simpa using h1) (by simpa using h2) hk
theorem pJ{kindOf:Str->Option NameKind}{x:Str}{v:Value}:∀ {P:List Str}{vs:List Value}{i:Nat}{m:Str->Option Value},P.Nodup->P[i]?=some x->vs[i]?=some v->kindOf x≠some .local->
  bindC kindOf (P.zip vs) m x=some v
 | [],_,_,_,_,h,_,_=>by simp at h
 | _::_,[],_,_,_,_,h,_=>by simp at h
 | p::P,w::vs,0,m,nd,h1,h2,hk=>by
  simp at h1 h2;subst h1;subst h2;show bindC kindOf ((p,w)::P.zip vs) m p=_;unfold bindC;rw[pH fun v hv=>(YO.mp nd).1 (W6 hv).1,ZW hk];simp
 | p::P,w::vs,i+1,m,nd,h1,h2,hk=>by
  show bindC kindOf ((p,w)::P.zip vs) m x=_;unfold bindC;exact pJ (i:=i) (YO.mp nd).2 (by simpa using h1) (by simpa using h2) hk
def dX(N:List Str)(vs:List V):St:=vs.map some++List.replicate (N.length - vs.length) none
def fw(CX:IN)(P:Program)(w:World)(K:PySem.W.Frag)(mg:Str->Option Value)(base:Heap)(N:List Str)(qual:Str)(scope:Scope)(f:Addr)(cd:Value)(A:Around)(outer:List Env)(s:Shared)(H:Hp)(E:XK):Cx where
 prog:=P
 w:=w
 K:=K
 mg:=mg
 base:=base
 A:=A.deeper (envOfC qual scope s.heap.objs.size f cd)
 N:=N
 s₀:=s
 H₀:=H
 env:=envOfC qual scope s.heap.objs.size f cd
 outer:=outer
 stack:=envOfC qual scope s.heap.objs.size f cd::outer
 ex:=[]
 calm:=true
 fn:=fun _=>true
 pn:=[]
 xe:=fun e s'=>wpAny (model P w) (A.deeper<|envOfC qual scope s.heap.objs.size f cd) (leaving (envOfC qual scope s.heap.objs.size f cd) e) (fun _ On=>CX outer H s E e On) (fun e' On=>CX outer H s E e' On) s'
theorem pK{sc:Scope}(h:sc.names.lookup x=some .cell):∃ c,(cellsFrom n sc.names []).lookup x=some c:=by
 have q:=Vx sc.names n [] (.inl h);exact VN.mp q
theorem xr{f:Addr}{cd:Value}{outer:List Env}{s1:Shared}{E:XK}(S:k_ N ps scope)(hd:A.handled=none)(e0:JG P w K mg base A outer s H)(hl:vs.length=ps.length)(r:au vs us)(x:InCallC s s.heap.objs.size (bindL (envOfC qual scope s.heap.objs.size f cd).kindOf (ps.zip us) fun _=>none) (cellsFrom (s.heap.objs.size+1) scope.names []) (bindC (envOfC qual scope s.heap.objs.size f cd).kindOf (ps.zip us) fun _=>none) s1):
  Inv (fw CX P w K mg base N qual scope f cd A outer s H E) [] (dX N vs) H s1:=by
 have GF:ps.length<=N.length:=by have:=congrArg List.length S.pre;rw[Zc] at this;lia
 obtain⟨h1,tk,rfl,hk⟩:=x.done;have L7:∀ b:Addr,b∉(fw CX P w K mg base N qual scope f cd A outer s H E).ex:=fun b z=>absurd (show b∈([]:List Addr) from z) (by simp);refine⟨⟨e0.mod,S.kind,rfl,rfl,ZV _,fun y z c h1 h2=>?_,fun y hy=>?_,fun y c _ h=>?_,fun _=>hd,Around.frames_deeper e0.frames,.inr ⟨rfl,rfl⟩,fun b z=>absurd z<|L7 b,e0.bs,e0.JD,fun b _ _=>L7 b,fun b z=>absurd z<|L7 b,e0.FU,e0.KC⟩,
  rfl,e0.bare,Un.kept hk,⟨_,x.toInCall.ns,fun i y v h1 h2 h3=>?_⟩,fun y c h=>⟨_,x.cell y c h⟩,e0.n_.fresh<|ZV _,fun y c h=>?_,fun p hp=>absurd (show p∈([]:List (Addr×Obj)) from hp) (by simp),e0.n_.kept hk,?_⟩
 ·exact name_of_addr x.apart (XO h1) (XO h2)
 ·have hy:scope.names.lookup y=some .cell\/scope.names.lookup y=some .free:=hy;rcases hy with hy | hy
  ·exact pK hy
  ·exact absurd rfl (S.KK _<|XO hy)
 ·exact Xi (x.above y c<|XO h)
 ·have hi:i<vs.length:=by
   unfold dX at h2;by_cases hi:i<vs.length
   ·exact hi
   ·rw[Y6 (by simpa using hi)] at h2;rw[List.getElem?_replicate] at h2;split at h2<;>cases h2
  have ha:vs[i]?=some v:=by
   unfold dX at h2;rw[Y4 (by simpa using hi),ZB] at h2;cases e:vs[i]? with
   | none=>rw[e] at h2;cases h2
   | some a=>rw[e] at h2;cases h2;rfl
  obtain⟨u,hu,rv⟩:=r.get ha;have hp:ps[i]?=some y:=by
   rw[<- S.pre,List.getElem?_take_of_lt (by lia)];exact h1
  have P5:ps.Nodup:=by rw[<- S.pre];exact S.nd.sublist (XW _ _)
  refine⟨u,rv,?_⟩;rcases S.par y (Zr hp) with k | k
  ·exact .inl ⟨k,pI P5 hp hu k⟩
  ·obtain⟨c,e⟩:=pK (n:=s.heap.objs.size+1) k;refine .inr ⟨.inl k,c,e,?_⟩;have q:=x.cell y c e;rw[pJ P5 hp hu (by show scope.names.lookup y≠_;rw[k];decide)] at q;exact q
 ·exact e0.n_.fresh (Xi<|x.above y c<|XO h)
 ·unfold dX;show _=N.length;rw[ZR,Z3,List.length_replicate];lia
theorem xt{f:Addr}{name:Str}{params:Arguments}{dV kV doc pm u_ ct oc:Value}{an od:Option Addr}{Iz:Array (Option Value)}{sp:Sp}(lk:K.lookup f=some ⟨oc,od,.func<|PySem.W.fnOf name qual params body scope dV kV doc pm an u_ ct,Iz⟩)(Ic:PySem.W.codeIn K u_ qual=true)(S:k_ N ps scope)(len:∀ vs H Q E,sp vs H Q E->vs.length=ps.length)(IP:∀ (A:Around) (outer:List Env) (s:Shared) (H:Hp) (vs:List V) (Q:VK) (E:XK),E8 k (A.deeper<|envOfC qual scope s.heap.objs.size f u_)->sp vs H Q E->
   ∃ t,Hr (fw CX P w K mg base N qual scope f u_ A outer s H E) body t/\t { nx:=fun _ H'=>Q .l_ H',rt:=Q } (dX N vs) H):
  FJ P w K mg base CX (k+1) f (PySem.W.fnOf name qual params body scope dV kV doc pm an u_ ct) ps sp:=by
 refine⟨len,fun A outer s H args us vs Q E hr e0 hb r Ka=>?_⟩;have hl:=len _ _ _ _ Ka;have KX:K.In s.heap:=e0.mod.Nr.keeps fun b o e=>(e0.bs b o e).1;have lim:s.heap.NoLimit:=e0.mod.nolimit.keeps fun b o e=>(e0.bs b o e).1;have r_:∀ y∈ps.zip us,scope.names.lookup y.1=some .local\/(scope.names.lookup y.1=some .cell/\((cellsFrom (s.heap.objs.size+1) scope.names []).lookup y.1).isSome=true):=fun ⟨n,v⟩ hy=>by
  rcases S.par n (W6 hy).1 with q | q
  ·exact .inl q
  ·exact .inr ⟨q,Vx _ _ _<|.inl q⟩
 refine codeAny_call_function hr.depth (KX _ _ lk) rfl S.co S.gen rfl (PySem.W.codeRec_of KX Ic) (hb _ _ _ _ ?_);refine wpAny_newFunctionEnv_cells S.kind r_ fun env he s1 x=>?_;subst he;refine⟨lim.keeps x.toInCall.keep,codeAny_func ?_⟩;obtain⟨t,ht,hq⟩:=IP A outer s H vs Q E (hr.deeper _) Ka;have I:Inv (fw CX P w K mg base N qual scope f u_ A outer s H E) [] (dX N vs) H s1:=xr S hr.hd e0 hl r x;refine YA (ht [] s1 (dX N vs) H _ I hq) (fun fl s' hs=>?_) fun e s' hs=>hs;have fin:∀ {σ':St}{H':Hp}{v:V}{u:Value},Inv (fw CX P w K mg base N qual scope f u_ A outer s H E) [] σ' H' s'->ay v u->Q v H'->CE outer P w H s Q u s':=
  fun {σ' H' v u} J rv q=>⟨v,H',J.os,J.bare,J.base,J.n_,rv,q⟩;cases fl with
 | ret u=>
  obtain⟨v,σ',H',J,rv,q⟩:=hs;exact fin J rv q
 | next=>
  obtain⟨σ',H',J,q⟩:=hs;exact fin (v:=V.l_) (u:=Value.none) J rfl q
 | brk=>
  obtain⟨_,_,_,q⟩:=hs;exact False.elim q
 | cont=>
  obtain⟨_,_,_,q⟩:=hs;exact False.elim q
section
variable{X:Cx}{x:Str}{p pos:Pos}{e:Expr}{es:List Expr}{t:TA}{id T:String}{r:List V->Hp->VK->Prop}
def P6(r:List V->Hp->VK->Prop)(t:TA):TE:=fun σ H Q=>t σ H fun vs H1=>r vs H1 Q
theorem pL(hc:bt X (.builtin id) r)(hg:Gl X x)(hm:X.mg x=none)(hv:bootBuiltins x=some (.builtin id))(ha:PA X (e::es) t)(hn:x ≠ "__name__" := by decide)(Id:(x == ("__debug__" : Str))=false:=by decide)(he:starEach (e::es) X.env=(false,eval e X.env)::starEach es X.env:=by rfl)(GF:(backTo pos<|starEach es X.env).any (·.1)=false:=by rfl):PE X (.Call (.Name x p) (e::es) [] pos) (P6 r t):=by
 intro pins s σ H Q I h;refine XB (eE I hg hm hv ?_ hn Id);exact WI (y_ (ha pos pins s σ H _ I h) fun us s1 ⟨vs,H1,I1,r1,q1⟩=>hc pins s1 σ H1 vs us Q I1 r1 q1) he GF
theorem xu(hc:bt X (.type T) r)(hg:Gl X x)(hm:X.mg x=none)(hv:bootBuiltins x=some (.type T))(ha:PA X (e::es) t)(hn:x ≠ "__name__" := by decide)(Id:(x == ("__debug__" : Str))=false:=by decide)(he:starEach (e::es) X.env=(false,eval e X.env)::starEach es X.env:=by rfl)(GF:(backTo pos<|starEach es X.env).any (·.1)=false:=by rfl):PE X (.Call (.Name x p) (e::es) [] pos) (P6 r t):=by
 intro pins s σ H Q I h;refine XB (eE I hg hm hv ?_ hn Id);exact YL (y_ (ha pos pins s σ H _ I h) fun us s1 ⟨vs,H1,I1,r1,q1⟩=>hc pins s1 σ H1 vs us Q I1 r1 q1) he GF
end
end L2
namespace HT
open PySem PyProof.Rows
variable{hi lo:Option Int}{vu vl:Value}{sl t:Addr}{Q:Value->Shared->Prop}
theorem xv(A:Around)(s:Shared)(a:Int)(t:Tok)(c:Int)(u:Tok)(prog:Program)(w:World)(E:Value->Shared->Prop)(Q:Value->Shared->Prop)(h:Q (.bool<|decide (a<c)) s):
  wpAny (model prog w) A (richCompare .Lt (.int a t)<|.int c u) Q E s:=
 (PyProof.Rows.lt_int h:wpAny (model prog w) A (compareOp .Lt (.int a t)<|.int c u) Q E s)
section
open PySem.SeqAt
open PySem.AutoSeq1 (wpAny_loadPart')
open PySem.MeetsSeq PySem.MeetsSeq2 PySem.MeetsSeq3
end
section
variable{prog:Program}{w:World}{A:Around}{E:Value->Shared->Prop}{s:Shared}
theorem xw{b:Addr}{vs ws:List Value}(ht:IsTup s.heap t vs.toArray)(hb:IsTup s.heap b ws.toArray)(hv:vs≠[])(h1:ws=[]->Q (.ref t) s)(h2:ws≠[]->Q (.ref s.heap.objs.size) { s with heap:=s.heap.push { cls:=.type "tuple",data:=.seq (vs++ws).toArray } })(hsz:vs.length+ws.length<=sizeLine):wpAny (model prog w) A (binaryOp .Add (.ref t)<|.ref b) Q E s:=by
 obtain⟨⟨cls,dd,data,sl⟩,ho,hc,n,hd⟩:=id ht;obtain⟨⟨Oo,Lv,data2,Lw⟩,KL,L8,n2,hd2⟩:=id hb;simp only at hc hd L8 hd2;subst hc hd L8 hd2;have e:vs.toArray++ws.toArray=(vs++ws).toArray:=by simp
 by_cases hw:ws=[]
 ·exact concat_meets ⟨_,ho,rfl⟩ ⟨_,KL,rfl⟩ VH seq_tuple_add WZ W1 (Xa _ _)
   (tuple_addW1 t b vs.toArray ws.toArray n n2 dd Lv sl Lw (by simpa using hv) (by simp[hw])) ⟨ho,KL,h1 hw⟩
 ·refine concat_meets ⟨_,ho,rfl⟩ ⟨_,KL,rfl⟩ VH seq_tuple_add WZ W1 (Xa _ _)
   (tuple_addW2 t b vs.toArray ws.toArray n n2 dd Lv sl Lw (by simpa using hv) (by simpa using hw) (by rw[ZQ,ZQ];exact hsz)) ⟨ho,KL,?_⟩;rw[e];exact h2 hw
def E2(n d:Nat):Option Int->Nat
 | none=>d
 | some v=>if v<0 then (v+(n:Int)).toNat else min v.toNat n
theorem xx(n d:Nat):E2 n d none=d:=rfl
theorem me(n d k:Nat):E2 n d (some (k:Int))=min k n:=by
 show (if (k:Int)<0 then ((k:Int)+(n:Int)).toNat else min (k:Int).toNat n)=min k n;rw[ZW (by lia),Yj]
theorem xy(n d:Nat)(hd:d<=n)(o:Option Int):E2 n d o<=n:=by
 cases o with
 | none=>exact hd
 | some v=>
  show (if v<0 then (v+(n:Int)).toNat else min v.toNat n)<=n;by_cases hv:v<0
  ·rw[ZY hv];lia
  ·rw[ZW hv];exact Nat.min_le_right _ _
theorem pM(v:Int)(n d:Nat):(if v<0 then max (v+(n:Int)) 0 else min v (n:Int))=((E2 n d (some v):Nat):Int):=by
 show (if v<0 then max (v+(n:Int)) 0 else min v (n:Int))=(((if v<0 then (v+(n:Int)).toNat else min v.toNat n):Nat):Int);by_cases hv:v<0
 ·simp only[ZY hv];lia
 ·simp only[ZW hv];lia
theorem xz(lo hi:Option Int)(n:Nat):Builtin.Slice.sliceAdjust lo hi 1 (n:Int)=(((E2 n 0 lo:Nat):Int),((E2 n n hi:Nat):Int)):=by
 have h1:¬ ((1:Int)<0):=by lia
 unfold Builtin.Slice.sliceAdjust;simp only[h1,Yr];refine Prod.ext ?_ ?_
 ·cases lo with
  | none=>rfl
  | some v=>exact pM v n 0
 ·cases hi with
  | none=>rfl
  | some v=>exact pM v n n
theorem xA(i j:Nat):Builtin.Slice.slicePlaces (i:Int) (j:Int) 1=j - i:=by
 unfold Builtin.Slice.slicePlaces;have h1:(1:Int) > 0:=by lia
 simp only[h1,Xr,Int.ediv_one];split<;>lia
theorem pN{v:Value}{o:Option Int}{Q:Option Int->Shared->Prop}(p:IsPart v o)(h:Q o s):wpAny (model prog w) A (Builtin.Slice.slicePartIndex v) Q E s:=by
 cases p with
 | none=>exact Wd h
 | int i t=>exact slicePart_int h
theorem pO{n:Nat}{Q:Int×Int×Nat->Shared->Prop}(hs:s.heap.IsSliceOf sl vl vu .none)(pl:IsPart vl lo)(pu:IsPart vu hi)(h:Q (((E2 n 0 lo:Nat):Int),1,E2 n n hi - E2 n 0 lo) s):wpAny (model prog w) A (Builtin.Slice.sliceApplied (.ref sl)<|pure (n:Int)) Q E s:=by
 obtain⟨os,IQ,KM,IR⟩:=id hs;unfold Builtin.Slice.sliceApplied Builtin.Slice.sliceFields;refine Z9 (Z9<|Za IQ IR (x:=vl) rfl<|Z9<|Za IQ IR (x:=vu) rfl<|Z9<|Za IQ IR (x:=.none) rfl<|Z6 ?_);refine Z9 (Wd ?_);show wpAny _ _ (if ((1:Int) == 0)=true then _ else _) _ _ s;rw[ZW (by decide)];refine Z9 (pN pl<|Z9<|pN pu<|Z9<|Z6 ?_);show wpAny _ _ (match Builtin.Slice.sliceAdjust lo hi 1 (n:Int) with | (lo,hi)=>pure (lo,(1:Int),Builtin.Slice.slicePlaces lo hi 1)) _ _ s;rw[xz lo hi n];show wpAny _ _ (pure (((E2 n 0 lo:Nat):Int),(1:Int),Builtin.Slice.slicePlaces ((E2 n 0 lo:Nat):Int) ((E2 n n hi:Nat):Int) 1)) _ _ s;rw[xA];exact Z6 h
theorem xB(xs:Array Value)(i k:Nat):((range k).filterMap fun (m:Nat)=>xs[((i:Int)+(m:Int) * 1).toNat]?).toArray=((xs.toList.drop i).take k).toArray:=by
 have e:(fun (m:Nat)=>xs[((i:Int)+(m:Int) * 1).toNat]?)=fun m=>xs[i+m]?:=by
  funext m;have:((i:Int)+(m:Int) * 1).toNat=i+m:=by lia
  rw[this]
 rw[e];have:=pick_run xs i k;rw[List.filterMap_map] at this;have e2:((fun x=>xs[x]?) ∘ fun x=>i+x)=fun m=>xs[i+m]?:=rfl;rw[e2] at this;rw[this]
theorem xC{items:Array Value}(ht:IsTup s.heap t items)(hs:s.heap.IsSliceOf sl vl vu .none)(pl:IsPart vl lo)(pu:IsPart vu hi)(hw:¬ (E2 items.size 0 lo=0/\E2 items.size items.size hi=items.size))(h:Q (.ref s.heap.objs.size) { s with heap:=s.heap.push { cls:=.type "tuple",data:=.seq ((items.toList.drop<|E2 items.size 0 lo).take<|E2 items.size items.size hi - E2 items.size 0 lo).toArray } })(hsz:items.size<=sizeLine):wpAny (model prog w) A (getItem (.ref t)<|.ref sl) Q E s:=by
 have HK:sizeOk (.seq ((items.toList.drop<|E2 items.size 0 lo).take<|E2 items.size items.size hi - E2 items.size 0 lo).toArray):=by
  show ((items.toList.drop<|E2 items.size 0 lo).take<|E2 items.size items.size hi - E2 items.size 0 lo).toArray.size<=sizeLine;rw[ZQ,Zc,Zm,ZN];lia
 have hj:E2 items.size items.size hi<=items.size:=xy _ _ (ZV _) hi;obtain⟨os,IQ,KM,IR⟩:=id hs;have Op:s.TypeIs (.ref sl) "slice" := ⟨os,IQ,KM⟩;unfold getItem;try with_reducible refine YY ?_
 first | refine Z9 (Z6 ?_) | skip
 refine Z9 (VY ht.typeIs (by decide) ?_);refine Z9 (Zb (name:=Str.ofString "__getitem__") ht.typeIs Zh
  (Zj Zh ht.typeIs Wl ?_<|args_tuple_getitem _ _));show wpAny _ _ (Builtin.Tuple.tupleItemsOf (.ref t) >>= _) _ _ s;refine Z9 (tupleItemsOf_ ht ?_);refine Z9 (Xh Op ?_);rw[ZY (by decide)];refine Z9 (pO hs pl pu ?_);have Q6:¬ ((((E2 items.size 0 lo:Nat):Int) == 0 && (1:Int) == 1 && (E2 items.size items.size hi - E2 items.size 0 lo) == items.size)=true):=by
  intro q;rw[ZU,ZU] at q;have q1:((E2 items.size 0 lo:Nat):Int)=0:=eq_of_beq q.1.1;have q2:E2 items.size items.size hi - E2 items.size 0 lo=items.size:=eq_of_beq q.2;exact hw ⟨by lia,by lia⟩
 show wpAny _ _ (if (((E2 items.size 0 lo:Nat):Int) == 0 && (1:Int) == 1 && (E2 items.size items.size hi - E2 items.size 0 lo) == items.size)=true then _ else _) _ _ s;rw[ZW Q6,xB];first
  | exact Z9 (m:=Builtin.Tuple.tupleExact _) (Zo (Z6 ⟨_,rfl,Z6 h⟩) HK)
  | exact Z9 (m:=Builtin.Tuple.tupleExact _) (Zo (Z9<|Z6<|Z6 ⟨_,rfl,Z6 h⟩) HK)
  | exact Z9 (Z9 (m:=Builtin.Tuple.tupleExact _)<|Zo (Z6<|Z6 ⟨_,rfl,Z6 h⟩) HK)
  | exact Z9 (Z9 (m:=Builtin.Tuple.tupleExact _)<|Zo (Z6 ⟨_,rfl,Z6 h⟩) HK)
end
end HT
namespace L2
open PySem PySem.Spec PyProof.Rows
variable{h':Heap}{Q:Value->Shared->Prop}{b a p:Addr}{H' H:Hp}{kvs:List (List Im×V)}{w:World}{P:Program}{o:Option V}{t' j n:Nat}{its' f_ us:List Value}{s:Shared}{σ:St}{pins:List (Addr×Obj)}{r:R2}{α:Type}{i:Int}{xs:List (List Im×Addr×Value)}
abbrev TO:=St->Hp->(Option Int->Hp->Prop)->Prop
def P7(X:Cx)(e:Option Expr)(t:TO)(pins:List (Addr×Obj)):Prop:=
 ∀ (s:Shared) (σ:St) (H:Hp) (Q:Option Int->Hp->Prop),Inv X pins σ H s->t σ H Q->
  wpAny (model X.prog X.w) X.A (evalPart e X.env) (fun u s'=>∃ o H',Inv X pins σ H' s'/\IsPart u o/\Q o H') X.xe s
def PO(X:Cx)(e:Option Expr)(t:TO):Prop:=∀ pins,P7 X e t pins
def JH:TO:=fun _ H Q=>Q none H
def xD(t:TE):TO:=fun σ H Q=>t σ H fun x H1=>∃ i,x=.int i/\Q (some i) H1
section
variable{X:Cx}{e:Expr}{te:TE}{lo hi:Option Expr}{tl th:TO}{pos p2:Pos}
theorem xE:PO X none JH:=by
 intro pins s σ H Q I h;rw[evalPart_none];exact Z6 ⟨none,H,I,.none,h⟩
theorem xF(h:PE X e te):PO X (some e) (xD te):=by
 intro pins s σ H Q I hw;rw[evalPart_some];refine y_ (h pins s σ H _ I hw) fun u s1 ⟨x,H1,I1,r1,q1⟩=>?_;obtain⟨i,rfl,q⟩:=q1;obtain⟨t,rfl⟩:=r1;exact⟨some i,H1,I1,.int i t,q⟩
def L9(X:Cx)(r:V->Option Int->Option Int->Hp->VK->Prop):Prop:=
 ∀ (pins:List (Addr×Obj)) (s:Shared) (σ:St) (H:Hp) (x:V) (v vl vu:Value) (lo hi:Option Int) (sl:Addr) (Q:VK),Inv X pins σ H s->ay x v->s.heap.IsSliceOf sl vl vu .none->IsPart vl lo->IsPart vu hi->r x lo hi H Q->
  ∃ T id,typeLookup (.type T) "__getitem__" = pure (some<|.builtin id)/\s.TypeIs v T/\wpAny (model X.prog X.w) X.A (getItem v<|.ref sl) (EP X pins σ Q) X.xe s
def Q7(r:V->Option Int->Option Int->Hp->VK->Prop)(te:TE)(tl th:TO):TE:=fun σ H Q=>te σ H fun x H1=>tl σ H1 fun l H2=>th σ H2 fun u H3=>r x l u H3 Q
theorem xG{r:V->Option Int->Option Int->Hp->VK->Prop}(hr:L9 X r)(he:PE X e te)(hl:PO X lo tl)(hu:PO X hi th):PE X (.Subscript e (.Slice lo hi none p2) pos) (Q7 r te tl th):=by
 intro pins s σ H Q I h;refine Subscript_ (y_ (he pins s σ H _ I h) fun v s1 ⟨x,H1,I1,r1,q1⟩=>?_);refine wpAny_Slice (y_ (hl pins s1 σ H1 _ I1 q1) fun vl s2 ⟨l,H2,I2,pl,q2⟩=>y_ (hu pins s2 σ H2 _ I2 q2) fun vu s3 ⟨u,H3,I3,pu,q3⟩=>?_);rw[evalPart_none];refine Z6 ?_;have I4:Inv X pins σ H3 { s3 with heap:=s3.heap.push { cls:=.type "slice",data:=.fields #[vl,vu,.none] } }:=I3.kept (t':=s3.toks) fun b ob q=>Z7 _ q;obtain⟨T,id,hT,ht,hg⟩:=hr pins { s3 with heap:=s3.heap.push { cls:=.type "slice",data:=.fields #[vl,vu,.none] } } σ H3 x v vl vu l u s3.heap.objs.size Q I4 r1 (Heap.IsSliceOf.new ..) pl pu q3;show wpAny (model X.prog X.w) X.A (subscriptTail e (.Slice lo hi none p2) v<|.ref s3.heap.objs.size) (EP X pins σ Q) X.xe { s3 with heap:=s3.heap.push { cls:=.type "slice",data:=.fields #[vl,vu,.none] } };exact tail_any (ops:=[.ref s3.heap.objs.size,v]) ht hT hg (by with_unfolding_all rfl)
def fy(xs:List V)(lo hi:Option Int):List V:=(xs.drop<|HT.E2 xs.length 0 lo).take (HT.E2 xs.length xs.length hi - HT.E2 xs.length 0 lo)
theorem pP(xs:List V)(lo hi:Option Int):(fy xs lo hi).length<=xs.length:=by
 unfold fy;rw[Zc,Zm];lia
def xH(K:PySem.W.Frag):V->Option Int->Option Int->Hp->VK->Prop:=fun x lo hi H Q=>∃ a xs,x=.ref a/\E1 K H a xs/\
 ¬ (HT.E2 xs.length 0 lo=0/\HT.E2 xs.length xs.length hi=xs.length)/\∀ p,H p=none->Q (.ref p) (upd H p<|.tup<|fy xs lo hi)
theorem xI:L9 X (xH X.K):=by
 intro pins s σ H x v vl vu lo hi sl Q I rx hs pl pu h;obtain⟨a,xs,rfl,hx,hw,q⟩:=h;cases rx;obtain⟨f_,r,ht,hz⟩:=I.tuple hx;have hlen:f_.toArray.size=xs.length:=by rw[ZQ];exact r.length.symm
 refine⟨"tuple",_,Zh.lookup,ht.typeIs,?_⟩;refine HT.xC ht hs pl pu (by rw[hlen];exact hw) ?_ (by rw[hlen];exact hz);rw[hlen];refine⟨.ref s.heap.objs.size,_,I.laid (t':=s.toks) (o:=.tup (fy xs lo hi)) (fun b ob q=>Z7 _ q) (ZV _) ?_,rfl,q _<|I.n_.fresh<|ZV _⟩;exact⟨Zn (pP xs lo hi) hz,_,(r.drop<|HT.E2 xs.length 0 lo).take<|HT.E2 xs.length xs.length hi - HT.E2 xs.length 0 lo,IsTup.new _ _⟩
def xJ(K:PySem.W.Frag):R2:=fun x y H Q=>∃ a b xs ys,x=.ref a/\y=.ref b/\E1 K H a xs/\E1 K H b ys/\xs≠[]/\xs.length+ys.length<=sizeLine/\
 (ys=[]->Q (.ref a) H)/\(ys≠[]->∀ p,H p=none->Q (.ref p) (upd H p<|.tup<|xs++ys))
theorem au.Gf{xs:List V}(r:au xs us):us=[]↔xs=[]:=by
 cases r with
 | nil=>simp
 | cons _ _=>simp
theorem xK:FD X (binaryOp .Add) (xJ X.K):=by
 intro pins s σ H x y v u Q I rx ry h;obtain⟨a,b,xs,ys,rfl,rfl,ha,hb,hx,hz,q1,q2⟩:=h;cases rx;cases ry;obtain⟨f_,r1,p1,_⟩:=I.tuple ha;obtain⟨FG,r2,p2,_⟩:=I.tuple hb;refine HT.xw p1 p2 (fun z=>hx<|r1.Gf.mp z) (fun z=>⟨.ref a,H,I,rfl,q1<|r2.Gf.mp z⟩) (fun z=>?_) (by rw[<- r1.length,<- r2.length];exact hz);refine⟨.ref s.heap.objs.size,_,I.laid (t':=s.toks) (o:=.tup (xs++ys)) (fun b ob q=>Z7 _ q) (ZV _) ?_,rfl,q2 (fun w=>z<|r2.Gf.mpr w) _<|I.n_.fresh<|ZV _⟩;exact⟨by rw[ZR];exact hz,_,r1.append r2,IsTup.new _ _⟩
end
def IA(n:Nat)(i:Int):Option Nat:=if 0<=i then (if i<n then some i.toNat else none) else if -(n:Int)<=i then some (i+n).toNat else none
def FS{α:Type}(xs:List α)(i:Int):Option α:=(IA xs.length i).bind fun j=>xs[j]?
theorem pQ(h:IA n i=some j):seqIndex? i n=some j/\j<n /\ -(n:Int)<=i/\i<n:=by
 unfold IA at h;by_cases h0:0<=i
 ·rw[ZY h0] at h;by_cases h1:i<n
  ·rw[ZY h1] at h;have e:i.toNat=j:=Zq h;exact⟨by rw[seqIndex_of h0 h1,e],by lia,by lia,h1⟩
  ·rw[ZW h1] at h;cases h
 ·rw[ZW h0] at h;by_cases h1 : -(n:Int)<=i
  ·rw[ZY h1] at h;have e:(i+n).toNat=j:=Zq h;exact⟨by rw[seqIndex_neg (by lia) h1,e],by lia,h1,by lia⟩
  ·rw[ZW h1] at h;cases h
theorem pR{xs:List α}{v:α}(h:FS xs i=some v):∃ j,seqIndex? i xs.length=some j/\xs[j]?=some v/\j<xs.length /\ -(xs.length:Int)<=i/\i<xs.length:=by
 unfold FS at h;cases e:IA xs.length i with
 | none=>rw[e] at h;cases h
 | some j=>
  rw[e] at h;obtain⟨h1,h2,h3,h4⟩:=pQ e;exact⟨j,h1,h,h2,h3,h4⟩
theorem xL{xs:List α}{v:α}(h:xs[j]?=some v):FS xs (j:Int)=some v:=by
 have hj:j<xs.length:=(Zv.mp h).1;have e:IA xs.length (j:Int)=some j:=by
  unfold IA;rw[ZY (by lia),ZY (by lia)];simp
 unfold FS;rw[e];exact h
theorem xM(xs:List α)(v:α):FS (xs++[v]) (-1)=some v:=by
 have hl:(xs++[v]).length=xs.length+1:=by simp
 have e:IA (xs++[v]).length (-1)=some xs.length:=by
  unfold IA;rw[hl,ZW (by decide),ZY (by lia)];congr 1;lia
 unfold FS;rw[e];show (xs++[v])[xs.length]?=some v;simp
def mf(b:Expr):Prop:=∀ o i,subscripted b false o i=operate [o,i] (getItem o i)
def Ie(X:Cx)(r:R2):Prop:=
 ∀ (value slice:Expr) (pins:List (Addr×Obj)) (s:Shared) (σ:St) (H:Hp) (x y:V) (v u:Value) (Q:VK),Inv X pins σ H s->ay x v->ay y u->r x y H Q->
  subscripted slice false v u=operate [v,u] (getItem v u)->wpAny (model X.prog X.w) X.A (subscriptTail value slice v u) (EP X pins σ Q) X.xe s
def Oq(X:Cx)(id:String)(r:V->List V->Hp->VK->Prop):Prop:=
 ∀ (pins:List (Addr×Obj)) (s:Shared) (σ:St) (H:Hp) (x:V) (xs:List V) (v:Value) (us:List Value) (Q:VK),Inv X pins σ H s->ay x v->au xs us->r x xs H Q->
  wpAny (model X.prog X.w) X.A (call (.builtin id) (v::us)) (EP X pins σ Q) X.xe s
section
variable{X:Cx}{a b:Expr}{ta tb:TE}{pos:Pos}
theorem Ie.or{r':R2}(h:Ie X r)(h':Ie X r'):Ie X (fun x y H Q=>r x y H Q\/r' x y H Q):=by
 intro value slice pins s σ H x y v u Q I rx ry q hs;rcases q with q | q
 ·exact h value slice pins s σ H x y v u Q I rx ry q hs
 ·exact h' value slice pins s σ H x y v u Q I rx ry q hs
theorem xN(hr:Ie X r)(ha:PE X a ta)(hb:PE X b tb)(hs:mf b):PE X (.Subscript a b pos) (Ny r ta tb):=by
 intro pins s σ H Q I h;exact Subscript_ (l8 ha hb I h fun v u s2 x y H2 I2 rx ry q=>hr a b pins s2 σ H2 x y v u Q I2 rx ry q<|hs _ _)
def xO(K:PySem.W.Frag):R2:=fun x y H Q=>∃ p xs i v,x=.ref p/\y=.int i/\Fd K H p xs/\FS xs i=some v/\Q v H
def xP(K:PySem.W.Frag):R2:=fun x y H Q=>∃ p xs i v,x=.ref p/\y=.int i/\E1 K H p xs/\FS xs i=some v/\Q v H
theorem xQ:Ie X (xO X.K):=by
 intro value slice pins s σ H x y v u Q I rx ry h hs;obtain⟨p,xs,i,z,rfl,rfl,hq,he,q⟩:=h;cases rx;obtain⟨t,rfl⟩:=ry;obtain⟨f_,r,pl,hz⟩:=I.list hq;obtain⟨j,h1,h2,h3,h4,h5⟩:=pR he;obtain⟨w,ew,IL⟩:=r.get h2;have hl:=r.length;have hn:=gU;have fin:EP X pins σ Q w s:=⟨z,H,I,IL,q⟩;by_cases h0:0<=i
 ·have hj:i.toNat=j:=by
   rw[seqIndex_of h0 h5] at h1;exact Zq h1
  exact item_listR pl.isList h0 (by lia) (by rw[hj];simpa using ew) fin hs
 ·have hj:(i+(f_.toArray.size:Int)).toNat=j:=by
   rw[seqIndex_neg (by lia) h4] at h1;rw[ZQ,<- hl];exact Zq h1
  exact subscriptTail_builtinR (x:=w) pl.isList.typeIs slot_list_getitem.lookup
   (wpAny_getItem_list_neg (Q:=fun r s'=>r=w/\EP X pins σ Q r s') pl.isList (by lia) (by rw[ZQ]<;>lia) (by lia) (by rw[hj];simpa using ew) ⟨rfl,fin⟩) hs
theorem xR:Ie X (xP X.K):=by
 intro value slice pins s σ H x y v u Q I rx ry h hs;obtain⟨p,xs,i,z,rfl,rfl,hq,he,q⟩:=h;cases rx;obtain⟨t,rfl⟩:=ry;obtain⟨f_,r,pl,hz⟩:=I.tuple hq;obtain⟨j,h1,h2,h3,h4,h5⟩:=pR he;obtain⟨w,ew,IL⟩:=r.get h2;have hl:=r.length;have hn:=gU;have fin:EP X pins σ Q w s:=⟨z,H,I,IL,q⟩;exact subscriptTail_builtinR (x:=w) pl.typeIs slot_tuple_getitem.lookup
  (getItem_tuple (j:=j) (Q:=fun r s'=>r=w/\EP X pins σ Q r s') pl (by lia) (by lia) (by rw[ZQ,<- hl];exact h1) (by simpa using ew) ⟨rfl,fin⟩) hs
theorem xS(f_:List Value)(n j:Nat)(u:Value):Obj.mapSeq (·.setIfInBounds j u) { cls:=.type "list",data:=.seq f_.toArray n }={ cls:=.type "list",data:=.seq (f_.set j u).toArray n }:=by
 simp[Obj.mapSeq]
variable{xs:List V}
theorem Inv.lst(I:Inv X pins σ H s)(h:H p=some (.lst xs)):
  ∃ (f_:List Value) (n:Nat),au xs f_/\s.heap.get? p=some { cls:=.type "list",data:=.seq f_.toArray n }/\xs.length<=sizeLine:=by
 obtain⟨z,f_,n,r,e⟩:=I.n_ p _ h;exact⟨f_,n,r,e,z⟩
theorem Inv.KN{ys:List V}{n':Nat}{f:Obj->Obj}(I:Inv X pins σ H s)(h:H p=some (.lst xs))(ho:s.heap.get? p=some { cls:=.type "list",data:=.seq f_.toArray n })(hf:f { cls:=.type "list",data:=.seq f_.toArray n }={ cls:=.type "list",data:=.seq its'.toArray n' })(r:au ys its')(hz:ys.length<=sizeLine)(t:Nat):
  Inv X pins σ (upd H p<|.lst ys) { s with heap:=s.heap.update p f,toks:=t }:=by
 have e:(s.heap.update p f).get? p=some { cls:=.type "list",data:=.seq its'.toArray n' }:=by
  rw[Yy f ho (by rw[hf]<;>rfl),hf]
 refine I.write (x:=p) (e:=p) (by rw[h];trivial) (.inl rfl) (fun b u hb q=>(Y0 _ _<|Yb hb).trans q) ⟨_,e⟩ ?_;exact⟨hz,its',n',r,e⟩
def L':V->V->V->Hp->(Hp->Prop)->Prop:=fun o i v H Q=>∃ p xs k j,o=.ref p/\i=.int k/\H p=some (.lst xs)/\IA xs.length k=some j/\Q (upd H p<|.lst<|xs.set j v)
theorem xT:lZ X L':=by
 intro pins s σ H o i v ov iv u Q I ro ri rv h;obtain⟨p,xs,k,j,rfl,rfl,hp,hj,q⟩:=h;cases ro;obtain⟨t,rfl⟩:=ri;obtain⟨f_,n,r,ho,hz⟩:=I.lst hp;obtain⟨h1,h2,h3,h4⟩:=pQ hj;have hl:=r.length;have hn:=gU;have I':Inv X pins σ (upd H p<|.lst<|xs.set j v) { s with heap:=s.heap.update p (Obj.mapSeq (·.setIfInBounds j u)) }:=
  I.KN hp ho (xS f_ n j u) (r.set rv j) (by rw[Wo];exact hz) s.toks;by_cases h0:0<=k
 ·have hk:k.toNat=j:=by
   rw[seqIndex_of h0 h4] at h1;exact Zq h1
  exact PySem.W.ki_setAt ho h0 (by lia) (by rw[ZQ,<- hl];exact h4) (by rw[hk];exact⟨_,I',q⟩)
 ·have hk:(k+(f_.toArray.size:Int)).toNat=j:=by
   rw[seqIndex_neg (by lia) h3] at h1;rw[ZQ,<- hl];exact Zq h1
  exact PySem.W.ki_setBack ho (by lia) (by rw[ZQ,<- hl];exact h3) (by lia) (by rw[hk];exact⟨_,I',q⟩)
theorem xU(lo hi:Option Int)(n:Nat):(sliceBounds lo hi none n).1=((HT.E2 n 0 lo:Nat):Int)/\(sliceBounds lo hi none n).2.1=((HT.E2 n n hi:Nat):Int)/\(sliceBounds lo hi none n).2.2=1:=by
 refine⟨?_,?_,rfl⟩
 ·cases lo with
  | none=>simp[sliceBounds,HT.E2]
  | some i=>
   simp only[sliceBounds,HT.E2,getD_none,show (1:Int) > 0 by decide,Xr];by_cases h:i<0
   ·simp only[h,Xr]<;>lia
   ·simp only[h,Yr]<;>lia
 ·cases hi with
  | none=>simp[sliceBounds,HT.E2]
  | some i=>
   simp only[sliceBounds,HT.E2,getD_none,show (1:Int) > 0 by decide,Xr];by_cases h:i<0
   ·simp only[h,Xr]<;>lia
   ·simp only[h,Yr]<;>lia
theorem xV(f_:List Value)(lo hi:Option Int):slicePick f_.toArray lo hi none=((f_.drop<|HT.E2 f_.length 0 lo).take<|HT.E2 f_.length f_.length hi - HT.E2 f_.length 0 lo).toArray:=by
 obtain⟨h1,h2,h3⟩:=xU lo hi f_.toArray.size;unfold slicePick;rw[h1,h2,h3];simp only[sliceRange_one,pick_run,ZQ]<;>rfl
def xW(K:PySem.W.Frag):V->Option Int->Option Int->Hp->VK->Prop:=fun x lo hi H Q=>∃ a xs,x=.ref a/\Fd K H a xs/\∀ p,H p=none->Q (.ref p) (upd H p<|.lst<|fy xs lo hi)
theorem pS:L9 X (xW X.K):=by
 intro pins s σ H x v vl vu lo hi sl Q I rx hs pl pu h;obtain⟨a,xs,rfl,hx,q⟩:=h;cases rx;obtain⟨f_,r,ht,hz⟩:=I.list hx;have hlen:=r.length;refine⟨"list",_,slot_list_getitem.lookup,ht.isList.typeIs,?_⟩;refine wpAny_getItem_list_slice ht.isList hs pl pu .none (by simp) ?_ (by rw[ZQ]<;>lia);rw[xV,<- hlen];refine⟨.ref s.heap.objs.size,_,I.laid (t':=s.toks) (o:=.lst (fy xs lo hi)) (fun b ob q=>Z7 _ q) (ZV _) ?_,rfl,q _<|I.n_.fresh<|ZV _⟩;exact⟨Zn (pP xs lo hi) hz,_,0,(r.drop<|HT.E2 xs.length 0 lo).take<|HT.E2 xs.length xs.length hi - HT.E2 xs.length 0 lo,ZS _ rfl⟩
theorem xX:bt X (.builtin "len") (fun xs H Q=>∃ p ys,xs=[.ref p]/\(Fd X.K H p ys\/E1 X.K H p ys)/\Q (.int ys.length) H):=by
 intro pins s σ H xs us Q I r h;obtain⟨p,ys,rfl,hq,q⟩:=h;obtain⟨u,rfl,rx⟩:=cK r;cases rx;have hn:=gU;rcases hq with hq | hq
 ·obtain⟨f_,r',pl,hz⟩:=I.list hq;have hlen:=r'.length;exact Calls.call_len_list pl.isList (by simp only[ZQ]<;>lia) ⟨.int ys.length,H,I.tok _,⟨s.toks+1,by rw[ZQ,hlen]⟩,q⟩
 ·obtain⟨f_,r',pl,hz⟩:=I.tuple hq;have hlen:=r'.length;exact len_tuple pl (by simp only[ZQ]<;>lia) ⟨.int ys.length,H,I.tok _,⟨s.toks+1,by rw[ZQ,hlen]⟩,q⟩
theorem xY:bt X (.builtin "len") (fun xs H Q=>∃ z,xs=[.str z]/\z.length<=sizeLine/\Q (.int z.length) H):=by
 intro pins s σ H xs us Q I r h;obtain⟨z,rfl,hz,q⟩:=h;obtain⟨u,rfl,t,rfl⟩:=cK r;have hn:=gU;exact len_str (by lia) ⟨.int z.length,H,I.tok _,⟨_,rfl⟩,q⟩
theorem bt.or{f:Value}{r r':List V->Hp->VK->Prop}(h:bt X f r)(h':bt X f r'):bt X f (fun xs H Q=>r xs H Q\/r' xs H Q):=by
 intro pins s σ H xs us Q I rs q;rcases q with q | q
 ·exact h pins s σ H xs us Q I rs q
 ·exact h' pins s σ H xs us Q I rs q
theorem xZ:bt X (.type "list") (fun xs H Q=>∃ p ys,xs=[.ref p]/\(Fd X.K H p ys\/E1 X.K H p ys)/\∀ l,H l=none->Q (.ref l) (upd H l<|.lst ys)):=by
 intro pins s σ H xs us Q I r h;obtain⟨p,ys,rfl,hq,q⟩:=h;obtain⟨u,rfl,rx⟩:=cK r;cases rx;have fin:∀ (f_:List Value),au ys f_->ys.length<=sizeLine->∀ (h':Heap) (c':Nat),(∀ b o',s.heap.get? b=some o'->h'.get? b=some o')->
   h'.get? s.heap.objs.size=some { cls:=.type "list",dict:=none,data:=.seq f_.toArray c',slots:=#[] }->EP X pins σ Q (.ref s.heap.objs.size) { s with heap:=h' }:=fun f_ r' hz h' c' kp e=>
  ⟨.ref s.heap.objs.size,_,I.laid (t':=s.toks) kp (ZV _)<|show bv X.prog X.w _ h' _ (.lst ys) from ⟨hz,f_,c',r',e⟩,rfl,q _<|I.n_.fresh<|ZV _⟩;rcases hq with hq | hq
 ·obtain⟨f_,r',pl,hz⟩:=I.list hq;have hlen:=r'.length;obtain⟨o,ho,hc,n,hd⟩:=pl.isList;exact call_list_seq p (.inl rfl) ho hc hd (fun h' c' kp e=>fin f_ r' hz h' c' kp e) (by simp only[ZQ]<;>lia)
 ·obtain⟨f_,r',pl,hz⟩:=I.tuple hq;have hlen:=r'.length;obtain⟨o,ho,hc,n,hd⟩:=pl;exact call_list_seq p (.inr rfl) ho hc hd (fun h' c' kp e=>fin f_ r' hz h' c' kp e) (by simp only[ZQ]<;>lia)
theorem x5:bt X (.type "tuple") (fun xs H Q=>∃ p ys,xs=[.ref p]/\((Fd X.K H p ys/\∀ l,H l=none->Q (.ref l) (upd H l<|.tup ys))\/(E1 X.K H p ys/\Q (.ref p) H))):=by
 intro pins s σ H xs us Q I r h;obtain⟨p,ys,rfl,h⟩:=h;obtain⟨u,rfl,rx⟩:=cK r;cases rx;rcases h with ⟨hq,q⟩ | ⟨hq,q⟩
 ·obtain⟨f_,r',pl,hz⟩:=I.list hq;have hlen:=r'.length;refine call_tuple_list pl.isList (fun h' kp=>?_) (by simp only[ZQ]<;>lia);have I1:Inv X pins σ H { s with heap:=h' }:=I.kept (t':=s.toks) kp;have I2:Inv X pins σ (upd H h'.objs.size<|.tup ys) { s with heap:=h'.push { cls:=.type "tuple",data:=.seq f_.toArray } }:=
   I1.laid (t':=s.toks) (fun b o e=>Z7 _ e) (ZV _) (show bv X.prog X.w _ _ _ (.tup ys) from ⟨hz,f_,r',IsTup.new _ _⟩);exact⟨.ref h'.objs.size,_,I2,rfl,q _<|I1.n_.fresh<|ZV _⟩
 ·obtain⟨f_,r',pl,hz⟩:=I.tuple hq;exact call_tuple_same pl ⟨.ref p,H,I,rfl,q⟩
def Kb(K:PySem.W.Frag)(T:String)(x:V)(H:Hp):Prop:=match x with
 | .str _=>T = "str"
 | .int _=>T = "int"
 | .ref p=>(T = "list" /\ ∃ xs,Fd K H p xs)\/(T = "tuple" /\ ∃ o,K.lookup p=some o/\o.cls=.type "tuple" /\ o.dict=none)\/
   (T = "dict" /\ ((∃ kvs,H p=some (.dK kvs))\/∃ kvs,H p=some (.dT kvs)))\/(T = "set" /\ ∃ S n,H p=some (.set S n))
 | _=>False
theorem pT{T:String}{x:V}{v:Value}(I:Inv X pins σ H s)(r:ay x v)(ty:Kb X.K T x H):
  s.TypeIs v T/\∀ a,v=.ref a->∃ ob,s.heap.get? a=some ob/\ob.dict=none:=by
 cases x with
 | str z=>
  obtain⟨t,rfl⟩:=r;cases (show T = "str" from ty);exact⟨typeIs_str s z t,fun _ e=>nomatch e⟩
 | int i=>
  obtain⟨t,rfl⟩:=r;cases (show T = "int" from ty);exact⟨typeIs_int s i t,fun _ e=>nomatch e⟩
 | ref p=>
  cases r;rcases ty with ⟨rfl,xs,hq⟩ | ⟨rfl,o,hk,hc,hd⟩ | ⟨rfl,hk⟩ | ⟨rfl,S,n,hk⟩
  ·obtain⟨f_,_,pl,_⟩:=I.list hq;refine⟨pl.isList.typeIs,fun a e=>?_⟩;cases e;obtain⟨o,n,e,c,hd,_⟩:=pl;exact⟨o,e,hd⟩
  ·refine⟨⟨o,I.KD p o hk,hc⟩,fun a e=>?_⟩;cases e;exact⟨o,I.KD _ o hk,hd⟩
  ·have z:∃ o,s.heap.get? p=some o/\o.ExactDict:=by
    rcases hk with ⟨kvs,hk⟩ | ⟨kvs,hk⟩
    ·obtain⟨_,_,_,_,o,_,_,e,ex,_⟩:=I.n_ p _ hk;exact⟨o,e,ex⟩
    ·obtain⟨_,_,_,_,o,_,_,e,ex,_⟩:=I.n_ p _ hk;exact⟨o,e,ex⟩
   obtain⟨o,e,ex⟩:=z;refine⟨⟨o,e,ex.1⟩,fun a e2=>?_⟩;cases e2;exact⟨o,e,ex.2.1⟩
  ·obtain⟨o,_,_,_,e,ex,_⟩:=I.n_ p _ hk;refine⟨⟨o,e,ex.1⟩,fun a e2=>?_⟩;cases e2;exact⟨o,e,ex.2.1⟩
 | _=>exact False.elim ty
def x6(K:PySem.W.Frag)(T:String)(r:V->List V->Hp->VK->Prop)(to:TE):TE:=fun σ H Q=>to σ H fun x H1=>Kb K T x H1/\r x [] H1 Q
def Q8(K:PySem.W.Frag)(T:String)(r:V->List V->Hp->VK->Prop)(to:TE)(t:TA):TE:=fun σ H Q=>to σ H fun x H1=>Kb K T x H1/\t σ H1 fun xs H2=>r x xs H2 Q
variable{o e:Expr}{es:List Expr}{to:TE}{t:TA}{name:Str}{apos Fs:Pos}{T id:String}{r:V->List V->Hp->VK->Prop}
theorem x8(pa:PlainAttrs T)(slot:Slot T name id)(JI:typeOf (.builtin id)=pure (.type "method_descriptor"))(hm:Oq X id r)(ho:PE X o to)(Gr:attributeBase o name X.env (eval o X.env)=eval o X.env:=by rfl)(Gs:(apos.endLine == Fs.line)=true:=by rfl):PE X (.Call (.Attribute o name apos) [] [] Fs) (x6 X.K T r to):=by
 intro pins s σ H Q I h;refine wpAny_Call_method0_late Gr Gs (y_ (ho pins s σ H _ I h) fun v s1 ⟨x,H1,I1,r1,ty,q1⟩=>?_);obtain⟨h1,h2⟩:=pT I1 r1 ty;exact⟨T,id,pa,slot,JI,h1,h2,Calls.callWith_builtin rfl<|PySem.evalArgs_none<|hm pins s1 σ H1 x [] v [] Q I1 r1 .nil q1⟩
theorem x9(pa:PlainAttrs T)(slot:Slot T name id)(JI:typeOf (.builtin id)=pure (.type "method_descriptor"))(hm:Oq X id r)(ho:PE X o to)(ha:PA X (e::es) t)(Gr:attributeBase o name X.env (eval o X.env)=eval o X.env:=by rfl)(KO:((backTo Fs<|starEach (e::es) X.env).all (fun x=>!x.1) && (backToKw Fs<|keywordEach [] X.env).all (fun x=>x.1.isSome)
   && decide ((e::es).length+([]:List Keyword).length+(if ([]:List Keyword).isEmpty then 0 else 1)<30))=true:=by rfl)(Gs:(apos.endLine == Fs.line)=true:=by rfl)(hs:starEach (e::es) X.env=(false,eval e X.env)::starEach es X.env:=by rfl)(Hs:(backTo Fs<|starEach es X.env).any (·.1)=false:=by rfl):
  PE X (.Call (.Attribute o name apos) (e::es) [] Fs) (Q8 X.K T r to t):=by
 intro pins s σ H Q I h;refine wpAny_Call_method_late Gr KO Gs rfl (y_ (ho pins s σ H _ I h) fun v s1 ⟨x,H1,I1,r1,ty,q1⟩=>?_);obtain⟨h1,h2⟩:=pT I1 r1 ty;refine⟨T,id,pa,slot,JI,h1,h2,?_⟩;have hA:=ha Fs pins s1 σ H1 _ I1 q1;rw[hs] at hA ⊢;refine Calls.callWith_builtin (by show (false || (backTo Fs<|starEach es X.env).any (·.1))=false;rw[Hs]<;>rfl) (Calls.evalArgs_plain ?_);exact y_ hA fun us s2 ⟨vs,H2,I2,r2,q2⟩=>hm pins s2 σ H2 x vs v us Q I2 r1 r2 q2
end
def P8(X:Cx)(id:String)(r:V->List V->Hp->VK->Prop):Prop:=
 ∀ (pins:List (Addr×Obj)) (s:Shared) (σ:St) (H:Hp) (x:V) (xs:List V) (v:Value) (us:List Value) (Q:VK),Inv X pins σ H s->ay x v->au xs us->r x xs H Q->
  wpAny (model X.prog X.w) X.A (call (.builtin id) (v::us)) (EP X pins σ Q) X.xe s
theorem au.one:∀ {x:V}{us:List Value},au [x] us->∃ u,us=[u]/\ay x u
 | _,_,.cons r .nil=>⟨_,rfl,r⟩
theorem au.zero:∀ {us:List Value},au [] us->us=[]
 | _,.nil=>rfl
theorem au.dropLast{xs:List V}(h:au xs us):au xs.dropLast us.dropLast:=by
 induction h with
 | nil=>exact .nil
 | cons r t ih=>
  cases t with
  | nil=>exact .nil
  | cons q t'=>exact .cons r ih
theorem au.reverse{xs:List V}(h:au xs us):au xs.reverse us.reverse:=by
 induction h with
 | nil=>exact .nil
 | cons r t ih=>rw[WY,WY];exact au.append ih (.cons r .nil)
theorem ya(l:List α):l.eraseIdx (l.length - 1)=l.dropLast:=by
 induction l with
 | nil=>rfl
 | cons a r ih=>
  cases r with
  | nil=>rfl
  | cons b r=>
   have e:(a::b::r).length - 1=((b::r).length - 1)+1:=by
    have h1:(a::b::r).length=r.length+2:=rfl;have h2:(b::r).length=r.length+1:=rfl;lia
   rw[e,List.eraseIdx_cons_succ,ih];all_goals rfl
section
variable{X:Cx}{pins:List (Addr×Obj)}{σ:St}{H:Hp}{s:Shared}{l b:Addr}{xs ys zs:List V}
theorem Inv.L_{f:Array Value->Array Value}(I:Inv X pins σ H s)(hH:H l=some (.lst xs))(e:s.heap.get? l=some { cls:=.type "list",data:=.seq f_.toArray n })(hf:f f_.toArray=its'.toArray)(hv:au ys its')(hz:ys.length<=sizeLine):
  Inv X pins σ (upd H l<|.lst ys) { s with heap:=s.heap.update l (Obj.mapSeq f),toks:=t' }:=by
 have q:=PySem.IsL.update e f;rw[hf] at q;refine I.write (x:=l) (e:=l) (by rw[hH];exact trivial) (.inl rfl) (fun b' u hb hu=>(Y0 s.heap (Obj.mapSeq f)<|Yb hb).trans hu) ⟨_,q⟩ ?_;exact⟨hz,its',_,hv,q⟩
theorem Inv.Os(I:Inv X pins σ H s)(hv:au ys f_)(hz:ys.length<=sizeLine):
  Inv X pins σ (upd H s.heap.objs.size<|.lst ys) { s with heap:=s.heap.push { cls:=.type "list",data:=.seq f_.toArray },toks:=t' }:=
 I.laid (fun _ _ q=>Z7 _ q) (ZV _) ⟨hz,f_,0,hv,ZS _ rfl⟩
theorem Inv.fresh(I:Inv X pins σ H s):H s.heap.objs.size=none:=I.n_.fresh (ZV _)
theorem Inv.FV(I:Inv X pins σ H s)(hH:H l=some (.lst xs)):xs.length<=sizeLine/\∃ (f_:List Value) (n:Nat),au xs f_/\xs.length=f_.length/\s.heap.get? l=some { cls:=.type "list",data:=.seq f_.toArray n }:=by
 obtain⟨z,f_,n,r,e⟩:=I.n_ l _ hH;exact⟨z,f_,n,r,r.length,e⟩
theorem Eo(h:n<=sizeLine):Builtin.List.listTooLong n=false:=by
 unfold Builtin.List.listTooLong;exact Zs (by lia)
end
section
variable{X:Cx}
def JJ:V->List V->Hp->VK->Prop:=fun x vs H Q=>∃ l xs y,x=.ref l/\vs=[y]/\H l=some (.lst xs)/\xs.length<sizeLine/\Q .l_ (upd H l<|.lst<|xs++[y])
theorem yb:P8 X "list.append" JJ:=by
 intro pins s σ H x vs v us Q I rx rv h;obtain⟨l,xs,y,rfl,rfl,hH,hz,q⟩:=h;cases rx;obtain⟨u,rfl,ru⟩:=rv.one;obtain⟨z,f_,n,r,hl,e⟩:=I.FV hH;refine call_meets F.slot_list_append ⟨_,e,rfl⟩ F.entry_list_append (F.args_list_append_2 _ _) (PySem.list_append l f_.toArray n u (by rw[ZQ];lia)) ⟨e,?_⟩;refine⟨.l_,_,I.L_ (its':=f_++[u]) hH e (by simp) (r.append<|.cons ru .nil) ?_,rfl,q⟩;rw[ZR,Zp];lia
def Ot:V->List V->Hp->VK->Prop:=fun x vs H Q=>∃ l xs y,x=.ref l/\vs=[]/\H l=some (.lst xs)/\xs[xs.length - 1]?=some y/\Q y (upd H l<|.lst xs.dropLast)
theorem yc:P8 X "list.pop" Ot:=by
 intro pins s σ H x vs v us Q I rx rv h;obtain⟨l,xs,y,rfl,rfl,hH,hy,q⟩:=h;cases rx;have Q9:=rv.zero;subst Q9;obtain⟨z,f_,n,r,hl,e⟩:=I.FV hH;obtain⟨u,hu,ru⟩:=r.get hy;have N3:f_.toArray[f_.toArray.size - 1]?=some u:=by
  show f_.toArray[f_.length - 1]?=some u;rw[<- ZD,<- hl];exact hu
 refine call_meets F.slot_list_pop ⟨_,e,rfl⟩ F.entry_list_pop (F.args_list_pop_1 _) (MeetsSeq.list_pop_last l f_.toArray n u N3 (by rw[ZQ];lia)) ⟨e,?_⟩;refine⟨y,_,I.L_ (its':=f_.dropLast) hH e ?_ r.dropLast ?_,ru,q⟩
 ·show f_.toArray.eraseIdxIfInBounds (f_.toArray.size - 1)=f_.dropLast.toArray;rw[ZQ,WL,ya]
 ·rw[List.length_dropLast];lia
def Ou:R2:=fun x y H Q=>∃ l b xs zs,x=.ref l/\y=.ref b/\H l=some (.lst xs)/\H b=some (.lst zs)/\xs.length+zs.length<=sizeLine/\∀ p,H p=none->Q (.ref p) (upd H p<|.lst<|xs++zs)
theorem yd:FD X (binaryOp .Add) Ou:=by
 intro pins s σ H x y v u Q I rx ry h;obtain⟨l,b,xs,zs,rfl,rfl,hH,hB,hz,q⟩:=h;cases rx;cases ry;obtain⟨z,f_,n,r,hl,e⟩:=I.FV hH;obtain⟨z2,FG,n2,r2,Jt,e2⟩:=I.FV hB;refine PySem.P.add_list e e2 ?_ (by rw[ZQ,ZQ];lia);have ea:f_.toArray++FG.toArray=(f_++FG).toArray:=by simp
 rw[ea];exact⟨.ref _,_,I.Os (t':=s.toks) (r.append r2) (by rw[ZR];lia),rfl,q _ I.fresh⟩
end
section
variable{prog:Program}{w:World}{A:Around}{E:Value->Shared->Prop}{s:Shared}
end
section
variable{X:Cx}
end
section
variable{κ:Type}[DecidableEq κ]
def cN(kvs:List (κ×V))(k:κ):Option V:=(kvs.find? fun kv=>decide (kv.1=k)).map (·.2)
def cY(kvs:List (κ×V))(k:κ)(v:V):List (κ×V):=
 if (kvs.any fun kv=>decide (kv.1=k))=true then kvs.map (fun kv=>if kv.1=k then (kv.1,v) else kv) else kvs++[(k,v)]
theorem kh{p:κ×V}{r:List (κ×V)}{k:κ}(e:p.1=k):cN (p::r) k=some p.2:=by simp[cN,Yf,e]
theorem kj{p:κ×V}{r:List (κ×V)}{k:κ}(e:¬ p.1=k):cN (p::r) k=cN r k:=by simp[cN,Yf,e]
theorem pU(k:κ):∀ kvs:List (κ×V),(kvs.any fun kv=>decide (kv.1=k))=(cN kvs k).isSome
 | []=>rfl
 | p::r=>by
  rw[Xt];by_cases e:p.1=k
  ·simp only[kh e,Zu e,Bool.true_or,Option.isSome_some]
  ·rw[kj e,Zs e,Bool.false_or];exact pU k r
theorem pV(kvs:List (κ×V))(k:κ)(v:V):(cY kvs k v).length<=kvs.length+1:=by
 unfold cY;split
 ·rw[Z3];lia
 ·rw[ZR,ZJ,Xy];lia
theorem dW.Fg{u:Option Value}(r:dW o u):o.isSome=u.isSome:=by
 cases o with
 | none=>cases u with
  | none=>rfl
  | some _=>exact (show False from r).elim
 | some _=>cases u with
  | none=>exact (show False from r).elim
  | some _=>rfl
theorem KV.val{kvs:List (κ×V)}{vs:List (κ×Value)}(r:KV kvs vs)(k:κ):dW (cN kvs k) (valueAt vs k):=by
 unfold KV at r;induction r with
 | nil=>exact True.intro
 | @cons p q ps qs h t ih=>
  obtain⟨h1,h2⟩:=h;by_cases e:p.1=k
  ·have e':q.1=k:=h1.symm.trans e;have b:valueAt (q::qs) k=some q.2:=by simp[valueAt,Yf,e']
   rw[kh e,b];exact h2
  ·have e':¬ q.1=k:=fun z=>e (h1.trans z);have b:valueAt (q::qs) k=valueAt qs k:=by simp[valueAt,Yf,e']
   rw[kj e,b];exact ih
theorem KV.any{kvs:List (κ×V)}{vs:List (κ×Value)}(r:KV kvs vs)(k:κ):(kvs.any fun kv=>decide (kv.1=k))=vs.any fun kv=>decide (kv.1=k):=by
 unfold KV at r;induction r with
 | nil=>rfl
 | cons h t ih=>rw[Xt,Xt,ih,h.1]
theorem KV.KP{kvs:List (κ×V)}{vs:List (κ×Value)}(r:KV kvs vs)(k:κ){y:V}{u:Value}(ry:ay y u):
  KV (kvs.map fun kv=>if kv.1=k then (kv.1,y) else kv) (vs.map fun kv=>if kv.1=k then (kv.1,u) else kv):=by
 unfold KV at r ⊢;induction r with
 | nil=>exact .nil
 | @cons p q ps qs h t ih=>
  rw[ZF,ZF];refine .cons ?_ ih;obtain⟨h1,h2⟩:=h;by_cases e:p.1=k
  ·rw[ZY e,ZY<|h1.symm.trans e];exact⟨h1,ry⟩
  ·rw[ZW e,ZW<|fun z=>e<|h1.trans z];exact⟨h1,h2⟩
theorem KV.put{kvs:List (κ×V)}{vs:List (κ×Value)}(r:KV kvs vs)(k:κ){y:V}{u:Value}(ry:ay y u):KV (cY kvs k y) (stored vs k u):=by
 unfold cY stored;rw[r.any k];by_cases e:(vs.any fun kv=>decide (kv.1=k))=true
 ·rw[ZY e,ZY e];exact r.KP k ry
 ·rw[ZW e,ZW e];exact Paired.snoc r ⟨rfl,ry⟩
theorem KV.length{kvs:List (κ×V)}{vs:List (κ×Value)}(r:KV kvs vs):kvs.length=vs.length:=Ww r
end
theorem kl{k:Key}{u:Value}(r:ay (kV k) u):(ft P w).is k u=true:=by
 cases k with
 | inl i=>obtain⟨t,e⟩:=(show ∃ t,u=Value.int i t from r);subst e;exact vq P w i t
 | inr x=>obtain⟨t,e⟩:=(show ∃ t,u=Value.str x t from r);subst e;exact vw P w x t
abbrev KT(H:Hp):List (List Im×V)->List (List Im×Addr×Value)->Prop:=Paired fun p q=>p.1=q.1/\H_ H p.1 q.2.1/\ay p.2 q.2.2
theorem KT.val(r:KT H kvs xs)(k:List Im):dW (cN kvs k) ((atKey xs k).map (·.2)):=by
 induction r with
 | nil=>exact True.intro
 | @cons p q ps qs h t ih=>
  obtain⟨h1,_,h2⟩:=h;by_cases e:p.1=k
  ·have e':q.1=k:=h1.symm.trans e;have b:atKey (q::qs) k=some q.2:=by simp[atKey,Yf,e']
   rw[kh e,b];exact h2
  ·have e':¬ q.1=k:=fun z=>e (h1.trans z);have b:atKey (q::qs) k=atKey qs k:=by simp[atKey,Yf,e']
   rw[kj e,b];exact ih
theorem KT.KP(r:KT H kvs xs)(k:List Im){y:V}{u:Value}(ry:ay y u):
  KT H (kvs.map fun kv=>if kv.1=k then (kv.1,y) else kv) (xs.map<|putAt k u):=by
 induction r with
 | nil=>exact .nil
 | @cons p q ps qs h t ih=>
  rw[ZF,ZF];refine .cons ?_ ih;obtain⟨h1,h2,h3⟩:=h;unfold putAt;by_cases e:p.1=k
  ·rw[ZY e,ZY<|h1.symm.trans e];exact⟨h1,h2,ry⟩
  ·rw[ZW e,ZW<|fun z=>e<|h1.trans z];exact⟨h1,h2,h3⟩
theorem KT.put(r:KT H kvs xs)(k:List Im){b:Addr}{y:V}{u:Value}(hb:H_ H k b)(ry:ay y u):
  KT H (cY kvs k y) (storedH xs k b u):=by
 have e:(kvs.any fun kv=>decide (kv.1=k))=(atKey xs k).isSome:=by
  rw[pU,(r.val k).Fg,WX]
 unfold cY storedH;rw[e];by_cases q:(atKey xs k).isSome=true
 ·rw[ZY q,ZY q];exact r.KP k ry
 ·rw[ZW q,ZW q];exact Paired.snoc r ⟨rfl,hb,ry⟩
theorem KT.keeps(r:KT H kvs xs)(ht:∀ b ys,H b=some (.tup ys)->H' b=some (.tup ys)):KT H' kvs xs:=
 Paired.JC r fun _ _ z=>⟨z.1,z.2.1.mono ht,z.2.2⟩
section
variable{P:Program}{w:World}{H:Hp}{h:Heap}{a:Addr}
theorem pW{u:HO}(ok:FH P w H h)(e:Rd H a u):bv P w H h a u:=e.ok ok
theorem gW{kvs:List (Key×V)}(ok:FH P w H h)(e:Rd H a (.dK kvs)):kvs.length<=sizeLine/\(a == sysModules)=false/\∃ vs,KV kvs vs/\h.DictOf (ft P w) a vs:=
 show bv P w H h a (.dK kvs) from pW ok e
theorem ye{kvs:List (Key×V)}(ok:FH P w H h)(e:H a=some (.dK kvs)):kvs.length<=sizeLine/\(a == sysModules)=false/\∃ vs,KV kvs vs/\h.DictOf (ft P w) a vs:=gW ok (.inl e)
mutual
theorem E7.Gh(ok:FH P w H h):∀ {d:Im}{v:V}{u:Value},E7 H d v->ay v u->FF h d u
 | .l_,_,_,e,r=>by cases (show _=V.l_ from e);exact r
 | .bl b,_,_,e,r=>by cases (show _=V.bl b from e);exact r
 | .int i,_,_,e,r=>by cases (show _=V.int i from e);exact r
 | .str x,_,_,e,r=>by cases (show _=V.str x from e);exact r
 | .fn a,_,_,e,r=>by cases (show _=V.ref a from e);exact r
 | .tup ds,_,_,e,r=>by
  obtain⟨a,xs,rfl,h1,h2⟩:=e;cases r;obtain⟨_,f_,rv,o,g1,g2,n,g3⟩:=(show bv P w H h a (.tup xs) from ok a _ h1);exact⟨a,o,f_.toArray,n,rfl,g1,g2,g3,by simpa using am.Gh ok h2 rv⟩
 | .fl ds,_,_,e,r=>by
  obtain⟨a,xs,o,rfl,h1,h2⟩:=e;cases r;exact⟨a,rfl⟩
 | .fd,_,_,e,r=>by
  obtain⟨a,o,rfl,h1⟩:=e;cases r;exact⟨a,rfl⟩
theorem am.Gh(ok:FH P w H h):∀ {ds:List Im}{vs:List V}{us:List Value},am H ds vs->au vs us->aU h ds us
 | [],_,_,e,r=>by cases (show _=[] from e);cases r;rfl
 | d::ds,_,_,e,r=>by
  obtain⟨v,t,rfl,h1,h2⟩:=e;cases r with
  | cons r1 r2=>exact⟨_,_,rfl,E7.Gh ok h1 r1,am.Gh ok h2 r2⟩
end
theorem gX{ks:List Im}(ok:FH P w H h)(e:H_ H ks a):(bD P w).is h ks a:=⟨e.1,e.2.Gh ok rfl⟩
theorem km{P:Program}{w:World}{A:Around}(h:A.units+20<cLine):(bD P w).room A.in1:=show A.units+1+10<cLine by lia
theorem iW(ok:FH P w H h)(e:Rd H a (.dT kvs)):kvs.length<=sizeLine/\(a == sysModules)=false/\
  ∃ xs,KT H kvs xs/\h.DictOfH (bD P w) a xs:=by
 obtain⟨z,y,xs,r,o,es,ep,h1,h2,h3,h4,h5⟩:=(show bv P w H h a (.dT kvs) from pW ok e);refine⟨z,y,xs,r,o,es,ep,h1,h2,h3,h4,fun x hx=>?_,h5⟩;have all:∀ {l:List (List Im×V)}{m:List (List Im×Addr×Value)},KT H l m->∀ x∈m,(bD P w).is h x.1 x.2.1:=by
  intro l m q;induction q with
  | nil=>intro x hx;exact nomatch hx
  | @cons p q ps qs hq t ih=>
   intro x hx;rcases ZG.mp hx with e | hx
   ·subst e;exact gX ok (by rw[<- hq.1];exact hq.2.1)
   ·exact ih x hx
 exact all r x hx
theorem pX(ok:FH P w H h)(e:H a=some (.dT kvs)):kvs.length<=sizeLine/\(a == sysModules)=false/\
  ∃ xs,KT H kvs xs/\h.DictOfH (bD P w) a xs:=iW ok (.inl e)
end
def b7(H:Hp)(a:Addr)(y:V)(r:Option V):Prop:=
 (∃ kvs k,Rd H a (.dK kvs)/\y=kV k/\r=cN kvs k)\/∃ kvs k b,Rd H a (.dT kvs)/\y=.ref b/\H_ H k b/\r=cN kvs k
def gf(H:Hp)(a:Addr)(y v:V)(H':Hp):Prop:=
 (∃ kvs k,H a=some (.dK kvs)/\y=kV k/\kvs.length<sizeLine/\H'=upd H a (.dK<|cY kvs k v))\/
 ∃ kvs k b,H a=some (.dT kvs)/\y=.ref b/\H_ H k b/\kvs.length<sizeLine/\H'=upd H a (.dT<|cY kvs k v)
theorem b7.k{H:Hp}{a:Addr}{kvs:List (Key×V)}{k:Key}(e:H a=some (.dK kvs)):b7 H a (kV k) (cN kvs k):=.inl ⟨kvs,k,.inl e,rfl,rfl⟩
theorem b7.t{k:List Im}(e:H a=some (.dT kvs))(eb:H_ H k b):b7 H a (.ref b) (cN kvs k):=.inr ⟨kvs,k,b,.inl e,rfl,eb,rfl⟩
theorem gf.k{H:Hp}{a:Addr}{kvs:List (Key×V)}{k:Key}{v:V}(e:H a=some (.dK kvs))(hl:kvs.length<sizeLine):gf H a (kV k) v (upd H a<|.dK<|cY kvs k v):=.inl ⟨kvs,k,e,rfl,hl,rfl⟩
theorem gf.t{k:List Im}{v:V}(e:H a=some (.dT kvs))(eb:H_ H k b)(hl:kvs.length<sizeLine):
  gf H a (.ref b) v (upd H a<|.dT<|cY kvs k v):=.inr ⟨kvs,k,b,e,rfl,eb,hl,rfl⟩
section
variable{X:Cx}{pins:List (Addr×Obj)}{σ:St}{H:Hp}{s:Shared}{a:Addr}{y v:V}{u r:Value}{o:Option V}{A:Around}{E:Value->Shared->Prop}
theorem Inv.big(I:Inv X pins σ H s):sysModules<s.heap.objs.size:=by
 have h:mainGlobals<s.heap.objs.size:=(I.mod.glob.keeps I.bk).lt;exact Wh (by decide) h
theorem yf(hu:A.units+20<cLine)(I:Inv X pins σ H s)(g:b7 H a y (some v))(ry:ay y u)(h:∀ w' s',Inv X pins σ H s'->ay v w'->Q w' s'):
  wpAny (model X.prog X.w) A (getItem (.ref a) u) Q E s:=by
 rcases g with ⟨kvs,k,e,ey,l⟩ | ⟨kvs,k,b,e,ey,eb,l⟩
 ·subst ey;obtain⟨z,hd,vs,rel,dd⟩:=gW I.n_ e;obtain⟨w',hw,IL⟩:=dW.some_of (v:=v) (o:=valueAt vs k) (by rw[l];exact rel.val k);exact wpAny_getItem_of (kl ry) dd.mapOf hw (h w' _ (I.tok _) IL)
 ·subst ey;cases (show u=Value.ref b from ry);obtain⟨z,hd,xs,rel,dd⟩:=iW I.n_ e;obtain⟨w',hw,IL⟩:=dW.some_of (v:=v) (o:=(atKey xs k).map (·.2)) (by rw[l];exact rel.val k);obtain⟨p,hp,Ig⟩:=Z2.mp hw;refine wpAny_getItem_heap (km hu) (gX I.n_ eb) dd hp ?_;rw[Ig];exact h w' _ (I.tok _) IL
theorem mh(hu:A.units+20<cLine)(I:Inv X pins σ H s)(g:b7 H a y o)(ry:ay y u)(h:∀ s',Inv X pins σ H s'->Q (.bool o.isSome) s'):
  wpAny (model X.prog X.w) A (compareOp .In u<|.ref a) Q E s:=by
 rcases g with ⟨kvs,k,e,ey,l⟩ | ⟨kvs,k,b,e,ey,eb,l⟩
 ·subst ey;obtain⟨z,hd,vs,rel,dd⟩:=gW I.n_ e;refine wpAny_in_of (kl ry) hd dd.mapOf ?_;rw[<- (rel.val k).Fg,<- l];exact h _ (I.tok _)
 ·subst ey;cases (show u=Value.ref b from ry);obtain⟨z,hd,xs,rel,dd⟩:=iW I.n_ e;refine wpAny_in_heap (km hu) (gX I.n_ eb) hd dd ?_;have q:=(rel.val k).Fg;rw[WX] at q;rw[<- q,<- l];exact h _ (I.tok _)
theorem mo(hu:A.units+20<cLine)(I:Inv X pins σ H s)(g:b7 H a y o)(ry:ay y u)(h:∀ s',Inv X pins σ H s'->Q (.bool<|!o.isSome) s'):
  wpAny (model X.prog X.w) A (compareOp .NotIn u<|.ref a) Q E s:=by
 rcases g with ⟨kvs,k,e,ey,l⟩ | ⟨kvs,k,b,e,ey,eb,l⟩
 ·subst ey;obtain⟨z,hd,vs,rel,dd⟩:=gW I.n_ e;refine wpAny_notIn_of (kl ry) hd dd.mapOf ?_;rw[<- (rel.val k).Fg,<- l];exact h _ (I.tok _)
 ·subst ey;cases (show u=Value.ref b from ry);obtain⟨z,hd,xs,rel,dd⟩:=iW I.n_ e;refine wpAny_notIn_heap (km hu) (gX I.n_ eb) hd dd ?_;have q:=(rel.val k).Fg;rw[WX] at q;rw[<- q,<- l];exact h _ (I.tok _)
theorem mq{ob:HO}(I:Inv X pins σ H s)(mu:LT (H a))(hs:Heap.SameBut a s.heap h')(he:∃ q,h'.get? a=some q)(new:bv X.prog X.w (upd H a ob) h' a ob):
  Inv X pins σ (upd H a ob) { s with heap:=h',toks:=t' }:=
 I.write (x:=a) (e:=a) mu (.inl rfl) (fun b q hb z=>(hs.2 b hb).trans z) he new
theorem yg{kvs:List (Key×V)}{vs:List (Key×Value)}(z:kvs.length<=sizeLine)(hd:(a == sysModules)=false)(rel:KV kvs vs)(dd:h'.DictOf (ft P w) a vs):
  bv P w H' h' a (.dK kvs):=⟨z,hd,vs,rel,dd⟩
theorem pY{Q:Unit->Shared->Prop}(hu:A.units+20<cLine)(I:Inv X pins σ H s)(g:gf H a y v H')(ry:ay y u)(rv:ay v r)(h:∀ s',Inv X pins σ H' s'->Q () s'):
  wpAny (model X.prog X.w) A (setItem (.ref a) u r) Q E s:=by
 rcases g with ⟨kvs,k,e,ey,l,eH⟩ | ⟨kvs,k,b,e,ey,eb,l,eH⟩
 ·subst ey eH;obtain⟨z,hd,vs,rel,dd⟩:=ye I.n_ e;have hz:vs.length<=sizeLine:=by rw[<- rel.length];exact z
  have hl:(cY kvs k v).length<=sizeLine:=by have:=pV kvs k v;lia
  refine wpAny_setItem_pairs (hsz:=hz) (kl ry) dd fun h' Kc hs=>h _ ?_;have he:∃ q,h'.get? a=some q:=let ⟨q,_,_,hq,_⟩:=Kc;⟨q,hq⟩
  exact mq I (by rw[e];exact True.intro) hs he (yg hl hd (rel.put k rv) Kc)
 ·subst ey eH;cases (show u=Value.ref b from ry);obtain⟨z,hd,xs,rel,dd⟩:=pX I.n_ e;have hz:xs.length<=sizeLine:=by rw[<- Ww rel];exact z
  have hl:(cY kvs k v).length<=sizeLine:=by have:=pV kvs k v;lia
  refine wpAny_setItem_heap (hsz:=hz) (km hu) (gX I.n_ eb) dd fun h' Kc hs=>h _ ?_;obtain⟨q,es,ep,hq,h2,h3,h4,_,h5⟩:=Kc;refine mq I (by rw[e];exact True.intro) hs ⟨q,hq⟩ ⟨hl,hd,_,(rel.put k eb rv).keeps fun c ys ec=>?_,q,es,ep,hq,h2,h3,h4,h5⟩;rw[aD (oW ec e<|fun z=>nomatch z)];exact ec
end
section
variable{X:Cx}{pins:List (Addr×Obj)}{σ:St}{H:Hp}{s:Shared}{a:Addr}{kvs:List (Key×V)}{k:Key}{u:Value}{A:Around}{E:Value->Shared->Prop}
theorem yh(I:Inv X pins σ H s)(e:Rd H a (.dK kvs))(h:∀ t s',Inv X pins σ H s'->Q (.int kvs.length t) s'):wpAny (model X.prog X.w) A (call (.builtin "len") [.ref a]) Q E s:=by
 obtain⟨z,hd,vs,rel,dd⟩:=gW I.n_ e;refine call_len_dict hd dd (by rw[<- rel.length];rw[sizeLine_eq] at z;lia) ?_;rw[<- rel.length];exact h _ _ (I.tok _)
end
theorem yi{X:Cx}{y:V}(I:Inv X pins σ H s)(g:b7 H a y o):s.TypeIs (.ref a) "dict" := by
 rcases g with ⟨kvs,k,e,_,_⟩ | ⟨kvs,k,b,e,_,_,_⟩
 ·obtain⟨_,_,vs,_,dd⟩:=gW I.n_ e;exact dd.typeIs
 ·obtain⟨_,_,xs,_,dd⟩:=iW I.n_ e;exact dd.typeIs
section
variable{X:Cx}{o i e value:Expr}{pos pos' Oj:Pos}{td ty tv:TE}
end
theorem pZ(h:Heap)(hb:sysModules<h.objs.size):bv P w H (h.push { cls:=.type "dict",data:=.dict #[] }) h.objs.size (.dT []):=
 ⟨Yz _,beq_eq_false_iff_ne.mpr<|Yb<|Zx hb,[],.nil,_,#[],0,ZS _ rfl,⟨rfl,rfl,rfl⟩,rfl,rfl,YG⟩
def KQ:TE:=fun _ H Q=>∀ p,H p=none->Q (.ref p) (upd H p<|.dT [])
section
variable{X:Cx}{pos:Pos}
theorem yj:PE X (.Dict [] [] pos) KQ:=fun pins s σ H Q I h=>
 wpAny_Dict_empty ⟨.ref s.heap.objs.size,_,I.laid (a:=s.heap.objs.size) (o:=.dT []) (t':=s.toks) (fun _ _ q=>Z7 _ q) (ZV _)<|pZ s.heap I.big,rfl,h _<|I.n_.fresh<|ZV _⟩
end
section
variable{X:Cx}{pins:List (Addr×Obj)}{σ:St}{H:Hp}{s:Shared}{a:Addr}{y d:V}{u r:Value}{o:Option V}{A:Around}{E:Value->Shared->Prop}
end
section
variable{X:Cx}{o e f:Expr}{apos Fs:Pos}{td ty tx:TE}
end
section
variable{X:Cx}{pins:List (Addr×Obj)}{σ:St}{H:Hp}{s:Shared}{a:Addr}{kvs:List (Key×V)}{A:Around}{E:Value->Shared->Prop}
end
section
variable{X:Cx}{pins:List (Addr×Obj)}{σ:St}{H:Hp}{s:Shared}{a:Addr}{y:V}{u:Value}{A:Around}{E:Value->Shared->Prop}
end
end L2
namespace P9
open PySem PySem.W PySem.Calls PyProof.Rows
variable{n:Nat}{l:OpenLaw}
theorem yk{P:Params}{h:Heap}:∀ (ns:List Int) (vs:List Value),WellAll P h vs (ns.map WData.int)->IntsAre vs ns:=by
 intro ns;induction ns with
 | nil=>
  intro vs w;rw[List.map_nil] at w;cases w;exact .nil
 | cons n ns ih=>
  intro vs w;rw[ZF] at w;cases w with
  | cons a b=>
   cases a;exact .cons _ _ (ih _ b)
theorem yl(hn:l.most=some n){P:Params}{h:Heap}{args:List WData}{vals:List Value}(JK:l.row.toRowW.claim.pre args=true)(Ov:WellAll P h vals args):
  ∃ a vs ns,vals=[Value.ref a]/\args=[WData.list (ns.map WData.int)]/\h.get? a=some { cls:=.type "list",data:=.seq vs.toArray }/\IntsAre vs ns/\ns.length<=n:=by
 have Q_:WShape.hasAll [] args [.list .int]=true:=(pre_splitW JK).1;have hc:l.pre.holds [] { args:=args }=true:=(pre_splitW JK).2;obtain⟨d,r,rfl,h1,h2⟩:=hasAllW_cons Q_;obtain rfl:=hasAllW_nil h2;obtain⟨xs,rfl,h3⟩:=hasW_list h1;obtain⟨ns,rfl⟩:=items_int h3;have hlen:ns.length<=n:=by
  unfold OpenLaw.pre at hc;have h4:(WTm.not<|.lt (.lit<|.int (n:Int))<|.len<|.arg 0).holds [] { args:=[.list (ns.map .int)] }=true:=by
   have h4:=(holds_andW hc).1;rw[hn] at h4;exact h4
  have h5:=condW_of h4 (w_not<|w_lt w_lit<|w_len_list<|w_arg rfl);rw[Z3] at h5;refine Nat.le_of_not_lt fun q=>?_;have q':(n:Int)<((ns.length:Nat):Int):=by lia
  first
   | (rw[Zu q'] at h5;exact absurd h5 (by decide))
   | (simp at h5;lia)
 cases Ov with
 | cons w1 w2=>
  cases w2;cases w1 with
  | list ho JL=>exact⟨_,_,ns,rfl,rfl,ho,yk ns _ JL,hlen⟩
theorem ym(l:OpenLaw)(args:List WData):l.row.toRowW.claim.post args (.bool true) args=true:=
 postW_of (r:=l.row.toRowW) (X:=(true == true))
  (show WShape.has [] (.bool true) .bool=true by first | rfl | decide | simp[WShape.has,WShape.arms,WShape.armsAll])
  (show (WTm.eq .res<|.lit<|.bool true).value [] { args:=args,res:=some (.bool true),after:=args }=some (.bool<|true == true) from w_eq_bool (w_res rfl) w_lit) rfl
theorem Hg{q:Program}{loose:List Str}{XP:(Str->Option Value)->Heap->Prop}{YP:World->Heap->Prop}{d:DefRec}(hn:l.most=some n)(Ma:d.params.defaults=[])(call:∀ (w:World) (s₀ s₁:Shared) (mg mb:Str->Option Value) (fa:Addr) (o:Obj) (pm cd doc:Value) (a:Addr) (vs:List Value) (ns:List Int),
   Ground q loose [] XP w s₀ mg mb s₁.heap->YP w s₁.heap->
   s₁.heap.get? fa=some o->o.data=.func (docDef d.name d.params d.body d.scope pm cd doc)->s₁.heap.CodeRec cd d.name->mg d.name=some (.ref fa)->
   s₁.heap.get? a=some { cls:=.type "list",data:=.seq vs.toArray }->IntsAre vs ns->ns.length<=n->s₁.gens=#[]->
   codeAny (model l.prog w) callerA (.call (.ref fa) ⟨[.ref a],[]⟩) (fun r s'=>r=.ok (.ret<|.bool true)/\OldK s₁.heap s'.heap/\s'.os=s₁.os/\AllBare s'.gens) s₁):
  WalkO q loose XP YP l.row.toRowW d [] (fun f vs=>PySem.call f vs):=by
 intro w s₀ s₁ mg mb G Y fa o pm cd doc dV kV ho hd Ic hD hmg hg args vals as JK Rc Tl Ov Re;obtain rfl:dV=.none:=Dflts.none hD Ma;obtain rfl:kV=.none:=Dflts.noKw hD;obtain⟨a,vs,ns,rfl,rfl,KR,hints,hlen⟩:=yl hn JK Ov;refine enter_call (Wi (call w s₀ s₁ mg mb fa o pm cd doc a vs ns G Y ho (fd_plain hd) Ic hmg KR hints hlen hg) fun r s' hq=>?_);obtain⟨rfl,h2,h3,h4⟩:=hq;exact⟨.inl ⟨.bool true,.bool true,[],rfl,fun _=>rfl,.bool true,ym l _,fun _=>⟨List.Pairwise.nil,fun _ hm=>(nomatch hm)⟩⟩,h2,h3,h4⟩
section
variable{prog:Program}{w:World}{A:Around}{E:Value->Shared->Prop}{s:Shared}{K:Frag}
end
end P9
namespace L2
open PySem PySem.Spec PyProof.Rows
variable{ps:List Str}{f:Addr}{st:Stmt}{qual x:Str}{fd:FuncData}{k:Nat}
theorem qc:∀ {vs:List Value}{ns:List Int},IntsAre vs ns->au (ns.map V.int) vs
 | _,_,.nil=>.nil
 | _,_,.cons n t h=>.cons ⟨t,rfl⟩ (qc h)
def kn(H:Hp):Prop:=∀ b,H b=none\/∃ o xs,H b=some (.Fj o<|.lst xs)
theorem yn{P:Program}{w:World}{K:PySem.W.Frag}{mg mb:Str->Option Value}{CX:IN}{fa a:Addr}{sp:Sp}{s₁:Shared}{vs:List Value}{ns:List Int}(KX:K.In s₁.heap)(Ow:s₁.heap.Ns mainGlobals mg)(hb:s₁.heap.Ns builtinsNs mb)(Rf:∀ x:Str,x ≠ "__name__" -> mb x=bootBuiltins x)(Ox:s₁.heap.NoLimit)(hg:s₁.gens=#[])(ha:s₁.heap.get? a=some { cls:=.type "list",data:=.seq vs.toArray })(hi:IntsAre vs ns)(hl:ns.length<=sizeLine)(hr:E8 k callerA)(F:∀ base:Heap,K.In base->base.Ns mainGlobals mg->FJ P w K mg base CX k fa fd [x] sp)(Mb:∀ (s:Shared) (u:Value),BindsTo s fd ⟨[u],[]⟩ [(x,u)])(Ka:∀ H:Hp,kn H->Fd K H a (ns.map V.int)->sp [.ref a] H (fun v _=>v=.bl true) fun _ _ _=>False)(Oy:∀ H e s',CX [] H s₁ (fun _ _ _=>False) e s'->False):
  codeAny (model P w) callerA (.call (.ref fa) ⟨[.ref a],[]⟩) (fun r s'=>r=.ok (.ret<|.bool true)/\OldK s₁.heap s'.heap/\s'.os=s₁.os/\AllBare s'.gens) s₁:=by
 have rv:=qc hi;have Oz:=hi.length;have core:∀ H:Hp,kn H->Fd K H a (ns.map V.int)->FH P w H s₁.heap->(∀ b,H b≠none->b=a)->(H a≠none->K.lookup a=none)->
   codeAny (model P w) callerA (.call (.ref fa) ⟨[.ref a],[]⟩) (fun r s'=>r=.ok (.ret<|.bool true)/\OldK s₁.heap s'.heap/\s'.os=s₁.os/\AllBare s'.gens) s₁:=by
  intro H hO hS n_ hA hK;have HL:∀ {b:Addr}{o:Obj},s₁.heap.get? b=some o->H b=none->(er s₁.heap H).get? b=some o:=fun e n=>vy e n;have L7:∀ {b:Addr}{o:Obj}{es:Array DictEntry}{ep:Nat},s₁.heap.get? b=some o->o.data=.dict es ep->H b=none:=fun {b o es ep} e d=>by
   cases q:H b with
   | none=>rfl
   | some u=>
    have e':b=a:=hA b (by rw[q];simp);subst e';rw[ha] at e;cases e;have d':Data.seq vs.toArray _=Data.dict es ep:=d;cases d'
  have NA:∀ {b:Addr}{m:Str->Option Value},s₁.heap.Ns b m->(er s₁.heap H).Ns b m:=fun {b m} ⟨o,es,ep,e,d,r⟩=>⟨o,es,ep,HL e<|L7 e d,d,r⟩;have P':K.In (er s₁.heap H):=fun b o e=>HL (KX b o e) (by
   cases q:H b with
   | none=>rfl
   | some u=>
    have e':b=a:=hA b (by rw[q];simp);subst e';rw[hK (by rw[q];simp)] at e;cases e)
  have hM:Mod K mg (er s₁.heap H):=⟨P',NA Ow,⟨mb,NA hb,Rf⟩,let ⟨mc,h1,h2⟩:=Ox;⟨mc,NA h1,h2⟩⟩;have e0:JG P w K mg (er s₁.heap H) callerA [] s₁ H:=⟨rfl,hM,fun b o e=>vz e,Nat.le_of_eq<|vx _ _,trivial,fun b hb=>absurd (show b∈([]:List Addr) from hb) (by simp),n_,.of_eq hg⟩;refine Wi ((F _ P'<|NA Ow).run callerA [] s₁ H ⟨[.ref a],[]⟩ [.ref a] [.ref a] _ _ hr e0 (Mb s₁<|.ref a) (.cons rfl .nil)<|Ka H hO hS) fun r s' h=>?_;cases r with
  | error e=>exact (Oy H e s' h).elim
  | ok fl=>
   cases fl with
   | next=>exact False.elim h
   | brk=>exact False.elim h
   | cont=>exact False.elim h
   | ret u=>
    obtain⟨v,H',os,bare,un,IS,r',q⟩:=h;have q':v=.bl true:=q;subst q';obtain rfl:u=Value.bool true:=r';refine⟨rfl,OldK.of_keep fun b o e=>?_,os,bare⟩;cases q:H b with
    | none=>exact un.keep b o e q (by intro z;exact absurd (show b∈([]:List Addr) from z) (by simp)) (by simp)
    | some u=>
     rcases hO b with z | ⟨ob,xs,z⟩
     ·rw[q] at z;cases z
     ·have z2:=un.Go b ob _ z;obtain⟨e1,_⟩:=n_ b _ z;obtain⟨e2,_⟩:=IS b _ z2;rw[e] at e1;cases e1;exact e2
 cases hk:K.lookup a with
 | some o=>
  have e:=KX a o hk;rw[ha] at e;cases e;refine core (fun _=>none) (fun _=>.inl rfl) (.inr ⟨_,vs.toArray,_,hk,rfl,rfl,rfl,by rw[ZQ,Oz];exact hl,by simpa using rv⟩) (fun b u z=>by have z':(none:Option HO)=some u:=z;cases z') (fun b z=>absurd rfl z) fun z=>absurd rfl z
 | none=>
  refine core (fun b=>if b=a then some (.Fj { cls:=.type "list",data:=.seq vs.toArray } (.lst<|ns.map V.int)) else none) (fun b=>?_) (.inl<|.inr ⟨{ cls:=.type "list",data:=.seq vs.toArray },ZY rfl⟩) (fun b u z=>?_) (fun b z=>?_) fun _=>hk
  ·by_cases hb:b=a
   ·exact .inr ⟨_,_,ZY hb⟩
   ·exact .inl (ZW hb)
  ·by_cases hb:b=a
   ·have z':=(ZY hb).symm.trans z;cases z';subst hb;exact⟨ha,by rw[Z3];exact hl,vs,_,rv,ha⟩
   ·have z':=(ZW hb).symm.trans z;cases z'
  ·by_cases hb:b=a
   ·exact hb
   ·exact absurd (ZW hb) z
theorem yo{l:PySem.W.OpenLaw}{n:Nat}{q:Program}{loose:List Str}{XP:(Str->Option Value)->Heap->Prop}{YP:World->Heap->Prop}{d:DefRec}{K:Params->PySem.W.Frag}{CX:World->IN}{sp:World->Sp}(hn:l.most=some n)(OA:n<=sizeLine)(Ma:d.params.defaults=[])(hr:E8 k callerA)(hY:∀ (w:World) (h:Heap),YP w h->(K w.params).In h)(F:∀ (w:World) (mg:Str->Option Value) (fa:Addr) (h:Heap),(K w.params).In h->h.Ns mainGlobals mg->mg d.name=some (.ref fa)->
   ∃ fd:FuncData,(∀ (s:Shared) (u:Value),BindsTo s fd ⟨[u],[]⟩ [(x,u)])/\
    ∀ base:Heap,(K w.params).In base->base.Ns mainGlobals mg->FJ l.prog w (K w.params) mg base (CX w) k fa fd [x] (sp w))(Ka:∀ (w:World) (H:Hp) (a:Addr) (ns:List Int),ns.length<=n->kn H->Fd (K w.params) H a (ns.map V.int)->sp w [.ref a] H (fun v _=>v=.bl true) fun _ _ _=>False)(Oy:∀ (w:World) (H:Hp) (s:Shared) (e:Value) (s':Shared),CX w [] H s (fun _ _ _=>False) e s'->False):
  PySem.W.WalkO q loose XP YP l.row.toRowW d [] (fun f vs=>PySem.call f vs):=by
 refine P9.Hg hn Ma fun w s₀ s₁ mg mb fa o pm cd doc a vs ns G Y ho hd Ic hmg KR hints hlen hg=>?_;have KX:=hY w _ Y;obtain⟨fd,hb,hF⟩:=F w mg fa _ KX G.T.g hmg;exact yn KX G.T.g G.T.b G.T.builtins G.T.nolimit hg KR hints (Zn hlen OA) hr hF hb (fun H hO hS=>Ka w H a ns hlen hO hS) fun H e s'=>Oy w H s₁ e s'
def dt(s:Stmt):Arguments:=match s with
 | .FunctionDef _ a _ _ _ _ _ _ _ _=>a
 | _=>{ posonlyargs:=[],args:=[],vararg:=none,kwonlyargs:=[],kw_defaults:=[],kwarg:=none,defaults:=[] }
def cP(s:Stmt):List Stmt:=match s with
 | .FunctionDef _ _ b _ _ _ _ _ _ _=>b
 | _=>[]
def aB(s:Stmt):Scope:=match s with
 | .FunctionDef _ _ _ _ _ _ sc _ _ _=>sc
 | _=>{ kind:=.function,names:=[],isGenerator:=false,isCoroutine:=false }
abbrev HM:IN:=fun _ _ _ _ _ _=>False
abbrev E0:XK:=fun _ _ _=>False
theorem qd{X:Cx}:kg HM X E0:=fun _ _ _ _ _ _ _ h=>h.elim
structure Hm(K:PySem.W.Frag)(x qual:Str)(st:Stmt)(f:Addr)(fd:FuncData):Prop where
 ex:∃ (oc:Value) (od:Option Addr) (kV doc pm:Value) (an:Option Addr) (u_ ct:Value) (Iz:Array (Option Value)),
  fd=PySem.W.fnOf x qual (dt st) (cP st) (aB st) .none kV doc pm an u_ ct/\K.lookup f=some ⟨oc,od,.func fd,Iz⟩/\PySem.W.codeIn K u_ qual=true
 kp:PySem.W.keepIn K (.ref f)=true
section
variable{P:Program}{w:World}{K:PySem.W.Frag}{mg:Str->Option Value}{base:Heap}
theorem Hm.ok{N:List Str}{sp:Sp}(F:Hm K x qual st f fd)(S:k_ N ps (aB st))(len:∀ vs H Q E,sp vs H Q E->vs.length=ps.length)(IP:∀ (u_:Value) (A:Around) (outer:List Env) (s:Shared) (H:Hp) (vs:List V) (Q:VK) (E:XK),E8 k (A.deeper<|envOfC qual (aB st) s.heap.objs.size f u_)->sp vs H Q E->
   ∃ t,Hr (fw HM P w K mg base N qual (aB st) f u_ A outer s H E).Lr (cP st) t/\t { nx:=fun _ H'=>Q .l_ H',rt:=Q } (dX N vs) H):FJ P w K mg base HM (k+1) f fd ps sp:=by
 obtain⟨oc,od,kV,doc,pm,an,u_,ct,Iz,rfl,lk,Ic⟩:=F.ex;refine xt lk Ic S len fun A outer s H vs Q E hr Ka=>?_;obtain⟨t,h,q⟩:=IP u_ A outer s H vs Q E hr Ka;exact⟨t,h.Lr,q⟩
theorem Hm.binds(F:Hm K x qual st f fd)(h:∀ (kV doc pm:Value) (an:Option Addr) (u_ ct:Value) (us:List Value),us.length=ps.length->bindArgs (PySem.W.fnOf x qual (dt st) (cP st) (aB st) .none kV doc pm an u_ ct) ⟨us,[]⟩=pure (ps.zip us)):c9 K fd ps []:=by
 obtain⟨oc,od,kV,doc,pm,an,u_,ct,Iz,rfl,lk,Ic⟩:=F.ex;exact .all (h kV doc pm an u_ ct)
theorem yp{oc:Value}{od an:Option Addr}{Iz:Array (Option Value)}{kV doc pm u_ ct:Value}(l:K.lookup f=some ⟨oc,od,.func<|PySem.W.fnOf x qual (dt st) (cP st) (aB st) .none kV doc pm an u_ ct,Iz⟩)(c:PySem.W.codeIn K u_ qual=true)(k:PySem.W.keepIn K (.ref f)=true):Hm K x qual st f (PySem.W.fnOf x qual (dt st) (cP st) (aB st) .none kV doc pm an u_ ct):=⟨⟨oc,od,kV,doc,pm,an,u_,ct,Iz,rfl,l,c⟩,k⟩
end
section
variable{X:Cx}
theorem pv(i:Nat){x:Str}{pos:Pos}(hN:X.N[i]?=some x:=by rfl)(hv:Nt X.env.scope x:=by first | exact Or.inl rfl | exact Or.inr (Or.inl rfl) | exact Or.inr (Or.inr rfl))(hd:(x == ("__debug__" : Str))=false:=by decide)(Ic:(x == ("__classdict__" : Str))=false:=by decide):PE X (.Name x pos) (et i):=pc hN hv hd Ic
end
def aH(H H':Hp):Prop:=∀ b o,H b=some o->H' b=some o
theorem aH.refl(H:Hp):aH H H:=fun _ _ h=>h
end L2
namespace L2
section
variable{X:Cx}
theorem yq:bt X (.builtin "len") (fun xs H Q=>∃ a kvs,xs=[V.ref a]/\H a=some (.dK kvs)/\Q (.int kvs.length) H):=by
 intro pins s σ H xs us Q I r h;obtain⟨a,kvs,rfl,ha,q⟩:=h;obtain⟨u,rfl,ru⟩:=cK r;cases ru;exact yh I (.inl ha) fun t s' I'=>⟨.int kvs.length,H,I',⟨t,rfl⟩,q⟩
end
section
variable{κ:Type}[DecidableEq κ]
end
end L2
namespace L2
open PySem PySem.Spec PyProof.Rows
variable{Q:Option Value->Shared->Prop}{i ep:Nat}{it d C:Addr}{h:Heap}{ks:List Value}{wi:TI}{tg iter elt:Expr}{fp:List Addr}{H:Hp}{σ:St}{pins:List (Addr×Obj)}{caps:List Nat}{own:List Str}{env:Env}{pos:Pos}{scope:Scope}{ifs:List Expr}{s:Shared}
theorem yr{prog:Program}{w:World}{A:Around}{R:Result->Shared->Prop}{target:Expr}{it acc:Value}(I:Nat->Shared->Prop)(turn:∀ n s,I n s->wpAny (model prog w) A (pyNext it) (fun r s₁=>match r with
   | none=>R (.ok .next) s₁
   | some v=>wpAny (model prog w) A (letOwnedTupleGo target it v) (fun _ s₁=>wpAny (model prog w) A (assign target env v) (fun _ s₂=>
     wpAny (model prog w) A (forIn ifs true fun c r=>if r=true then do let ok <- isTrue c env (eval c env);pure (ForInStep.yield ok) else pure (ForInStep.yield r)) (fun ok s₃=>
      if ok=true then wpAny (model prog w) A (eval elt env) (fun x s₄=>
       wpAny (model prog w) A (call (.builtin "list.append") [acc,x]) (fun _ s₅=>∃ m,m<n/\I m s₅) (fun _ _=>False) s₄) (fun _ _=>False) s₃
      else ∃ m,m<n/\I m s₃) (fun _ _=>False) s₂) (fun _ _=>False) s₁) (fun _ _=>False) s₁) (fun _ _=>False) s)(n:Nat)(h:I n s):
  codeAny (model prog w) A (.compLoop (.ListComp elt [⟨target,iter,ifs,0⟩] scope pos) 0 it acc env) R s:=by
 refine codeAny_loop rfl I (fun n s hI=>?_) n h;show wpAny _ A ((compTurn (.ListComp elt [⟨target,iter,ifs,0⟩] scope pos) 0 it acc env).onRaise (fun x=>do noteFrame x env;theTreesLotGoes x)) _ _ s;refine wpAny_noted ?_;rw[compTurn_list];refine Z9 (VQ<|Z9<|YA (turn n s hI) (fun r s₁ h₁=>?_) fun _ _ h'=>h'.elim);cases r with
 | none=>exact Z6 h₁
 | some v=>
  refine Z9 (YA h₁ (fun _ s₁ h₁=>?_) fun _ _ h'=>h'.elim);refine Z9 (YA h₁ (fun _ s₂ h₂=>Z9<|YA h₂ (fun ok s₃ h₃=>?_) fun _ _ h'=>h'.elim) fun _ _ h'=>h'.elim);cases ok with
  | false=>exact Z6 ⟨rfl,h₃⟩
  | true=>
   exact Z9 (Z9<|YA h₃ (fun x s₄ h₄=>Z9<|YA h₄ (fun _ s₅ h₅=>Z6<|Z6 ⟨rfl,h₅⟩) fun _ _ h'=>h'.elim) fun _ _ h'=>h'.elim)
def gg(env:Env)(names:List (Str×NameKind)):List (Str×Addr):=names.foldl (fun cs y=>if y.2 == .free then (y.1,(env.cells.lookup y.1).getD 0)::cs else cs) []
theorem mr{env:Env}:∀ (names:List (Str×NameKind)) (cs:List (Str×Addr)),(∀ y∈names,y.2=.free->∃ c,env.cells.lookup y.1=some c)->
  (forIn names cs fun (y:Str×NameKind) cs=>if y.2 == .free then (do let c <- cellOf env y.1;pure (ForInStep.yield ((y.1,c)::cs))) else pure (ForInStep.yield cs):Sem _)=
   pure (names.foldl (fun cs y=>if y.2 == .free then (y.1,(env.cells.lookup y.1).getD 0)::cs else cs) cs)
 | [],cs,_=>rfl
 | y::r,cs,h=>by
  rw[Xx,XY];by_cases hy:y.2=.free
  ·obtain⟨c,hc⟩:=h y YH hy;have e:(y.2 == NameKind.free)=true:=by simp[hy]
   rw[ZY e,ZY e];have ec:cellOf env y.1=pure c:=by unfold cellOf;rw[hc]
   rw[ec,hc];show (forIn r ((y.1,c)::cs) _:Sem _)=_;exact mr r _ fun z hz=>h z (Y1 _ hz)
  ·have e:¬ (y.2 == NameKind.free)=true:=by simp[hy]
   rw[ZW e,ZW e];show (forIn r cs _:Sem _)=_;exact mr r _ fun z hz=>h z (Y1 _ hz)
theorem yt(h:∀ y∈scope.names,y.2=.free->∃ c,env.cells.lookup y.1=some c):closureFor scope env=pure (gg env scope.names):=by
 have:=mr (env:=env) scope.names [] h;unfold closureFor;dsimp only;have e:(forIn scope.names ([]:List (Str×Addr))<|fun (x:Str×NameKind) (r:List (Str×Addr))=>(if x.2 == .free then (do let c <- cellOf env x.1;pure (ForInStep.yield ((x.1,c)::r))) else pure (ForInStep.yield r):Sem (ForInStep<|List<|Str×Addr)))=pure (gg env scope.names):=this;rw[e];rfl
theorem qe{env:Env}:∀ (names:List (Str×NameKind)) (cs:List (Str×Addr)) (x:Str) (c:Addr),
  (names.foldl (fun cs y=>if y.2 == .free then (y.1,(env.cells.lookup y.1).getD 0)::cs else cs) cs).lookup x=some c->
  (c=(env.cells.lookup x).getD 0/\(x,NameKind.free)∈names)\/cs.lookup x=some c
 | [],cs,x,c,h=>.inr h
 | y::r,cs,x,c,h=>by
  rw[XY] at h;rcases qe r _ x c h with ⟨e,m⟩ | h
  ·exact .inl ⟨e,Y1 _ m⟩
  ·by_cases hy:y.2=.free
   ·rw[ZY (by simp[hy])] at h;rw[Y2] at h;by_cases hx:x=y.1
    ·subst hx;rw[Yp] at h;refine .inl ⟨(Zq h).symm,?_⟩;rw[<- hy];exact YH
    ·have:(x == y.1)=false:=by simpa using hx
     rw[this] at h;exact .inr h
   ·rw[ZW (by simp[hy])] at h;exact .inr h
theorem mv{env:Env}:∀ (names:List (Str×NameKind)) (cs:List (Str×Addr)) (x:Str),(x,NameKind.free)∈names\/(∃ c,cs.lookup x=some c)->
  ∃ c,(names.foldl (fun cs y=>if y.2 == .free then (y.1,(env.cells.lookup y.1).getD 0)::cs else cs) cs).lookup x=some c
 | [],cs,x,h=>by
  rcases h with h | h
  ·cases h
  ·exact h
 | y::r,cs,x,h=>by
  rw[XY];apply mv r _ x;rcases h with h | ⟨c,h⟩
  ·rcases ZG.mp h with e | h
   ·right;subst e;rw[ZY (by rfl),Y2,Yp];exact⟨_,rfl⟩
   ·exact .inl h
  ·right;by_cases hy:(y.2 == NameKind.free)=true
   ·rw[ZY hy,Y2];cases x == y.1
    ·exact⟨c,h⟩
    ·exact⟨_,rfl⟩
   ·rw[ZW hy];exact⟨c,h⟩
structure IT where
 C:Addr
 s:Shared
 H:Hp
 fp:List Addr
variable{te:IT->TE}{tt:IT->TT}{g:IT->TG}
def Cx.GW(X : Cx)(N' : List Str)(scope : Scope)(Y : IT): Cx :=
  { prog := X.prog, w := X.w, K := X.K, mg := X.mg, base := X.base, A := X.A, N := N', s₀ := Y.s, H₀ := Y.H, env := compEnvC scope (gg X.env scope.names) Y.C X.env, outer := X.stack, stack := X.stack,
    ex := Y.fp, fn := fun _ => false, calm := X.calm, pn := [], xe := fun _ _ => False }
theorem mw{env:Env}:∀ {names:List (Str×NameKind)}{x:Str}{k:NameKind},
  (names.map fun (n,k)=>if (k == NameKind.free && env.scope.kind == .function && env.kindOf n == some .cell) then (n,NameKind.cell) else (n,k)).lookup x=some k->
  (k=.cell\/k=.free)->(∀ y∈names,y.2≠.cell)->(x,NameKind.free)∈names
 | [],x,k,h,_,_=>by simp at h
 | (n,k')::r,x,k,h,hk,hc=>by
  rw[ZF] at h;dsimp only at h;by_cases hx:x=n
  ·subst hx;by_cases hf:(k' == NameKind.free && env.scope.kind == .function && env.kindOf x == some .cell)=true
   ·have:k'=NameKind.free:=by
     simp only[ZU] at hf;exact by simpa using hf.1.1
    subst this;exact YH
   ·simp only[hf] at h;have e:k'=k:=by simpa [Y2] using h
    subst e;rcases hk with hk | hk
    ·exact absurd hk (hc (x,k') YH)
    ·rw[hk];exact YH
  ·have hb:(x == n)=false:=by simpa using hx
   have h':(r.map fun (n,k)=>if (k == NameKind.free && env.scope.kind == .function && env.kindOf n == some .cell) then (n,NameKind.cell) else (n,k)).lookup x=some k:=by
    by_cases hf:(k' == NameKind.free && env.scope.kind == .function && env.kindOf n == some .cell)=true
    ·rw[ZY hf,Y2,hb] at h;exact h
    ·rw[ZW hf,Y2,hb] at h;exact h
   exact Y1 _ (mw h' hk fun y hy=>hc y<|Y1 _ hy)
section
variable{X:Cx}
structure t_(X:Cx)(scope:Scope)(own:List Str)(caps:List Nat):Prop where
 kind:scope.kind=.function
 cell:∀ y∈scope.names,y.2≠.cell
 free:∀ y∈scope.names,y.2=.free->X.env.scope.names.lookup y.1=some .cell
 loc:∀ y∈scope.names,y.2=.local->scope.names.lookup y.1=some .local
 OB:∀ i∈caps,∃ x,X.N[i]?=some x/\(x,NameKind.free)∈scope.names/\scope.names.lookup x=some .free
def bP(X:Cx)(own:List Str)(caps:List Nat):List Str:=own++caps.map fun i=>X.N.getD i ""
def dJ(own:List Str)(caps:List Nat)(σ:St):St:=own.map (fun _=>none)++caps.map fun i=>σ.getD i none
theorem t_.cells(S:t_ X scope own caps)(ok:X.Ok):∀ y∈scope.names,y.2=.free->∃ c,X.env.cells.lookup y.1=some c:=
 fun y hy hf=>ok.has y.1 (.inl<|S.free y hy hf)
theorem t_.sub(S:t_ X scope own caps)(ok:X.Ok){x:Str}{c:Addr}(h:(gg X.env scope.names).lookup x=some c):X.env.cells.lookup x=some c/\(x,NameKind.free)∈scope.names:=by
 rcases qe scope.names [] x c h with ⟨e,m⟩ | h
 ·obtain⟨c',e'⟩:=S.cells ok (x,.free) m rfl;rw[show (List.lookup x X.env.cells)=some c' from e'] at e;refine⟨?_,m⟩;rw[e];exact e'
 ·simp at h
theorem qf(S:t_ X scope own caps)(I:Inv X pins σ H s)(hC:s.heap.objs.size<=C)(hf:∀ b∈fp,dH X pins H b)(Gb:∀ b∈fp,b<s.heap.objs.size):(X.GW (bP X own caps) scope ⟨C,s,H,fp⟩).Ok where
 mod:=I.ok.mod
 kind:=S.kind
 glob:=I.ok.glob
 blt:=I.ok.blt
 above:=hC
 inj:=fun x y c h1 h2=>I.ok.inj x y c (S.sub I.ok h1).1 (S.sub I.ok h2).1
 has:=fun x hx=>by
  have m:(x,NameKind.free)∈scope.names:=by
   rcases hx with hx | hx
   ·exact mw hx (.inl rfl) S.cell
   ·exact mw hx (.inr rfl) S.cell
  exact mv scope.names [] x (.inl m)
 Lq:=fun x c h _=>nomatch h
 hd:=I.ok.hd
 frames:=I.ok.frames
 LV:=.inl rfl
 N8:=fun b hb=>⟨Zx<|Zt (Gb b hb) hC,fun x c h=>(hf b hb).2.2.2.2.1 x c (S.sub I.ok h).1⟩
 bs:=I.bs
 JD:=Zn I.ok.JD I.sz
 Ia:=fun b o e hb=>by
  rcases (hf b hb).2.2.2.1 with z | z
  ·exact I.ok.Ia b o e z
  ·exact absurd (Zt (ZP e)<|Zn I.ok.JD z) (Ym _)
 Ib:=fun b hb z=>by
  rcases ZG.mp (I.Ho b z) with e | e
  ·exact (hf b hb).2.1 e
  ·exact (hf b hb).2.2.1 e
 FU:=I.stack
 KC:=I.HI
theorem yu{h1:Heap}{tk:Nat}{m:Str->Option Value}(S:t_ X scope own caps)(I:Inv X pins σ H s)(hC:s.heap.objs.size<=C)(hf:∀ b∈fp,dH X pins H b)(Gb:∀ b∈fp,b<s.heap.objs.size)(old:∀ b o,s.heap.get? b=some o->h1.get? b=some o)(hn:h1.Ns C m):
  Inv (X.GW (bP X own caps) scope ⟨C,s,H,fp⟩) [] (dJ own caps σ) H { s with heap:=h1,toks:=tk } where
 ok:=qf S I hC hf Gb
 os:=rfl
 bare:=I.bare
 base:=Un.kept old
 loc:=by
  obtain⟨m0,Tm,Rh⟩:=I.loc;refine⟨m,hn,fun j x v e1 e2 hv=>?_⟩;have e1:(own++caps.map fun i=>X.N.getD i "")[j]?=some x:=e1;have e2:(own.map (fun _=>(none:Option V))++caps.map fun i=>σ.getD i none)[j]?=some (some v):=e2;by_cases hj:j<own.length
  ·rw[Y4 (by rw[Z3];exact hj),ZB] at e2;cases q:own[j]? with
   | none=>rw[q] at e2;cases e2
   | some z=>rw[q] at e2;cases e2
  ·rw[Y6 (by lia),ZB] at e1;rw[Y6 (by rw[Z3];lia),ZB,Z3] at e2;cases q:caps[j - own.length]? with
   | none=>rw[q] at e1;cases e1
   | some i=>
    rw[q] at e1 e2;have e1:X.N.getD i "" = x:=Zq e1;have e2:σ.getD i none=some v:=Zq e2;obtain⟨x',HG,hm,Ri⟩:=S.OB i (Zr q);have ex:x'=x:=by
     rw[<- e1,Z5,HG];rfl
    subst ex;have hs:σ[i]?=some (some v):=by
     rw[Z5] at e2;cases q2:σ[i]? with
     | none=>rw[q2] at e2;cases e2
     | some z=>rw[q2] at e2;rw[show z=some v from e2]
    have Mc:=S.free (x',.free) hm rfl;obtain⟨u,r,lk⟩:=Rh i x' v HG hs (.inr<|.inl Mc);refine⟨u,r,.inr ⟨?_,?_⟩⟩
    ·rcases hv with hv | hv | hv
     ·
      exfalso;have:∀ {names:List (Str×NameKind)},names.lookup x'=some .free->(names.map fun (n,k)=>if (k == NameKind.free && X.env.scope.kind == .function && X.env.kindOf n == some .cell) then (n,NameKind.cell) else (n,k)).lookup x'≠some .local:=by
       intro names;induction names with
       | nil=>intro h;simp at h
       | cons y r ih=>
        obtain⟨n,k⟩:=y;intro h;rw[ZF];dsimp only;by_cases hx:x'=n
        ·subst hx;have ek:k=.free:=by simpa [Y2] using h
         subst ek;by_cases hq:(NameKind.free == NameKind.free && X.env.scope.kind == ScopeKind.function && X.env.kindOf x' == some NameKind.cell)=true
         ·rw[ZY hq];simp[Y2]
         ·rw[ZW hq];simp[Y2]
        ·have hb:(x' == n)=false:=by simpa using hx
         rw[Y2,hb] at h;by_cases hq:(k == NameKind.free && X.env.scope.kind == ScopeKind.function && X.env.kindOf n == some NameKind.cell)=true
         ·rw[ZY hq,Y2,hb];exact ih h
         ·rw[ZW hq,Y2,hb];exact ih h
      exact this Ri hv
     ·exact .inl hv
     ·exact .inr hv
    ·rcases lk with ⟨hk,_⟩ | ⟨_,c,hc,HJ⟩
     ·exact absurd (hk.symm.trans Mc) (by simp)
     ·obtain⟨c',LZ⟩:=mv (env:=X.env) scope.names [] x' (.inl hm);have:=(S.sub I.ok LZ).1;rw[hc] at this;cases this;obtain⟨o,ho,hd⟩:=HJ;exact⟨c,LZ,o,old _ _ ho,hd⟩
 cell:=fun x c h=>by
  obtain⟨v,o,ho,hd⟩:=I.cell x c (S.sub I.ok h).1;exact⟨v,o,old _ _ ho,hd⟩
 free:=I.n_.fresh hC
 Ff:=fun x c h=>I.Ff x c (S.sub I.ok h).1
 pin:=fun p hp=>nomatch hp
 n_:=I.n_.kept old
 len:=by simp[dJ,bP,Cx.GW]
end
section
variable{X:Cx}
def qg(X:Cx)(ifs:List Expr)(t:TT)(pins:List (Addr×Obj)):Prop:=
 ∀ (s:Shared) (σ:St) (H:Hp) (Q:Bool->Hp->Prop),Inv X pins σ H s->t σ H Q->
  wpAny (model X.prog X.w) X.A (forIn ifs true fun c r=>if r=true then do let ok <- isTrue c X.env (eval c X.env);pure (ForInStep.yield ok) else pure (ForInStep.yield r)) (TP X pins σ Q) X.xe s
def Md(X:Cx)(ifs:List Expr)(t:TT):Prop:=∀ pins,qg X ifs t pins
def OC:TT:=fun _ H Q=>Q true H
theorem yv:Md X [] OC:=fun pins s σ H Q I h=>wpAny_tests_nil ⟨H,I,h⟩
theorem yw{c:Expr}{t:TT}(h:PT X c t):Md X [c] t:=fun pins s σ H Q I hw=>wpAny_tests_one (h pins s σ H Q I hw)
def yx(own:List Str)(caps:List Nat)(g:TG)(tt:TT)(te:TE)(σ:St)(N:List V->Hp->Prop)(ys:List V)(x:V)(H':Hp):Prop:=
 g x (dJ own caps σ) H' fun σ2 H2=>(∀ (j:Nat) (v:V),(dJ own caps σ)[j]?=some (some v)->σ2[j]?=some (some v))/\tt σ2 H2 fun b H3=>if b=true then te σ2 H3 fun v H4=>ys.length<sizeLine/\N (ys++[v]) H4 else N ys H3
def yy(J:It)(own:List Str)(caps:List Nat)(g:TG)(tt:TT)(te:TE)(σ:St)(H1:Hp)(Q:VK):Prop:=
 ∃ W:Nat->Nat->List V->Hp->Prop,(∃ m,W 0 m [] H1)/\∀ i m ys H,W i m ys H->(J.stop i H/\∀ D,H D=none->Q (.ref D) (upd H D<|.lst ys))\/
  (J.go i H/\∃ N:List V->Hp->Prop,(∀ P_ H',N P_ H'->∃ m',m'<m/\W (i+1) m' P_ H')/\∀ x H',J.Lu i H x H'->yx own caps g tt te σ N ys x H')
def ko(own:List Str)(caps:List Nat)(wi:TI)(g:IT->TG)(tt:IT->TT)(te:IT->TE):TE:=fun σ H Q=>wi σ H fun J H1=>∀ Y:IT,yy J own caps (g Y) (tt Y) (te Y) σ H1 Q
def qh(sc:Scope)(N:List Str)(scope:Scope)(caps:List Nat):Bool:=
 scope.kind == .function && scope.names.all (fun y=>y.2 != .cell) && scope.names.all (fun y=>y.2 != .free || sc.names.lookup y.1 == some .cell) && scope.names.all (fun y=>y.2 != .local || scope.names.lookup y.1 == some .local) &&
  caps.all (fun i=>match N[i]? with | some x=>scope.names.lookup x == some .free | none=>false)
theorem mem_of_lookup:∀ {l:List (Str×NameKind)}{x:Str}{k:NameKind},l.lookup x=some k->(x,k)∈l
 | [],_,_,h=>by simp at h
 | (n,k')::r,x,k,h=>by
  rw[Y2] at h;by_cases hx:x=n
  ·subst hx;rw[Yp] at h;cases h;exact YH
  ·rw[show (x == n)=false by simpa using hx] at h;exact Y1 _ (mem_of_lookup h)
theorem du{X:Cx}(sc:Scope)(N:List Str)(h:qh sc N scope caps=true)(e:X.env.scope=sc:=by rfl)(eN:X.N=N:=by rfl):t_ X scope own caps:=by
 unfold qh at h;simp only[ZU,YD,bne_iff_ne,ne_eq,Vt,WH] at h;obtain⟨⟨⟨⟨h1,h2⟩,h3⟩,h4⟩,h5⟩:=h;refine⟨h1,h2,fun y hy hf=>?_,fun y hy hf=>?_,fun i hi=>?_⟩
 ·rw[e];exact (h3 y hy).resolve_left fun z=>z hf
 ·exact (h4 y hy).resolve_left fun z=>z hf
 ·have:=h5 i hi;rw[eN];cases q:N[i]? with
  | none=>rw[q] at this;cases this
  | some x=>
   rw[q] at this;have hl:scope.names.lookup x=some .free:=by simpa using this
   exact⟨x,rfl,mem_of_lookup hl,hl⟩
theorem qi{p2:Pos}{use:Option (Value->Sem Unit)}{Qp:Value->Shared->Prop}{Qv:VK}(hc:X.calm=true)(S:t_ X scope own caps)(hi:PI X tg iter wi)(hg:∀ Y,PG (X.GW (bP X own caps) scope Y) tg<|g Y)(ht:∀ Y,Md (X.GW (bP X own caps) scope Y) ifs<|tt Y)(he:∀ Y,PE (X.GW (bP X own caps) scope Y) elt<|te Y)(hs:∀ x,foldedSetIterable iter X.env x=pure x)(I:Inv X pins σ H s)(h:ko own caps wi g tt te σ H Qv)(FW:∀ (D C:Addr) (H4:Hp) (s4:Shared) (m:Str->Option Value),Inv X pins σ H4 s4->s4.heap.Ns C m->H4 C=none->X.env.locals≠C->(∀ x c,X.env.cells.lookup x=some c->c≠C)->X.s₀.heap.objs.size<=C->(∀ p∈X.pn++pins,p.1≠C)->Qv (.ref D) H4->compPost (model X.prog X.w) X.A X.xe use Qp (.ref D) C (.ok .next) s4):
  wpAny (model X.prog X.w) X.A (comprehension (.ListComp elt [⟨tg,iter,ifs,0⟩] scope pos) scope X.env p2 (newList []) false (eval iter X.env) use) Qp X.xe s:=by
 refine wpAny_comprehension_free (use:=use) rfl hs (yt<|S.cells I.ok) S.kind S.loc (y_ (hi pins s σ H _ I h) fun v s1 h1=>y_ h1 fun Og s2 h2=>?_);obtain⟨it,fp,tn,J,H2,e,I2,T,p_,f2,hW⟩:=h2;subst e;have Gb:∀ b∈fp,b<s2.heap.objs.size:=fun b hb=>by
  obtain⟨o,e,_⟩:=T.obj _ _ p_ b hb;exact ZP e
 refine Zo (wpAny_newFunctionEnv S.cell (by intro y hy;simp at hy) (fun h₁ GX Gu=>?_) S.kind);dsimp only at GX Gu ⊢;generalize OD:s2.heap.push { cls:=.type "list",dict:=none,data:=.seq ([]:List Value).toArray }=Hq at GX Gu ⊢;have hC:Hq.objs.size=s2.heap.objs.size+1:=by rw[<- OD,YZ]
 have KS:s2.heap.objs.size≠Hq.objs.size:=by rw[hC];exact Zx (XI _)
 have KU:s2.heap.objs.size<=Hq.objs.size:=by rw[hC];exact Nat.le_succ _
 have old:∀ b o,s2.heap.get? b=some o->h₁.get? b=some o:=fun b o e=>
  Gu.extBut b o (by rw[hC];exact Zx (VX<|ZP e)) (Z7 _<|OD ▸ Z7 _ e);have Gv:h₁.get? s2.heap.objs.size=some { cls:=.type "list",data:=.seq ([]:List Value).toArray 0 }:=Gu.extBut _ _ KS (Z7 _<|OD ▸ ZS _ rfl);generalize Tn:Hq.objs.size=C at GX Gu hC KS KU ⊢;generalize KW:s2.heap.objs.size=D at Gv hC KS KU ⊢;have Me:s2.heap.objs.size<=C:=by rw[KW];exact KU
 obtain⟨W,⟨m0,w0⟩,turn⟩:=hW ⟨C,s2,H2,fp⟩;have Qa:=fun (tk:Nat)=>yu (tk:=tk) S I2 Me f2 Gb old GX;have Qb:=hg ⟨C,s2,H2,fp⟩;have Qc:=ht ⟨C,s2,H2,fp⟩;have Qd:=he ⟨C,s2,H2,fp⟩;have IS:=qf S I2 Me f2 Gb;generalize FX:X.GW (bP X own caps) scope ⟨C,s2,H2,fp⟩=X' at Qa Qb Qc Qd IS;have eP:X'.prog=X.prog:=by rw[<- FX];rfl
 have ew:X'.w=X.w:=by rw[<- FX];rfl
 have eK:X'.K=X.K:=by rw[<- FX];rfl
 have eA:X'.A=X.A:=by rw[<- FX];rfl
 have ec:X'.calm=true:=by rw[<- FX];exact hc
 have eL:X'.env.locals=C:=by rw[<- FX];rfl
 have OE:X'.ex=fp:=by rw[<- FX];rfl
 have NB:X'.s₀=s2:=by rw[<- FX];rfl
 have Rj:X'.H₀=H2:=by rw[<- FX];rfl
 have Rl:X'.fs=HH X.stack:=by rw[<- FX];rfl
 have NC:X'.pn=[]:=by rw[<- FX];rfl
 have OF:X'.xe=fun _ _=>False:=by rw[<- FX];rfl
 have Mf:X'.env=compEnvC scope (gg X.env scope.names) C X.env:=by rw[<- FX];rfl
 have Kd:∀ x c,X'.env.cells.lookup x=some c->X.env.cells.lookup x=some c:=fun x c h=>(S.sub I2.ok (by rw[Mf] at h;exact h)).1;have nD:∀ x c,X'.env.cells.lookup x=some c->c≠D:=fun x c h z=>by
  obtain⟨v,o,ho,_⟩:=I2.cell x c (Kd x c h);have:=ZP ho;rw[z,<- KW] at this;exact Ym _ this
 have OG:∀ b∈fp,b≠D:=fun b hb z=>by
  have:=Gb b hb;rw[z,<- KW] at this;exact Ym _ this
 have Rm:D∉X'.fs:=fun z=>by
  obtain⟨_,o,ho,_⟩:=IS.FU.mem z;rw[NB] at ho;have:=ZP ho;rw[KW] at this;exact Ym _ this
 have OH:∀ (H':Hp) (o:Obj),(∀ b∈fp,H' b=none)->∀ b∈fp,dH X' [(D,o)] H' b:=fun H' o hn b hb=>by
  refine⟨hn b hb,?_,?_,.inl (by rw[OE];exact hb),fun x c h=>(f2 b hb).2.2.2.2.1 x c (Kd x c h),fun p hp=>?_⟩
  ·rw[eL];exact Zx (Zt (Gb b hb) Me)
  ·exact IS.Ib b (by rw[OE];exact hb)
  ·rw[NC] at hp;have:p=(D,o):=by simpa using hp
   rw[this];exact Yb (OG b hb)
 have loop:∀ s₃:Shared,s₃={ s2 with heap:=h₁,toks:=s2.toks+([]:List (Str×Value)).length }->
   codeAny (model X.prog X.w) X.A (.compLoop (.ListComp elt [⟨tg,iter,ifs,0⟩] scope pos) 0 (.ref it) (.ref D) X'.env)
    (compPost (model X.prog X.w) X.A X.xe use Qp (.ref D) C) s₃:=by
  rintro s₃ rfl;refine yr (fun n s'=>∃ (i:Nat) (ys:List V) (H':Hp) (f_:List Value) (k:Nat),Inv X' [(D,{ cls:=.type "list",data:=.seq f_.toArray k })] (dJ own caps σ) H' s'/\au ys f_/\ys.length<=sizeLine/\tn i s'.heap/\
   (∀ b∈fp,H' b=none)/\W i n ys H') ?_ m0 ?_
  ·rintro n s3 ⟨i,ys,H3,f_,k,I3,rv,hz,FM,L6,w3⟩;rcases turn i n ys H3 w3 with ⟨stop,qn⟩ | ⟨go,N,hN,step⟩
   ·have:=T.done X' eP ew eK ec i _ s3 _ H3 (fun _ _=>False) I3 (OH H3 _ L6) FM stop;rw[eA] at this;refine y_ this fun r s4 ⟨hr,I4⟩=>?_;subst hr;obtain⟨m,hn,_⟩:=I4.loc;have Rn:s4.heap.Ns C m:=by rw[<- eL];exact hn
    have hp:=I4.pin (D,{ cls:=.type "list",data:=.seq f_.toArray k }) (by rw[NC];simp);have Lx:H3 D=none:=hp.2.1;have kp:∀ b,b≠C->s4.heap.get? b=s4.heap.get? b:=fun b hb=>rfl;have nC:∀ b o,s2.heap.get? b=some o->b≠C:=fun b o e=>Zx (Zt (ZP e) Me);have Ro:∀ b o,s2.heap.get? b=some o->b≠D:=fun b o e=>by rw[<- KW];exact Zx (ZP e)
    have ub:Un (HH X.stack) fp H2 H3 s2.heap s4.heap:=by
     have:=I4.base;rw[Rl,OE,Rj,NB] at this;exact this
    have u:Un (HH X.stack) fp H2 (upd H3 D<|.lst ys) s2.heap s4.heap:=
     ⟨fun b o e n hb hx=>(kp b<|nC b o e).trans<|ub.keep b o e n hb hx,
      fun b o e n hb hx=>by
      obtain⟨sl,q⟩:=ub.slot b o e n hb hx;exact⟨sl,(kp b<|nC b o e).trans q⟩,
      fun b o e n hx=>by rw[aD (Ro b o e)];exact ub.free b o e n hx,
      fun b o e hx=>by
      obtain⟨o',q⟩:=ub.there b o e hx;exact⟨o',(kp b<|nC b o e).trans q⟩,
      fun b xs e=>by rw[aD (cy (ub.GI b xs e) Lx)];exact ub.GI b xs e,
      fun b o xs e=>by rw[aD (cy (ub.Go b o xs e) Lx)];exact ub.Go b o xs e,
      fun b ps e=>by
      obtain⟨more,q⟩:=ub.GU b ps e;exact⟨more,by rw[aD (cy q Lx)];exact q⟩⟩
    have Mg:∀ b o,H3 b=some o->b≠C:=fun b o e z=>by
     have:=I4.free;rw[eL,<- z,e] at this;cases this
    have hk:FH X.prog X.w (upd H3 D<|.lst ys) s4.heap:=fun a o e=>by
     by_cases ha:a=D
     ·subst ha;rw[bm] at e;cases e;exact⟨hz,f_,k,rv,(kp _ KS).trans hp.1⟩
     ·rw[aD ha] at e;have:=I4.n_ a o e;rw[eP,ew] at this;refine this.Fr (fun b u hb q=>(kp b ?_).trans q) (fun b q=>by rw[aD (cy q Lx)];exact q) fun b xs q=>by rw[aD (cy q Lx)];exact q
      rcases hb with z | z
      ·rw[z];exact Mg a o e
      ·exact Mg b _ z
    have Rp:Inv X pins σ (upd H3 D<|.lst ys) s4:=I2.L1 (s':=s4) (ch:=fp) (by have:=I4.os;rw[NB] at this;exact this) u hk I4.bare fun b hb=>⟨(f2 b hb).2.2.2.1,(f2 b hb).2.1,(f2 b hb).2.2.2.2.1,(f2 b hb).2.2.2.2.2⟩;have ND:X.env.locals≠C:=by
     obtain⟨m2,OA,_⟩:=I2.loc;obtain⟨o,_,_,ho,_⟩:=OA;exact nC _ _ ho
    have NE:∀ x c,X.env.cells.lookup x=some c->c≠C:=fun x c h=>by
     obtain⟨v,o,ho,_⟩:=I2.cell x c h;exact nC _ _ ho
    refine FW D C _ s4 m Rp Rn ?_ ND NE ?_ (fun p hp=>nC _ _ (I2.pin p hp).1) (qn D Lx)
    ·rw[aD (Yb KS)];have:=I4.free
     rwa [eL] at this
    ·exact Zn I2.sz Me
   ·have:=T.item X' eP ew eK ec i _ s3 _ H3 (fun _ _=>False) I3 (OH H3 _ L6) FM go;rw[eA] at this;refine y_ this fun r s4 ⟨u,hr,h4⟩=>?_;subst hr;refine y_ h4 fun _ s5 ⟨x,H5,I5,r5,y5,Ge,Nx⟩=>?_;have Oh:=I5.pinned (OH H5 _ Nx) (T.obj _ _ Ge);have a6:=Qb _ s5 _ H5 x u _ Oh r5 (step x H5 y5);rw[eP,ew,eA,OF] at a6;refine y_ a6 fun _ s6 ⟨σ6,H6,I6,KY,q6⟩=>?_;have a7:=Qc _ s6 σ6 H6 _ I6 q6;rw[eP,ew,eA,OF] at a7;refine y_ a7 fun b s7 ⟨H7,I7,q7⟩=>?_;have Ke:∀ {σ':St}{H':Hp}{s':Shared},Inv X' ([(D,{ cls:=.type "list",data:=.seq f_.toArray k })]++fu fp s5.heap) σ' H' s'->(∀ b∈fp,H' b=none)/\tn (i+1) s'.heap:=fun {σ' H' s'} I'=>by
     refine⟨fun b hb=>?_,T.keep _ _ _ Ge fun b hb o e=>(I'.pin (b,o)<|ZI _<|ZI _<|ke hb e).1⟩;obtain⟨o,e,_⟩:=T.obj _ _ Ge b hb;exact (I'.pin (b,o)<|ZI _<|ZI _<|ke hb e).2.1
    have wk:∀ {GP:List (Addr×Obj)}{H':Hp}{s':Shared},Inv X' GP σ6 H' s'->Inv X' GP (dJ own caps σ) H' s':=fun {GP H' s'} I'=>
     I'.weak (by rw[I'.len,I3.len]) KY;cases b with
    | false=>
     rw[ZW ZM] at q7;obtain⟨m',hm,w7⟩:=hN _ _ q7;rw[ZW ZM];obtain⟨k1,k2⟩:=Ke I7;exact⟨m',hm,i+1,ys,H7,f_,k,wk (I7.FB fun p hp=>I7.pin p (by
      rw[NC];simp at hp ⊢;exact .inl hp)),rv,hz,k2,k1,w7⟩
    | true=>
     rw[ZY rfl] at q7 ⊢;have a8:=Qd _ s7 σ6 H7 _ I7 q7;rw[eP,ew,eA,OF] at a8;refine y_ a8 fun uv s8 ⟨v8,H8,I8,r8,To,n8⟩=>?_;obtain⟨m',hm,w8⟩:=hN _ _ n8;have hp:=I8.pin (D,{ cls:=.type "list",data:=.seq f_.toArray k }) (ZI _ (Zw _ (by simp)));have eD:=hp.1;refine call_meets F.slot_list_append ⟨_,eD,rfl⟩ F.entry_list_append (F.args_list_append_2 _ _) (PySem.list_append D f_.toArray k uv (by rw[ZQ,<- rv.length];lia)) ⟨eD,?_⟩;have q:=PySem.IsL.update eD (fun a=>a.push uv);obtain⟨k1,k2⟩:=Ke I8;have Rq:Inv X' (fu fp s5.heap) σ6 H8 s8:=I8.FB fun p hp=>I8.pin p (ZI _<|ZI _ hp);have Qe:∀ b o,b≠D->s8.heap.get? b=some o->(s8.heap.update D<|Obj.mapSeq fun a=>a.push uv).get? b=some o:=fun b o hb e=>(Y0 s8.heap _<|Yb hb).trans e;have I9:Inv X' (fu fp s5.heap) σ6 H8 { s8 with heap:=s8.heap.update D (Obj.mapSeq fun a=>a.push uv),toks:=s8.toks }:=
      Rq.turned (it:=D) Qe hp.2.1 (by rw[eL];exact KS) (.inr (by rw[NB,KW];exact ZV _)) nD fun p JM=>by
       rw[NC] at JM;obtain⟨hb,_⟩:=pq (show p∈fu fp s5.heap by simpa using JM);exact OG _ hb
     refine⟨m',hm,i+1,ys++[v8],H8,f_++[uv],k+1,wk<|I9.FB fun p JM=>?_,rv.append<|.cons r8 .nil,?_,?_,k1,w8⟩
     ·have e:p=(D,{ cls:=.type "list",data:=.seq (f_++[uv]).toArray (k+1) }):=by simpa using JM
      subst e;refine⟨?_,hp.2.1,hp.2.2.1,hp.2.2.2.1,fun v z=>by cases z⟩;have e2:f_.toArray.push uv=(f_++[uv]).toArray:=by simp
      rw[<- e2];have q':IsL (s8.heap.update D<|Obj.mapSeq fun a=>a.push uv) D (f_.toArray.push uv) (if (f_.toArray.push uv).size == f_.toArray.size then k else k+1):=q;rw[ZW (by simp)] at q';exact q'
     ·rw[ZR,Zp];lia
     ·refine T.keep _ _ _ k2 fun b hb o e=>Qe b o (OG b hb) e
  ·refine⟨0,[],H2,[],0,?_,.nil,Yz _,T.keep _ _ _ p_ fun b _ o e=>old b o e,fun b hb=>(f2 b hb).1,w0⟩;refine (Qa _).FB fun p hp=>?_;have e:p=(D,{ cls:=.type "list",data:=.seq ([]:List Value).toArray 0 }):=by simpa using hp
   subst e;exact⟨Gv,I2.n_.fresh (by rw[KW];exact ZV _),by rw[eL];exact KS,Rm,fun v z=>by cases z⟩
 have Mh:compEnvC scope (gg X.env scope.names) C X.env=X'.env:=Mf.symm;show codeAny (model X.prog X.w) X.A (.compStart _ 0 (.ref it) (.ref D)<|compEnvC scope (gg X.env scope.names) C X.env) _ _;rw[Mh];exact codeAny_compStart_list (loop _ rfl) (T.self X.A 0 _ _ _ (T.keep _ _ _ p_ fun b _ o e=>old b o e)<|loop _ rfl)
theorem yz(hc:X.calm=true)(S:t_ X scope own caps)(hi:PI X tg iter wi)(hg:∀ Y,PG (X.GW (bP X own caps) scope Y) tg<|g Y)(ht:∀ Y,Md (X.GW (bP X own caps) scope Y) ifs<|tt Y)(he:∀ Y,PE (X.GW (bP X own caps) scope Y) elt<|te Y)(hs:∀ x,foldedSetIterable iter X.env x=pure x:=by intro _;rfl):PE X (.ListComp elt [⟨tg,iter,ifs,0⟩] scope pos) (ko own caps wi g tt te):=by
 intro pins s σ H Q I h;show wpAny _ X.A (comprehension (.ListComp elt [⟨tg,iter,ifs,0⟩] scope pos) scope X.env _ (newList []) false (eval iter X.env) none) _ _ s;refine qi (use:=none) (Qp:=EP X pins σ Q) hc S hi hg ht he hs I h fun D C H4 s4 m I4 hn f l c z p q=>?_;show ∃ m,s4.heap.Ns C m/\∀ h',Heap.SameBut C s4.heap h'->EP X pins σ Q (.ref D) { s4 with heap:=h' };refine⟨m,hn,fun h' sb=>⟨.ref D,H4,?_,rfl,q⟩⟩;exact I4.turned (it:=C) (t':=s4.toks) (fun b o hb e=>(sb.2 b hb).trans e) f (Yb l) (.inr z) c p
end
def Ih(h:Heap)(d:Addr)(ks:List Value)(ep:Nat):Prop:=∃ o es,h.get? d=some o/\o.ExactDict/\o.data=.dict es ep/\es.toList.map (·.key)=ks
theorem Ih.ty(x:Ih s.heap d ks ep):s.TypeIs (.ref d) "dict" := let ⟨o,_,e,c,_⟩:=x;⟨o,e,c.1⟩
theorem Ih.lt(x:Ih h d ks ep):d<h.objs.size:=let ⟨_,_,e,_⟩:=x;ZP e
theorem Ih.go{h':Heap}(x:Ih h d ks ep)(k:∀ o,h.get? d=some o->h'.get? d=some o):Ih h' d ks ep:=let ⟨o,es,e,r⟩:=x;⟨o,es,k o e,r⟩
section
variable{prog:Program}{w:World}{A:Around}{E:Value->Shared->Prop}{s:Shared}
theorem yA{Q:Value->Shared->Prop}(lo:(d == sysModules)=false)(x:Ih s.heap d ks ep)(q:Q (.ref s.heap.objs.size) { s with heap:=s.heap.push { cls:=.type "dict_keyiterator",data:=.fields #[.ref d,.int 0 0,.int ks.length 0,.int ep 0] } }):wpAny (model prog w) A (pyIter<|.ref d) Q E s:=by
 have ty:=x.ty;obtain⟨o,es,e1,e2,e3,e4⟩:=x;have n:es.size=ks.length:=by rw[<- e4,Z3,ZN]
 refine VV ty F.slot_dict_iter (Zj F.slot_dict_iter ty F.entry_dict_iter ?z<|F.args_dict_iter_1 _)
 case z=>
  unfold Builtin.«dict.__iter__» Builtin.Dict.dictSlotNone;refine Z9 (Z9<|wpAny_notOrdered_dict ty ?_);show wpAny _ _ (pure<|Value.ref d) _ _ s;apply Z6;show wpAny _ _ (Builtin.Dict.showsAll d >>= _) _ _ s;unfold Builtin.Dict.showsAll;rw[ZW (by rw[lo];simp)];refine Z9 (Z6<|Z9<|VU e1 e3<|Z9<|Vs e1 e3<|Z9<|Zo<|Z6 ⟨_,rfl,"dict_keyiterator",_,⟨_,ZS _ rfl,rfl⟩,Yv.lookup,?_⟩);simpa [rawInt,n] using q
theorem yB{v:Value}(hit:s.heap.IsKeyIter it d i ks.length ep)(x:Ih s.heap d ks ep)(hv:ks[i]?=some v)(q:∀ h',h'.IsKeyIter it d (i+1) ks.length ep->Heap.SameBut it s.heap h'->Q (some v) { s with heap:=h' }):wpAny (model prog w) A (pyNext<|.ref it) Q E s:=by
 obtain⟨oi,f1,f2,f3⟩:=id hit;obtain⟨o,es,e1,e2,e3,e4⟩:=x;have n:es.size=ks.length:=by rw[<- e4,Z3,ZN]
 have hi:i<es.size:=by
  have:i<ks.length:=(Zv.mp hv).1;lia
 have ek:es[i].key=v:=by
  rw[<- e4,ZB,ZD,Zd hi] at hv;exact Zq hv
 unfold pyNext;refine Z9 (XT<|Zb (name:=Str.ofString "__next__") hit.typeIs Yv<|Zj Yv hit.typeIs Ws ?z<|WG _)
 case z=>
  refine Z9 (Z6<|Z9<|Z9 ?_);refine Z9 (Ye hit.typeIs<|Z6<|Z9<|Xn f1 f3 ?_);simp only[show Builtin.Dict_items.ownsTuple "dict_keyiterator" = false by decide,Zg,Yr];show wpAny _ _ (if (Value.ref d == Value.none)=true then _ else _) _ _ s;rw[ZW (show ¬ (Value.ref d == Value.none)=true by intro z;cases z)];refine Z9 (Z6<|Z9<|VU e1 e3 ?_);rw[ZW (by simp[n])];refine Z9 (Z6<|Z9<|Vs e1 e3 ?_);rw[ZW (by simp)];apply Z6;simp only[show ¬ ((i:Int)<0) by lia,Yr,Yj,Zd hi];refine Z9 (Z9<|Ye hit.typeIs<|Z6<|Z9<|wpAny_isOneOf_keyiter hit.typeIs ?_);show wpAny _ _ (setField (.ref it) 1 (rawInt<|(i:Int)+1) >>= _) _ _ s;have Mi:(s.heap.update it (Obj.mapFields (·.setIfInBounds 1 (rawInt<|(i:Int)+1)))).IsKeyIter it d (i+1) ks.length ep:=
   ⟨_,Yy _ f1<|WK<|X4 f3 _,(VR ..).trans f2,by rw[X4 f3];simp[rawInt]⟩;refine Z9 (XH f1 f3 (by simp) (Z9 (YY (Z9 (wpAny_isOneOf_keyiter (s:={ s with heap:=s.heap.update it (Obj.mapFields (·.setIfInBounds 1 (rawInt<|(i:Int)+1))) }) Mi.typeIs ?_)))));show wpAny _ _ (pure es[i].key) _ _ _;rw[ek];exact Z6 (Z6 ⟨_,rfl,Z6<|q _ Mi<|YM ..⟩)
theorem yC(hh:A.handled=none)(hit:s.heap.IsKeyIter it d i ks.length ep)(x:Ih s.heap d ks ep)(hv:ks.length<=i)(q:∀ h',Heap.ExtBut it s.heap h'->Q none { s with heap:=h' }):wpAny (model prog w) A (pyNext<|.ref it) Q E s:=by
 obtain⟨oi,f1,f2,f3⟩:=id hit;obtain⟨o,es,e1,e2,e3,e4⟩:=x;have n:es.size=ks.length:=by rw[<- e4,Z3,ZN]
 unfold pyNext;refine Z9 (XT<|Zb (name:=Str.ofString "__next__") hit.typeIs Yv<|Zj Yv hit.typeIs Ws ?z<|WG _)
 case z=>
  refine Z9 (Z6<|Z9<|Z9 ?_);refine Z9 (Ye hit.typeIs<|Z6<|Z9<|Xn f1 f3 ?_);simp only[show Builtin.Dict_items.ownsTuple "dict_keyiterator" = false by decide,Zg,Yr];show wpAny _ _ (if (Value.ref d == Value.none)=true then _ else _) _ _ s;rw[ZW (show ¬ (Value.ref d == Value.none)=true by intro z;cases z)];refine Z9 (Z6<|Z9<|VU e1 e3 ?_);rw[ZW (by simp[n])];refine Z9 (Z6<|Z9<|Vs e1 e3 ?_);rw[ZW (by simp)];apply Z6;simp only[show ¬ ((i:Int)<0) by lia,Yr,Yj,WW (show es.size<=i by lia)];refine Z9 (Z9<|Ye hit.typeIs<|Z6 ?_);show wpAny _ _ (setField (.ref it) 0 .none >>= _) _ _ s;refine Z9 (XH f1 f3 (by simp) ?_);show wpAny _ _ (newExc (.type "StopIteration") [] >>= _) _ _ _;apply Z9;simp only[newExc,newTuple];refine Z9 (Zo (Z9 (m:=firstArgMember _ _) (Vo (a:=Value.none) (by first | rfl | (simp only[firstArgMember];rfl)) (Zo ?_ (by size_fits)))) (by size_fits));simp only[raiseNew];apply Z9;apply wpAny_handled;rw[show A.in1.handled=none from hh];refine Z9 (m:=pure _) (Z6<|wpAny_throw ?_);apply Z9;refine XJ (T := "StopIteration") (b:=true) ⟨_,ZS _ rfl,rfl⟩ Wc ?_;exact Z6 (q _<|((YM ..).extBut.push _).push _)
theorem yD(hh:A.handled=none)(it d:Addr)(ne:d≠it)(ks:List Value)(ep:Nat):Walks prog w A it [it,d] [it] ks.length (fun i v=>ks[i]?=some v) (fun i h=>h.IsKeyIter it d i ks.length ep/\Ih h d ks ep) where
 sub:=fun b hb=>by
  have:b=it:=by simpa using hb
  simp[this]
 frame:=fun i h h' st k=>⟨let ⟨o,e,r⟩:=st.1;⟨o,k it (by simp) o e,r⟩,st.2.go (k d (by simp))⟩
 item:=fun i s Q E hi st hQ=>by
  have hv:ks[i]?=some ks[i]:=by simp[hi]
  refine yB st.1 st.2 hv fun h' a b=>hQ _ h' s.toks hv ⟨a,st.2.go fun o e=>b.extBut d o ne e⟩ fun c o hc e=>b.extBut c o (by simpa using hc) e
 done:=fun s Q E st hQ=>yC hh st.1 st.2 (ZV _) fun h' b=>hQ h' s.toks fun c o hc e=>b c o (by simpa using hc) e
 self:=fun i s Q E st hQ=>wpAny_pyIter_keyiter st.1 hQ
theorem yE(lo:(d == sysModules)=false):PySem.W.KdlSrc prog w "dict" d d ks.length (fun i v=>ks[i]?=some v) (fun h=>Ih h d ks ep) where
 type:=fun s x=>x.ty
 there:=fun h x=>⟨x.lt,x.lt⟩
 keep:=fun h h' x k=>x.go (k d<|.inl rfl)
 notList:=by decide
 notTuple:=by decide
 hint:=fun A E s Q x q=>PySem.W.kdl_hint_dict x.ty q
 iter:=fun A s hh x=>⟨_,_,(fun E Q q=>yA lo x q),yD hh _ d (Zx x.lt) ks ep,⟨⟨_,ZS _ rfl,rfl,rfl⟩,x.go fun o e=>Z7 _ e⟩⟩
end
end L2
namespace L2
open PySem PySem.Spec PyProof.Rows PySem.W
section
variable{n:Nat}{key:Nat->Int}{cmp:Nat->Nat->(Bool->Shared->Prop)->Shared->Prop}
def B_(key:Nat->Int)(p:Array Nat)(i:Nat):Int:=key (p.getD i 0)
def Up(key:Nat->Int)(p:Array Nat)(m:Nat):Prop:=∀ i j,i<=j->j<m->B_ key p i<=B_ key p j
def cz(n:Nat)(key:Nat->Int)(cmp:Nat->Nat->(Bool->Shared->Prop)->Shared->Prop)(s:Shared):Prop:=∀ i j C,i<n->j<n->C (decide (key i<key j)) s->cmp i j C s
def Rg(n:Nat)(p:Array Nat):Prop:=p.toList.Perm (range n)
variable{p:Array Nat}
theorem Rg.size(h:Rg n p):p.size=n:=by
 have:=h.length_eq;simpa using this
theorem Rg.lt(h:Rg n p){i:Nat}(hi:i<n):p.getD i 0<n:=by
 have hs:=h.size;have e:p.getD i 0=p[i]:=by simp[Array.getD,hs,hi]
 rw[e];have:p[i]∈p.toList:=by simp
 exact Zi.mp (h.mem_iff.mp this)
theorem Rg.ne(h:Rg n p)(inj:∀ i j,i<n->j<n->key i=key j->i=j){i j:Nat}(Gp:i<j)(hj:j<n):B_ key p i≠B_ key p j:=by
 intro e;have hs:=h.size;have e':=inj _ _ (h.lt (by lia)) (h.lt hj) e;have e1:p.getD i 0=p[i]:=by simp[Array.getD,hs,show i<n by lia]
 have e2:p.getD j 0=p[j]:=by simp[Array.getD,hs,hj]
 rw[e1,e2] at e';have nd:p.toList.Nodup:=h.nodup_iff.mpr WF;have e3:p.toList[i]'(by simpa [hs] using (show i<n by lia))=p.toList[j]'(by simpa [hs] using hj):=by simpa using e'
 have:=(VJ nd).mp e3;lia
theorem gY{q:Array Nat}{i j:Nat}(e:p[i]?=q[j]?):B_ key p i=B_ key q j:=by
 unfold B_;rw[Wg,Wg,e]
theorem Rg.rev(h:Rg n p)(i j:Nat):Rg n (kas_rev p i j):=(Wb.mp<|mirror_perm p i j _).trans h
theorem Rg.Rr(h:Rg n p)(i j:Nat):Rg n (bubble p i j):=(Wb.mp<|bubble_perm p i j).trans h
end
section
variable{prog:Program}{w:World}{A:Around}{E:Value->Shared->Prop}{κ:SortKind}{it:Array Keyed}{key:Nat->Int}
end
section
variable{prog:Program}{w:World}{A:Around}{E:Value->Shared->Prop}{κ:SortKind}{it:Array Keyed}{key:Nat->Int}{n:Nat}{s:Shared}
def ku:Bool->Keyed->Array Keyed->Nat->Nat->Nat->StateT SortSt Sem (Option Nat):=sortPriv% PySem.Builtin.gallop
theorem iX(hc:cz n key (kas_cmp prog w A κ it) s){i j:Nat}(hi:i<n)(hj:j<n){st:SortSt}(hk:kindOf st=κ){Q:Option Bool->SortSt->Shared->Prop}(h:Q (some<|decide (key i<key j)) st s):
  kasC (model prog w) A E (lt' (kas_item it i)<|kas_item it j) Q st s:=by
 rw[lt'_eq];apply ZX;apply Xw;have:=hc i j (fun c s'=>s'=s/\c=decide (key i<key j)) hi hj ⟨rfl,rfl⟩;unfold kas_cmp at this;rw[hk];refine ZX (We<|XT<|YA this (fun c s' KM=>?_) fun _ _ hF=>hF.elim);obtain⟨rfl,rfl⟩:=KM;exact Z1 h
theorem bQ{σ β:Type}{M:Model}{f:Nat->β->StateT σ Sem (ForInStep β)}{Q:β->σ->Shared->Prop}(I:Nat->β->σ->Shared->Prop)(step:∀ x c st s',I x c st s'->kasC M A E (f x c) (fun r p_ s2=>match r with | .yield c'=>I (x+1) c' p_ s2 | .done c'=>Q c' p_ s2) st s'):∀ (m a:Nat) (c:β) (st:σ) (s':Shared),(∀ c st s',I (a+m) c st s'->Q c st s')->I a c st s'->
   kasC M A E (forIn (range' a m) c f) Q st s'
 | 0,a,c,st,s',fin,h=>by
  show kasC M A E (forIn ([]:List Nat) c f) Q st s';exact kasC_nil (fin c st s' h)
 | m+1,a,c,st,s',fin,h=>by
  show kasC M A E (forIn (a::range' (a+1) m) c f) Q st s';refine kasC_cons (YA (step a c st s' h) (fun r s2 h'=>?_) fun _ _ e=>e);obtain⟨r,p_⟩:=r;cases r with
  | done c'=>exact h'
  | yield c'=>exact bQ I step m (a+1) c' p_ s2 (fun c st s' hi=>fin c st s' (by rw[show a+(m+1)=a+1+m by lia];exact hi)) h'
def E9(key:Nat->Int)(left:Bool)(k:Nat)(pa:Array Nat)(base i:Nat):Bool:=if left=true then decide (key (pa.getD (base+i) 0)<key k) else !decide (key k<key (pa.getD (base+i) 0))
theorem qj(hc:cz n key (kas_cmp prog w A κ it) s){left:Bool}{k:Nat}(hk:k<n){pa:Array Nat}(Rs:∀ i,i<pa.size->pa.getD i 0<n){base m hint:Nat}(hb:base+m<=pa.size)(hh:hint<m)(mono:∀ i j,i<=j->j<m->E9 key left k pa base j=true->E9 key left k pa base i=true){st:SortSt}(r_:kindOf st=κ){Q:Option Nat->SortSt->Shared->Prop}(h:∀ r,r<=m->(∀ i,i<r->E9 key left k pa base i=true)->(∀ i,r<=i->i<m->E9 key left k pa base i=false)->Q (some r) st s):
  kasC (model prog w) A E (ku left (kas_item it k) (pa.map<|kas_item it) base m hint) Q st s:=by
 have el:∀ i,i<m->(pa.map<|kas_item it)[base+i]?=some (kas_item it<|pa.getD (base+i) 0):=fun i hi=>by
  have:base+i<pa.size:=by lia
  simp[Array.getD,this]
 have ask:∀ i,i<m->∀ Q':Option Bool->SortSt->Shared->Prop,Q' (some<|E9 key left k pa base i) st s->
   kasC (model prog w) A E (do let x <- elem' (pa.map<|kas_item it) (base+i);if left=true then lt' x (kas_item it k) else do let r <- lt' (kas_item it k) x;pure (r.map fun x=>!x)) Q' st s:=fun i hi Q' hq=>by
  rw[elem'_eq,el i hi];apply ZX;apply Z1;have hx:=Rs (base+i) (by lia);unfold E9 at hq;cases left with
  | true=>
   rw[ZY rfl] at hq ⊢;exact iX hc hx hk r_ hq
  | false=>
   rw[ZW ZM] at hq ⊢;exact ZX (iX hc hk hx r_<|Z1 hq)
 unfold ku;with_unfolding_all refine ZX ?_;refine ask hint hh _ ?_;dsimp only;cases Qf:E9 key left k pa base hint with
 | true=>
  rw[ZY rfl];apply ZX;apply YX;have KZ:∀ last Fa,last<Fa->hint+last<m->E9 key left k pa base (hint+last)=true->(Fa >= m - hint\/E9 key left k pa base (hint+Fa)=false)->
    hint+last+1<=hint+min Fa (m - hint)/\hint+min Fa (m - hint)<=m/\(∀ i,i<hint+last+1->E9 key left k pa base i=true)/\(∀ i,hint+min Fa (m - hint)<=i->i<m->E9 key left k pa base i=false)/\hint+min Fa (m - hint) - (hint+last+1)<=m - 0:=fun last Fa a1 a2 a3 a4=>by
   refine⟨by lia,by lia,fun i hi=>mono i (hint+last) (by lia) a2 a3,fun i h1 h2=>?_,by lia⟩;rcases a4 with a4 | a4
   ·lia
   ·cases FN:E9 key left k pa base i with
    | false=>rfl
    | true=>rw[mono (hint+Fa) i (by lia) h2 FN] at a4;cases a4
  refine bQ (fun x c g_ s'=>g_=st/\s'=s/\∃ last Fa,c=(none,last,Fa)/\last<Fa/\x<Fa/\hint+last<m/\E9 key left k pa base (hint+last)=true) ?_ _ 0 _ _ _ ?_ ⟨rfl,rfl,0,1,rfl,by lia,by lia,by lia,Qf⟩
  ·rintro x c g_ s' ⟨e1,e2,last,Fa,rfl,h1,h2,h3,h4⟩;rw[e1,e2];dsimp only;by_cases ho:Fa >= m - hint
   ·rw[ZY ho];apply Z1;dsimp only;have LH:=KZ last Fa h1 h3 h4 (.inl ho);apply ZX;apply YX;refine bQ (fun x c g_ s'=>g_=st/\s'=s/\∃ lo hi,c=(none,lo,hi)/\lo<=hi/\hi<=m/\(∀ i,i<lo->E9 key left k pa base i=true)/\(∀ i,hi<=i->i<m->E9 key left k pa base i=false)/\hi - lo<=m - x) ?_ _ 0 _ _ _ ?_ ⟨rfl,rfl,_,_,rfl,LH⟩
    ·rintro x c g_ s' ⟨e1,e2,lo,hi,rfl,h1,h2,h3,h4,h5⟩;rw[e1,e2];dsimp only;by_cases Hh:lo >= hi
     ·rw[ZY Hh];apply Z1;dsimp only;have e:lo=hi:=by lia
      subst e;exact Z1 (h lo h2 h3 h4)
     ·rw[ZW Hh];have m1:lo<=lo+(hi - lo) / 2:=by lia
      have m2:lo+(hi - lo) / 2<hi:=by lia
      generalize lo+(hi - lo) / 2=mid at m1 m2 ⊢;refine ZX (ask mid (by lia) _ ?_);dsimp only;cases hB:E9 key left k pa base mid with
      | true=>
       rw[ZY rfl];exact Z1 ⟨rfl,rfl,mid+1,hi,rfl,by lia,h2,fun i GG=>mono i mid (by lia) (by lia) hB,h4,by lia⟩
      | false=>
       rw[ZW ZM];refine Z1 ⟨rfl,rfl,lo,mid,rfl,by lia,by lia,h3,fun i a b=>?_,by lia⟩;cases FN:E9 key left k pa base i with
       | false=>rfl
       | true=>rw[mono mid i a b FN] at hB;cases hB
    ·rintro c g_ s' ⟨e1,e2,lo,hi,rfl,h1,h2,h3,h4,h5⟩;rw[e1,e2];dsimp only;have e:lo=hi:=by lia
     subst e;exact Z1 (h lo h2 h3 h4)
   ·rw[ZW ho];refine ZX (ask (hint+Fa) (by lia) _ ?_);dsimp only;cases hB:E9 key left k pa base (hint+Fa) with
    | true=>
     simp only[Xb,Zg,Yr];exact Z1 ⟨rfl,rfl,Fa,2 * Fa+1,rfl,by lia,by lia,by lia,hB⟩
    | false=>
     simp only[Bool.not_false,Xr];apply Z1;dsimp only;have LH:=KZ last Fa h1 h3 h4 (.inr hB);apply ZX;apply YX;refine bQ (fun x c g_ s'=>g_=st/\s'=s/\∃ lo hi,c=(none,lo,hi)/\lo<=hi/\hi<=m/\(∀ i,i<lo->E9 key left k pa base i=true)/\(∀ i,hi<=i->i<m->E9 key left k pa base i=false)/\hi - lo<=m - x) ?_ _ 0 _ _ _ ?_ ⟨rfl,rfl,_,_,rfl,LH⟩
     ·rintro x c g_ s' ⟨e1,e2,lo,hi,rfl,h1,h2,h3,h4,h5⟩;rw[e1,e2];dsimp only;by_cases Hh:lo >= hi
      ·rw[ZY Hh];apply Z1;dsimp only;have e:lo=hi:=by lia
       subst e;exact Z1 (h lo h2 h3 h4)
      ·rw[ZW Hh];have m1:lo<=lo+(hi - lo) / 2:=by lia
       have m2:lo+(hi - lo) / 2<hi:=by lia
       generalize lo+(hi - lo) / 2=mid at m1 m2 ⊢;refine ZX (ask mid (by lia) _ ?_);dsimp only;cases hB:E9 key left k pa base mid with
       | true=>
        rw[ZY rfl];exact Z1 ⟨rfl,rfl,mid+1,hi,rfl,by lia,h2,fun i GG=>mono i mid (by lia) (by lia) hB,h4,by lia⟩
       | false=>
        rw[ZW ZM];refine Z1 ⟨rfl,rfl,lo,mid,rfl,by lia,by lia,h3,fun i a b=>?_,by lia⟩;cases FN:E9 key left k pa base i with
        | false=>rfl
        | true=>rw[mono mid i a b FN] at hB;cases hB
     ·rintro c g_ s' ⟨e1,e2,lo,hi,rfl,h1,h2,h3,h4,h5⟩;rw[e1,e2];dsimp only;have e:lo=hi:=by lia
      subst e;exact Z1 (h lo h2 h3 h4)
  ·rintro c g_ s' ⟨e1,e2,last,Fa,rfl,h1,h2,h3,h4⟩;rw[e1,e2];dsimp only;have LH:=KZ last Fa h1 h3 h4 (.inl (by lia));apply ZX;apply YX;refine bQ (fun x c g_ s'=>g_=st/\s'=s/\∃ lo hi,c=(none,lo,hi)/\lo<=hi/\hi<=m/\(∀ i,i<lo->E9 key left k pa base i=true)/\(∀ i,hi<=i->i<m->E9 key left k pa base i=false)/\hi - lo<=m - x) ?_ _ 0 _ _ _ ?_ ⟨rfl,rfl,_,_,rfl,LH⟩
   ·rintro x c g_ s' ⟨e1,e2,lo,hi,rfl,h1,h2,h3,h4,h5⟩;rw[e1,e2];dsimp only;by_cases Hh:lo >= hi
    ·rw[ZY Hh];apply Z1;dsimp only;have e:lo=hi:=by lia
     subst e;exact Z1 (h lo h2 h3 h4)
    ·rw[ZW Hh];have m1:lo<=lo+(hi - lo) / 2:=by lia
     have m2:lo+(hi - lo) / 2<hi:=by lia
     generalize lo+(hi - lo) / 2=mid at m1 m2 ⊢;refine ZX (ask mid (by lia) _ ?_);dsimp only;cases hB:E9 key left k pa base mid with
     | true=>
      rw[ZY rfl];exact Z1 ⟨rfl,rfl,mid+1,hi,rfl,by lia,h2,fun i GG=>mono i mid (by lia) (by lia) hB,h4,by lia⟩
     | false=>
      rw[ZW ZM];refine Z1 ⟨rfl,rfl,lo,mid,rfl,by lia,by lia,h3,fun i a b=>?_,by lia⟩;cases FN:E9 key left k pa base i with
      | false=>rfl
      | true=>rw[mono mid i a b FN] at hB;cases hB
   ·rintro c g_ s' ⟨e1,e2,lo,hi,rfl,h1,h2,h3,h4,h5⟩;rw[e1,e2];dsimp only;have e:lo=hi:=by lia
    subst e;exact Z1 (h lo h2 h3 h4)
 | false=>
  rw[ZW ZM];apply ZX;apply YX;have KZ:∀ last Fa,last<Fa->last<=hint->E9 key left k pa base (hint - last)=false->(Fa >= hint+1\/E9 key left k pa base (hint - Fa)=true)->
    hint+1 - min Fa (hint+1)<=hint - last/\hint - last<=m/\(∀ i,i<hint+1 - min Fa (hint+1)->E9 key left k pa base i=true)/\(∀ i,hint - last<=i->i<m->E9 key left k pa base i=false)/\hint - last - (hint+1 - min Fa (hint+1))<=m - 0:=fun last Fa a1 a2 a3 a4=>by
   refine⟨by lia,by lia,fun i hi=>?_,fun i h1 h2=>?_,by lia⟩
   ·rcases a4 with a4 | a4
    ·lia
    ·exact mono i (hint - Fa) (by lia) (by lia) a4
   ·cases FN:E9 key left k pa base i with
    | false=>rfl
    | true=>rw[mono (hint - last) i (by lia) h2 FN] at a3;cases a3
  refine bQ (fun x c g_ s'=>g_=st/\s'=s/\∃ last Fa,c=(none,last,Fa)/\last<Fa/\x<Fa/\last<=hint/\E9 key left k pa base (hint - last)=false) ?_ _ 0 _ _ _ ?_ ⟨rfl,rfl,0,1,rfl,by lia,by lia,by lia,Qf⟩
  ·rintro x c g_ s' ⟨e1,e2,last,Fa,rfl,h1,h2,h3,h4⟩;rw[e1,e2];dsimp only;by_cases ho:Fa >= hint+1
   ·rw[ZY ho];apply Z1;dsimp only;have LH:=KZ last Fa h1 h3 h4 (.inl ho);apply ZX;apply YX;refine bQ (fun x c g_ s'=>g_=st/\s'=s/\∃ lo hi,c=(none,lo,hi)/\lo<=hi/\hi<=m/\(∀ i,i<lo->E9 key left k pa base i=true)/\(∀ i,hi<=i->i<m->E9 key left k pa base i=false)/\hi - lo<=m - x) ?_ _ 0 _ _ _ ?_ ⟨rfl,rfl,_,_,rfl,LH⟩
    ·rintro x c g_ s' ⟨e1,e2,lo,hi,rfl,h1,h2,h3,h4,h5⟩;rw[e1,e2];dsimp only;by_cases Hh:lo >= hi
     ·rw[ZY Hh];apply Z1;dsimp only;have e:lo=hi:=by lia
      subst e;exact Z1 (h lo h2 h3 h4)
     ·rw[ZW Hh];have m1:lo<=lo+(hi - lo) / 2:=by lia
      have m2:lo+(hi - lo) / 2<hi:=by lia
      generalize lo+(hi - lo) / 2=mid at m1 m2 ⊢;refine ZX (ask mid (by lia) _ ?_);dsimp only;cases hB:E9 key left k pa base mid with
      | true=>
       rw[ZY rfl];exact Z1 ⟨rfl,rfl,mid+1,hi,rfl,by lia,h2,fun i GG=>mono i mid (by lia) (by lia) hB,h4,by lia⟩
      | false=>
       rw[ZW ZM];refine Z1 ⟨rfl,rfl,lo,mid,rfl,by lia,by lia,h3,fun i a b=>?_,by lia⟩;cases FN:E9 key left k pa base i with
       | false=>rfl
       | true=>rw[mono mid i a b FN] at hB;cases hB
    ·rintro c g_ s' ⟨e1,e2,lo,hi,rfl,h1,h2,h3,h4,h5⟩;rw[e1,e2];dsimp only;have e:lo=hi:=by lia
     subst e;exact Z1 (h lo h2 h3 h4)
   ·rw[ZW ho];refine ZX (ask (hint - Fa) (by lia) _ ?_);dsimp only;cases hB:E9 key left k pa base (hint - Fa) with
    | false=>
     rw[ZW ZM];exact Z1 ⟨rfl,rfl,Fa,2 * Fa+1,rfl,by lia,by lia,by lia,hB⟩
    | true=>
     rw[ZY rfl];apply Z1;dsimp only;have LH:=KZ last Fa h1 h3 h4 (.inr hB);apply ZX;apply YX;refine bQ (fun x c g_ s'=>g_=st/\s'=s/\∃ lo hi,c=(none,lo,hi)/\lo<=hi/\hi<=m/\(∀ i,i<lo->E9 key left k pa base i=true)/\(∀ i,hi<=i->i<m->E9 key left k pa base i=false)/\hi - lo<=m - x) ?_ _ 0 _ _ _ ?_ ⟨rfl,rfl,_,_,rfl,LH⟩
     ·rintro x c g_ s' ⟨e1,e2,lo,hi,rfl,h1,h2,h3,h4,h5⟩;rw[e1,e2];dsimp only;by_cases Hh:lo >= hi
      ·rw[ZY Hh];apply Z1;dsimp only;have e:lo=hi:=by lia
       subst e;exact Z1 (h lo h2 h3 h4)
      ·rw[ZW Hh];have m1:lo<=lo+(hi - lo) / 2:=by lia
       have m2:lo+(hi - lo) / 2<hi:=by lia
       generalize lo+(hi - lo) / 2=mid at m1 m2 ⊢;refine ZX (ask mid (by lia) _ ?_);dsimp only;cases hB:E9 key left k pa base mid with
       | true=>
        rw[ZY rfl];exact Z1 ⟨rfl,rfl,mid+1,hi,rfl,by lia,h2,fun i GG=>mono i mid (by lia) (by lia) hB,h4,by lia⟩
       | false=>
        rw[ZW ZM];refine Z1 ⟨rfl,rfl,lo,mid,rfl,by lia,by lia,h3,fun i a b=>?_,by lia⟩;cases FN:E9 key left k pa base i with
        | false=>rfl
        | true=>rw[mono mid i a b FN] at hB;cases hB
     ·rintro c g_ s' ⟨e1,e2,lo,hi,rfl,h1,h2,h3,h4,h5⟩;rw[e1,e2];dsimp only;have e:lo=hi:=by lia
      subst e;exact Z1 (h lo h2 h3 h4)
  ·rintro c g_ s' ⟨e1,e2,last,Fa,rfl,h1,h2,h3,h4⟩;rw[e1,e2];dsimp only;have LH:=KZ last Fa h1 h3 h4 (.inl (by lia));apply ZX;apply YX;refine bQ (fun x c g_ s'=>g_=st/\s'=s/\∃ lo hi,c=(none,lo,hi)/\lo<=hi/\hi<=m/\(∀ i,i<lo->E9 key left k pa base i=true)/\(∀ i,hi<=i->i<m->E9 key left k pa base i=false)/\hi - lo<=m - x) ?_ _ 0 _ _ _ ?_ ⟨rfl,rfl,_,_,rfl,LH⟩
   ·rintro x c g_ s' ⟨e1,e2,lo,hi,rfl,h1,h2,h3,h4,h5⟩;rw[e1,e2];dsimp only;by_cases Hh:lo >= hi
    ·rw[ZY Hh];apply Z1;dsimp only;have e:lo=hi:=by lia
     subst e;exact Z1 (h lo h2 h3 h4)
    ·rw[ZW Hh];have m1:lo<=lo+(hi - lo) / 2:=by lia
     have m2:lo+(hi - lo) / 2<hi:=by lia
     generalize lo+(hi - lo) / 2=mid at m1 m2 ⊢;refine ZX (ask mid (by lia) _ ?_);dsimp only;cases hB:E9 key left k pa base mid with
     | true=>
      rw[ZY rfl];exact Z1 ⟨rfl,rfl,mid+1,hi,rfl,by lia,h2,fun i GG=>mono i mid (by lia) (by lia) hB,h4,by lia⟩
     | false=>
      rw[ZW ZM];refine Z1 ⟨rfl,rfl,lo,mid,rfl,by lia,by lia,h3,fun i a b=>?_,by lia⟩;cases FN:E9 key left k pa base i with
      | false=>rfl
      | true=>rw[mono mid i a b FN] at hB;cases hB
   ·rintro c g_ s' ⟨e1,e2,lo,hi,rfl,h1,h2,h3,h4,h5⟩;rw[e1,e2];dsimp only;have e:lo=hi:=by lia
    subst e;exact Z1 (h lo h2 h3 h4)
end
section
variable{key:Nat->Int}
def E4(key:Nat->Int)(l:List Nat):Prop:=l.Pairwise fun x y=>key x<=key y
structure Rt(key:Nat->Int)(la lb:List Nat)(po:List Nat)(ia ib:Nat):Prop where
 perm:po.Perm (la.take ia++lb.take ib)
 sa:E4 key (po++la.drop ia)
 sb:E4 key (po++lb.drop ib)
 pa:ia+1<la.length
 pb:ib<lb.length
variable{l m:List Nat}
theorem bA:E4 key (l++m)↔E4 key l/\E4 key m/\∀ x∈l,∀ y∈m,key x<=key y:=List.pairwise_append
theorem gZ(l:List Nat)(i k:Nat):l.take i++(l.drop i).take k=l.take (i+k):=by rw[List.take_add]
variable{la lb po:List Nat}{ia ib:Nat}
theorem gj(k:Nat)(perm:po.Perm (la.take ia++lb.take ib))(sa:E4 key (po++la.drop ia))(sb:E4 key (po++lb.drop ib))(h:∀ x∈(la.drop ia).take k,∀ y∈lb.drop ib,key x<=key y):
  (po++(la.drop ia).take k).Perm (la.take (ia+k)++lb.take ib)/\E4 key (po++(la.drop ia).take k++la.drop (ia+k))/\E4 key (po++(la.drop ia).take k++lb.drop ib):=by
 refine⟨?_,?_,?_⟩
 ·rw[<- gZ la ia k];refine (perm.append_right _).trans ?_;rw[Z4,Z4];exact ZL _ ZT
 ·rw[Z4,<- XG,Zy];exact sa
 ·rw[Z4];have s1:=bA.mp sa;have s2:=bA.mp sb;refine bA.mpr ⟨s1.1,bA.mpr ⟨s1.2.1.sublist<|XW _ _,s2.2.1,h⟩,fun x hx y hy=>?_⟩;rcases ZA.mp hy with hy | hy
  ·exact s1.2.2 x hx y (Yo hy)
  ·exact s2.2.2 x hx y hy
theorem iY(k:Nat)(perm:po.Perm (la.take ia++lb.take ib))(sa:E4 key (po++la.drop ia))(sb:E4 key (po++lb.drop ib))(h:∀ x∈(lb.drop ib).take k,∀ y∈la.drop ia,key x<=key y):
  (po++(lb.drop ib).take k).Perm (la.take ia++lb.take (ib+k))/\E4 key (po++(lb.drop ib).take k++la.drop ia)/\E4 key (po++(lb.drop ib).take k++lb.drop (ib+k)):=by
 have:=gj (la:=lb) (lb:=la) k (perm.trans ZT) sb sa h;exact⟨this.1.trans ZT,this.2.2,this.2.1⟩
variable{i:Nat}
theorem bR(h:i<l.length):(l.drop i).take 1=[l.getD i 0]:=by
 rw[Y3 h,Z5,Z0 h];rfl
variable{y:Nat}
theorem cC(h:y∈l.drop i):∃ j,i<=j/\j<l.length/\y=l.getD j 0:=by
 obtain⟨j,hj,e⟩:=Yd.mp h;have hl:=hj;rw[Zm] at hl;exact⟨i+j,by lia,by lia,by rw[<- e,XV];simp[List.getD,show i+j<l.length by lia]⟩
variable{k:Nat}
theorem gn(h:y∈(l.drop i).take k):∃ j,j<k/\i+j<l.length/\y=l.getD (i+j) 0:=by
 obtain⟨j,hj,e⟩:=Yd.mp h;have hl:=hj;rw[Zc,Zm] at hl;exact⟨j,by lia,by lia,by rw[<- e,WV,XV];simp[List.getD,show i+j<l.length by lia]⟩
theorem gp(h:E4 key l){i j:Nat}(Gp:i<=j)(hj:j<l.length):key (l.getD i 0)<=key (l.getD j 0):=by
 rcases Nat.lt_or_eq_of_le Gp with Gb | rfl
 ·have:=YQ.mp h i j (by lia) hj Gb;simpa [List.getD,hj,show i<l.length by lia] using this
 ·exact Xm _
theorem qk(h:E4 key (l++m)):E4 key m:=(bA.mp h).2.1
theorem fA{j:Nat}(h:E4 key (po++l.drop i))(hj:i<=j)(Qg:j<=k)(hk:k<l.length):key (l.getD j 0)<=key (l.getD k 0):=by
 have:=gp (qk h) (i:=j - i) (j:=k - i) (by lia) (by rw[Zm];lia);simpa [List.getD,YF,show i+(j - i)=j by lia,show i+(k - i)=k by lia] using this
def G9(key:Nat->Int)(it:Array Keyed)(la lb:List Nat)(out:Array Keyed):Prop:=∃ po:List Nat,out=(po.map<|kas_item it).toArray/\po.Perm (la++lb)/\E4 key po
variable{it:Array Keyed}
theorem gq(perm:po.Perm (la.take ia++lb.take ib))(sa:E4 key (po++la.drop ia))(sb:E4 key (po++lb.drop ib))(Ru:ib=lb.length\/ia=la.length):
  G9 key it la lb ((po.map<|kas_item it).toArray++(la.map<|kas_item it).toArray.extract ia la.length++(lb.map<|kas_item it).toArray.extract ib lb.length):=by
 refine⟨po++la.drop ia++lb.drop ib,?_,?_,?_⟩
 ·apply XA;simp[YE,WU]
 ·rw[Z4];refine (perm.append_right _).trans ?_;have:(la.take ia++lb.take ib++(la.drop ia++lb.drop ib)).Perm ((la.take ia++la.drop ia)++(lb.take ib++lb.drop ib)):=by
   rw[Z4,Z4];refine ZL _ ?_;rw[<- Z4,<- Z4];exact ZE _ ZT
  rw[Zy,Zy] at this;exact this
 ·rcases Ru with e | e
  ·rw[e,VF,ZO];exact sa
  ·rw[e,VF,ZO];exact sb
theorem gr(perm:po.Perm (la.take ia++lb.take ib))(sa:E4 key (po++la.drop ia))(sb:E4 key (po++lb.drop ib))(Tp:ia+1=la.length)(top:∀ x∈lb,key x<=key (la.getD (la.length - 1) 0)):
  G9 key it la lb ((po.map<|kas_item it).toArray++(lb.map<|kas_item it).toArray.extract ib lb.length++(la.map<|kas_item it).toArray.extract ia la.length):=by
 refine⟨po++lb.drop ib++la.drop ia,?_,?_,?_⟩
 ·apply XA;simp[YE,WU]
 ·rw[Z4];refine (perm.append_right _).trans ?_;have:(la.take ia++lb.take ib++(lb.drop ib++la.drop ia)).Perm ((la.take ia++la.drop ia)++(lb.take ib++lb.drop ib)):=by
   rw[Z4,Z4];refine ZL _ ?_;rw[<- Z4];exact ZT
  rw[Zy,Zy] at this;exact this
 ·refine bA.mpr ⟨sb,qk sa,fun x hx y hy=>?_⟩;rcases ZA.mp hx with hx | hx
  ·exact (bA.mp sa).2.2 x hx y hy
  ·obtain⟨j,h1,h2,rfl⟩:=cC hy;have:j=la.length - 1:=by lia
   rw[this];exact top x (YS hx)
end
section
variable{prog:Program}{w:World}{A:Around}{E:Value->Shared->Prop}{κ:SortKind}{it:Array Keyed}{key:Nat->Int}{n:Nat}{s:Shared}
def ql:Array Keyed->Array Keyed->StateT SortSt Sem (Array Keyed):=sortPriv% PySem.Builtin.mergeLo
structure i_(NF st:SortSt):Prop where
 k:kindOf st=kindOf NF
 a:arrOf st=arrOf NF
 p:pendingOf st=pendingOf NF
 f:failedOf st=failedOf NF
theorem i_.refl(st:SortSt):i_ st st:=⟨rfl,rfl,rfl,rfl⟩
theorem cD{σ α:Type}{M:Model}{m:StateT σ Sem α}{Q Q':α->σ->Shared->Prop}{st:σ}{s':Shared}(h:kasC M A E m Q' st s')(g:∀ a st s',Q' a st s'->Q a st s'):kasC M A E m Q st s':=
 YA h (fun r s' x=>g r.1 r.2 s' x) fun _ _ e=>e
variable{l:List Nat}
theorem bf{i:Nat}(hi:i<l.length){st:SortSt}{Q:Keyed->SortSt->Shared->Prop}(h:Q (kas_item it<|l.getD i 0) st s):kasC (model prog w) A E (elem' (l.map<|kas_item it).toArray i) Q st s:=by
 rw[elem'_eq,show ((l.map<|kas_item it).toArray)[i]?=some (kas_item it<|l.getD i 0) by simp[List.getD,hi]];exact Z1 h
theorem cZ(hl:∀ x∈l,x<n){i:Nat}(hi:i<l.length):l.getD i 0<n:=by
 rw[Z5,Z0 hi];exact hl _ (WE hi)
theorem eF(l:List Nat)(i:Nat):l.toArray.getD i 0=l.getD i 0:=by simp[Array.getD,List.getD];split<;>simp_all
theorem mx(hc:cz n key (kas_cmp prog w A κ it) s){k:Nat}(hk:k<n){l:List Nat}(hl:∀ x∈l,x<n){base m hint:Nat}(hb:base+m<=l.length)(hh:hint<m)(mono:∀ i j,base<=i->i<=j->j<base+m->key (l.getD i 0)<=key (l.getD j 0)){st:SortSt}(r_:kindOf st=κ){Q:Option Nat->SortSt->Shared->Prop}(h:∀ r,r<=m->(∀ i,base<=i->i<base+r->key (l.getD i 0)<=key k)->(∀ i,base+r<=i->i<base+m->key k<key (l.getD i 0))->Q (some r) st s):
  kasC (model prog w) A E (ku false (kas_item it k) (l.map<|kas_item it).toArray base m hint) Q st s:=by
 rw[<- List.map_toArray];refine qj hc hk (fun i hi=>by rw[eF];exact cZ hl (by simpa using hi)) (by simpa using hb) hh (fun i j Gp hj hB=>?_) r_ fun r hr a b=>h r hr (fun i h1 h2=>?_) (fun i h1 h2=>?_)
 ·simp only[E9,eF,Zg,Yr,WT,XF,Int.not_lt] at hB ⊢;have:=mono (base+i) (base+j) (by lia) (by lia) (by lia);lia
 ·have:=a (i - base) (by lia);simp only[E9,eF,Zg,Yr,WT,XF,Int.not_lt] at this
  rwa [show base+(i - base)=i by lia] at this
 ·have:=b (i - base) (by lia) (by lia);simp only[E9,eF,Zg,Yr,Bool.not_eq_false',WS] at this
  rwa [show base+(i - base)=i by lia] at this
theorem i7(hc:cz n key (kas_cmp prog w A κ it) s){k:Nat}(hk:k<n){l:List Nat}(hl:∀ x∈l,x<n){base m hint:Nat}(hb:base+m<=l.length)(hh:hint<m)(mono:∀ i j,base<=i->i<=j->j<base+m->key (l.getD i 0)<=key (l.getD j 0)){st:SortSt}(r_:kindOf st=κ){Q:Option Nat->SortSt->Shared->Prop}(h:∀ r,r<=m->(∀ i,base<=i->i<base+r->key (l.getD i 0)<key k)->(∀ i,base+r<=i->i<base+m->key k<=key (l.getD i 0))->Q (some r) st s):
  kasC (model prog w) A E (ku true (kas_item it k) (l.map<|kas_item it).toArray base m hint) Q st s:=by
 rw[<- List.map_toArray];refine qj hc hk (fun i hi=>by rw[eF];exact cZ hl (by simpa using hi)) (by simpa using hb) hh (fun i j Gp hj hB=>?_) r_ fun r hr a b=>h r hr (fun i h1 h2=>?_) (fun i h1 h2=>?_)
 ·simp only[E9,eF,Xr,WS] at hB ⊢;have:=mono (base+i) (base+j) (by lia) (by lia) (by lia);lia
 ·have:=a (i - base) (by lia);simp only[E9,eF,Xr,WS] at this
  rwa [show base+(i - base)=i by lia] at this
 ·have:=b (i - base) (by lia) (by lia);simp only[E9,eF,Xr,XF,Int.not_lt] at this
  rwa [show base+(i - base)=i by lia] at this
theorem bg(po:List Nat)(y:Nat):(po.map<|kas_item it).toArray.push (kas_item it y)=((po++[y]).map<|kas_item it).toArray:=by simp
theorem b8(po l:List Nat)(i k:Nat):(po.map<|kas_item it).toArray++(l.map<|kas_item it).toArray.extract i (i+k)=((po++(l.drop i).take k).map<|kas_item it).toArray:=by
 apply XA;simp[YE,Yx,WR]
end
section
variable{prog:Program}{w:World}{A:Around}{E:Value->Shared->Prop}{κ:SortKind}{it:Array Keyed}{key:Nat->Int}{n:Nat}{s:Shared}
def IB(key:Nat->Int)(it:Array Keyed)(la lb:List Nat)(out:Array Keyed)(ia ib:Nat):Prop:=∃ po:List Nat,out=(po.map<|kas_item it).toArray/\Rt key la lb po ia ib
theorem qm{M:Model}{A:Around}{E:Value->Shared->Prop}{σ α:Type}{c:Nat->Prop}{dc:∀ g,Decidable (c g)}{a P:Nat->StateT σ Sem α}{Q:α->σ->Shared->Prop}{st:σ}{s:Shared}(x:Nat->Nat)(ha:∀ g,a g=P (x g))(H:∀ g,kasC M A E (P g) Q st s):∀ g,kasC M A E (if c g then a g else P g) Q st s:=by
 intro g;rw[ha];split
 ·exact H _
 ·exact H _
def Mj(key:Nat->Int)(it:Array Keyed)(la lb:List Nat)(st:SortSt)(s:Shared): Option (Array Keyed)×Array Keyed×Nat×Nat×Nat->SortSt->Shared->Prop:=fun c g_ s'=>s=s'/\i_ st g_/\∃ E_ p q r g,c=(some E_,p,q,r,g)/\G9 key it la lb E_
def Mk(key:Nat->Int)(it:Array Keyed)(la lb:List Nat)(st:SortSt)(s:Shared)(x:Nat):Option (Array Keyed)×Array Keyed×Nat×Nat×Nat->SortSt->Shared->Prop:=fun c g_ s'=>s=s'/\i_ st g_/\∃ o ia ib g,c=(none,o,ia,ib,g)/\IB key it la lb o ia ib/\x+1<=ia+ib
def Ju(key:Nat->Int)(it:Array Keyed)(la lb:List Nat)(st:SortSt)(s:Shared)(x:Nat):Option (Array Keyed)×Array Keyed×Nat×Nat×Nat×Nat->SortSt->Shared->Prop:=fun c g_ s'=>s=s'/\i_ st g_/\((∃ E_ p q r ac bc,c=(some E_,p,q,r,ac,bc)/\G9 key it la lb E_)\/∃ o ia ib ac bc,c=(none,o,ia,ib,ac,bc)/\IB key it la lb o ia ib/\x+2<=ia+ib)
def Ly(key:Nat->Int)(it:Array Keyed)(la lb:List Nat)(st:SortSt)(s:Shared)(x y:Nat):Option (Array Keyed)×Array Keyed×Nat×Nat×Nat×Nat->SortSt->Shared->Prop:=fun c g_ s'=>s=s'/\i_ st g_/\∃ o ia ib ac bc,c=(none,o,ia,ib,ac,bc)/\IB key it la lb o ia ib/\x+1+y<=ia+ib
def GQ(key:Nat->Int)(it:Array Keyed)(la lb:List Nat)(st:SortSt)(s:Shared)(x:Nat):Option (Array Keyed)×Array Keyed×Nat×Nat×Nat×Nat×Nat->SortSt->Shared->Prop:=fun c g_ s'=>s=s'/\i_ st g_/\((∃ E_ p q r g ac bc,c=(some E_,p,q,r,g,ac,bc)/\G9 key it la lb E_)\/∃ o ia ib g ac bc,c=(none,o,ia,ib,g,ac,bc)/\IB key it la lb o ia ib/\x+2<=ia+ib)
def Kf(key:Nat->Int)(it:Array Keyed)(la lb:List Nat)(st:SortSt)(s:Shared)(x y:Nat):Option (Array Keyed)×Array Keyed×Nat×Nat×Nat×Nat×Nat->SortSt->Shared->Prop:=fun c g_ s'=>s=s'/\i_ st g_/\∃ o ia ib g ac bc,c=(none,o,ia,ib,g,ac,bc)/\IB key it la lb o ia ib/\x+2<=ia+ib
variable{la lb:List Nat}{st g_:SortSt}{out p:Array Keyed}{q r g:Nat}
theorem Mj.a{key:Nat->Int}{it:Array Keyed}{s:Shared}(h:i_ st g_)(m:G9 key it la lb out):Mj key it la lb st s (some out,p,q,r,g) g_ s:=⟨rfl,h,_,_,_,_,_,rfl,m⟩
variable{x ia ib:Nat}{o:Array Keyed}
theorem Mk.k{key:Nat->Int}{it:Array Keyed}{s:Shared}(h:i_ st g_)(j:IB key it la lb o ia ib)(e:x+1<=ia+ib):Mk key it la lb st s x (none,o,ia,ib,g) g_ s:=⟨rfl,h,_,_,_,_,rfl,j,e⟩
variable{g2:Nat}
theorem Ju.a{key:Nat->Int}{it:Array Keyed}{s:Shared}(h:i_ st g_)(m:G9 key it la lb out):Ju key it la lb st s x (some out,p,q,r,g,g2) g_ s:=⟨rfl,h,.inl ⟨_,_,_,_,_,_,rfl,m⟩⟩
theorem Ju.b{key:Nat->Int}{it:Array Keyed}{s:Shared}(h:i_ st g_)(j:IB key it la lb o ia ib)(e:x+2<=ia+ib):Ju key it la lb st s x (none,o,ia,ib,g,g2) g_ s:=⟨rfl,h,.inr ⟨_,_,_,_,_,rfl,j,e⟩⟩
variable{y:Nat}
theorem Ly.k{key:Nat->Int}{it:Array Keyed}{s:Shared}(h:i_ st g_)(j:IB key it la lb o ia ib)(e:x+1+y<=ia+ib):Ly key it la lb st s x y (none,o,ia,ib,g,g2) g_ s:=⟨rfl,h,_,_,_,_,_,rfl,j,e⟩
variable{g3:Nat}
theorem GQ.a{key:Nat->Int}{it:Array Keyed}{s:Shared}(h:i_ st g_)(m:G9 key it la lb out):GQ key it la lb st s x (some out,p,q,r,g,g2,g3) g_ s:=⟨rfl,h,.inl ⟨_,_,_,_,_,_,_,rfl,m⟩⟩
theorem GQ.b{key:Nat->Int}{it:Array Keyed}{s:Shared}(h:i_ st g_)(j:IB key it la lb o ia ib)(e:x+2<=ia+ib):GQ key it la lb st s x (none,o,ia,ib,g,g2,g3) g_ s:=⟨rfl,h,.inr ⟨_,_,_,_,_,_,rfl,j,e⟩⟩
theorem Kf.k{key:Nat->Int}{it:Array Keyed}{s:Shared}(h:i_ st g_)(j:IB key it la lb o ia ib)(e:x+2<=ia+ib):Kf key it la lb st s x y (none,o,ia,ib,g,g2,g3) g_ s:=⟨rfl,h,_,_,_,_,_,_,rfl,j,e⟩
theorem bq{a b:Nat}(h:a=b):(a == b)=true:=by simp[h]
theorem FO{a b:Nat}(h:¬ a=b):¬ (a == b)=true:=by simp[h]
theorem yF(hc:cz n key (kas_cmp prog w A κ it) s){la lb:List Nat}(JN:∀ x∈la,x<n)(JO:∀ x∈lb,x<n)(OI:E4 key la)(OJ:E4 key lb)(h0:0<la.length)(h1:0<lb.length)(first:∀ x∈la,key (lb.getD 0 0)<=key x)(top:∀ x∈lb,key x<=key (la.getD (la.length - 1) 0)){st:SortSt}(r_:kindOf st=κ){Q:Array Keyed->SortSt->Shared->Prop}(h:∀ out g_,G9 key it la lb out->i_ st g_->Q out g_ s):
  kasC (model prog w) A E (ql (la.map<|kas_item it).toArray (lb.map<|kas_item it).toArray) Q st s:=by
 unfold ql;with_unfolding_all refine ZX (We<|Yl ?_);refine ZX (bf h1 ?_);dsimp only;generalize OK:(List.map (kas_item it) la).toArray.size=za;obtain rfl:la.length=za:=by rw[<- OK];simp
 generalize OL:(List.map (kas_item it) lb).toArray.size=zb;obtain rfl:lb.length=zb:=by rw[<- OL];simp
 have Gw:[lb.getD 0 0].Perm (la.take 0++lb.take 1):=by
  have:=bR (l:=lb) (i:=0) h1;simp only[X3] at this;rw[this];exact ZC _
 have K0:E4 key ([lb.getD 0 0]++lb.drop 1):=by
  have:=bR (l:=lb) (i:=0) h1;simp only[X3] at this;rw[<- this,Zy];exact OJ
 have K1:E4 key ([lb.getD 0 0]++la.drop 0):=bA.mpr ⟨Zz _ _,by rw[X3];exact OI,fun x hx y hy=>by
  rw[ZZ.mp hx];exact first y (by rwa [X3] at hy)⟩
 have e0:#[kas_item it (lb.getD 0 0)]=([lb.getD 0 0].map<|kas_item it).toArray:=rfl;rw[e0];by_cases c1:1=lb.length
 ·rw[ZY (bq c1)];exact Z1 (h _ _ (gq Gw K1 K0<|.inl c1)<|i_.refl st)
 rw[ZW (FO c1)];by_cases c2:0+1=la.length
 ·rw[ZY (bq c2)];exact Z1 (h _ _ (gr Gw K1 K0 c2 top)<|i_.refl st)
 rw[ZW (FO c2)];refine ZX (Xw ?_);refine ZX (cD (Q':=Mj key it la lb st s) (YX (bQ (Mk key it la lb st s) ?step _ 0 _ _ _ ?fin (Mk.k (i_.refl st) ⟨_,rfl,Gw,K1,K0,by lia,by lia⟩ (by lia)))) ?after)
 case after=>
  rintro c g_ s' ⟨rfl,hs,E_,o,ia,ib,g,rfl,hm⟩;exact Z1 (h _ _ hm hs)
 case fin=>
  rintro c g_ s' ⟨rfl,hs,o,ia,ib,g,rfl,⟨po,rfl,m⟩,hx⟩;have:=m.pa;have:=m.pb;lia
 case step=>
  rintro x c g_ s' ⟨rfl,hs,o,ia,ib,g,rfl,hJ,hx⟩;dsimp only;refine ZX (cD (Q':=Ju key it la lb st s x)
   (YX (bQ (Ly key it la lb st s x) ?IU _ 0 _ _ _ ?K2 (Ly.k hs hJ (by lia)))) ?Ht)
  case K2=>
   rintro c g_ s' ⟨rfl,hs,o,ia,ib,ac,bc,rfl,hJ,hx⟩;exact Ju.b hs hJ (by lia)
  case IU=>
   rintro y c g_ s' ⟨rfl,hs,o,ia,ib,ac,bc,rfl,⟨po,rfl,m⟩,hx⟩;have m1:=m.pa;have m2:=m.pb;have F9:kindOf g_=κ:=hs.k.trans r_;dsimp only;refine ZX (bf m2 ?_);refine ZX (bf (show ia<la.length by lia) ?_);refine ZX (iX hc (cZ JO m2) (cZ JN (show ia<la.length by lia)) F9 ?_);dsimp only;by_cases hw:key (lb.getD ib 0)<key (la.getD ia 0)
   ·rw[ZY (by simpa using hw)];refine ZX (bf m2 ?_);have b1:=iY 1 m.perm m.sa m.sb (fun x hx y hy=>by
     rw[bR m2,ZZ] at hx;obtain⟨j,j1,j2,rfl⟩:=cC hy;have:=fA m.sa (ZV _) j1 j2;rw[hx];lia)
    rw[bR m2] at b1;rw[bg];try dsimp only
    by_cases hz:ib+1=lb.length
    ·rw[ZY (bq hz)];exact Z1 (Ju.a hs<|gq b1.1 b1.2.1 b1.2.2<|.inl hz)
    ·rw[ZW (FO hz)];have J':IB key it la lb ((po++[lb.getD ib 0]).map<|kas_item it).toArray ia (ib+1):=⟨_,rfl,b1.1,b1.2.1,b1.2.2,m1,by lia⟩;by_cases hg:bc+1 >= g
     ·rw[ZY hg];exact Z1 (Ju.b hs J' (by lia))
     ·rw[ZW hg];exact Z1 (Ly.k hs J' (by lia))
   ·rw[ZW (by simpa using hw)];refine ZX (bf (show ia<la.length by lia) ?_);have b1:=gj 1 m.perm m.sa m.sb (fun x hx y hy=>by
     rw[bR (show ia<la.length by lia),ZZ] at hx;obtain⟨j,j1,j2,rfl⟩:=cC hy;have:=fA m.sb (ZV _) j1 j2;rw[hx];lia)
    rw[bR (show ia<la.length by lia)] at b1;rw[bg];try dsimp only
    by_cases hz:ia+1+1=la.length
    ·rw[ZY (bq hz)];exact Z1 (Ju.a hs<|gr b1.1 b1.2.1 b1.2.2 hz top)
    ·rw[ZW (FO hz)];have J':IB key it la lb ((po++[la.getD ia 0]).map<|kas_item it).toArray (ia+1) ib:=⟨_,rfl,b1.1,b1.2.1,b1.2.2,by lia,m2⟩;by_cases hg:ac+1 >= g
     ·rw[ZY hg];exact Z1 (Ju.b hs J' (by lia))
     ·rw[ZW hg];exact Z1 (Ly.k hs J' (by lia))
  case Ht=>
   rintro c g_ s' ⟨rfl,hs,⟨E_,o,ia,ib,ac,bc,rfl,hm⟩ | ⟨o,ia,ib,ac,bc,rfl,hJ,hx⟩⟩
   ·exact Z1 (Mj.a hs hm)
   ·dsimp only;refine ZX (We<|Yl ?_);try dsimp only
    refine ZX (cD (Q':=GQ key it la lb st s x)
     (YX (bQ (Kf key it la lb st s x) ?IV _ 0 _ _ _ ?fin2 (Kf.k hs hJ (by lia)))) ?Hu)
    case fin2=>
     rintro c g_ s' ⟨rfl,hs,o,ia,ib,g,ac,bc,rfl,hJ,hx⟩;exact GQ.b hs hJ (by lia)
    case Hu=>
     rintro c g_ s' ⟨rfl,hs,⟨E_,o,ia,ib,g,ac,bc,rfl,hm⟩ | ⟨o,ia,ib,g,ac,bc,rfl,hJ,hx⟩⟩
     ·exact Z1 (Mj.a hs hm)
     ·dsimp only;refine ZX (Yn ?_);exact Z1 (Mk.k ⟨hs.k,hs.a,hs.p,hs.f⟩ hJ (by lia))
    case IV=>
     rintro y c g_ s' ⟨rfl,hs,o,ia,ib,g,ac,bc,rfl,⟨po,rfl,m⟩,hx⟩;have m1:=m.pa;have m2:=m.pb;dsimp only;revert g;refine qm (fun g=>g - 1) ?ha ?_
     case ha=>exact fun g=>rfl
     intro g;refine ZX (Yn ?_);refine ZX (bf m2 ?_);refine ZX (mx hc (cZ JO m2) JN (base:=ia) (m:=la.length - ia) (hint:=0) (by lia) (by lia) (fun i j a b c=>fA m.sa a b (by lia)) (by exact hs.k.trans r_) ?_);intro k NG lo1 Lz;dsimp only;by_cases Ml:k > 0
     ·rw[ZY Ml];have p1:=gj k m.perm m.sa m.sb (fun x hx y hy=>by
       obtain⟨j,j0,j1,rfl⟩:=gn hx;obtain⟨j',a1,a2,rfl⟩:=cC hy;have:=lo1 (ia+j) (by lia) (by lia);have:=fA m.sb (ZV _) a1 a2;lia)
      by_cases hz:ia+k+1=la.length
      ·rw[ZY (bq hz)];exact Z1 (GQ.a ⟨hs.k,hs.a,hs.p,hs.f⟩ (by rw[b8];exact gr p1.1 p1.2.1 p1.2.2 hz top))
      rw[ZW (FO hz)];by_cases JP:ia+k=la.length
      ·rw[ZY (bq JP)];exact Z1 (GQ.a ⟨hs.k,hs.a,hs.p,hs.f⟩ (by rw[b8];exact gq p1.1 p1.2.1 p1.2.2 (.inr JP)))
      rw[ZW (FO JP)];have K3:∀ i,ia+k<=i->i<la.length->key (lb.getD ib 0)<key (la.getD i 0):=fun i a b=>Lz i a (by lia);refine ZX (bf m2 ?_);have p2:=iY 1 p1.1 p1.2.1 p1.2.2 (fun x hx y hy=>by
       rw[bR m2,ZZ] at hx;obtain⟨j,j1,j2,rfl⟩:=cC hy;have:=K3 j j1 j2;rw[hx];lia)
      rw[bR m2] at p2;by_cases Hv:ib+1=lb.length
      ·rw[ZY (bq Hv)];exact Z1 (GQ.a ⟨hs.k,hs.a,hs.p,hs.f⟩ (by rw[b8,bg];exact gq p2.1 p2.2.1 p2.2.2 (.inl Hv)))
      rw[ZW (FO Hv)];refine ZX (bf (show ia+k<la.length by lia) ?_);refine ZX (i7 hc (cZ JN (show ia+k<la.length by lia)) JO (base:=ib+1) (m:=lb.length - (ib+1)) (hint:=0) (by lia) (by lia) (fun i j a b c=>fA p2.2.2 a b (by lia)) (by exact hs.k.trans r_) ?_);intro k2 G' IW FN;dsimp only;by_cases Ii:k2 > 0
      ·rw[ZY Ii];have p3:=iY k2 p2.1 p2.2.1 p2.2.2 (fun x hx y hy=>by
        obtain⟨j,j0,j1,rfl⟩:=gn hx;obtain⟨j',a1,a2,rfl⟩:=cC hy;have:=IW (ib+1+j) (by lia) (by lia);have:=fA p2.2.1 (ZV _) a1 a2;lia)
       by_cases Hw:ib+1+k2=lb.length
       ·rw[ZY (bq Hw)];exact Z1 (GQ.a ⟨hs.k,hs.a,hs.p,hs.f⟩ (by rw[b8,bg,b8];exact gq p3.1 p3.2.1 p3.2.2 (.inl Hw)))
       rw[ZW (FO Hw)];have Hx:∀ i,ib+1+k2<=i->i<lb.length->key (la.getD (ia+k) 0)<=key (lb.getD i 0):=fun i a b=>FN i a (by lia);refine ZX (bf (show ia+k<la.length by lia) ?_);have p4:=gj 1 p3.1 p3.2.1 p3.2.2 (fun x hx y hy=>by
        rw[bR (show ia+k<la.length by lia),ZZ] at hx;obtain⟨j,j1,j2,rfl⟩:=cC hy;have:=Hx j j1 j2;rw[hx];exact this)
       rw[bR (show ia+k<la.length by lia)] at p4;by_cases FK:ia+k+1+1=la.length
       ·rw[ZY (bq FK)];exact Z1 (GQ.a ⟨hs.k,hs.a,hs.p,hs.f⟩ (by rw[b8,bg,b8,bg];exact gr p4.1 p4.2.1 p4.2.2 FK top))
       rw[ZW (FO FK)];by_cases hb:(decide (k<7) && decide (k2<7))=true
       ·rw[ZY hb];exact Z1 (GQ.b ⟨hs.k,hs.a,hs.p,hs.f⟩ ⟨_,by rw[b8,bg,b8,bg],p4.1,p4.2.1,p4.2.2,by lia,by lia⟩ (by lia))
       ·rw[ZW hb];exact Z1 (Kf.k ⟨hs.k,hs.a,hs.p,hs.f⟩ ⟨_,by rw[b8,bg,b8,bg],p4.1,p4.2.1,p4.2.2,by lia,by lia⟩ (by lia))
      ·rw[ZW Ii];have p3:=p2;have Hx:∀ i,ib+1<=i->i<lb.length->key (la.getD (ia+k) 0)<=key (lb.getD i 0):=fun i a b=>FN i (by lia) (by lia);refine ZX (bf (show ia+k<la.length by lia) ?_);have p4:=gj 1 p3.1 p3.2.1 p3.2.2 (fun x hx y hy=>by
        rw[bR (show ia+k<la.length by lia),ZZ] at hx;obtain⟨j,j1,j2,rfl⟩:=cC hy;have:=Hx j j1 j2;rw[hx];exact this)
       rw[bR (show ia+k<la.length by lia)] at p4;by_cases FK:ia+k+1+1=la.length
       ·rw[ZY (bq FK)];exact Z1 (GQ.a ⟨hs.k,hs.a,hs.p,hs.f⟩ (by rw[b8,bg,bg];exact gr p4.1 p4.2.1 p4.2.2 FK top))
       rw[ZW (FO FK)];by_cases hb:(decide (k<7) && decide (k2<7))=true
       ·rw[ZY hb];exact Z1 (GQ.b ⟨hs.k,hs.a,hs.p,hs.f⟩ ⟨_,by rw[b8,bg,bg],p4.1,p4.2.1,p4.2.2,by lia,by lia⟩ (by lia))
       ·rw[ZW hb];exact Z1 (Kf.k ⟨hs.k,hs.a,hs.p,hs.f⟩ ⟨_,by rw[b8,bg,bg],p4.1,p4.2.1,p4.2.2,by lia,by lia⟩ (by lia))
     ·rw[ZW Ml];have p1:po.Perm (la.take ia++lb.take ib)/\E4 key (po++la.drop ia)/\E4 key (po++lb.drop ib):=⟨m.perm,m.sa,m.sb⟩;have K3:∀ i,ia<=i->i<la.length->key (lb.getD ib 0)<key (la.getD i 0):=fun i a b=>Lz i (by lia) (by lia);refine ZX (bf m2 ?_);have p2:=iY 1 p1.1 p1.2.1 p1.2.2 (fun x hx y hy=>by
       rw[bR m2,ZZ] at hx;obtain⟨j,j1,j2,rfl⟩:=cC hy;have:=K3 j j1 j2;rw[hx];lia)
      rw[bR m2] at p2;by_cases Hv:ib+1=lb.length
      ·rw[ZY (bq Hv)];exact Z1 (GQ.a ⟨hs.k,hs.a,hs.p,hs.f⟩ (by rw[bg];exact gq p2.1 p2.2.1 p2.2.2 (.inl Hv)))
      rw[ZW (FO Hv)];refine ZX (bf (show ia<la.length by lia) ?_);refine ZX (i7 hc (cZ JN (show ia<la.length by lia)) JO (base:=ib+1) (m:=lb.length - (ib+1)) (hint:=0) (by lia) (by lia) (fun i j a b c=>fA p2.2.2 a b (by lia)) (by exact hs.k.trans r_) ?_);intro k2 G' IW FN;dsimp only;by_cases Ii:k2 > 0
      ·rw[ZY Ii];have p3:=iY k2 p2.1 p2.2.1 p2.2.2 (fun x hx y hy=>by
        obtain⟨j,j0,j1,rfl⟩:=gn hx;obtain⟨j',a1,a2,rfl⟩:=cC hy;have:=IW (ib+1+j) (by lia) (by lia);have:=fA p2.2.1 (ZV _) a1 a2;lia)
       by_cases Hw:ib+1+k2=lb.length
       ·rw[ZY (bq Hw)];exact Z1 (GQ.a ⟨hs.k,hs.a,hs.p,hs.f⟩ (by rw[bg,b8];exact gq p3.1 p3.2.1 p3.2.2 (.inl Hw)))
       rw[ZW (FO Hw)];have Hx:∀ i,ib+1+k2<=i->i<lb.length->key (la.getD (ia) 0)<=key (lb.getD i 0):=fun i a b=>FN i a (by lia);refine ZX (bf (show ia<la.length by lia) ?_);have p4:=gj 1 p3.1 p3.2.1 p3.2.2 (fun x hx y hy=>by
        rw[bR (show ia<la.length by lia),ZZ] at hx;obtain⟨j,j1,j2,rfl⟩:=cC hy;have:=Hx j j1 j2;rw[hx];exact this)
       rw[bR (show ia<la.length by lia)] at p4;by_cases FK:ia+1+1=la.length
       ·rw[ZY (bq FK)];exact Z1 (GQ.a ⟨hs.k,hs.a,hs.p,hs.f⟩ (by rw[bg,b8,bg];exact gr p4.1 p4.2.1 p4.2.2 FK top))
       rw[ZW (FO FK)];by_cases hb:(decide (k<7) && decide (k2<7))=true
       ·rw[ZY hb];exact Z1 (GQ.b ⟨hs.k,hs.a,hs.p,hs.f⟩ ⟨_,by rw[bg,b8,bg],p4.1,p4.2.1,p4.2.2,by lia,by lia⟩ (by lia))
       ·rw[ZW hb];exact Z1 (Kf.k ⟨hs.k,hs.a,hs.p,hs.f⟩ ⟨_,by rw[bg,b8,bg],p4.1,p4.2.1,p4.2.2,by lia,by lia⟩ (by lia))
      ·rw[ZW Ii];have p3:=p2;have Hx:∀ i,ib+1<=i->i<lb.length->key (la.getD (ia) 0)<=key (lb.getD i 0):=fun i a b=>FN i (by lia) (by lia);refine ZX (bf (show ia<la.length by lia) ?_);have p4:=gj 1 p3.1 p3.2.1 p3.2.2 (fun x hx y hy=>by
        rw[bR (show ia<la.length by lia),ZZ] at hx;obtain⟨j,j1,j2,rfl⟩:=cC hy;have:=Hx j j1 j2;rw[hx];exact this)
       rw[bR (show ia<la.length by lia)] at p4;by_cases FK:ia+1+1=la.length
       ·rw[ZY (bq FK)];exact Z1 (GQ.a ⟨hs.k,hs.a,hs.p,hs.f⟩ (by rw[bg,bg];exact gr p4.1 p4.2.1 p4.2.2 FK top))
       rw[ZW (FO FK)];by_cases hb:(decide (k<7) && decide (k2<7))=true
       ·rw[ZY hb];exact Z1 (GQ.b ⟨hs.k,hs.a,hs.p,hs.f⟩ ⟨_,by rw[bg,bg],p4.1,p4.2.1,p4.2.2,by lia,by lia⟩ (by lia))
       ·rw[ZW hb];exact Z1 (Kf.k ⟨hs.k,hs.a,hs.p,hs.f⟩ ⟨_,by rw[bg,bg],p4.1,p4.2.1,p4.2.2,by lia,by lia⟩ (by lia))
end
section
variable{prog:Program}{w:World}{A:Around}{E:Value->Shared->Prop}{κ:SortKind}{it:Array Keyed}{key:Nat->Int}{n:Nat}{s:Shared}
def qo:Array Keyed->Array Keyed->StateT SortSt Sem (Array Keyed):=sortPriv% PySem.Builtin.mergeHi
variable{l:List Nat}{i j:Nat}
theorem my(Gp:i<=j)(hj:j<=l.length):l.drop i=(l.take j).drop i++l.drop j:=by
 have e:l.drop i=(l.take j++l.drop j).drop i:=by rw[Zy]
 rw[e,List.drop_append_of_le_length (by rw[Zc];lia)]
theorem yG(Gp:i<=j):l.take i++(l.take j).drop i=l.take j:=by
 have:=Zy i (l.take j)
 rwa [Wa,XX Gp] at this
variable{la lb ro:List Nat}{na nb:Nat}
theorem gs(k:Nat)(hk:k<=na)(Rv:na<=la.length)(perm:ro.Perm (la.drop na++lb.drop nb))(sa:E4 key (la.take na++ro))(sb:E4 key (lb.take nb++ro))(h:∀ x∈(la.take na).drop k,∀ y∈lb.take nb,key y<=key x):
  ((la.take na).drop k++ro).Perm (la.drop k++lb.drop nb)/\E4 key (la.take k++((la.take na).drop k++ro))/\E4 key (lb.take nb++((la.take na).drop k++ro)):=by
 refine⟨?_,?_,?_⟩
 ·rw[my hk Rv,Z4];exact ZL _ perm
 ·rw[<- Z4,yG hk];exact sa
 ·have s1:=bA.mp sa;have s2:=bA.mp sb;refine bA.mpr ⟨s2.1,bA.mpr ⟨s1.1.sublist<|Xq _ _,s2.2.1,fun x hx y hy=>s1.2.2 x (YS hx) y hy⟩,fun x hx y hy=>?_⟩;rcases ZA.mp hy with hy | hy
  ·exact h y hy x hx
  ·exact s2.2.2 x hx y hy
theorem i8(k:Nat)(hk:k<=nb)(Rw:nb<=lb.length)(perm:ro.Perm (la.drop na++lb.drop nb))(sa:E4 key (la.take na++ro))(sb:E4 key (lb.take nb++ro))(h:∀ x∈(lb.take nb).drop k,∀ y∈la.take na,key y<=key x):
  ((lb.take nb).drop k++ro).Perm (la.drop na++lb.drop k)/\E4 key (la.take na++((lb.take nb).drop k++ro))/\E4 key (lb.take k++((lb.take nb).drop k++ro)):=by
 have:=gs (la:=lb) (lb:=la) k hk Rw (perm.trans ZT) sb sa h;exact⟨this.1.trans ZT,this.2.2,this.2.1⟩
theorem cl(h0:0<i)(h:i<=l.length):(l.take i).drop (i - 1)=[l.getD (i - 1) 0]:=by
 rw[WR,show i - (i - 1)=1 by lia];exact bR (by lia)
variable{y:Nat}
theorem c5(h:y∈l.take i):∃ j,j<i/\j<l.length/\y=l.getD j 0:=by
 have:=gn (i:=0) (k:=i) (y:=y) (l:=l) (by rwa [X3]);obtain⟨j,a,b,e⟩:=this;exact⟨j,a,by lia,by rw[e];congr 1;lia⟩
variable{k:Nat}
theorem mz(h:y∈(l.take k).drop i):∃ j,i<=j/\j<k/\j<l.length/\y=l.getD j 0:=by
 rw[WR] at h;obtain⟨j,a,b,e⟩:=gn h;exact⟨i+j,by lia,by lia,b,e⟩
theorem fC(h:E4 key (l.take i++ro))(Qg:j<=k)(hk:k<i)(hl:k<l.length):key (l.getD j 0)<=key (l.getD k 0):=by
 have:=gp (bA.mp h).1 (i:=j) (j:=k) Qg (by rw[Zc];lia);simpa [List.getD,Yu,show j<i by lia,hk] using this
theorem eG(perm:ro.Perm (la.drop na++lb.drop nb))(sa:E4 key (la.take na++ro))(sb:E4 key (lb.take nb++ro))(hz:na=0\/nb=0):
  G9 key it la lb ((la.map<|kas_item it).toArray.extract 0 na++(lb.map<|kas_item it).toArray.extract 0 nb++(ro.reverse.map<|kas_item it).toArray.reverse):=by
 refine⟨la.take na++lb.take nb++ro,?_,?_,?_⟩
 ·apply XA;simp[Yx]
 ·refine (ZL _ perm).trans ?_;have:(la.take na++lb.take nb++(la.drop na++lb.drop nb)).Perm ((la.take na++la.drop na)++(lb.take nb++lb.drop nb)):=by
   rw[Z4,Z4];refine ZL _ ?_;rw[<- Z4,<- Z4];exact ZE _ ZT
  rw[Zy,Zy] at this;exact this
 ·rcases hz with e | e
  ·rw[e,V9,Vr];exact sb
  ·rw[e,V9,ZO];exact sa
theorem g0(perm:ro.Perm (la.drop na++lb.drop nb))(sa:E4 key (la.take na++ro))(sb:E4 key (lb.take nb++ro))(hz:nb=1)(first:∀ x∈la,key (lb.getD 0 0)<=key x):
  G9 key it la lb ((lb.map<|kas_item it).toArray.extract 0 nb++(la.map<|kas_item it).toArray.extract 0 na++(ro.reverse.map<|kas_item it).toArray.reverse):=by
 refine⟨lb.take nb++la.take na++ro,?_,?_,?_⟩
 ·apply XA;simp[Yx]
 ·refine (ZL _ perm).trans ?_;have:(lb.take nb++la.take na++(la.drop na++lb.drop nb)).Perm ((la.take na++la.drop na)++(lb.take nb++lb.drop nb)):=by
   rw[Z4,<- Z4 (la.take na),<- Z4 (la.take na++la.drop na)];rw[<- Z4 (lb.take nb)];exact ZE _ ZT
  rw[Zy,Zy] at this;exact this
 ·rw[Z4];refine bA.mpr ⟨(bA.mp sb).1,sa,fun x hx y hy=>?_⟩;rcases ZA.mp hy with hy | hy
  ·obtain⟨j,h1,h2,rfl⟩:=c5 hx;have:j=0:=by lia
   rw[this];exact first y (Yo hy)
  ·exact (bA.mp sb).2.2 x hx y hy
theorem ba(ro:List Nat)(y:Nat):(ro.reverse.map<|kas_item it).toArray.push (kas_item it y)=(([y]++ro).reverse.map<|kas_item it).toArray:=by simp
theorem bL(ro l:List Nat)(i k:Nat):(ro.reverse.map<|kas_item it).toArray++((l.map<|kas_item it).toArray.extract i k).reverse=(((l.take k).drop i++ro).reverse.map<|kas_item it).toArray:=by
 apply XA;simp[YE,Yx,WR]
structure Rx(key:Nat->Int)(la lb:List Nat)(ro:List Nat)(na nb:Nat):Prop where
 perm:ro.Perm (la.drop na++lb.drop nb)
 sa:E4 key (la.take na++ro)
 sb:E4 key (lb.take nb++ro)
 pa:0<na
 pb:1<nb
 qa:na<=la.length
 qb:nb<=lb.length
def IC(key:Nat->Int)(it:Array Keyed)(la lb:List Nat)(out:Array Keyed)(na nb:Nat):Prop:=∃ ro:List Nat,out=(ro.reverse.map<|kas_item it).toArray/\Rx key la lb ro na nb
end
section
variable{prog:Program}{w:World}{A:Around}{E:Value->Shared->Prop}{κ:SortKind}{it:Array Keyed}{key:Nat->Int}{n:Nat}{s:Shared}
def Mm(key:Nat->Int)(it:Array Keyed)(la lb:List Nat)(st:SortSt)(s:Shared): Option (Array Keyed)×Nat×Nat×Array Keyed×Nat->SortSt->Shared->Prop:=fun c g_ s'=>s=s'/\i_ st g_/\∃ E_ p q r g,c=(some E_,p,q,r,g)/\G9 key it la lb E_
def Mn(key:Nat->Int)(it:Array Keyed)(la lb:List Nat)(st:SortSt)(s:Shared)(x:Nat):Option (Array Keyed)×Nat×Nat×Array Keyed×Nat->SortSt->Shared->Prop:=fun c g_ s'=>s=s'/\i_ st g_/\∃ na nb o g,c=(none,na,nb,o,g)/\IC key it la lb o na nb/\na+nb+x+1<=la.length+lb.length
def Jv(key:Nat->Int)(it:Array Keyed)(la lb:List Nat)(st:SortSt)(s:Shared)(x:Nat):Option (Array Keyed)×Nat×Nat×Array Keyed×Nat×Nat->SortSt->Shared->Prop:=fun c g_ s'=>s=s'/\i_ st g_/\((∃ E_ p q r ac bc,c=(some E_,p,q,r,ac,bc)/\G9 key it la lb E_)\/∃ na nb o ac bc,c=(none,na,nb,o,ac,bc)/\IC key it la lb o na nb/\na+nb+x+2<=la.length+lb.length)
def LC(key:Nat->Int)(it:Array Keyed)(la lb:List Nat)(st:SortSt)(s:Shared)(x y:Nat):Option (Array Keyed)×Nat×Nat×Array Keyed×Nat×Nat->SortSt->Shared->Prop:=fun c g_ s'=>s=s'/\i_ st g_/\∃ na nb o ac bc,c=(none,na,nb,o,ac,bc)/\IC key it la lb o na nb/\na+nb+x+1+y<=la.length+lb.length
def GK(key:Nat->Int)(it:Array Keyed)(la lb:List Nat)(st:SortSt)(s:Shared)(x:Nat):Option (Array Keyed)×Nat×Nat×Array Keyed×Nat×Nat×Nat->SortSt->Shared->Prop:=fun c g_ s'=>s=s'/\i_ st g_/\((∃ E_ p q r g ac bc,c=(some E_,p,q,r,g,ac,bc)/\G9 key it la lb E_)\/∃ na nb o g ac bc,c=(none,na,nb,o,g,ac,bc)/\IC key it la lb o na nb/\na+nb+x+2<=la.length+lb.length)
def Kg(key:Nat->Int)(it:Array Keyed)(la lb:List Nat)(st:SortSt)(s:Shared)(x y:Nat):Option (Array Keyed)×Nat×Nat×Array Keyed×Nat×Nat×Nat->SortSt->Shared->Prop:=fun c g_ s'=>s=s'/\i_ st g_/\∃ na nb o g ac bc,c=(none,na,nb,o,g,ac,bc)/\IC key it la lb o na nb/\na+nb+x+2<=la.length+lb.length
variable{la lb:List Nat}{st g_:SortSt}{out r:Array Keyed}{p q g:Nat}
theorem Mm.a{key:Nat->Int}{it:Array Keyed}{s:Shared}(h:i_ st g_)(m:G9 key it la lb out):Mm key it la lb st s (some out,p,q,r,g) g_ s:=⟨rfl,h,_,_,_,_,_,rfl,m⟩
variable{x na nb:Nat}{o:Array Keyed}
theorem Mn.k{key:Nat->Int}{it:Array Keyed}{s:Shared}(h:i_ st g_)(j:IC key it la lb o na nb)(e:na+nb+x+1<=la.length+lb.length):Mn key it la lb st s x (none,na,nb,o,g) g_ s:=⟨rfl,h,_,_,_,_,rfl,j,e⟩
variable{g2:Nat}
theorem Jv.a{key:Nat->Int}{it:Array Keyed}{s:Shared}(h:i_ st g_)(m:G9 key it la lb out):Jv key it la lb st s x (some out,p,q,r,g,g2) g_ s:=⟨rfl,h,.inl ⟨_,_,_,_,_,_,rfl,m⟩⟩
theorem Jv.b{key:Nat->Int}{it:Array Keyed}{s:Shared}(h:i_ st g_)(j:IC key it la lb o na nb)(e:na+nb+x+2<=la.length+lb.length):Jv key it la lb st s x (none,na,nb,o,g,g2) g_ s:=⟨rfl,h,.inr ⟨_,_,_,_,_,rfl,j,e⟩⟩
variable{y:Nat}
theorem LC.k{key:Nat->Int}{it:Array Keyed}{s:Shared}(h:i_ st g_)(j:IC key it la lb o na nb)(e:na+nb+x+1+y<=la.length+lb.length):LC key it la lb st s x y (none,na,nb,o,g,g2) g_ s:=⟨rfl,h,_,_,_,_,_,rfl,j,e⟩
variable{g3:Nat}
theorem GK.a{key:Nat->Int}{it:Array Keyed}{s:Shared}(h:i_ st g_)(m:G9 key it la lb out):GK key it la lb st s x (some out,p,q,r,g,g2,g3) g_ s:=⟨rfl,h,.inl ⟨_,_,_,_,_,_,_,rfl,m⟩⟩
theorem GK.b{key:Nat->Int}{it:Array Keyed}{s:Shared}(h:i_ st g_)(j:IC key it la lb o na nb)(e:na+nb+x+2<=la.length+lb.length):GK key it la lb st s x (none,na,nb,o,g,g2,g3) g_ s:=⟨rfl,h,.inr ⟨_,_,_,_,_,_,rfl,j,e⟩⟩
theorem Kg.k{key:Nat->Int}{it:Array Keyed}{s:Shared}(h:i_ st g_)(j:IC key it la lb o na nb)(e:na+nb+x+2<=la.length+lb.length):Kg key it la lb st s x y (none,na,nb,o,g,g2,g3) g_ s:=⟨rfl,h,_,_,_,_,_,_,rfl,j,e⟩
theorem yH(hc:cz n key (kas_cmp prog w A κ it) s){la lb:List Nat}(JN:∀ x∈la,x<n)(JO:∀ x∈lb,x<n)(OI:E4 key la)(OJ:E4 key lb)(h0:0<la.length)(h1:0<lb.length)(first:∀ x∈la,key (lb.getD 0 0)<=key x)(top:∀ x∈lb,key x<=key (la.getD (la.length - 1) 0)){st:SortSt}(r_:kindOf st=κ){Q:Array Keyed->SortSt->Shared->Prop}(h:∀ out g_,G9 key it la lb out->i_ st g_->Q out g_ s):
  kasC (model prog w) A E (qo (la.map<|kas_item it).toArray (lb.map<|kas_item it).toArray) Q st s:=by
 unfold qo;with_unfolding_all refine ZX (We<|Yl ?_);dsimp only;generalize OK:(List.map (kas_item it) la).toArray.size=za;obtain rfl:la.length=za:=by rw[<- OK];simp
 generalize OL:(List.map (kas_item it) lb).toArray.size=zb;obtain rfl:lb.length=zb:=by rw[<- OL];simp
 refine ZX (bf (show la.length - 1<la.length by lia) ?_);try dsimp only
 have l1:=cl h0 (ZV _);rw[XE] at l1;have Gw:[la.getD (la.length - 1) 0].Perm (la.drop (la.length - 1)++lb.drop lb.length):=by
  rw[l1,VF];exact ZC _
 have K1:E4 key (la.take (la.length - 1)++[la.getD (la.length - 1) 0]):=by
  rw[<- l1,Zy];exact OI
 have K0:E4 key (lb.take lb.length++[la.getD (la.length - 1) 0]):=bA.mpr ⟨by rw[XE];exact OJ,Zz _ _,fun x hx y hy=>by
  rw[ZZ.mp hy];exact top x (by rwa [XE] at hx)⟩
 have e0:#[kas_item it (la.getD (la.length - 1) 0)]=([la.getD (la.length - 1) 0].reverse.map<|kas_item it).toArray:=rfl;rw[e0];by_cases c1:la.length - 1=0
 ·rw[ZY (bq c1)];exact Z1 (h _ _ (eG Gw K1 K0<|.inl c1)<|i_.refl st)
 rw[ZW (FO c1)];by_cases c2:lb.length=1
 ·rw[ZY (bq c2)];exact Z1 (h _ _ (g0 Gw K1 K0 c2 first)<|i_.refl st)
 rw[ZW (FO c2)];refine ZX (Xw ?_);refine ZX (cD (Q':=Mm key it la lb st s) (YX (bQ (Mn key it la lb st s) ?step _ 0 _ _ _ ?fin (Mn.k (i_.refl st) ⟨_,rfl,Gw,K1,K0,by lia,by lia,by lia,by lia⟩ (by lia)))) ?after)
 case after=>
  rintro c g_ s' ⟨rfl,hs,E_,o,ia,ib,g,rfl,hm⟩;exact Z1 (h _ _ hm hs)
 case fin=>
  rintro c g_ s' ⟨rfl,hs,na,nb,o,g,rfl,⟨po,rfl,m⟩,hx⟩;have:=m.pa;have:=m.pb;lia
 case step=>
  rintro x c g_ s' ⟨rfl,hs,na,nb,o,g,rfl,hJ,hx⟩;dsimp only;refine ZX (cD (Q':=Jv key it la lb st s x)
   (YX (bQ (LC key it la lb st s x) ?IU _ 0 _ _ _ ?K2 (LC.k hs hJ (by lia)))) ?Ht)
  case K2=>
   rintro c g_ s' ⟨rfl,hs,na,nb,o,ac,bc,rfl,hJ,hx⟩;exact Jv.b hs hJ (by lia)
  case IU=>
   rintro y c g_ s' ⟨rfl,hs,na,nb,o,ac,bc,rfl,⟨po,rfl,m⟩,hx⟩;have m1:=m.pa;have m2:=m.pb;have m3:=m.qa;have m4:=m.qb;have F9:kindOf g_=κ:=hs.k.trans r_;dsimp only;refine ZX (bf (show nb - 1<lb.length by lia) ?_);refine ZX (bf (show na - 1<la.length by lia) ?_);refine ZX (iX hc (cZ JO (show nb - 1<lb.length by lia)) (cZ JN (show na - 1<la.length by lia)) F9 ?_);dsimp only;by_cases hw:key (lb.getD (nb - 1) 0)<key (la.getD (na - 1) 0)
   ·rw[ZY (by simpa using hw)];refine ZX (bf (show na - 1<la.length by lia) ?_);have b1:=gs (na - 1) (by lia) m3 m.perm m.sa m.sb (fun x hx y hy=>by
     rw[cl m1 m3,ZZ] at hx;obtain⟨j,j1,j2,rfl⟩:=c5 hy;have:=fC m.sb (show j<=nb - 1 by lia) (by lia) (by lia);rw[hx];lia)
    rw[cl m1 m3] at b1;rw[ba];try dsimp only
    by_cases hz:na - 1=0
    ·rw[ZY (bq hz)];exact Z1 (Jv.a hs<|eG b1.1 b1.2.1 b1.2.2<|.inl hz)
    ·rw[ZW (FO hz)];have J':IC key it la lb (([la.getD (na - 1) 0]++po).reverse.map<|kas_item it).toArray (na - 1) nb:=⟨_,rfl,b1.1,b1.2.1,b1.2.2,by lia,m2,by lia,m4⟩;by_cases hg:ac+1 >= g
     ·rw[ZY hg];exact Z1 (Jv.b hs J' (by lia))
     ·rw[ZW hg];exact Z1 (LC.k hs J' (by lia))
   ·rw[ZW (by simpa using hw)];refine ZX (bf (show nb - 1<lb.length by lia) ?_);have b1:=i8 (nb - 1) (by lia) m4 m.perm m.sa m.sb (fun x hx y hy=>by
     rw[cl (by lia) m4,ZZ] at hx;obtain⟨j,j1,j2,rfl⟩:=c5 hy;have:=fC m.sa (show j<=na - 1 by lia) (by lia) (by lia);rw[hx];lia)
    rw[cl (by lia) m4] at b1;rw[ba];try dsimp only
    by_cases hz:nb - 1=1
    ·rw[ZY (bq hz)];exact Z1 (Jv.a hs<|g0 b1.1 b1.2.1 b1.2.2 hz first)
    ·rw[ZW (FO hz)];have J':IC key it la lb (([lb.getD (nb - 1) 0]++po).reverse.map<|kas_item it).toArray na (nb - 1):=⟨_,rfl,b1.1,b1.2.1,b1.2.2,m1,by lia,m3,by lia⟩;by_cases hg:bc+1 >= g
     ·rw[ZY hg];exact Z1 (Jv.b hs J' (by lia))
     ·rw[ZW hg];exact Z1 (LC.k hs J' (by lia))
  case Ht=>
   rintro c g_ s' ⟨rfl,hs,⟨E_,o,ia,ib,ac,bc,rfl,hm⟩ | ⟨na,nb,o,ac,bc,rfl,hJ,hx⟩⟩
   ·exact Z1 (Mm.a hs hm)
   ·try dsimp only
    refine ZX (We<|Yl ?_);try dsimp only
    refine ZX (cD (Q':=GK key it la lb st s x)
     (YX (bQ (Kg key it la lb st s x) ?IV _ 0 _ _ _ ?fin2 (Kg.k hs hJ (by lia)))) ?Hu)
    case fin2=>
     rintro c g_ s' ⟨rfl,hs,na,nb,o,g,ac,bc,rfl,hJ,hx⟩;exact GK.b hs hJ (by lia)
    case Hu=>
     rintro c g_ s' ⟨rfl,hs,⟨E_,o,ia,ib,g,ac,bc,rfl,hm⟩ | ⟨na,nb,o,g,ac,bc,rfl,hJ,hx⟩⟩
     ·exact Z1 (Mm.a hs hm)
     ·try dsimp only
      refine ZX (Yn ?_);exact Z1 (Mn.k ⟨hs.k,hs.a,hs.p,hs.f⟩ hJ (by lia))
    case IV=>
     rintro y c g_ s' ⟨rfl,hs,na,nb,o,g,ac,bc,rfl,⟨po,rfl,m⟩,hx⟩;have m1:=m.pa;have m2:=m.pb;have m3:=m.qa;have m4:=m.qb;dsimp only;revert g;refine qm (fun g=>g - 1) ?ha ?_
     case ha=>exact fun g=>rfl
     intro g;refine ZX (Yn ?_);refine ZX (bf (show nb - 1<lb.length by lia) ?_);refine ZX (mx hc (cZ JO (show nb - 1<lb.length by lia)) JN (base:=0) (m:=na) (hint:=na - 1) (by lia) (by lia) (fun i j a b c=>fC m.sa b (by lia) (by lia)) (by exact hs.k.trans r_) ?_);intro k NG lo1 Lz;dsimp only;by_cases Ml:na - k > 0
     ·rw[ZY Ml];have p1:=gs k (by lia) m3 m.perm m.sa m.sb (fun x hx y hy=>by
       obtain⟨j,j0,j1,j2,rfl⟩:=mz hx;obtain⟨j',a1,a2,rfl⟩:=c5 hy;have:=Lz j (by lia) (by lia);have:=fC m.sb (show j'<=nb - 1 by lia) (by lia) (by lia);lia)
      by_cases hz:k=0
      ·rw[ZY (bq hz)];exact Z1 (GK.a ⟨hs.k,hs.a,hs.p,hs.f⟩ (by rw[bL];exact eG p1.1 p1.2.1 p1.2.2 (.inl hz)))
      rw[ZW (FO hz)];have K3:∀ i,i<k->key (la.getD i 0)<=key (lb.getD (nb - 1) 0):=fun i a=>lo1 i (by lia) (by lia);refine ZX (bf (show nb - 1<lb.length by lia) ?_);have p2:=i8 (nb - 1) (by lia) m4 p1.1 p1.2.1 p1.2.2 (fun x hx y hy=>by
       rw[cl (by lia) m4,ZZ] at hx;obtain⟨j,j1,j2,rfl⟩:=c5 hy;have:=K3 j j1;rw[hx];lia)
      rw[cl (by lia) m4] at p2;by_cases Hv:nb - 1=1
      ·rw[ZY (bq Hv)];exact Z1 (GK.a ⟨hs.k,hs.a,hs.p,hs.f⟩ (by rw[bL,ba];exact g0 p2.1 p2.2.1 p2.2.2 Hv first))
      rw[ZW (FO Hv)];refine ZX (bf (show k - 1<la.length by lia) ?_);refine ZX (i7 hc (cZ JN (show k - 1<la.length by lia)) JO (base:=0) (m:=nb - 1) (hint:=nb - 1 - 1) (by lia) (by lia) (fun i j a b c=>fC p2.2.2 b (by lia) (by lia)) (by exact hs.k.trans r_) ?_);intro k2 G' IW FN;dsimp only;by_cases Ii:nb - 1 - k2 > 0
      ·rw[ZY Ii];have p3:=i8 k2 (by lia) (show nb - 1<=lb.length by lia) p2.1 p2.2.1 p2.2.2 (fun x hx y hy=>by
        obtain⟨j,j0,j1,j2,rfl⟩:=mz hx;obtain⟨j',a1,a2,rfl⟩:=c5 hy;have:=FN j (by lia) (by lia);have:=fC p2.2.1 (show j'<=k - 1 by lia) (by lia) (by lia);lia)
       by_cases Hw:k2=1
       ·rw[ZY (bq Hw)];exact Z1 (GK.a ⟨hs.k,hs.a,hs.p,hs.f⟩ (by rw[bL,ba,bL];exact g0 p3.1 p3.2.1 p3.2.2 Hw first))
       rw[ZW (FO Hw)];by_cases K4:k2=0
       ·rw[ZY (bq K4)];exact Z1 (GK.a ⟨hs.k,hs.a,hs.p,hs.f⟩ (by rw[bL,ba,bL];exact eG p3.1 p3.2.1 p3.2.2 (.inr K4)))
       rw[ZW (FO K4)];have Hx:∀ i,i<k2->key (lb.getD i 0)<key (la.getD (k - 1) 0):=fun i a=>IW i (by lia) (by lia);refine ZX (bf (show k - 1<la.length by lia) ?_);have p4:=gs (k - 1) (by lia) (show k<=la.length by lia) p3.1 p3.2.1 p3.2.2 (fun x hx y hy=>by
        rw[cl (by lia) (show k<=la.length by lia),ZZ] at hx;obtain⟨j,j1,j2,rfl⟩:=c5 hy;have:=Hx j j1;rw[hx];lia)
       rw[cl (by lia) (show k<=la.length by lia)] at p4;by_cases FK:k - 1=0
       ·rw[ZY (bq FK)];exact Z1 (GK.a ⟨hs.k,hs.a,hs.p,hs.f⟩ (by rw[bL,ba,bL,ba];exact eG p4.1 p4.2.1 p4.2.2 (.inl FK)))
       rw[ZW (FO FK)];by_cases hb:(decide (na - k<7) && decide (nb - 1 - k2<7))=true
       ·rw[ZY hb];exact Z1 (GK.b ⟨hs.k,hs.a,hs.p,hs.f⟩ ⟨_,by rw[bL,ba,bL,ba],p4.1,p4.2.1,p4.2.2,by lia,by lia,by lia,by lia⟩ (by lia))
       ·rw[ZW hb];exact Z1 (Kg.k ⟨hs.k,hs.a,hs.p,hs.f⟩ ⟨_,by rw[bL,ba,bL,ba],p4.1,p4.2.1,p4.2.2,by lia,by lia,by lia,by lia⟩ (by lia))
      ·rw[ZW Ii];have p3:=p2;have Hx:∀ i,i<nb - 1->key (lb.getD i 0)<key (la.getD (k - 1) 0):=fun i a=>IW i (by lia) (by lia);refine ZX (bf (show k - 1<la.length by lia) ?_);have p4:=gs (k - 1) (by lia) (show k<=la.length by lia) p3.1 p3.2.1 p3.2.2 (fun x hx y hy=>by
        rw[cl (by lia) (show k<=la.length by lia),ZZ] at hx;obtain⟨j,j1,j2,rfl⟩:=c5 hy;have:=Hx j j1;rw[hx];lia)
       rw[cl (by lia) (show k<=la.length by lia)] at p4;by_cases FK:k - 1=0
       ·rw[ZY (bq FK)];exact Z1 (GK.a ⟨hs.k,hs.a,hs.p,hs.f⟩ (by rw[bL,ba,ba];exact eG p4.1 p4.2.1 p4.2.2 (.inl FK)))
       rw[ZW (FO FK)];by_cases hb:(decide (na - k<7) && decide (nb - 1 - k2<7))=true
       ·rw[ZY hb];exact Z1 (GK.b ⟨hs.k,hs.a,hs.p,hs.f⟩ ⟨_,by rw[bL,ba,ba],p4.1,p4.2.1,p4.2.2,by lia,by lia,by lia,by lia⟩ (by lia))
       ·rw[ZW hb];exact Z1 (Kg.k ⟨hs.k,hs.a,hs.p,hs.f⟩ ⟨_,by rw[bL,ba,ba],p4.1,p4.2.1,p4.2.2,by lia,by lia,by lia,by lia⟩ (by lia))
     ·rw[ZW Ml];have p1:po.Perm (la.drop na++lb.drop nb)/\E4 key (la.take na++po)/\E4 key (lb.take nb++po):=⟨m.perm,m.sa,m.sb⟩;have K3:∀ i,i<na->key (la.getD i 0)<=key (lb.getD (nb - 1) 0):=fun i a=>lo1 i (by lia) (by lia);refine ZX (bf (show nb - 1<lb.length by lia) ?_);have p2:=i8 (nb - 1) (by lia) m4 p1.1 p1.2.1 p1.2.2 (fun x hx y hy=>by
       rw[cl (by lia) m4,ZZ] at hx;obtain⟨j,j1,j2,rfl⟩:=c5 hy;have:=K3 j j1;rw[hx];lia)
      rw[cl (by lia) m4] at p2;by_cases Hv:nb - 1=1
      ·rw[ZY (bq Hv)];exact Z1 (GK.a ⟨hs.k,hs.a,hs.p,hs.f⟩ (by rw[ba];exact g0 p2.1 p2.2.1 p2.2.2 Hv first))
      rw[ZW (FO Hv)];refine ZX (bf (show na - 1<la.length by lia) ?_);refine ZX (i7 hc (cZ JN (show na - 1<la.length by lia)) JO (base:=0) (m:=nb - 1) (hint:=nb - 1 - 1) (by lia) (by lia) (fun i j a b c=>fC p2.2.2 b (by lia) (by lia)) (by exact hs.k.trans r_) ?_);intro k2 G' IW FN;dsimp only;by_cases Ii:nb - 1 - k2 > 0
      ·rw[ZY Ii];have p3:=i8 k2 (by lia) (show nb - 1<=lb.length by lia) p2.1 p2.2.1 p2.2.2 (fun x hx y hy=>by
        obtain⟨j,j0,j1,j2,rfl⟩:=mz hx;obtain⟨j',a1,a2,rfl⟩:=c5 hy;have:=FN j (by lia) (by lia);have:=fC p2.2.1 (show j'<=na - 1 by lia) (by lia) (by lia);lia)
       by_cases Hw:k2=1
       ·rw[ZY (bq Hw)];exact Z1 (GK.a ⟨hs.k,hs.a,hs.p,hs.f⟩ (by rw[ba,bL];exact g0 p3.1 p3.2.1 p3.2.2 Hw first))
       rw[ZW (FO Hw)];by_cases K4:k2=0
       ·rw[ZY (bq K4)];exact Z1 (GK.a ⟨hs.k,hs.a,hs.p,hs.f⟩ (by rw[ba,bL];exact eG p3.1 p3.2.1 p3.2.2 (.inr K4)))
       rw[ZW (FO K4)];have Hx:∀ i,i<k2->key (lb.getD i 0)<key (la.getD (na - 1) 0):=fun i a=>IW i (by lia) (by lia);refine ZX (bf (show na - 1<la.length by lia) ?_);have p4:=gs (na - 1) (by lia) (show na<=la.length by lia) p3.1 p3.2.1 p3.2.2 (fun x hx y hy=>by
        rw[cl (by lia) (show na<=la.length by lia),ZZ] at hx;obtain⟨j,j1,j2,rfl⟩:=c5 hy;have:=Hx j j1;rw[hx];lia)
       rw[cl (by lia) (show na<=la.length by lia)] at p4;by_cases FK:na - 1=0
       ·rw[ZY (bq FK)];exact Z1 (GK.a ⟨hs.k,hs.a,hs.p,hs.f⟩ (by rw[ba,bL,ba];exact eG p4.1 p4.2.1 p4.2.2 (.inl FK)))
       rw[ZW (FO FK)];by_cases hb:(decide (na - k<7) && decide (nb - 1 - k2<7))=true
       ·rw[ZY hb];exact Z1 (GK.b ⟨hs.k,hs.a,hs.p,hs.f⟩ ⟨_,by rw[ba,bL,ba],p4.1,p4.2.1,p4.2.2,by lia,by lia,by lia,by lia⟩ (by lia))
       ·rw[ZW hb];exact Z1 (Kg.k ⟨hs.k,hs.a,hs.p,hs.f⟩ ⟨_,by rw[ba,bL,ba],p4.1,p4.2.1,p4.2.2,by lia,by lia,by lia,by lia⟩ (by lia))
      ·rw[ZW Ii];have p3:=p2;have Hx:∀ i,i<nb - 1->key (lb.getD i 0)<key (la.getD (na - 1) 0):=fun i a=>IW i (by lia) (by lia);refine ZX (bf (show na - 1<la.length by lia) ?_);have p4:=gs (na - 1) (by lia) (show na<=la.length by lia) p3.1 p3.2.1 p3.2.2 (fun x hx y hy=>by
        rw[cl (by lia) (show na<=la.length by lia),ZZ] at hx;obtain⟨j,j1,j2,rfl⟩:=c5 hy;have:=Hx j j1;rw[hx];lia)
       rw[cl (by lia) (show na<=la.length by lia)] at p4;by_cases FK:na - 1=0
       ·rw[ZY (bq FK)];exact Z1 (GK.a ⟨hs.k,hs.a,hs.p,hs.f⟩ (by rw[ba,ba];exact eG p4.1 p4.2.1 p4.2.2 (.inl FK)))
       rw[ZW (FO FK)];by_cases hb:(decide (na - k<7) && decide (nb - 1 - k2<7))=true
       ·rw[ZY hb];exact Z1 (GK.b ⟨hs.k,hs.a,hs.p,hs.f⟩ ⟨_,by rw[ba,ba],p4.1,p4.2.1,p4.2.2,by lia,by lia,by lia,by lia⟩ (by lia))
       ·rw[ZW hb];exact Z1 (Kg.k ⟨hs.k,hs.a,hs.p,hs.f⟩ ⟨_,by rw[ba,ba],p4.1,p4.2.1,p4.2.2,by lia,by lia,by lia,by lia⟩ (by lia))
end
section
variable{prog:Program}{w:World}{A:Around}{E:Value->Shared->Prop}{κ:SortKind}{it:Array Keyed}{key:Nat->Int}{n:Nat}{s:Shared}
theorem yI{σ:Type}{M:Model}{Q:PUnit->σ->Shared->Prop}{st p_:σ}{s:Shared}(h:Q ⟨⟩ p_ s):kasC M A E (set p_:StateT σ Sem PUnit) Q st s:=by
 unfold kasC;rw[StateT.run_set];exact Z6 h
theorem mC{α:Type}:∀ (l:List α) (arr:List α) (q j0 s0:Nat),q+l.length<=arr.length->q=s0+j0->((l.zipIdx j0).foldl (fun (a:Array α) (x:α×Nat)=>a.setIfInBounds (s0+x.2) x.1) arr.toArray)=(arr.take q++l++arr.drop (q+l.length)).toArray
 | [],arr,q,j0,s0,h,e=>by simp
 | x::l,arr,q,j0,s0,h,e=>by
  rw[ZJ] at h;rw[Xg,XY];dsimp only;rw[<- e,V8,mC l (arr.set q x) (q+1) (j0+1) s0 (by rw[Wo];lia) (by lia)];congr 1;have e1:(arr.set q x).take (q+1)=arr.take q++[x]:=by
   apply Yi;intro i;rw[Yu,List.getElem?_append,Zc,Yu,List.getElem?_set];by_cases h1:i<q
   ·rw[ZY (by lia),ZW (by lia),ZY (by lia),ZY h1]
   ·by_cases h2:i=q
    ·subst h2;rw[ZY (by lia),ZY rfl,ZY (by lia),ZW (by lia)];simp[show i - min i arr.length=0 by lia]
    ·rw[ZW (by lia),ZW (by lia)];rw[YV];rw[Zp];lia
  have e2:(arr.set q x).drop (q+1+l.length)=arr.drop (q+(l.length+1)):=by
   apply Yi;intro i;rw[YF,YF,List.getElem?_set,ZW (by lia)];congr 1;lia
  rw[e1,e2,ZJ,Z4,Z4,Z4];rfl
theorem qp{LA LB po:List Nat}{k m:Nat}(sA:E4 key LA)(sB:E4 key LB)(hb:0<LB.length)(ha:0<LA.length)(h1:∀ x∈LA.take k,key x<=key (LB.getD 0 0))(h4:∀ x∈LB.drop m,key (LA.getD (LA.length - 1) 0)<=key x)(hp:po.Perm (LA.drop k++LB.take m))(sp:E4 key po):E4 key (LA.take k++po++LB.drop m)/\(LA.take k++po++LB.drop m).Perm (LA++LB):=by
 have b0:∀ y∈LB,key (LB.getD 0 0)<=key y:=fun y hy=>by
  obtain⟨j,_,hj,rfl⟩:=cC (i:=0) (l:=LB) (by rwa [X3]);exact gp sB (Yz _) hj
 have aL:∀ x∈LA,key x<=key (LA.getD (LA.length - 1) 0):=fun x hx=>by
  obtain⟨j,_,hj,rfl⟩:=cC (i:=0) (l:=LA) (by rwa [X3]);exact gp sA (by lia) (by lia)
 have cA:E4 key (LA.take k++LA.drop k):=by rwa [Zy]
 have cB:E4 key (LB.take m++LB.drop m):=by rwa [Zy]
 have cA:=bA.mp cA;have cB:=bA.mp cB;refine⟨bA.mpr ⟨bA.mpr ⟨cA.1,sp,fun x hx y hy=>?_⟩,cB.2.1,fun x hx y hy=>?_⟩,?_⟩
 ·rcases ZA.mp (hp.mem_iff.mp hy) with hy | hy
  ·exact cA.2.2 x hx y hy
  ·exact Vg (h1 x hx) (b0 y<|Yo hy)
 ·rcases ZA.mp hx with hx | hx
  ·exact Vg (h1 x hx) (b0 y<|YS hy)
  ·rcases ZA.mp (hp.mem_iff.mp hx) with hx | hx
   ·exact Vg (aL x<|YS hx) (h4 y hy)
   ·exact cB.2.2 x hx y hy
 ·refine (ZE _<|ZL _ hp).trans ?_;rw[<- Z4,Zy,Z4,Zy]
theorem yJ(hc:cz n key (kas_cmp prog w A κ it) s){lp:List Nat}(Kh:∀ x∈lp,x<n){i sa na nb pw pw2:Nat}{st:SortSt}(r_:PyProof.Rows.kindOf st=κ)(OM:arrOf st=(lp.map<|kas_item it).toArray)(hf:failedOf st=none)(hi:(pendingOf st)[i]?=some (sa,na,pw))(hj:(pendingOf st)[i+1]?=some (sa+na,nb,pw2))(ha:0<na)(hb:0<nb)(hz:sa+na+nb<=lp.length)(sA:E4 key ((lp.drop sa).take na))(sB:E4 key ((lp.drop<|sa+na).take nb)){Q:Bool->SortSt->Shared->Prop}(h:∀ mid g_,PyProof.Rows.kindOf g_=κ->failedOf g_=none->pendingOf g_=((pendingOf st).setIfInBounds i (sa,na+nb,pw)).eraseIdxIfInBounds (i+1)->mid.Perm ((lp.drop sa).take<|na+nb)->E4 key mid->
   arrOf g_=((lp.take sa++mid++lp.drop (sa+(na+nb))).map<|kas_item it).toArray->Q true g_ s):
  kasC (model prog w) A E (mergeAt' i) Q st s:=by
 have lA:((lp.drop sa).take na).length=na:=by rw[Zc,Zm];lia
 have lB:((lp.drop<|sa+na).take nb).length=nb:=by rw[Zc,Zm];lia
 have LD:∀ j,j<na->((lp.drop sa).take na).getD j 0=lp.getD (sa+j) 0:=fun j hj=>by simp[List.getD,Yu,YF,hj]
 have gtB:∀ j,j<nb->((lp.drop<|sa+na).take nb).getD j 0=lp.getD (sa+na+j) 0:=fun j hj=>by simp[List.getD,Yu,YF,hj]
 have eW:(lp.drop sa).take na++(lp.drop<|sa+na).take nb=(lp.drop sa).take (na+nb):=by rw[<- XG,gZ]
 have JQ:lp.take sa++(lp.drop sa).take (na+nb)++lp.drop (sa+(na+nb))=lp:=by rw[gZ,Zy]
 have gA:∀ i j,sa<=i->i<=j->j<sa+na->key (lp.getD i 0)<=key (lp.getD j 0):=fun i j a b c=>by
  have:=gp sA (i:=i - sa) (j:=j - sa) (by lia) (by lia)
  rwa [LD _ (by lia),LD _ (by lia),show sa+(i - sa)=i by lia,show sa+(j - sa)=j by lia] at this
 have gB:∀ i j,sa+na<=i->i<=j->j<sa+na+nb->key (lp.getD i 0)<=key (lp.getD j 0):=fun i j a b c=>by
  have:=gp sB (i:=i - (sa+na)) (j:=j - (sa+na)) (by lia) (by lia)
  rwa [gtB _ (by lia),gtB _ (by lia),show sa+na+(i - (sa+na))=i by lia,show sa+na+(j - (sa+na))=j by lia] at this
 have mA:∀ x∈(lp.drop sa).take na,∃ j,sa<=j/\j<sa+na/\x=lp.getD j 0:=fun x hx=>by
  obtain⟨j,j0,j1,rfl⟩:=gn hx;exact⟨sa+j,by lia,by lia,rfl⟩
 have mB:∀ x∈(lp.drop<|sa+na).take nb,∃ j,sa+na<=j/\j<sa+na+nb/\x=lp.getD j 0:=fun x hx=>by
  obtain⟨j,j0,j1,rfl⟩:=gn hx;exact⟨sa+na+j,by lia,by lia,rfl⟩
 unfold mergeAt';with_unfolding_all refine ZX (Xw ?_);simp only[hi,hj,OM];refine ZX (yI ?_);refine ZX (bf (show sa+na<lp.length by lia) ?_);refine ZX (mx hc (cZ Kh (show sa+na<lp.length by lia)) Kh (base:=sa) (m:=na) (hint:=0) (by lia) ha gA (by exact r_) ?_);intro k NG lo1 Lz;dsimp only;by_cases c1:na - k=0
 ·rw[ZY (by simpa using c1)];refine Z1 (h _ _ (by exact r_) (by exact hf) rfl (ZC _) ?_ ?_)
  ·rw[<- eW];refine bA.mpr ⟨sA,sB,fun x hx y hy=>?_⟩;obtain⟨j,j1,j2,rfl⟩:=mA x hx;obtain⟨j',j3,j4,rfl⟩:=mB y hy;have:=lo1 j j1 (by lia);have:=gB (sa+na) j' (by lia) j3 j4;lia
  ·rw[JQ]
 rw[ZW (by simpa using c1)];rw[show sa+k+(na - k) - 1=sa+na - 1 by lia];refine ZX (bf (show sa+na - 1<lp.length by lia) ?_);refine ZX (i7 hc (cZ Kh (show sa+na - 1<lp.length by lia)) Kh (base:=sa+na) (m:=nb) (hint:=nb - 1) (by lia) (by lia) gB (by exact r_) ?_);intro FT G' IW FN;dsimp only;by_cases c2:FT=0
 ·rw[ZY (by simpa using c2)];refine Z1 (h _ _ (by exact r_) (by exact hf) rfl (ZC _) ?_ ?_)
  ·rw[<- eW];refine bA.mpr ⟨sA,sB,fun x hx y hy=>?_⟩;obtain⟨j,j1,j2,rfl⟩:=mA x hx;obtain⟨j',j3,j4,rfl⟩:=mB y hy;have:=FN j' (by lia) j4;have:=gA j (sa+na - 1) j1 (by lia) (by lia);lia
  ·rw[JQ]
 rw[ZW (by simpa using c2)];have eX:(lp.map<|kas_item it).toArray.extract (sa+k) (sa+na)=((((lp.drop sa).take na).drop k).map<|kas_item it).toArray:=by
  apply XA;simp only[List.extract_toArray,List.extract_eq_drop_take,YE,Yx];rw[WR,XG,show sa+na - (sa+k)=na - k by lia]
 have eY:(lp.map<|kas_item it).toArray.extract (sa+na) (sa+na+FT)=((((lp.drop<|sa+na).take nb).take FT).map<|kas_item it).toArray:=by
  apply XA;simp only[List.extract_toArray,List.extract_eq_drop_take,YE,Yx];rw[Wa,XX G',show sa+na+FT - (sa+na)=FT by lia]
 rw[eX,eY];have h1:∀ x∈((lp.drop sa).take na).take k,key x<=key (((lp.drop<|sa+na).take nb).getD 0 0):=fun x hx=>by
  rw[gtB 0 hb];obtain⟨j,j0,j1,rfl⟩:=c5 hx;rw[LD j (by lia)];exact lo1 _ (by lia) (by lia)
 have h4:∀ x∈((lp.drop<|sa+na).take nb).drop FT,key (((lp.drop sa).take na).getD (((lp.drop sa).take na).length - 1) 0)<=key x:=fun x hx=>by
  rw[lA,LD _ (by lia)];obtain⟨j,j0,j1,rfl⟩:=cC hx;rw[gtB j (by lia),show sa+(na - 1)=sa+na - 1 by lia];exact FN _ (by lia) (by lia)
 have f1:∀ x∈((lp.drop sa).take na).drop k,key ((((lp.drop<|sa+na).take nb).take FT).getD 0 0)<=key x:=fun x hx=>by
  rw[show (((lp.drop<|sa+na).take nb).take FT).getD 0 0=((lp.drop<|sa+na).take nb).getD 0 0 by simp only[List.getD,Yu,ZY (show 0<FT by lia)],gtB 0 hb];obtain⟨j,j0,j1,rfl⟩:=cC hx;rw[LD j (by lia)];have:=Lz (sa+j) (by lia) (by lia);rw[Vf];lia
 have l2:(((lp.drop sa).take na).drop k).length=na - k:=by rw[Zm,lA]
 have l3:(((lp.drop<|sa+na).take nb).take FT).length=FT:=by rw[Zc,lB];lia
 have f2:∀ x∈((lp.drop<|sa+na).take nb).take FT,key x<=key ((((lp.drop sa).take na).drop k).getD ((((lp.drop sa).take na).drop k).length - 1) 0):=fun x hx=>by
  rw[l2,show (((lp.drop sa).take na).drop k).getD (na - k - 1) 0=((lp.drop sa).take na).getD (na - 1) 0 by simp only[List.getD,YF,show k+(na - k - 1)=na - 1 by lia],LD _ (by lia),show sa+(na - 1)=sa+na - 1 by lia];obtain⟨j,j0,j1,rfl⟩:=c5 hx;rw[gtB j (by lia)];have:=IW (sa+na+j) (by lia) (by lia);lia
 have u1:∀ x∈((lp.drop sa).take na).drop k,x<n:=fun x hx=>Kh x (YS<|Yo<|YS hx);have u2:∀ x∈((lp.drop<|sa+na).take nb).take FT,x<n:=fun x hx=>Kh x (YS<|Yo<|Yo hx);by_cases c3:na - k<=FT
 ·rw[ZY c3];refine ZX (yF hc u1 u2 (sA.sublist<|Xq _ _) (sB.sublist<|XW _ _) (by lia) (by lia) f1 f2 (by exact r_) ?_);intro out g_ hM JR;obtain⟨po,rfl,Hi,K5⟩:=hM;have IX:=qp (key:=key) sA sB (by lia) (by lia) h1 h4 Hi K5;refine ZX (Yn ?_);refine ZX (Xw ?_);refine Z1 ?_;have e:failedOf g_=none:=JR.f.trans hf;show Q (failedOf g_).isNone _ s;rw[e];refine h (((lp.drop sa).take na).take k++po++((lp.drop<|sa+na).take nb).drop FT) _ (JR.k.trans r_) (by first | rfl | exact e) (by exact JR.p) (by rw[<- eW];exact IX.2) IX.1 ?_;have ea:arrOf g_=(lp.map<|kas_item it).toArray:=JR.a;have pl:po.length=na - k+FT:=by rw[Hi.length_eq,ZR,l2,l3]
  have ON:=mC (po.map<|kas_item it) (lp.map<|kas_item it) (sa+k) 0 (sa+k) (by rw[Z3,Z3,pl];lia) rfl;show List.foldl (fun a x=>a.setIfInBounds (sa+k+x.2) x.1) (arrOf g_) (po.map<|kas_item it).toArray.toList.zipIdx=_;rw[ea];refine ON.trans ?_;rw[Z3,pl,<- Yx,<- YE,<- Y7,<- Y7];congr 2;have q1:lp.take (sa+k)=lp.take sa++((lp.drop sa).take na).take k:=by
   rw[Wa,XX NG,gZ]
  have q2:lp.drop (sa+k+(na - k+FT))=((lp.drop<|sa+na).take nb).drop FT++lp.drop (sa+(na+nb)):=by
   have:=my (l:=lp.drop (sa+na)) (i:=FT) (j:=nb) G' (by rw[Zm];lia);rw[XG,XG] at this;rw[show sa+k+(na - k+FT)=sa+na+FT by lia,this,show sa+na+nb=sa+(na+nb) by lia]
  rw[q1,q2];simp only[Z4]
 ·rw[ZW c3];refine ZX (yH hc u1 u2 (sA.sublist<|Xq _ _) (sB.sublist<|XW _ _) (by lia) (by lia) f1 f2 (by exact r_) ?_);intro out g_ hM JR;obtain⟨po,rfl,Hi,K5⟩:=hM;have IX:=qp (key:=key) sA sB (by lia) (by lia) h1 h4 Hi K5;refine ZX (Yn ?_);refine ZX (Xw ?_);refine Z1 ?_;have e:failedOf g_=none:=JR.f.trans hf;show Q (failedOf g_).isNone _ s;rw[e];refine h (((lp.drop sa).take na).take k++po++((lp.drop<|sa+na).take nb).drop FT) _ (JR.k.trans r_) (by first | rfl | exact e) (by exact JR.p) (by rw[<- eW];exact IX.2) IX.1 ?_;have ea:arrOf g_=(lp.map<|kas_item it).toArray:=JR.a;have pl:po.length=na - k+FT:=by rw[Hi.length_eq,ZR,l2,l3]
  have ON:=mC (po.map<|kas_item it) (lp.map<|kas_item it) (sa+k) 0 (sa+k) (by rw[Z3,Z3,pl];lia) rfl;show List.foldl (fun a x=>a.setIfInBounds (sa+k+x.2) x.1) (arrOf g_) (po.map<|kas_item it).toArray.toList.zipIdx=_;rw[ea];refine ON.trans ?_;rw[Z3,pl,<- Yx,<- YE,<- Y7,<- Y7];congr 2;have q1:lp.take (sa+k)=lp.take sa++((lp.drop sa).take na).take k:=by
   rw[Wa,XX NG,gZ]
  have q2:lp.drop (sa+k+(na - k+FT))=((lp.drop<|sa+na).take nb).drop FT++lp.drop (sa+(na+nb)):=by
   have:=my (l:=lp.drop (sa+na)) (i:=FT) (j:=nb) G' (by rw[Zm];lia);rw[XG,XG] at this;rw[show sa+k+(na - k+FT)=sa+na+FT by lia,this,show sa+na+nb=sa+(na+nb) by lia]
  rw[q1,q2];simp only[Z4]
end
section
variable{prog:Program}{w:World}{A:Around}{E:Value->Shared->Prop}{κ:SortKind}{it:Array Keyed}{key:Nat->Int}{n:Nat}{s:Shared}{pend:Array (Nat×Nat×Nat)}
structure Hd(κ:SortKind)(it:Array Keyed)(pend:Array (Nat×Nat×Nat))(st:SortSt)(p:Array Nat):Prop where
 k:PyProof.Rows.kindOf st=κ
 a:arrOf st=p.map (kas_item it)
 p:pendingOf st=pend
 f:failedOf st=none
theorem i9(hc:cz n key (kas_cmp prog w A κ it) s){p:Array Nat}(hp:Rg n p){i j:Nat}(hi:i<n)(hj:j<n){st:SortSt}(H:Hd κ it pend st p){Q:Option Bool->SortSt->Shared->Prop}(h:Q (some<|decide (B_ key p i<B_ key p j)) st s):
  kasC (model prog w) A E (ltAt' i j) Q st s:=by
 have el:∀ i,i<n->(p.map<|kas_item it)[i]?=some (kas_item it<|p.getD i 0):=fun i hi=>by
  have:i<p.size:=by rw[hp.size];exact hi
  simp[Array.getD,this]
 rw[ltAt'_eq];refine ZX (Xw ?_);rw[H.a];dsimp only;rw[elem'_eq,elem'_eq,el i hi,el j hj];refine ZX (Z1 ?_);refine ZX (Z1 ?_);exact iX hc (hp.lt hi) (hp.lt hj) H.k h
variable{p:Array Nat}{st:SortSt}
theorem yK(H:Hd κ it pend st p){i j:Nat}{Q:Unit->SortSt->Shared->Prop}(h:∀ g_,Hd κ it pend g_ (kas_rev p i j)->Q () g_ s):kasC (model prog w) A E (reverseSlice' i j) Q st s:=by
 rw[reverseSlice'_eq];refine Yn (h _ ⟨H.k,?_,H.p,H.f⟩);show mirror (arrOf st) i j ((j - i) / 2)=_;rw[H.a];exact kas_swaps_map (kas_item it) (fun k=>i+k) (fun k=>j - 1 - k) _ p
theorem yL(H:Hd κ it pend st p){i j:Nat}{Q:Unit->SortSt->Shared->Prop}(h:∀ g_,Hd κ it pend g_ (bubble p i<|i - j)->Q () g_ s):kasC (model prog w) A E (moveDown' i j) Q st s:=by
 rw[moveDown'_eq];refine Yn (h _ ⟨H.k,?_,H.p,H.f⟩);show bubble (arrOf st) i (i - j)=_;rw[H.a];exact kas_swaps_map (kas_item it) (fun k=>i - k) (fun k=>i - k - 1) _ p
theorem ja{σ β:Type}{M:Model}{f:Nat->β->StateT σ Sem (ForInStep β)}{Q:β->σ->Shared->Prop}(I:Nat->β->σ->Shared->Prop)(B:Nat)(step:∀ x c st s',x<B->I x c st s'->kasC M A E (f x c) (fun r p_ s2=>match r with | .yield c'=>I (x+1) c' p_ s2 | .done c'=>Q c' p_ s2) st s'):∀ (m a:Nat) (c:β) (st:σ) (s':Shared),a+m<=B->(∀ c st s',I (a+m) c st s'->Q c st s')->I a c st s'->
   kasC M A E (forIn (range' a m) c f) Q st s'
 | 0,a,c,st,s',hB,fin,h=>by
  show kasC M A E (forIn ([]:List Nat) c f) Q st s';exact kasC_nil (fin c st s' h)
 | m+1,a,c,st,s',hB,fin,h=>by
  show kasC M A E (forIn (a::range' (a+1) m) c f) Q st s';refine kasC_cons (YA (step a c st s' (by lia) h) (fun r s2 h'=>?_) fun _ _ e=>e);obtain⟨r,p_⟩:=r;cases r with
  | done c'=>exact h'
  | yield c'=>exact ja I B step m (a+1) c' p_ s2 (by lia) (fun c st s' hi=>fin c st s' (by rw[show a+(m+1)=a+1+m by lia];exact hi)) h'
theorem yM(hc:cz n key (kas_cmp prog w A κ it) s)(inj:∀ i j,i<n->j<n->key i=key j->i=j){p:Array Nat}(hp:Rg n p){lo Ft:Nat}(h1:1<=Ft)(hz:lo+Ft<=n){st:SortSt}(H:Hd κ it pend st p){Q:Option Nat->SortSt->Shared->Prop}(h:∀ m p' g_,1<=m->m<=Ft->Rg n p'->Hd κ it pend g_ p'->(∀ i,i<lo->p'[i]?=p[i]?)->(∀ j,lo+1<=j->j<lo+m->B_ key p' (j - 1)<=B_ key p' j)->Q (some m) g_ s):
  kasC (model prog w) A E (countRun' lo Ft) Q st s:=by
 unfold countRun';have asc:∀ (q:Array Nat) (q_:SortSt) (a:Nat),Rg n q->Hd κ it pend q_ q->1<=a->a<=Ft->(∀ j,lo+1<=j->j<lo+a->B_ key q (j - 1)<=B_ key q j)->
   kasC (model prog w) A E (forIn [a:Ft] ((none:Option (Option Nat)),a) fun x c=>do
    let r <- ltAt' (lo+c.2) (lo+c.2 - 1)
    match r with
    | some JS=>if JS=true then pure (ForInStep.done (none,c.2)) else pure (ForInStep.yield (none,c.2+1))
    | x=>pure<|ForInStep.done (some none,c.2))
    (fun c g_ s'=>s=s'/\q_=g_/\∃ m,c=(none,m)/\a<=m/\m<=Ft/\(∀ j,lo+1<=j->j<lo+m->B_ key q (j - 1)<=B_ key q j)/\(m=Ft\/B_ key q (lo+m)<B_ key q (lo+m - 1))) q_ s:=fun q q_ a hq H1 a1 a2 a3=>by
  refine YX (ja (fun x c g_ s'=>s=s'/\q_=g_/\c=(none,x)/\a<=x/\∀ j,lo+1<=j->j<lo+x->B_ key q (j - 1)<=B_ key q j) Ft ?_ _ _ _ _ _ (by lia) ?_ ⟨rfl,rfl,rfl,ZV _,a3⟩)
  ·rintro x c g_ s' hx ⟨rfl,rfl,rfl,x1,x2⟩;dsimp only;refine ZX (i9 hc hq (by lia) (by lia) H1 ?_);dsimp only;by_cases hk:B_ key q (lo+x)<B_ key q (lo+x - 1)
   ·rw[ZY (by simpa using hk)];exact Z1 ⟨rfl,rfl,x,rfl,x1,by lia,x2,.inr hk⟩
   ·rw[ZW (by simpa using hk)];refine Z1 ⟨rfl,rfl,rfl,by lia,fun j j1 j2=>?_⟩;by_cases e:j=lo+x
    ·subst e;lia
    ·exact x2 j j1 (by lia)
  ·rintro c g_ s' ⟨rfl,rfl,rfl,x1,x2⟩;rw[show a+(Ft - a)=Ft by lia] at x2 ⊢;exact⟨rfl,rfl,Ft,rfl,by lia,ZV _,x2,.inl rfl⟩
 with_unfolding_all refine ZX (cD (asc p st 1 hp H (ZV _) h1 fun j a b=>by lia) ?_);rintro c g_ s' ⟨rfl,rfl,m,rfl,m1,m2,m3,m4⟩;dsimp only;by_cases e:m=Ft
 ·rw[ZY (by simpa using e)];exact Z1 (h m p _ m1 m2 hp H (fun _ _=>rfl) m3)
 rw[ZW (by simpa using e)];have Mo:B_ key p (lo+m)<B_ key p (lo+m - 1):=m4.resolve_left e;by_cases e1:m > 1
 ·rw[ZY e1];refine ZX (i9 hc hp (by lia) (by lia) H ?_);dsimp only;have:∀ d,1<=d->d<m->B_ key p lo<B_ key p (lo+d):=fun d=>by
   induction d with
   | zero=>intro x;lia
   | succ d ih=>
    intro _ hd;have a:=m3 (lo+(d+1)) (by lia) (by lia);rw[show lo+(d+1) - 1=lo+d by lia] at a;have b:=hp.ne inj (show lo+d<lo+(d+1) by lia) (by lia);by_cases z:d=0
    ·subst z;rw[Vf] at a b;lia
    ·have:=ih (by lia) (by lia);lia
  have hr:=this (m - 1) (by lia) (by lia);rw[show lo+(m - 1)=lo+m - 1 by lia] at hr;rw[ZY (by simpa using hr)];exact Z1 (h m p _ m1 m2 hp H (fun _ _=>rfl) m3)
 rw[ZW e1];obtain rfl:m=1:=by lia
 refine ZX (We<|Yl ?_);refine ZX (cD (Q':=fun c g_ s'=>s=s'/\st=g_/\∃ m,c=(none,m,0)/\2<=m/\m<=Ft/\∀ j,lo+1<=j->j<lo+m->B_ key p j<B_ key p (j - 1))
  (YX (ja (fun x c g_ s'=>s=s'/\st=g_/\c=(none,x,0)/\2<=x/\∀ j,lo+1<=j->j<lo+x->B_ key p j<B_ key p (j - 1)) Ft ?d1 _ _ _ _ _ (by lia) ?d2 ⟨rfl,rfl,rfl,ZV _,fun j j1 j2=>by
   obtain rfl:j=lo+1:=by lia
   exact Mo⟩)) ?d3)
 case d1=>
  rintro x c g_ s' hx ⟨rfl,rfl,rfl,x1,x2⟩;dsimp only;refine ZX (i9 hc hp (by lia) (by lia) H ?_);dsimp only;by_cases hk:B_ key p (lo+x)<B_ key p (lo+x - 1)
  ·rw[ZY (by simpa using hk),ZW (by lia)];refine Z1 ⟨rfl,rfl,rfl,by lia,fun j j1 j2=>?_⟩;by_cases e:j=lo+x
   ·subst e;exact hk
   ·exact x2 j j1 (by lia)
  ·rw[ZW (by simpa using hk)];refine ZX (i9 hc hp (by lia) (by lia) H ?_);dsimp only;have b:=hp.ne inj (show lo+x - 1<lo+x by lia) (by lia);rw[ZY (by rw[WS];lia)];exact Z1 ⟨rfl,rfl,x,rfl,x1,by lia,x2⟩
 case d2=>
  rintro c g_ s' ⟨rfl,rfl,rfl,x1,x2⟩;rw[show 1+1+(Ft - (1+1))=Ft by lia] at x2 ⊢;exact⟨rfl,rfl,Ft,rfl,by lia,ZV _,x2⟩
 case d3=>
  rintro c g_ s' ⟨rfl,rfl,k,rfl,k1,k2,k3⟩;dsimp only;rw[ZW (by lia)];refine ZX (yK H ?_);intro p_ H2;have JM:=hp.rev lo (lo+k);have g:∀ i,(kas_rev p lo<|lo+k)[i]?=if lo<=i/\i<lo+k then p[lo+(lo+k) - 1 - i]? else p[i]?:=fun i=>by
   unfold kas_rev;rw[getElem?_mirror_all (by rw[hp.size];lia)]
  have ky:∀ i,lo<=i->i<lo+k->B_ key (kas_rev p lo<|lo+k) i=B_ key p (lo+(lo+k) - 1 - i):=fun i a b=>gY (by rw[g,ZY ⟨a,b⟩]);refine ZX (cD (asc (kas_rev p lo<|lo+k) p_ k JM H2 (by lia) k2 fun j j1 j2=>?_) ?_)
  ·rw[ky _ (by lia) (by lia),ky _ (by lia) (by lia)];have:=k3 (lo+(lo+k) - 1 - (j - 1)) (by lia) (by lia);rw[show lo+(lo+k) - 1 - (j - 1) - 1=lo+(lo+k) - 1 - j by lia] at this;lia
  ·rintro c g_ s' ⟨rfl,rfl,m',rfl,q1,q2,q3,q4⟩;dsimp only;exact Z1 (h m' _ _ (by lia) q2 JM H2 (fun i hi=>by rw[g,ZW (by lia)]) q3)
end
section
variable{prog:Program}{w:World}{A:Around}{E:Value->Shared->Prop}{κ:SortKind}{it:Array Keyed}{key:Nat->Int}{n:Nat}{s:Shared}{pend:Array (Nat×Nat×Nat)}
def cQ(key:Nat->Int)(p:Array Nat)(lo m:Nat):Prop:=∀ i j,lo<=i->i<=j->j<lo+m->B_ key p i<=B_ key p j
theorem qq{p:Array Nat}{lo m:Nat}(h:∀ j,lo+1<=j->j<lo+m->B_ key p (j - 1)<=B_ key p j):cQ key p lo m:=by
 intro i j hi Gp hj;obtain⟨d,rfl⟩:∃ d,j=i+d:=⟨j - i,by lia⟩;clear Gp;induction d with
 | zero=>exact Xm _
 | succ d ih=>
  have a:=ih (by lia);have b:=h (i+(d+1)) (by lia) hj;rw[show i+(d+1) - 1=i+d by lia] at b;lia
theorem yN(hc:cz n key (kas_cmp prog w A κ it) s){p:Array Nat}(hp:Rg n p){lo m Ki:Nat}(hz:lo+m<=n)(h1:1<=Ki)(hm:Ki<=m)(up:cQ key p lo Ki){st:SortSt}(H:Hd κ it pend st p){Q:Bool->SortSt->Shared->Prop}(h:∀ p' g_,Rg n p'->Hd κ it pend g_ p'->(∀ i,i<lo->p'[i]?=p[i]?)->cQ key p' lo m->Q true g_ s):
  kasC (model prog w) A E (binarySort' lo m Ki) Q st s:=by
 rw[binarySort'_eq];rw[show max Ki 1=Ki by lia];with_unfolding_all refine ZX (cD (Q':=fun c g_ s'=>s=s'/\c=(none,())/\∃ q,Rg n q/\Hd κ it pend g_ q/\(∀ i,i<lo->q[i]?=p[i]?)/\cQ key q lo m)
  (YX (ja (fun x c g_ s'=>s=s'/\c=(none,())/\1<=x/\∃ q,Rg n q/\Hd κ it pend g_ q/\(∀ i,i<lo->q[i]?=p[i]?)/\cQ key q lo x) m ?step _ _ _ _ _ (by lia) ?fin ⟨rfl,rfl,h1,p,hp,H,fun _ _=>rfl,up⟩)) ?after)
 case after=>
  rintro c g_ s' ⟨rfl,rfl,q,q1,q2,q3,q4⟩;exact Z1 (h q _ q1 q2 q3 q4)
 case fin=>
  rintro c g_ s' ⟨rfl,rfl,x1,q,q1,q2,q3,q4⟩;rw[show Ki+(m - Ki)=m by lia] at q4;exact⟨rfl,rfl,q,q1,q2,q3,q4⟩
 case step=>
  rintro k c g_ s' hk ⟨rfl,rfl,k1,q,hq,H',fr,up⟩;dsimp only;have L0:∀ i,lo<=i->i<lo+0->B_ key q i<=B_ key q (lo+k):=fun i a b=>by lia
  have R0:∀ i,lo+k<=i->i<lo+k->B_ key q (lo+k)<=B_ key q i:=fun i a b=>by lia
  refine ZX (cD (Q':=fun c p_ s'=>s=s'/\g_=p_/\∃ l r,c=(none,l,r)/\l<=k/\(∀ i,lo<=i->i<lo+l->B_ key q i<=B_ key q (lo+k))/\(∀ i,lo+l<=i->i<lo+k->B_ key q (lo+k)<=B_ key q i))
   (YX (ja (fun x c p_ s'=>s=s'/\g_=p_/\∃ l r,c=(none,l,r)/\l<=r/\r<=k/\r - l<=k - x/\(∀ i,lo<=i->i<lo+l->B_ key q i<=B_ key q (lo+k))/\(∀ i,lo+r<=i->i<lo+k->B_ key q (lo+k)<=B_ key q i)) k ?s2 _ _ _ _ _ (by lia) ?f2 ⟨rfl,rfl,0,k,rfl,by lia,by lia,by lia,L0,R0⟩)) ?a2)
  case f2=>
   rintro c p_ s' ⟨rfl,rfl,l,r,rfl,b1,b2,b3,b4,b5⟩;exact⟨rfl,rfl,l,r,rfl,by lia,b4,fun i x y=>b5 i (by lia) y⟩
  case s2=>
   rintro x c p_ s' hx ⟨rfl,rfl,l,r,rfl,b1,b2,b3,b4,b5⟩;dsimp only;by_cases e:l >= r
   ·rw[ZY e];exact Z1 ⟨rfl,rfl,l,r,rfl,by lia,b4,fun i x y=>b5 i (by lia) y⟩
   rw[ZW e];have m1:l<=(l+r) / 2:=by lia
   have m2:(l+r) / 2<r:=by lia
   have m3:(l+r) / 2 - l<=k - (x+1):=by lia
   have m4:r - ((l+r) / 2+1)<=k - (x+1):=by lia
   generalize (l+r) / 2=mid at m1 m2 m3 m4 ⊢;refine ZX (i9 hc hq (by lia) (by lia) H' ?_);dsimp only;by_cases G':B_ key q (lo+k)<B_ key q (lo+mid)
   ·rw[ZY (by simpa using G')];refine Z1 ⟨rfl,rfl,l,mid,rfl,m1,by lia,m3,b4,fun i x y=>?_⟩;have:=up (lo+mid) i (by lia) x y;lia
   ·rw[ZW (by simpa using G')];refine Z1 ⟨rfl,rfl,mid+1,r,rfl,by lia,b2,m4,fun i x y=>?_,b5⟩;have:=up i (lo+mid) x (by lia) (by lia);lia
  case a2=>
   rintro c p_ s' ⟨rfl,rfl,l,r,rfl,b1,b4,b5⟩;dsimp only;refine ZX (yL H' ?_);intro FM H3;have g:∀ i,(bubble q (lo+k)<|lo+k - (lo+l))[i]?=if i=lo+l then q[lo+k]? else if lo+l<i/\i<=lo+k then q[i - 1]? else q[i]?:=fun i=>by
    have:=getElem?_bubble (xs:=q) (src:=lo+k) (by rw[hq.size];lia) (lo+k - (lo+l)) (by lia) i
    rwa [show lo+k - (lo+k - (lo+l))=lo+l by lia] at this
   have ky:∀ i,B_ key (bubble q (lo+k)<|lo+k - (lo+l)) i=if i=lo+l then B_ key q (lo+k) else if lo+l<i/\i<=lo+k then B_ key q (i - 1) else B_ key q i:=fun i=>by
    have g:=g i;by_cases e:i=lo+l
    ·rw[ZY e] at g ⊢;exact gY g
    ·rw[ZW e] at g ⊢;by_cases e2:lo+l<i/\i<=lo+k
     ·rw[ZY e2] at g ⊢;exact gY g
     ·rw[ZW e2] at g ⊢;exact gY g
   refine Z1 ⟨rfl,rfl,by lia,_,hq.Rr _ _,H3,fun i hi=>by rw[g,ZW (by lia),ZW (by lia)];exact fr i hi,qq fun j x y=>?_⟩;rw[ky,ky];by_cases c1:j - 1=lo+l
   ·rw[ZY c1,ZW (by lia),ZY (by lia)];exact b5 (j - 1) (by lia) (by lia)
   ·rw[ZW c1];by_cases c2:j=lo+l
    ·rw[ZY c2,ZW (by lia)];exact b4 (j - 1) (by lia) (by lia)
    ·rw[ZW c2];by_cases c3:lo+l<j - 1
     ·rw[ZY (by lia),ZY (by lia)];exact up _ _ (by lia) (by lia) (by lia)
     ·rw[ZW (by lia),ZW (by lia)];exact up _ _ (by lia) (by lia) (by lia)
end
section
variable{prog:Program}{w:World}{A:Around}{E:Value->Shared->Prop}{κ:SortKind}{it:Array Keyed}{key:Nat->Int}{n:Nat}{s:Shared}{pend:Array (Nat×Nat×Nat)}
def aX(key:Nat->Int)(p:Array Nat):Nat->List (Nat×Nat×Nat)->Nat->Prop
 | a,[],b=>a=b
 | a,(x,l,_)::t,b=>x=a/\0<l/\cQ key p x l/\aX key p (a+l) t b
variable{p:Array Nat}
theorem aX.le:∀ {t:List (Nat×Nat×Nat)}{a b:Nat},aX key p a t b->a+t.length<=b
 | [],a,b,h=>by rw[show b=a from h.symm];exact ZV _
 | (x,l,_)::t,a,b,h=>by
  have:=h.2.2.2.le;have:=h.2.1;rw[ZJ];lia
theorem aX.congr{q:Array Nat}:∀ {t:List (Nat×Nat×Nat)}{a b:Nat},aX key p a t b->(∀ i,a<=i->i<b->B_ key q i=B_ key p i)->aX key q a t b
 | [],a,b,h,_=>h
 | (x,l,_)::t,a,b,h,g=>by
  have:=h.2.2.2.le;obtain⟨rfl,h2,h3,h4⟩:=h;refine⟨rfl,h2,fun i j hi Gp hj=>?_,h4.congr fun i a b=>g i (by lia) b⟩;rw[g i hi (by lia),g j (by lia) (by lia)];exact h3 i j hi Gp hj
theorem aX.app{p:Array Nat}:∀ {t u:List (Nat×Nat×Nat)}{a b:Nat},aX key p a (t++u) b↔∃ c,aX key p a t c/\aX key p c u b
 | [],u,a,b=>⟨fun h=>⟨a,rfl,h⟩,fun ⟨c,e,h⟩=>by rw[show a=c from e];exact h⟩
 | (x,l,z)::t,u,a,b=>by
  show (x=a/\0<l/\cQ key p x l/\aX key p (a+l) (t++u) b)↔_;rw[aX.app];constructor
  ·rintro⟨h1,h2,h3,c,h4,h5⟩;exact⟨c,⟨h1,h2,h3,h4⟩,h5⟩
  ·rintro⟨c,⟨h1,h2,h3,h4⟩,h5⟩;exact⟨h1,h2,h3,c,h4,h5⟩
theorem yO{α:Type}{l:List α}{i:Nat}(h:i+1<l.length):∃ l1 x y l2,l=l1++x::y::l2/\l1.length=i:=by
 refine⟨l.take i,l[i]'(by lia),l[i+1],l.drop<|i+2,?_,by rw[Zc];lia⟩;have e1:=Y3 (l:=l) (i:=i) (by lia);have e2:=Y3 (l:=l) (i:=i+1) h;rw[<- e2,<- e1,Zy]
theorem NH(l:List Nat)(i:Nat):B_ key l.toArray i=key (l.getD i 0):=by unfold B_;rw[eF]
theorem mD(hc:cz n key (kas_cmp prog w A κ it) s){p:Array Nat}(hp:Rg n p){st:SortSt}(H:Hd κ it pend st p){lo i:Nat}(hi:i+1<pend.size)(R:aX key p 0 pend.toList lo)(Re:lo<=n){Q:Bool->SortSt->Shared->Prop}(h:∀ FP p' g_,Rg n p'->Hd κ it FP g_ p'->FP.size+1=pend.size->aX key p' 0 FP.toList lo->(∀ i,lo<=i->B_ key p' i=B_ key p i)->Q true g_ s):kasC (model prog w) A E (mergeAt' i) Q st s:=by
 obtain⟨l1,⟨sa,na,pw⟩,⟨sb,nb,pw2⟩,l2,e,rfl⟩:=yO (l:=pend.toList) (i:=i) (by simpa using hi);rw[e] at R;obtain⟨c,R1,rfl,Ry,A1,rfl,Rz,A2,R2⟩:=aX.app.mp R;have b2:=R2.le;have pe:pend=(l1++(sa,na,pw)::(sa+na,nb,pw2)::l2).toArray:=by rw[<- e]
 have RA:p.size=n:=hp.size;have RB:∀ x∈p.toList,x<n:=fun x hx=>Zi.mp (hp.mem_iff.mp hx);have gk:∀ i,B_ key p i=key (p.toList.getD i 0):=fun i=>NH p.toList i;have pl:p.toList.length=n:=by rw[ZN,RA]
 have Kj:∀ a m,a+m<=n->cQ key p a m->E4 key ((p.toList.drop a).take m):=fun a m hz h=>by
  refine YQ.mpr fun i j hi hj Gp=>?_;have GG:=hi;have Kk:=hj;rw[Zc,Zm,pl] at GG Kk;have:=h (a+i) (a+j) (by lia) (by lia) (by lia);rw[gk,gk] at this;rw[WV,XV,WV,XV];rw[Z5,Z5,Z0 (by lia),Z0 (by lia)] at this;exact this
 refine yJ hc (lp:=p.toList) RB (i:=l1.length) (sa:=sa) (na:=na) (nb:=nb) (pw:=pw) (pw2:=pw2) H.k (by rw[H.a];apply XA;simp) H.f (by rw[H.p,pe];simp) (by rw[H.p,pe];simp) Ry Rz (by lia) (Kj _ _ (by lia) A1) (Kj _ _ (by lia) A2) ?_;intro mid g_ k1 f1 p1 m1 m2 a1;have ml:mid.length=na+nb:=by rw[m1.length_eq,Zc,Zm,pl];lia
 have JQ:p.toList.take sa++(p.toList.drop sa).take (na+nb)++p.toList.drop (sa+(na+nb))=p.toList:=by rw[gZ,Zy]
 have JM:Rg n (p.toList.take sa++mid++p.toList.drop (sa+(na+nb))).toArray:=by
  show (p.toList.take sa++mid++p.toList.drop (sa+(na+nb))).Perm (range n);refine List.Perm.trans (ZE _<|ZL _ m1) ?_;rw[JQ];exact hp
 have tl:(p.toList.take sa).length=sa:=by rw[Zc,pl];lia
 have RD:∀ i,i<sa->B_ key (p.toList.take sa++mid++p.toList.drop (sa+(na+nb))).toArray i=B_ key p i:=fun i hi=>by
  rw[NH,gk];congr 1;rw[Z5,Z5,Z4,Y4 (by lia),Yu,ZY hi]
 have Qh:∀ i,sa+(na+nb)<=i->B_ key (p.toList.take sa++mid++p.toList.drop (sa+(na+nb))).toArray i=B_ key p i:=fun i hi=>by
  rw[NH,gk];congr 1;rw[Z5,Z5,Y6 (by rw[ZR];lia),YF,ZR,tl,ml];congr 2;lia
 have Qi:∀ i,sa<=i->i<sa+(na+nb)->B_ key (p.toList.take sa++mid++p.toList.drop (sa+(na+nb))).toArray i=key (mid.getD (i - sa) 0):=fun i h1 h2=>by
  rw[NH];congr 1;rw[Z5,Z5,Z4,Y6 (by lia),tl,Y4 (by lia)]
 have RE:((l1++(sa,na,pw)::(sa+na,nb,pw2)::l2).toArray.setIfInBounds l1.length (sa,na+nb,pw)).eraseIdxIfInBounds (l1.length+1)=(l1++(sa,na+nb,pw)::l2).toArray:=by
  rw[V8,List.set_append_right _ _<|ZV _,Ve,List.set_cons_zero];rw[WL,List.eraseIdx_append_of_length_le (by lia),show l1.length+1 - l1.length=1 by lia];rfl
 refine h ((l1++(sa,na+nb,pw)::l2).toArray) _ g_ JM ⟨k1,by rw[a1];apply XA;simp,by rw[p1,H.p,pe,RE],f1⟩ (by rw[pe];simp;lia) ?_ (fun i hi=>Qh i (by lia));have RF:aX key p (sa+(na+nb)) l2 lo:=by rw[<- Wy];exact R2
 refine aX.app.mpr ⟨sa,R1.congr fun i _ b=>RD i b,rfl,by lia,fun i j h1 h2 h3=>?_,RF.congr fun i a b=>Qh i a⟩
 ·rw[Qi i h1 (by lia),Qi j (by lia) h3];exact gp m2 (by lia) (by lia)
end
section
variable{prog:Program}{w:World}{A:Around}{E:Value->Shared->Prop}{κ:SortKind}{it:Array Keyed}{key:Nat->Int}{n:Nat}{s:Shared}{pend:Array (Nat×Nat×Nat)}
variable{p:Array Nat}
theorem aX.same:∀ {t u:List (Nat×Nat×Nat)}{a b:Nat},aX key p a t b->(t.map fun x=>(x.1,x.2.1))=(u.map fun x=>(x.1,x.2.1))->aX key p a u b
 | [],[],a,b,h,_=>h
 | [],_::_,a,b,h,e=>by cases e
 | _::_,[],a,b,h,e=>by cases e
 | (x,l,z)::t,(x',l',z')::u,a,b,h,e=>by
  rw[ZF,ZF] at e;injection e with e1 e2;injection e1 with e3 e4;dsimp only at e3 e4;subst e3;subst e4;exact⟨h.1,h.2.1,h.2.2.1,h.2.2.2.same e2⟩
theorem qr(xs:Array (Nat×Nat×Nat))(i z:Nat):(xs.toList.map fun x=>(x.1,x.2.1))=((xs.modify i fun x=>(x.1,x.2.1,z)).toList.map fun x=>(x.1,x.2.1)):=by
 apply Yi;intro j;rw[ZB,ZB,ZD,ZD,Array.getElem?_modify];split
 ·rw[Option.map_map];rfl
 ·rfl
theorem cQ.congr{q:Array Nat}{lo m:Nat}(h:cQ key p lo m)(g:∀ i,lo<=i->B_ key q i=B_ key p i):cQ key q lo m:=fun i j a b c=>by
 rw[g i a,g j (by lia)];exact h i j a b c
variable{Q:Unit->SortSt->Shared->Prop}
theorem yP(hc:cz n key (kas_cmp prog w A κ it) s)(inj:∀ i j,i<n->j<n->key i=key j->i=j)(h2:2<=n)(hG:∀ p' g_,Rg n p'->Up key p' n->arrOf g_=p'.map (kas_item it)->failedOf g_=none->Q () g_ s):kasC (model prog w) A E sortRuns' Q (kas_st κ it (range n).toArray) s:=by
 rw[sortRuns'_eq];refine ZX (Xw ?_);dsimp only;have hsz:(arrOf<|kas_st κ it (range n).toArray).size=n:=by
  show ((range n).toArray.map<|kas_item it).size=n;simp
 simp only[hsz];refine ZX (cD (Q':=fun c g_ s'=>s=s'/\c=(none,n)/\∃ pend p,Rg n p/\Hd κ it pend g_ p/\aX key p 0 pend.toList n)
  (YX (bQ (fun x c g_ s'=>s=s'/\∃ lo pend p,c=(none,lo)/\x<=lo/\lo<=n/\Rg n p/\Hd κ it pend g_ p/\aX key p 0 pend.toList lo) ?step _ 0 _ _ _ ?fin ⟨rfl,0,#[],(range n).toArray,rfl,ZV _,by lia,ZC _,⟨rfl,rfl,rfl,rfl⟩,rfl⟩)) ?after)
 case fin=>
  rintro c g_ s' ⟨rfl,lo,pend,p,rfl,a,b,d,e,f⟩;have:lo=n:=by lia
  subst this;exact⟨rfl,rfl,pend,p,d,e,f⟩
 case after=>
  rintro c g_ s' ⟨rfl,rfl,pend,p,hp,H,R⟩;dsimp only;refine ZX (cD (Q':=fun c g_ s'=>s=s'/\c=(none,())/\∃ p,Rg n p/\Up key p n/\arrOf g_=p.map (kas_item it)/\failedOf g_=none)
   (YX (bQ (fun x c g_ s'=>s=s'/\c=(none,())/\∃ pend p,Rg n p/\Hd κ it pend g_ p/\aX key p 0 pend.toList n/\pend.size+x<=n) ?s2 _ 0 _ _ _ ?f2 ⟨rfl,rfl,pend,p,hp,H,R,by have:=R.le;rw[ZN] at this;lia⟩)) ?a2)
  case a2=>
   rintro c g_ s' ⟨rfl,rfl,p,a,b,c,d⟩;exact Z1 (hG p _ a b c d)
  case f2=>
   rintro c g_ s' ⟨rfl,rfl,pend,p,hp,H,R,hx⟩;have e:pend.toList=[]:=YR (by rw[ZN];lia);rw[e] at R;have:0=n:=R;lia
  case s2=>
   rintro x c g_ s' ⟨rfl,rfl,pend,p,hp,H,R,hx⟩;refine ZX (Xw ?_);by_cases e:(pendingOf g_).size<=1
   ·rw[ZY e];refine Z1 ⟨rfl,rfl,p,hp,?_,H.a,H.f⟩;rw[H.p] at e;have el:pend.toList.length<=1:=by rw[ZN];exact e
    match hl:pend.toList,el with
    | [],_=>
     rw[hl] at R;have:0=n:=R;lia
    | [(x,l,z)],_=>
     rw[hl] at R;obtain⟨rfl,_,a3,a4⟩:=R;have:0+l=n:=a4;exact fun i j Gp hj=>a3 i j (Yz _) Gp (by lia)
    | _::_::_,h=>exact absurd h (by simp)
   ·rw[ZW e];rw[H.p] at e;have RG:∀ idx,idx+1<pend.size->kasC (model prog w) A E (mergeAt' idx) (fun b p_ s2=>b=true/\s=s2/\∃ pend p,Rg n p/\Hd κ it pend p_ p/\aX key p 0 pend.toList n/\pend.size+(x+1)<=n) g_ s:=fun idx OO=>
     mD hc hp H OO R (ZV _) fun FP p' Mp a b c d fr=>⟨rfl,rfl,FP,p',a,b,d,by lia⟩;refine ZX (cD (RG _ ?_) ?_)
    ·rw[H.p];have:∀ (c:Prop) [Decidable c],(if c then pend.size - 2 - 1 else pend.size - 2)+1<pend.size:=fun c _=>by split<;>lia
     exact this _
    ·rintro b p_ s2 ⟨rfl,rfl,hh⟩;rw[ZW (by decide)];exact Z1 ⟨rfl,rfl,hh⟩
 case step=>
  rintro x c g_ s' ⟨rfl,lo,pend,p,rfl,x1,x2,hp,H,R⟩;dsimp only;by_cases c1:lo >= n
  ·rw[ZY c1];have:lo=n:=by lia
   subst this;exact Z1 ⟨rfl,rfl,pend,p,hp,H,R⟩
  rw[ZW c1];refine ZX (yM hc inj hp (by lia) (by lia) H ?_);intro m p1 q_ m1 m2 JT H1 RH A1;have A1:=qq A1;have R1:aX key p1 0 pend.toList lo:=R.congr fun i _ b=>gY (RH i b);dsimp only;by_cases c2:m<minRun' n n 0
  ·rw[ZY c2];refine ZX (We<|Yl ?_);have mm:m<=min (n - lo) (minRun' n n 0):=by lia
   have mn:min (n - lo) (minRun' n n 0)<=n - lo:=by lia
   generalize min (n - lo) (minRun' n n 0)=GR at mm mn ⊢;refine ZX (yN hc JT (by lia) m1 mm A1 H1 ?_);intro p2 p_ Ig H2 RI A2;have R2:aX key p2 0 pend.toList lo:=R1.congr fun i _ b=>gY (RI i b);rw[ZW (by decide)];refine ZX (Xw ?_);rcases RJ:(pendingOf p_).back? with _ | ⟨s1,n1,z1⟩
   ·dsimp only;refine ZX (Yn ?_);refine Z1 ⟨rfl,lo+GR,pend.push (lo,GR,0),p2,rfl,by lia,by lia,Ig,⟨H2.k,H2.a,by show (pendingOf p_).push _=_;rw[H2.p],H2.f⟩,?_⟩;rw[Xp];exact aX.app.mpr ⟨lo,R2,rfl,by lia,A2,rfl⟩
   ·dsimp only;refine ZX (cD (Q':=fun c g_ s'=>s=s'/\c=(none,())/\∃ pend p,Rg n p/\Hd κ it pend g_ p/\aX key p 0 pend.toList lo/\cQ key p lo (GR))
     (YX<|bQ (fun x c g_ s'=>s=s'/\c=(none,())/\∃ pend p,Rg n p/\Hd κ it pend g_ p/\aX key p 0 pend.toList lo/\cQ key p lo (GR)) ?_ _ 0 _ _ _ (fun _ _ _ z=>z) ⟨rfl,rfl,pend,p2,Ig,H2,R2,A2⟩) ?_)
    ·rintro y c g_ s' ⟨rfl,rfl,pend,p,hp,H,R,A⟩;refine ZX (Xw ?_);by_cases e:(pendingOf g_).size > 1
     ·rw[ZY e];rcases hg:(pendingOf g_)[(pendingOf g_).size - 2]? with _ | ⟨a,b,Mq⟩
      ·dsimp only;exact Z1 ⟨rfl,rfl,pend,p,hp,H,R,A⟩
      ·dsimp only;split
       ·exact Z1 ⟨rfl,rfl,pend,p,hp,H,R,A⟩
       ·refine ZX (mD hc hp H (by rw[H.p] at e ⊢;lia) R (by lia) ?_);intro FP p' Mp a b c d fr;rw[ZW (by decide)];exact Z1 ⟨rfl,rfl,FP,p',a,b,d,A.congr fr⟩
     ·rw[ZW e];dsimp only;exact Z1 ⟨rfl,rfl,pend,p,hp,H,R,A⟩
    ·rintro c g_ s' ⟨rfl,rfl,pend,p,hp,H,R,A⟩;dsimp only;refine ZX (Yn ?_);refine ZX (Yn ?_);refine Z1 ⟨rfl,lo+GR,(pend.modify (pend.size - 1) _).push (lo,GR,0),p,rfl,by lia,by lia,hp,⟨H.k,H.a,by show ((pendingOf g_).modify ((pendingOf g_).size - 1) _).push _=_;rw[H.p],H.f⟩,?_⟩;rw[Xp];exact aX.app.mpr ⟨lo,R.same<|qr _ _ _,rfl,by lia,A,rfl⟩
  ·rw[ZW c2];have Ig:=JT;have H2:=H1;have R2:=R1;have A2:=A1;revert Ig H2 R2 A2;generalize p1=p2;generalize q_=p_;intro Ig H2 R2 A2;refine ZX (Xw ?_);rcases RJ:(pendingOf p_).back? with _ | ⟨s1,n1,z1⟩
   ·dsimp only;refine ZX (Yn ?_);refine Z1 ⟨rfl,lo+m,pend.push (lo,m,0),p2,rfl,by lia,by lia,Ig,⟨H2.k,H2.a,by show (pendingOf p_).push _=_;rw[H2.p],H2.f⟩,?_⟩;rw[Xp];exact aX.app.mpr ⟨lo,R2,rfl,by lia,A2,rfl⟩
   ·dsimp only;refine ZX (cD (Q':=fun c g_ s'=>s=s'/\c=(none,())/\∃ pend p,Rg n p/\Hd κ it pend g_ p/\aX key p 0 pend.toList lo/\cQ key p lo (m))
     (YX<|bQ (fun x c g_ s'=>s=s'/\c=(none,())/\∃ pend p,Rg n p/\Hd κ it pend g_ p/\aX key p 0 pend.toList lo/\cQ key p lo (m)) ?_ _ 0 _ _ _ (fun _ _ _ z=>z) ⟨rfl,rfl,pend,p2,Ig,H2,R2,A2⟩) ?_)
    ·rintro y c g_ s' ⟨rfl,rfl,pend,p,hp,H,R,A⟩;refine ZX (Xw ?_);by_cases e:(pendingOf g_).size > 1
     ·rw[ZY e];rcases hg:(pendingOf g_)[(pendingOf g_).size - 2]? with _ | ⟨a,b,Mq⟩
      ·dsimp only;exact Z1 ⟨rfl,rfl,pend,p,hp,H,R,A⟩
      ·dsimp only;split
       ·exact Z1 ⟨rfl,rfl,pend,p,hp,H,R,A⟩
       ·refine ZX (mD hc hp H (by rw[H.p] at e ⊢;lia) R (by lia) ?_);intro FP p' Mp a b c d fr;rw[ZW (by decide)];exact Z1 ⟨rfl,rfl,FP,p',a,b,d,A.congr fr⟩
     ·rw[ZW e];dsimp only;exact Z1 ⟨rfl,rfl,pend,p,hp,H,R,A⟩
    ·rintro c g_ s' ⟨rfl,rfl,pend,p,hp,H,R,A⟩;dsimp only;refine ZX (Yn ?_);refine ZX (Yn ?_);refine Z1 ⟨rfl,lo+m,(pend.modify (pend.size - 1) _).push (lo,m,0),p,rfl,by lia,by lia,hp,⟨H.k,H.a,by show ((pendingOf g_).modify ((pendingOf g_).size - 1) _).push _=_;rw[H.p],H.f⟩,?_⟩;rw[Xp];exact aX.app.mpr ⟨lo,R.same<|qr _ _ _,rfl,by lia,A,rfl⟩
theorem yQ(hc:cz n key (kas_cmp prog w A κ it) s)(inj:∀ i j,i<n->j<n->key i=key j->i=j)(h2:2<=n)(up:n<1001\/∀ j,1<=j->j<n->key (j - 1)<=key j)(hG:∀ p' g_,Rg n p'->Up key p' n->arrOf g_=p'.map (kas_item it)->failedOf g_=none->Q () g_ s):kasC (model prog w) A E sortRuns' Q (kas_st κ it (range n).toArray) s:=yP hc inj h2 hG
end
end L2
namespace L2
open PySem PySem.Spec PyProof.Rows
section
variable{X:Cx}{pins:List (Addr×Obj)}{σ:St}{H:Hp}{s:Shared}{h':Heap}
variable{ch:List Addr}{t':Nat}
theorem Inv.Kl{T:Addr}{xs:List V}(I:Inv X pins σ H s)(Gd:∀ b∈ch,dH X pins H b)(k:∀ b o,b∉ch->s.heap.get? b=some o->h'.get? b=some o)(hT:s.heap.objs.size<=T)(new:bv X.prog X.w (upd H T<|.tup xs) h' T (.tup xs)):Inv X pins σ (upd H T<|.tup xs) { s with heap:=h',toks:=t' }:=by
 have fT:H T=none:=I.n_.fresh hT;have nT:∀ b o,s.heap.get? b=some o->b≠T:=fun b o e=>Zx (Zt (ZP e) hT);have nc:∀ b u,H b=some u->b∉ch:=fun b u e z=>by rw[(Gd b z).1] at e;cases e
 refine I.step (g':=s.gens) (d':=s.drawn) (ch:=ch) (fun b hb=>⟨(Gd b hb).2.2.2.1,(Gd b hb).2.1,(Gd b hb).2.2.2.2.1,(Gd b hb).2.2.2.2.2⟩) (fun b o _ _ hc e _=>k b o hc e) (fun b o _ _ hc e _=>⟨o.slots,k b o hc e⟩)
  (fun b o _ e n=>by rw[aD (nT b o e)];exact n) (fun b o hc e=>⟨o,k b o hc e⟩) (fun b ys e=>by rw[aD (cy e fT)];exact e) (fun b o u e=>by rw[aD (cy e fT)];exact e)
  (fun b ps e=>⟨#[],by rw[aD (cy e fT),e];simp⟩) (fun m hm=>?_) (fun a o e=>?_) I.bare
 ·obtain⟨o,es,ep,ho,r⟩:=hm;exact⟨o,es,ep,k _ o (fun z=>(Gd _ z).2.1 rfl) ho,r⟩
 ·by_cases ha:a=T
  ·subst ha;rw[bm] at e;cases e;exact new
  ·rw[aD ha] at e;refine (I.n_ a o e).Fr (fun b u hb q=>k b u ?_ q) (fun b q=>by rw[aD (cy q fT)];exact q) fun b ys q=>by rw[aD (cy q fT)];exact q
   rcases hb with z | z
   ·rw[z];exact nc a o e
   ·exact nc b _ z
theorem Inv.Km(I:Inv X pins σ H s)(Gd:∀ b∈ch,dH X pins H b)(k:∀ b o,b∉ch->s.heap.get? b=some o->h'.get? b=some o):Inv X pins σ H { s with heap:=h',toks:=t' }:=by
 have nc:∀ b u,H b=some u->b∉ch:=fun b u e z=>by rw[(Gd b z).1] at e;cases e
 refine I.step (g':=s.gens) (d':=s.drawn) (ch:=ch) (fun b hb=>⟨(Gd b hb).2.2.2.1,(Gd b hb).2.1,(Gd b hb).2.2.2.2.1,(Gd b hb).2.2.2.2.2⟩) (fun b o _ _ hc e _=>k b o hc e) (fun b o _ _ hc e _=>⟨o.slots,k b o hc e⟩)
  (fun b o _ _ n=>n) (fun b o hc e=>⟨o,k b o hc e⟩) (fun b ys e=>e) (fun b o u e=>e) (fun b ps e=>⟨#[],by rw[e];simp⟩) (fun m hm=>?_) (fun a o e=>?_) I.bare
 ·obtain⟨o,es,ep,ho,r⟩:=hm;exact⟨o,es,ep,k _ o (fun z=>(Gd _ z).2.1 rfl) ho,r⟩
 ·refine (I.n_ a o e).Fr (fun b u hb q=>k b u ?_ q) (fun b q=>q) fun b ys q=>q;rcases hb with z | z
  ·rw[z];exact nc a o e
  ·exact nc b _ z
end
section
variable{prog:Program}{w:World}{A:Around}{E:Value->Shared->Prop}{s:Shared}
variable{it t:Addr}{i:Nat}{items:Array Value}{Q:Value->Shared->Prop}
theorem kw{x:Value}(hit:s.heap.IsTupleIter it t i)(ht:s.heap.IsTuple t items)(hx:items[i]?=some x)(q:∀ h',h'.IsTupleIter it t (i+1)->Heap.SameBut it s.heap h'->Q x { s with heap:=h' }):wpAny (model prog w) A (Builtin.SmallTypes.nextOf<|.ref it) Q E s:=by
 obtain⟨o,f1,f2,f3⟩:=id hit;obtain⟨ol,g1,_,nl,g2⟩:=ht;unfold Builtin.SmallTypes.nextOf;refine Z9 (Zb (name:=Str.ofString "__next__") hit.typeIs X2<|Zj X2 hit.typeIs F.entry_tuple_iterator_next ?z<|Wn _)
 case z=>
  show wpAny _ _ (field (.ref it) 0 >>= _) _ _ s;refine Z9 (Za f1 f3 (x:=.ref t) rfl ?_);show wpAny _ _ (if (Value.ref t == Value.none)=true then _ else _) _ _ s;rw[ZW (show ¬ (Value.ref t == Value.none)=true by intro z;cases z)];show wpAny _ _ (field (.ref it) 1 >>= _) _ _ s;refine Z9 (Za f1 f3 (x:=.int i 0) rfl ?_);show wpAny _ _ (seqItems? (.ref t) >>= _) _ _ s;refine Z9 (Y9 g1 g2 ?_);simp only[Yj,hx];refine Z9 (XH f1 f3 (by simp) (Z6 ⟨x,rfl,Z6 (q _ ⟨_,Yy _ f1<|WK<|X4 f3 _,(VR ..).trans f2,by rw[X4 f3];simp[rawInt]⟩<|YM ..)⟩))
theorem mE(hh:A.handled=none)(hit:s.heap.IsTupleIter it t i)(ht:s.heap.IsTuple t items)(hx:items[i]?=none)(q:∀ h' e,Heap.ExtBut it s.heap h'->(∃ o,h'.get? e=some o/\o.cls=.type "StopIteration")->E (.ref e) { s with heap:=h' }):wpAny (model prog w) A (Builtin.SmallTypes.nextOf<|.ref it) Q E s:=by
 obtain⟨o,f1,f2,f3⟩:=id hit;obtain⟨ol,g1,_,nl,g2⟩:=ht;unfold Builtin.SmallTypes.nextOf;refine Z9 (Zb (name:=Str.ofString "__next__") hit.typeIs X2<|Zj X2 hit.typeIs F.entry_tuple_iterator_next ?z<|Wn _)
 case z=>
  show wpAny _ _ (field (.ref it) 0 >>= _) _ _ s;refine Z9 (Za f1 f3 (x:=.ref t) rfl ?_);show wpAny _ _ (if (Value.ref t == Value.none)=true then _ else _) _ _ s;rw[ZW (show ¬ (Value.ref t == Value.none)=true by intro z;cases z)];show wpAny _ _ (field (.ref it) 1 >>= _) _ _ s;refine Z9 (Za f1 f3 (x:=.int i 0) rfl ?_);show wpAny _ _ (seqItems? (.ref t) >>= _) _ _ s;refine Z9 (Y9 g1 g2 ?_);simp only[Yj,hx];refine Z9 (Yl (Z9 (XH f1 f3 (by simp) ?_)));show wpAny _ _ (newExc (.type "StopIteration") [] >>= _) _ _ _;apply Z9;simp only[newExc,newTuple];refine Z9 (Zo (Z9 (m:=firstArgMember _ _) (Vo (a:=Value.none) (by first | rfl | (simp only[firstArgMember];rfl)) (Zo ?_ (by size_fits)))) (by size_fits));simp only[raiseNew];apply Z9;apply wpAny_handled;rw[show A.in1.handled=none from hh];refine Z9 (m:=pure _) (Z6<|wpAny_throw ?_);exact q _ _ (((YM ..).extBut.push _).push _) ⟨_,ZS _ rfl,rfl⟩
end
section
variable{prog:Program}{w:World}{A:Around}{E:Value->Shared->Prop}{s:Shared}
variable{h h':Heap}{a:Addr}
theorem de{t:Addr}{i:Nat}(x:h.IsTupleIter a t i)(k:∀ o,h.get? a=some o->h'.get? a=some o):h'.IsTupleIter a t i:=let ⟨o,e,r⟩:=x;⟨o,k o e,r⟩
variable{xs:Array Value}
theorem g9(x:h.IsTuple a xs)(k:∀ o,h.get? a=some o->h'.get? a=some o):h'.IsTuple a xs:=let ⟨o,e,r⟩:=x;⟨o,k o e,r⟩
variable{a b:Value}{k1 k2:Nat}{ys:Array Value}
theorem yR{z TI TO i1 i2 l1 l2:Addr}{x y:Value}{Q:Value->Shared->Prop}(D:ZipApart z TI TO i1 i2 l1 l2)(hz:IsZip s.heap z TI TO .none)(K6:IsPair s.heap TI (.ref i1) (.ref i2))(K7:IsPair s.heap TO a b)(h1:s.heap.IsTupleIter i1 l1 k1)(h2:s.heap.IsTupleIter i2 l2 k2)(ID:s.heap.IsTuple l1 xs)(Jt:s.heap.IsTuple l2 ys)(hx:xs[k1]?=some x)(hy:ys[k2]?=some y)(hQ:∀ h',IsZip h' z TI TO (rawInt s.heap.objs.size)->IsPair h' TO x y->h'.IsTupleIter i1 l1 (k1+1)->h'.IsTupleIter i2 l2 (k2+1)->IsPair h' s.heap.objs.size x y->
   (∀ c o,c≠z->c≠TO->c≠i1->c≠i2->s.heap.get? c=some o->h'.get? c=some o)->Q (.ref s.heap.objs.size) { s with heap:=h' }):
  wpAny (model prog w) A (Builtin.«zip.__next__» ⟨[.ref z],[]⟩) (fun fin s'=>∃ v,fin=.done (.ret v)/\Q v s') E s:=by
 show wpAny _ _ (field (.ref z) 2 >>= _) _ _ _;refine Z9 (Za hz rfl (x:=.bool false) rfl ?_);show wpAny _ _ (field (.ref z) 3 >>= _) _ _ _;refine Z9 (Za hz rfl (x:=.ref TI) rfl<|Z9<|Y9 K6 rfl ?_);show wpAny _ _ (Builtin.SmallTypes.ownedTupleIsFree (.ref z) >>= _) _ _ _;apply Z9;unfold Builtin.SmallTypes.ownedTupleIsFree;refine Z9 (Za hz rfl (x:=.none) rfl<|Z6 ?_);simp only[Xr];refine Z9 (Yl (Z9 (Za hz rfl (x:=.ref TO) rfl (Z9 (Y5 hz (by simp) fun j1 z1 s1=>?_)))));replace z1:IsZip j1 z TI TO .ellipsis:=z1;apply Z9;simp only[Xg,Wm,Xx,V7];refine Z9 (Z9<|XS ?_);show wpAny _ _ (Builtin.SmallTypes.nextOf (.ref i1) >>= _) _ _ _;refine Z9 (kw (s:={ s with heap:=j1 }) (de h1 fun o e=>s1.extBut _ o D.i1z e) (g9 ID fun o e=>s1.extBut _ o D.l1z e) hx fun j2 a2 s2=>Z6 ?_);have o2:IsPair j2 TO a b:=s2.extBut _ _ D.TOi1 (s1.extBut _ _ D.TOz K7);refine Z9 (Y9 (s:={ s with heap:=j2 }) o2 rfl<|Z9<|Yc (s:={ s with heap:=j2 }) o2 fun j3 o3 s3=>?_);replace o3:IsPair j3 TO x b:=o3;refine Z9 (Wr<|Z6<|Z9<|Z9<|XS ?_);show wpAny _ _ (Builtin.SmallTypes.nextOf (.ref i2) >>= _) _ _ _;refine Z9 (kw (s:={ s with heap:=j3 }) (de h2 fun o e=>s3.extBut _ o D.TOi2.symm<|s2.extBut _ o D.i12.symm<|s1.extBut _ o D.i2z e) (g9 Jt fun o e=>s3.extBut _ o D.l2TO<|s2.extBut _ o D.l2i1<|s1.extBut _ o D.l2z e) hy fun j4 a4 s4=>Z6 ?_);have o4:IsPair j4 TO x b:=s4.extBut _ _ D.TOi2 o3;refine Z9 (Y9 (s:={ s with heap:=j4 }) o4 rfl<|Z9<|Yc (s:={ s with heap:=j4 }) o4 fun j5 o5 s5=>?_);replace o5:IsPair j5 TO x y:=o5;refine Z9 (Wr<|Z6<|Z6<|Z9<|Y9 (s:={ s with heap:=j5 }) o5 rfl<|Z9<|wpAny_newTuple ?_);have hsz:j5.objs.size=s.heap.objs.size:=by rw[s5.1,s4.1,s3.1,s2.1,s1.1]
 have z5:IsZip j5 z TI TO .ellipsis:=s5.extBut _ _ D.TOz.symm (s4.extBut _ _ D.i2z.symm<|s3.extBut _ _ D.TOz.symm<|s2.extBut _ _ D.i1z.symm z1);have k5:∀ c o,c≠z->c≠TO->c≠i1->c≠i2->s.heap.get? c=some o->j5.get? c=some o:=fun c o c1 c2 c3 c4 e=>s5.extBut _ _ c2 (s4.extBut _ _ c4<|s3.extBut _ _ c2<|s2.extBut _ _ c3<|s1.extBut _ _ c1 e);have b1:j5.IsTupleIter i1 l1 (k1+1):=de a2 fun o e=>s5.extBut _ o D.TOi1.symm (s4.extBut _ o D.i12<|s3.extBut _ o D.TOi1.symm e);have b2:j5.IsTupleIter i2 l2 (k2+1):=de a4 fun o e=>s5.extBut _ o D.TOi2.symm e;have Mr:z<j5.objs.size:=ZP z5;show wpAny _ _ (Builtin.SmallTypes.ownedTupleHandOut (.ref z) (.ref j5.objs.size) >>= _) _ _ _;apply Z9;unfold Builtin.SmallTypes.ownedTupleHandOut;have z6:IsZip (j5.push { cls:=.type "tuple",data:=.seq #[x,y] }) z TI TO .ellipsis:=Z7 _ z5;refine Z9 (Y5 z6 (by simp) fun j7 z7 s7=>?_);replace z7:IsZip j7 z TI TO (rawInt j5.objs.size):=z7;refine Y5 z7 (by simp) fun j8 z8 s8=>?_;replace z8:IsZip j8 z TI TO (rawInt j5.objs.size):=z8;have up:∀ c o,c≠z->j5.get? c=some o->j8.get? c=some o:=fun c o c1 e=>s8.extBut _ _ c1 (s7.extBut _ _ c1<|Z7 _ e);have t8:IsPair j8 j5.objs.size x y:=s8.extBut _ _ (X6 Mr) (s7.extBut _ _ (X6 Mr)<|ZS _ rfl);rw[hsz] at z8 t8;refine Z6 ⟨_,rfl,?_⟩;show Q (.ref j5.objs.size) _;rw[hsz];exact hQ j8 z8 (up _ _ D.TOz o5) (de b1 fun o e=>up _ o D.i1z e) (de b2 fun o e=>up _ o D.i2z e) t8 fun c o c1 c2 c3 c4 e=>up c o c1 (k5 c o c1 c2 c3 c4 e)
theorem yS{z TI TO i1 i2 l1 l2:Addr}{Q:PySem.Fin->Shared->Prop}(hh:A.handled=none)(D:ZipApart z TI TO i1 i2 l1 l2)(hz:IsZip s.heap z TI TO .none)(K6:IsPair s.heap TI (.ref i1) (.ref i2))(K7:IsPair s.heap TO a b)(h1:s.heap.IsTupleIter i1 l1 k1)(h2:s.heap.IsTupleIter i2 l2 k2)(ID:s.heap.IsTuple l1 xs)(Jt:s.heap.IsTuple l2 ys)(FW:xs[k1]?=none\/ys[k2]?=none)(hE:∀ h' e,(∀ c o,c≠z->c≠TO->c≠i1->c≠i2->s.heap.get? c=some o->h'.get? c=some o)->(∃ o,h'.get? e=some o/\o.cls=.type "StopIteration")->E (.ref e) { s with heap:=h' }):
  wpAny (model prog w) A (Builtin.«zip.__next__» ⟨[.ref z],[]⟩) Q E s:=by
 show wpAny _ _ (field (.ref z) 2 >>= _) _ _ _;refine Z9 (Za hz rfl (x:=.bool false) rfl ?_);show wpAny _ _ (field (.ref z) 3 >>= _) _ _ _;refine Z9 (Za hz rfl (x:=.ref TI) rfl<|Z9<|Y9 K6 rfl ?_);show wpAny _ _ (Builtin.SmallTypes.ownedTupleIsFree (.ref z) >>= _) _ _ _;apply Z9;unfold Builtin.SmallTypes.ownedTupleIsFree;refine Z9 (Za hz rfl (x:=.none) rfl<|Z6 ?_);simp only[Xr];refine Z9 (Yl (Z9 (Za hz rfl (x:=.ref TO) rfl (Z9 (Y5 hz (by simp) fun j1 z1 s1=>?_)))));replace z1:IsZip j1 z TI TO .ellipsis:=z1;apply Z9;simp only[Xg,Wm,Xx,V7];refine Z9 (Z9<|XS ?_);show wpAny _ _ (Builtin.SmallTypes.nextOf (.ref i1) >>= _) _ _ _;cases hx:xs[k1]? with
 | none=>
  refine Z9 (mE (s:={ s with heap:=j1 }) hh (de h1 fun o e=>s1.extBut _ o D.i1z e) (g9 ID fun o e=>s1.extBut _ o D.l1z e) hx fun j2 e s2 ⟨oe,e1,e2⟩=>?_);have z2:IsZip j2 z TI TO .ellipsis:=s2 _ _ D.i1z.symm z1;have ez:e≠z:=fun q=>by subst q;rw[z2] at e1;cases e1;simp at e2
  refine Y5 z2 (by simp) fun j3 _ s3=>hE j3 e (fun c o c1 _ c3 _ q=>s3.extBut _ _ c1<|s2 _ _ c3<|s1.extBut _ _ c1 q) ⟨oe,s3.extBut _ _ ez e1,e2⟩
 | some x=>
  have hy:ys[k2]?=none:=by
   rcases FW with h | h
   ·rw[hx] at h;cases h
   ·exact h
  refine Z9 (kw (s:={ s with heap:=j1 }) (de h1 fun o e=>s1.extBut _ o D.i1z e) (g9 ID fun o e=>s1.extBut _ o D.l1z e) hx fun j2 a2 s2=>Z6 ?_);have o2:IsPair j2 TO a b:=s2.extBut _ _ D.TOi1 (s1.extBut _ _ D.TOz K7);refine Z9 (Y9 (s:={ s with heap:=j2 }) o2 rfl<|Z9<|Yc (s:={ s with heap:=j2 }) o2 fun j3 o3 s3=>?_);refine Z9 (Wr<|Z6<|Z9<|Z9<|XS ?_);show wpAny _ _ (Builtin.SmallTypes.nextOf (.ref i2) >>= _) _ _ _;refine Z9 (mE (s:={ s with heap:=j3 }) hh (de h2 fun o e=>s3.extBut _ o D.TOi2.symm<|s2.extBut _ o D.i12.symm<|s1.extBut _ o D.i2z e) (g9 Jt fun o e=>s3.extBut _ o D.l2TO<|s2.extBut _ o D.l2i1<|s1.extBut _ o D.l2z e) hy fun j4 e s4 ⟨oe,e1,e2⟩=>?_);have z4:IsZip j4 z TI TO .ellipsis:=s4 _ _ D.i2z.symm (s3.extBut _ _ D.TOz.symm<|s2.extBut _ _ D.i1z.symm z1);have ez:e≠z:=fun q=>by subst q;rw[z4] at e1;cases e1;simp at e2
  refine Y5 z4 (by simp) fun j5 _ s5=>hE j5 e (fun c o c1 c2 c3 c4 q=>s5.extBut _ _ c1<|s4 _ _ c4<|s3.extBut _ _ c2<|s2.extBut _ _ c3<|s1.extBut _ _ c1 q) ⟨oe,s5.extBut _ _ ez e1,e2⟩
end
variable{s:Shared}{r':R2}{caps fx fix:List Nat}{own ps:List Str}{iter tg c e b a:Expr}{body:List Stmt}{E:Ends}{st:Stmt}{j n ek:Nat}{σ1 σ:St}{fd:FuncData}{vs xs:List V}{ds:List Im}{C B A R F2 F1 G F:List Addr}{Q:VK}{x:Str}{r es:List Expr}{t':TT}{X:Cx}{H2 H1 H' H:Hp}{v:V}{p pos:Pos}{K:PySem.W.Frag}
def IY(h:Heap)(l1 l2:Addr):Heap:=((((h.push { cls:=.type "tuple_iterator",data:=.fields #[.ref l1,.int 0 0] }).push { cls:=.type "tuple_iterator",data:=.fields #[.ref l2,.int 0 0] }).push
 { cls:=.type "tuple",data:=.seq #[.ref h.objs.size,.ref (h.push { cls:=.type "tuple_iterator",data:=.fields #[.ref l1,.int 0 0] }).objs.size] }).push { cls:=.type "tuple",data:=.seq #[.none,.none] })
theorem yT(l1 l2 : Addr)(xs ys : Array Value):
    Meets (Builtin.«zip.__new__» ⟨[.type "zip", .ref l1, .ref l2], []⟩) (fun _ R s => s.heap.IsTuple l1 xs /\ s.heap.IsTuple l2 ys /\
      R (.ok<|.ret<|.ref (IY s.heap l1 l2).objs.size) { s with heap := (IY s.heap l1 l2).push { cls := .type "zip", data := .fields #[.none, .bool false, .bool false, .ref ((s.heap.push { cls := .type "tuple_iterator", data := .fields #[.ref l1, .int 0 0] }).push { cls := .type "tuple_iterator", data := .fields #[.ref l2, .int 0 0] }).objs.size,
        .ref (((s.heap.push { cls := .type "tuple_iterator", data := .fields #[.ref l1, .int 0 0] }).push { cls := .type "tuple_iterator", data := .fields #[.ref l2, .int 0 0] }).push
  { cls := .type "tuple", data := .seq #[.ref s.heap.objs.size, .ref (s.heap.push { cls := .type "tuple_iterator", data := .fields #[.ref l1, .int 0 0] }).objs.size] }).objs.size] } }) :=
  .of_wp fun prog w A R s h => by
    obtain ⟨hp, g, d, tk, os⟩ := s;obtain ⟨q1, q2, h⟩ := h;have K8 := sub_zip;have m1 : Heap.IsTuple (Shared.heap ⟨hp, g, d, tk, os⟩) l1 xs := q1;have m2 : Heap.IsTuple (Shared.heap ⟨hp.push { cls := .type "tuple_iterator", data := .fields #[.ref l1, .int 0 0] }, g, d, tk, os⟩) l2 ys := g9 q2 fun o e => Z7 _ e
    wp_walk using wpAny_pyIter_tuple m1, wpAny_pyIter_tuple m2
    exact ⟨_, rfl, h⟩
def NI(K:PySem.W.Frag)(a b:Addr):It:=
 ⟨fun i H=>∃ xs ys x y,E1 K H a xs/\E1 K H b ys/\xs[i]?=some x/\ys[i]?=some y,
  fun i H v H'=>∃ T x y,H T=none/\v=.ref T/\H'=upd H T (.tup [x,y])/\(∀ xs,E1 K H a xs->xs[i]?=some x)/\(∀ ys,E1 K H b ys->ys[i]?=some y),
  fun i H=>∃ xs ys,E1 K H a xs/\E1 K H b ys/\(xs.length<=i\/ys.length<=i)⟩
def qt(a b z TI TO i1 i2:Addr)(i:Nat)(h:Heap):Prop:=IsZip h z TI TO .none/\IsPair h TI (.ref i1) (.ref i2)/\(∃ p q,IsPair h TO p q)/\h.IsTupleIter i1 a i/\h.IsTupleIter i2 b i
theorem yU{P:Program}{w:World}(a b z TI TO i1 i2:Addr)(D:ZipApart z TI TO i1 i2 a b):
  Turn P w K (.Tuple es ek pos) (NI K a b) [z,TI,TO,i1,i2] z (qt a b z TI TO i1 i2) where
 mem:=by simp
 obj:=fun i h st c hc=>by
  obtain⟨h1,h2,⟨p,q,h3⟩,⟨o4,e4,_,d4⟩,⟨o5,e5,_,d5⟩⟩:=st;simp only[ZG,YC,Xl] at hc;rcases hc with rfl | rfl | rfl | rfl | rfl
  ·exact⟨_,h1,fun v e=>by cases e⟩
  ·exact⟨_,h2,fun v e=>by cases e⟩
  ·exact⟨_,h3,fun v e=>by cases e⟩
  ·exact⟨_,e4,fun v e=>by rw[d4] at e;cases e⟩
  ·exact⟨_,e5,fun v e=>by rw[d5] at e;cases e⟩
 keep:=fun i h h' st k=>by
  obtain⟨h1,h2,⟨p,q,h3⟩,h4,h5⟩:=st;exact⟨k z (by simp) _ h1,k TI (by simp) _ h2,⟨p,q,k TO (by simp) _ h3⟩,de h4 fun o e=>k i1 (by simp) o e,de h5 fun o e=>k i2 (by simp) o e⟩
 item:=by
  intro X hP hw hK hc i pins s σ H E I hf st hg;subst hP hw hK;obtain⟨xs,ys,x,y,q1,q2,x1,y1⟩:=hg;obtain⟨f_,rv,p,hz⟩:=I.tuple q1;obtain⟨FG,JU,p2,JP⟩:=I.tuple q2;obtain⟨u,hu,ru⟩:=rv.get x1;obtain⟨u2,OP,OQ⟩:=JU.get y1;have there:=st;obtain⟨h1,h2,⟨pa,pb,h3⟩,h4,h5⟩:=st;have hT:s.TypeIs (.ref z) "zip" := ⟨_,h1,rfl⟩;unfold pyNext;refine Z9 (XT (Zb (name:=Str.ofString "__next__") hT X9 (Zj X9 hT WD
   (yR (Q:=fun v s'=>wpAny (model X.prog X.w) X.A (pure<|some v) (fun r s1=>∃ u,r=some u/\wpAny (model X.prog X.w) X.A (letOwnedTupleGo (.Tuple es ek pos) (.ref z) u) (fun _ s2=>∃ x H',Inv X pins σ H' s2/\ay x u/\(NI X.K a b).Lu i H x H'/\qt a b z TI TO i1 i2 (i+1) s2.heap/\∀ b∈[z,TI,TO,i1,i2],H' b=none) E s1) E s')
    D h1 h2 h3 h4 h5 (show s.heap.IsTuple a f_.toArray from p) (show s.heap.IsTuple b FG.toArray from p2) (x:=u) (y:=u2) (by simpa using hu) (by simpa using OP) fun h' g1 g2 g3 g4 g5 kk=>Z6 ⟨_,rfl,?_⟩) (WQ _))));refine wpAny_letOwnedTupleGo_zip g1 fun Kn OR sb=>?_;have lt:∀ c∈[z,TI,TO,i1,i2],c<s.heap.objs.size:=fun c hc=>by
   obtain⟨h1,h2,⟨p,q,h3⟩,⟨o4,e4,_⟩,⟨o5,e5,_⟩⟩:=there;simp only[ZG,YC,Xl] at hc;rcases hc with rfl | rfl | rfl | rfl | rfl
   ·exact ZP h1
   ·exact ZP h2
   ·exact ZP h3
   ·exact ZP e4
   ·exact ZP e5
  have kp:∀ c o,c∉[z,TI,TO,i1,i2]->s.heap.get? c=some o->Kn.get? c=some o:=fun c o hc e=>by
   simp only[ZG,YC,Xl,not_or] at hc;exact sb.extBut _ _ hc.1 (kk c o hc.1 hc.2.2.1 hc.2.2.2.1 hc.2.2.2.2 e)
  have zT:s.heap.objs.size≠z:=X6 (lt z (by simp));have fT:H s.heap.objs.size=none:=I.n_.fresh (ZV _);refine⟨.ref s.heap.objs.size,upd H s.heap.objs.size<|.tup [x,y],I.Kl (t':=s.toks) hf kp (ZV _) ⟨by show 2<=sizeLine;decide,[u,u2],.cons ru<|.cons OQ .nil,?_⟩,rfl,⟨_,x,y,fT,rfl,rfl,fun zs hz=>?_,fun zs hz=>?_⟩,?_,fun c hc=>?_⟩
  ·exact⟨_,sb.extBut _ _ zT g5,rfl,0,rfl⟩
  ·rw[I.FC hz q1];exact x1
  ·rw[I.FC hz q2];exact y1
  ·exact⟨OR,sb.extBut _ _ D.TIz<|kk _ _ D.TIz D.TITO D.TIi1 D.TIi2 h2,⟨_,_,sb.extBut _ _ D.TOz g2⟩,de g3 fun o e=>sb.extBut _ o D.i1z e,de g4 fun o e=>sb.extBut _ o D.i2z e⟩
  ·rw[aD (Zx<|lt c hc)];exact (hf c hc).1
 done:=by
  intro X hP hw hK hc i pins s σ H E I hf st hg;subst hP hw hK;obtain⟨xs,ys,q1,q2,FW⟩:=hg;obtain⟨f_,rv,p,hz⟩:=I.tuple q1;obtain⟨FG,JU,p2,JP⟩:=I.tuple q2;obtain⟨h1,h2,⟨pa,pb,h3⟩,h4,h5⟩:=st;have hT:s.TypeIs (.ref z) "zip" := ⟨_,h1,rfl⟩;have l1:=rv.length;have l2:=JU.length;unfold pyNext;refine Z9 (XT (Zb (name:=Str.ofString "__next__") hT X9 (Zj X9 hT WD
   (yS (I.ok.hd hc) D h1 h2 h3 h4 h5 (show s.heap.IsTuple a f_.toArray from p) (show s.heap.IsTuple b FG.toArray from p2) (by
    rcases FW with h | h
    ·exact .inl (by simp;lia)
    ·exact .inr (by simp;lia)) fun h' e kk ⟨o,ho,Ko⟩=>?_) (WQ _))))
  refine Z9 (XJ (T := "StopIteration") (b:=true) ⟨o,ho,Ko⟩ Wc<|Z6 ⟨rfl,I.Km (t':=s.toks) hf fun c o hc e=>?_⟩);simp only[ZG,YC,Xl,not_or] at hc;exact kk c o hc.1 hc.2.2.1 hc.2.2.2.1 hc.2.2.2.2 e
 self:=fun _ _ _ _ _ st h=>WC st.1 h
section
variable{X:Cx}
def yV(K:PySem.W.Frag)(ta:TA):TI:=fun σ H R=>ta σ H fun vs H1=>∃ a b,vs=[.ref a,.ref b]/\(∃ xs,E1 K H1 a xs)/\(∃ ys,E1 K H1 b ys)/\R (NI K a b) H1
theorem yW{ta:TA}{ps:Pos}(hg:Gl X "zip")(hm:X.mg "zip" = none)(ha:PA X [a,b] ta)(hs:starEach [a,b] X.env=[(false,eval a X.env),(false,eval b X.env)]:=by rfl)(GV:starEach [b] X.env=[(false,eval b X.env)]:=by rfl):
  PI X (.Tuple es ek ps) (.Call (.Name "zip" p) [a,b] [] pos) (yV X.K ta):=by
 intro pins s σ H R I h;refine Call_ (eE I hg hm boot_zip (YL (y_ (ha pos pins s σ H _ I h) fun us s1 ⟨vs,H1,I1,r1,q1⟩=>?_) (by rw[hs,GV]) (by rw[GV];rfl)));obtain⟨l1,l2,e,⟨xs,hx⟩,⟨ys,hy⟩,q⟩:=q1;subst e;cases r1 with
 | cons r rr=>
  cases rr with
  | cons r' rr=>
   cases rr;cases r;cases r';obtain⟨f_,rv,p,hz⟩:=I1.tuple hx;obtain⟨FG,JU,p2,JP⟩:=I1.tuple hy;have Mo:l1<s1.heap.objs.size:=by obtain⟨o,e,_⟩:=p;exact ZP e
   have OS:l2<s1.heap.objs.size:=by obtain⟨o,e,_⟩:=p2;exact ZP e
   refine callType_new F.called_zip (by decide) (F.typeCall_zip_2 _ _) (F.newCall_zip_2 _ _) (fun obj=>F.args_object_init_3 obj _ _) F.entry_zip_new (yT l1 l2 f_.toArray FG.toArray) ⟨p,p2,?_⟩;have z1:(s1.heap.push { cls:=.type "tuple_iterator",data:=.fields #[.ref l1,.int 0 0] }).objs.size=s1.heap.objs.size+1:=YZ ..;have z2:((s1.heap.push { cls:=.type "tuple_iterator",data:=.fields #[.ref l1,.int 0 0] }).push { cls:=.type "tuple_iterator",data:=.fields #[.ref l2,.int 0 0] }).objs.size=s1.heap.objs.size+2:=by rw[YZ,z1]
   have z3:(((s1.heap.push { cls:=.type "tuple_iterator",data:=.fields #[.ref l1,.int 0 0] }).push { cls:=.type "tuple_iterator",data:=.fields #[.ref l2,.int 0 0] }).push
    { cls:=.type "tuple",data:=.seq #[.ref s1.heap.objs.size,.ref (s1.heap.push { cls:=.type "tuple_iterator",data:=.fields #[.ref l1,.int 0 0] }).objs.size] }).objs.size=s1.heap.objs.size+3:=by rw[YZ,z2]
   have z4:(IY s1.heap l1 l2).objs.size=s1.heap.objs.size+4:=by unfold IY;rw[YZ,z3]
   show _/\_;refine⟨⟨_,ZS _ rfl,rfl⟩,WC (TI:=s1.heap.objs.size+2) (TO:=s1.heap.objs.size+3) (f0:=.none) ?_ ?_⟩
   ·rw[z2,z3];exact ZS _ rfl
   ·rw[z2,z3,z4];have g5:((IY s1.heap l1 l2).push { cls:=.type "zip",data:=.fields #[.none,.bool false,.bool false,.ref<|s1.heap.objs.size+2,.ref<|s1.heap.objs.size+3] }).get? (s1.heap.objs.size+4)=some { cls:=.type "zip",data:=.fields #[.none,.bool false,.bool false,.ref<|s1.heap.objs.size+2,.ref<|s1.heap.objs.size+3] }:=by rw[<- z4];exact ZS _ rfl
    have g4:((IY s1.heap l1 l2).push { cls:=.type "zip",data:=.fields #[.none,.bool false,.bool false,.ref<|s1.heap.objs.size+2,.ref<|s1.heap.objs.size+3] }).get? (s1.heap.objs.size+3)=some { cls:=.type "tuple",data:=.seq #[.none,.none] }:=by
     rw[<- z3];exact Z7 _ (ZS _ rfl)
    have g3:((IY s1.heap l1 l2).push { cls:=.type "zip",data:=.fields #[.none,.bool false,.bool false,.ref<|s1.heap.objs.size+2,.ref<|s1.heap.objs.size+3] }).get? (s1.heap.objs.size+2)=some { cls:=.type "tuple",data:=.seq #[.ref s1.heap.objs.size,.ref<|s1.heap.objs.size+1] }:=by
     rw[<- z2,<- z1];exact Z7 _ (Z7 _<|ZS _ rfl)
    have g2:((IY s1.heap l1 l2).push { cls:=.type "zip",data:=.fields #[.none,.bool false,.bool false,.ref<|s1.heap.objs.size+2,.ref<|s1.heap.objs.size+3] }).get? (s1.heap.objs.size+1)=some { cls:=.type "tuple_iterator",data:=.fields #[.ref l2,.int 0 0] }:=by
     rw[<- z1];exact Z7 _ (Z7 _<|Z7 _<|ZS _ rfl)
    have g1:((IY s1.heap l1 l2).push { cls:=.type "zip",data:=.fields #[.none,.bool false,.bool false,.ref<|s1.heap.objs.size+2,.ref<|s1.heap.objs.size+3] }).get? s1.heap.objs.size=some { cls:=.type "tuple_iterator",data:=.fields #[.ref l1,.int 0 0] }:=
     Z7 _ (Z7 _<|Z7 _<|Z7 _<|ZS _ rfl);have kp:∀ c o,s1.heap.get? c=some o->((IY s1.heap l1 l2).push { cls:=.type "zip",data:=.fields #[.none,.bool false,.bool false,.ref<|s1.heap.objs.size+2,.ref<|s1.heap.objs.size+3] }).get? c=some o:=fun c o e=>
     Z7 _ (Z7 _<|Z7 _<|Z7 _<|Z7 _ e);generalize ((IY s1.heap l1 l2).push { cls:=.type "zip",data:=.fields #[.none,.bool false,.bool false,.ref<|s1.heap.objs.size+2,.ref<|s1.heap.objs.size+3] })=h5 at g1 g2 g3 g4 g5 kp ⊢;have D:ZipApart (s1.heap.objs.size+4) (s1.heap.objs.size+2) (s1.heap.objs.size+3) s1.heap.objs.size (s1.heap.objs.size+1) l1 l2:=PySem.W.ktu_apart _ _ _ Mo OS;refine⟨_,_,_,_,H1,rfl,I1.kept (t':=s1.toks) kp,yU l1 l2 _ _ _ _ _ D,⟨g5,g3,⟨_,_,g4⟩,⟨_,g1,rfl,rfl⟩,⟨_,g2,rfl,rfl⟩⟩,fun c hc=>?_,q⟩;have:s1.heap.objs.size<=c:=by
     simp only[ZG,YC,Xl] at hc;rcases hc with rfl | rfl | rfl | rfl | rfl
     ·exact YN _ _
     ·exact YN _ _
     ·exact YN _ _
     ·exact ZV _
     ·exact YN _ _
    exact I1.IM this (I1.n_.fresh this)
end
def qu(K:PySem.W.Frag)(H:Hp)(x:V)(T:String)(b:Bool):Prop:=
 (∃ i,x=.int i/\((T = "int" /\ b=true)\/(T = "tuple" /\ b=false)\/(T = "str" /\ b=false)\/(T = "bool" /\ b=false)\/(T = "list" /\ b=false)))\/
 (∃ i,x=.bl i/\((T = "bool" /\ b=true)\/(T = "int" /\ b=true)\/(T = "tuple" /\ b=false)\/(T = "str" /\ b=false)\/(T = "list" /\ b=false)))\/
 (∃ i,x=.str i/\((T = "str" /\ b=true)\/(T = "int" /\ b=false)\/(T = "tuple" /\ b=false)\/(T = "bool" /\ b=false)\/(T = "list" /\ b=false)))\/
 (∃ a xs,x=.ref a/\E1 K H a xs/\((T = "tuple" /\ b=true)\/(T = "int" /\ b=false)\/(T = "str" /\ b=false)\/(T = "bool" /\ b=false)\/(T = "list" /\ b=false)))\/
 (∃ a xs,x=.ref a/\Fd K H a xs/\((T = "list" /\ b=true)\/(T = "int" /\ b=false)\/(T = "str" /\ b=false)\/(T = "bool" /\ b=false)\/(T = "tuple" /\ b=false)))
section
variable{X:Cx}
theorem yX:bt X (.builtin "isinstance") (fun xs H Q=>∃ x T b,xs=[x,.ty T]/\qu X.K H x T b/\Q (.bl b) H):=by
 intro pins s σ H xs us Q I r h;obtain⟨x,T,b,rfl,hi,q⟩:=h;cases r with
 | cons r rr=>
  cases rr with
  | cons r' rr=>
   cases rr;cases r';have f0:∀ {b:Bool},Q (.bl b) H->EP X pins σ Q (.bool b) s:=fun {b} q=>⟨.bl b,H,I,rfl,q⟩;have f1:∀ {b:Bool},Q (.bl b) H->EP X pins σ Q (.bool b) { s with toks:=s.toks+1 }:=fun {b} q=>⟨.bl b,H,I.tok _,rfl,q⟩;rcases hi with ⟨i,rfl,hi⟩ | ⟨i,rfl,hi⟩ | ⟨i,rfl,hi⟩ | ⟨a,xs,rfl,hs,hi⟩ | ⟨a,xs,rfl,hs,hi⟩
   ·obtain⟨t,rfl⟩:=r;rcases hi with ⟨rfl,rfl⟩ | ⟨rfl,rfl⟩ | ⟨rfl,rfl⟩ | ⟨rfl,rfl⟩ | ⟨rfl,rfl⟩
    ·exact IsiPair.int_int (f0 q)
    ·exact IsiPair.int_tuple (f1 q)
    ·exact IsiPair.int_str (f1 q)
    ·exact IsiPair.int_bool (f1 q)
    ·exact IsiPair.int_list (f1 q)
   ·cases r;rcases hi with ⟨rfl,rfl⟩ | ⟨rfl,rfl⟩ | ⟨rfl,rfl⟩ | ⟨rfl,rfl⟩ | ⟨rfl,rfl⟩
    ·exact IsiPair.bool_bool (f0 q)
    ·exact IsiPair.bool_int (f0 q)
    ·exact IsiPair.bool_tuple (f1 q)
    ·exact IsiPair.bool_str (f1 q)
    ·exact IsiPair.bool_list (f1 q)
   ·obtain⟨t,rfl⟩:=r;rcases hi with ⟨rfl,rfl⟩ | ⟨rfl,rfl⟩ | ⟨rfl,rfl⟩ | ⟨rfl,rfl⟩ | ⟨rfl,rfl⟩
    ·exact IsiPair.str_str (f0 q)
    ·exact IsiPair.str_int (f1 q)
    ·exact IsiPair.str_tuple (f1 q)
    ·exact IsiPair.str_bool (f1 q)
    ·exact IsiPair.str_list (f1 q)
   ·cases r;obtain⟨f_,rv,⟨o,ho,hc,_⟩,hz⟩:=I.tuple hs;rcases hi with ⟨rfl,rfl⟩ | ⟨rfl,rfl⟩ | ⟨rfl,rfl⟩ | ⟨rfl,rfl⟩ | ⟨rfl,rfl⟩
    ·exact IsiPair.tuple_tuple ho hc (f0 q)
    ·exact IsiPair.tuple_int ho hc (f1 q)
    ·exact IsiPair.tuple_str ho hc (f1 q)
    ·exact IsiPair.tuple_bool ho hc (f1 q)
    ·exact IsiPair.tuple_list ho hc (f1 q)
   ·cases r;obtain⟨f_,rv,p,hz⟩:=I.list hs;obtain⟨o,ho,hc,_⟩:=p.isList;rcases hi with ⟨rfl,rfl⟩ | ⟨rfl,rfl⟩ | ⟨rfl,rfl⟩ | ⟨rfl,rfl⟩ | ⟨rfl,rfl⟩
    ·exact IsiPair.list_list ho hc (f0 q)
    ·exact IsiPair.list_int ho hc (f1 q)
    ·exact IsiPair.list_str ho hc (f1 q)
    ·exact IsiPair.list_bool ho hc (f1 q)
    ·exact IsiPair.list_tuple ho hc (f1 q)
theorem qv:∀ {bs:List Bool}{us:List Value},au (bs.map V.bl) us->∀ (i:Nat) (v:Value),us[i]?=some v->∃ b,bs[i]?=some b/\v=Value.bool b:=by
 intro bs us r i v h;have hl:=r.length;rw[Z3] at hl;have hi:i<bs.length:=by rw[hl];exact (Zv.mp h).1
 obtain⟨u,hu,ru⟩:=r.get (i:=i) (x:=V.bl bs[i]) (by simp[hi]);rw[h] at hu;cases hu;exact⟨bs[i],by simp[hi],ru⟩
theorem yY(hc:X.calm=true):bt X (.builtin "all") (fun xs H Q=>∃ l bs,xs=[.ref l]/\H l=some (.lst<|List.map V.bl bs)/\Q (.bl<|bs.all id) H):=by
 intro pins s σ H xs us Q I r h;obtain⟨l,bs,rfl,hl,q⟩:=h;obtain⟨u,rfl,ru⟩:=cK r;cases ru;obtain⟨z,f_,n,rv,e⟩:=I.n_ l _ hl;have Kp:s.heap.IsList l f_.toArray:=⟨_,e,rfl,n,rfl⟩;refine call_all_walk (wpAny_pyIter_list Kp ⟨s.heap.objs.size,[s.heap.objs.size,l],[s.heap.objs.size],f_.toArray.size,_,_,fun i=>(bs[i]?).getD true,rfl,Walks.list (A:=X.A.in1) (I.ok.hd hc) _ l (Zx<|ZP e) f_.toArray,
  ⟨⟨_,ZS _ rfl,rfl,rfl⟩,Kp.push _⟩,fun i v s' Q' E' hP hQ=>?_,fun h' tk hk=>?_⟩)
 ·obtain⟨b,eb,rfl⟩:=qv rv i v (by simpa using hP);simp only[eb,WB] at hQ;exact Yk hQ
 ·have el:f_.toArray.size=bs.length:=by
   have:=rv.length;rw[Z3] at this;rw[ZQ,this]
  rw[el,LSm.range_all];exact⟨.bl _,H,I.kept<|LSm.kept_iter hk,rfl,q⟩
theorem yZ:FD X (binaryOp .Mult) (rI IntMulOk fun i j=>.int<|i * j):=Nz fun _ _ _ _ _ _ _ hc q=>mul_int q hc
end
inductive Vl where
 | im (d:Im)
 | jk
 | fz (ds:List Im)
 | lst (ds:List Im)
 | dK (kvs:List (Key×Im))
 | dT (kvs:List (List Im×Im))
 | FV (xs:List Vl)
 | NJ (ks:List (List Im)) (xs:List Vl)
 | LE (xs:List Vl)
 | obj (C:Addr) (ns:List Str) (xs:List Vl)
variable{op:List Vl->Option Vl}{f:Vl->Vl->Option Vl}{o:Option Vl}{d:Vl}
abbrev SD:=List (Option Vl)
variable{D' D:SD}{h:List Vl->SD->Option SD}
abbrev GH{κ:Type}(H:Hp):List (κ×Im)->List (κ×V)->Prop:=Paired fun p q=>p.1=q.1/\E7 H p.2 q.2
theorem GH.mono{κ:Type}{l:List (κ×Im)}{m:List (κ×V)}(t:H9 H H')(h:GH H l m):GH H' l m:=Paired.JC h fun _ _ z=>⟨z.1,z.2.mono t⟩
structure w_(H H':Hp):Prop where
 tup:H9 H H'
 Fj:∀ a o u,H a=some (.Fj o u)->H' a=some (.Fj o u)
mutual
def Own(H:Hp):Vl->V->List Addr->Prop
 | .im d,v,F=>E7 H d v/\F=[]
 | .jk,_,F=>F=[]
 | .fz ds,v,F=>∃ a xs o,v=.ref a/\H a=some (.Fj o<|.lst xs)/\am H ds xs/\F=[]
 | .lst ds,v,F=>∃ a xs,v=.ref a/\H a=some (.lst xs)/\am H ds xs/\F=[a]
 | .dK kvs,v,F=>∃ a Fv,v=.ref a/\H a=some (.dK Fv)/\GH H kvs Fv/\F=[a]
 | .dT kvs,v,F=>∃ a Fv,v=.ref a/\H a=some (.dT Fv)/\GH H kvs Fv/\F=[a]
 | .FV ds,v,F=>∃ a xs G,v=.ref a/\H a=some (.lst xs)/\aV H ds xs G/\F=a::G
 | .NJ ks ds,v,F=>∃ a Fv G,v=.ref a/\H a=some (.dT Fv)/\Fv.map (·.1)=ks/\aV H ds (Fv.map (·.2)) G/\F=a::G
 | .LE ds,v,F=>∃ a xs,v=.ref a/\H a=some (.tup xs)/\aV H ds xs F
 | .obj C ns ds,v,F=>∃ a dx fs G,v=.ref a/\H a=some (.ins C dx fs)/\fs.map (·.1)=ns/\aV H ds (fs.map (·.2)) G/\F=a::G
def aV(H:Hp):List Vl->List V->List Addr->Prop
 | [],vs,F=>vs=[]/\F=[]
 | d::ds,vs,F=>∃ v r F1 F2,vs=v::r/\Own H d v F1/\aV H ds r F2/\F=F1++F2
end
mutual
theorem Own.mono{H H':Hp}(t:w_ H H'):∀ {d:Vl}{v:V}{F:List Addr},Own H d v F->(∀ a∈F,∀ o,H a=some o->H' a=some o)->Own H' d v F
 | .im d,v,F,h,_=>⟨h.1.mono t.tup,h.2⟩
 | .jk,v,F,h,_=>h
 | .fz ds,v,F,h,_=>by
  obtain⟨a,xs,o,rfl,h1,h2,rfl⟩:=h;exact⟨a,xs,o,rfl,t.Fj _ _ _ h1,h2.mono t.tup,rfl⟩
 | .lst ds,v,F,h,k=>by
  obtain⟨a,xs,rfl,h1,h2,rfl⟩:=h;exact⟨a,xs,rfl,k a (.head _) _ h1,h2.mono t.tup,rfl⟩
 | .dK kvs,v,F,h,k=>by
  obtain⟨a,xs,rfl,h1,h2,rfl⟩:=h;exact⟨a,xs,rfl,k a (.head _) _ h1,h2.mono t.tup,rfl⟩
 | .dT kvs,v,F,h,k=>by
  obtain⟨a,xs,rfl,h1,h2,rfl⟩:=h;exact⟨a,xs,rfl,k a (.head _) _ h1,h2.mono t.tup,rfl⟩
 | .FV ds,v,F,h,k=>by
  obtain⟨a,xs,G,rfl,h1,h2,rfl⟩:=h;exact⟨a,xs,G,rfl,k a (.head _) _ h1,aV.mono t h2 fun b hb=>k b<|.tail _ hb,rfl⟩
 | .NJ ks ds,v,F,h,k=>by
  obtain⟨a,xs,G,rfl,h1,hk,h2,rfl⟩:=h;exact⟨a,xs,G,rfl,k a (.head _) _ h1,hk,aV.mono t h2 fun b hb=>k b<|.tail _ hb,rfl⟩
 | .LE ds,v,F,h,k=>by
  obtain⟨a,xs,rfl,h1,h2⟩:=h;exact⟨a,xs,rfl,t.tup a xs h1,aV.mono t h2 k⟩
 | .obj C ns ds,v,F,h,k=>by
  obtain⟨a,dx,fs,G,rfl,h1,hk,h2,rfl⟩:=h;exact⟨a,dx,fs,G,rfl,k a (.head _) _ h1,hk,aV.mono t h2 fun b hb=>k b<|.tail _ hb,rfl⟩
theorem aV.mono{H H':Hp}(t:w_ H H'):∀ {ds:List Vl}{vs:List V}{F:List Addr},aV H ds vs F->(∀ a∈F,∀ o,H a=some o->H' a=some o)->aV H' ds vs F
 | [],vs,F,h,_=>h
 | d::ds,vs,F,h,k=>by
  obtain⟨v,r,F1,F2,rfl,h1,h2,rfl⟩:=h;exact⟨v,r,F1,F2,rfl,Own.mono t h1 fun a ha=>k a<|Zw _ ha,aV.mono t h2 fun a ha=>k a<|ZI _ ha,rfl⟩
end
def G_(H:Hp)(a:Addr):Prop:=∃ o,H a=some o/\(∀ xs,o≠.tup xs)/\∀ p u,o≠.Fj p u
mutual
theorem Own.chg{H:Hp}:∀ {d:Vl}{v:V}{F:List Addr},Own H d v F->∀ a∈F,G_ H a
 | .im d,v,F,h,a,ha=>by rw[h.2] at ha;cases ha
 | .jk,v,F,h,a,ha=>by rw[show F=[] from h] at ha;cases ha
 | .fz ds,v,F,h,b,hb=>by
  obtain⟨a,xs,o,rfl,h1,h2,rfl⟩:=h;cases hb
 | .lst ds,v,F,h,b,hb=>by
  obtain⟨a,xs,rfl,h1,h2,rfl⟩:=h;rw[ZZ.mp hb];exact⟨_,h1,(fun _ e=>by cases e),(fun _ _ e=>by cases e)⟩
 | .dK kvs,v,F,h,b,hb=>by
  obtain⟨a,xs,rfl,h1,h2,rfl⟩:=h;rw[ZZ.mp hb];exact⟨_,h1,(fun _ e=>by cases e),(fun _ _ e=>by cases e)⟩
 | .dT kvs,v,F,h,b,hb=>by
  obtain⟨a,xs,rfl,h1,h2,rfl⟩:=h;rw[ZZ.mp hb];exact⟨_,h1,(fun _ e=>by cases e),(fun _ _ e=>by cases e)⟩
 | .FV ds,v,F,h,b,hb=>by
  obtain⟨a,xs,G,rfl,h1,h2,rfl⟩:=h;rcases ZG.mp hb with rfl | hb
  ·exact⟨_,h1,(fun _ e=>by cases e),(fun _ _ e=>by cases e)⟩
  ·exact aV.chg h2 b hb
 | .NJ ks ds,v,F,h,b,hb=>by
  obtain⟨a,xs,G,rfl,h1,hk,h2,rfl⟩:=h;rcases ZG.mp hb with rfl | hb
  ·exact⟨_,h1,(fun _ e=>by cases e),(fun _ _ e=>by cases e)⟩
  ·exact aV.chg h2 b hb
 | .LE ds,v,F,h,b,hb=>by
  obtain⟨a,xs,rfl,h1,h2⟩:=h;exact aV.chg h2 b hb
 | .obj C ns ds,v,F,h,b,hb=>by
  obtain⟨a,dx,fs,G,rfl,h1,hk,h2,rfl⟩:=h;rcases ZG.mp hb with rfl | hb
  ·exact⟨_,h1,(fun _ e=>by cases e),(fun _ _ e=>by cases e)⟩
  ·exact aV.chg h2 b hb
theorem aV.chg{H:Hp}:∀ {ds:List Vl}{vs:List V}{F:List Addr},aV H ds vs F->∀ a∈F,G_ H a
 | [],vs,F,h,a,ha=>by rw[h.2] at ha;cases ha
 | d::ds,vs,F,h,a,ha=>by
  obtain⟨v,r,F1,F2,rfl,h1,h2,rfl⟩:=h;rcases ZA.mp ha with ha | ha
  ·exact Own.chg h1 a ha
  ·exact aV.chg h2 a ha
end
theorem aV.length{H:Hp}:∀ {ds:List Vl}{vs:List V}{F:List Addr},aV H ds vs F->ds.length=vs.length
 | [],vs,F,h=>by rw[h.1];rfl
 | d::ds,vs,F,h=>by
  obtain⟨v,r,F1,F2,rfl,h1,h2,rfl⟩:=h;rw[ZJ,ZJ,h2.length]
theorem am.length{H:Hp}:∀ {ds:List Im}{vs:List V},am H ds vs->ds.length=vs.length
 | [],vs,h=>by rw[show vs=[] from h];rfl
 | d::ds,vs,h=>by
  obtain⟨v,r,rfl,h1,h2⟩:=h;rw[ZJ,ZJ,h2.length]
def fE(H:Hp):Option Vl->Option V->List Addr->Prop
 | none,_,F=>F=[]
 | some d,x,F=>∃ v,x=some v/\Own H d v F
def ao(H:Hp):SD->St->List Addr->Prop
 | [],σ,F=>σ=[]/\F=[]
 | o::D,σ,F=>∃ x r F1 F2,σ=x::r/\fE H o x F1/\ao H D r F2/\F=F1++F2
structure o_(H:Hp)(F:List Addr)(H':Hp)(F':List Addr):Prop where
 keep:∀ a o,H a=some o->a∉F->H' a=some o
 sub:∀ a∈F',a∈F\/H a=none
 nd:F'.Nodup
 tup:w_ H H'
 grow:∀ a o,H a=some o->∃ o',H' a=some o'
theorem fE.mono(t:w_ H H'):∀ {o:Option Vl}{x:Option V}{F:List Addr},fE H o x F->(∀ a∈F,∀ o,H a=some o->H' a=some o)->fE H' o x F
 | none,_,_,h,_=>h
 | some d,x,F,h,k=>by
  obtain⟨v,rfl,h⟩:=h;exact⟨v,rfl,h.mono t k⟩
theorem ao.mono{H H':Hp}(t:w_ H H'):∀ {D:SD}{σ:St}{F:List Addr},ao H D σ F->(∀ a∈F,∀ o,H a=some o->H' a=some o)->ao H' D σ F
 | [],σ,F,h,_=>h
 | o::D,σ,F,h,k=>by
  obtain⟨x,r,F1,F2,rfl,h1,h2,rfl⟩:=h;exact⟨x,r,F1,F2,rfl,h1.mono t fun a ha=>k a<|Zw _ ha,ao.mono t h2 fun a ha=>k a<|ZI _ ha,rfl⟩
theorem fE.chg:∀ {o:Option Vl}{x:Option V}{F:List Addr},fE H o x F->∀ a∈F,G_ H a
 | none,_,F,h,a,ha=>by rw[show F=[] from h] at ha;cases ha
 | some d,x,F,h,a,ha=>by
  obtain⟨v,rfl,h⟩:=h;exact h.chg a ha
theorem ao.chg{H:Hp}:∀ {D:SD}{σ:St}{F:List Addr},ao H D σ F->∀ a∈F,G_ H a
 | [],σ,F,h,a,ha=>by rw[h.2] at ha;cases ha
 | o::D,σ,F,h,a,ha=>by
  obtain⟨x,r,F1,F2,rfl,h1,h2,rfl⟩:=h;rcases ZA.mp ha with ha | ha
  ·exact h1.chg a ha
  ·exact ao.chg h2 a ha
theorem ao.len{H:Hp}:∀ {D:SD}{σ:St}{F:List Addr},ao H D σ F->D.length=σ.length
 | [],σ,F,h=>by rw[h.1];rfl
 | o::D,σ,F,h=>by
  obtain⟨x,r,F1,F2,rfl,h1,h2,rfl⟩:=h;rw[ZJ,ZJ,ao.len h2]
def Vl.cp:Vl->Bool
 | .im _=>true
 | .fz _=>true
 | _=>false
theorem Own.cp(h:Own H d v F)(c:d.cp=true):F=[]:=by
 cases d with
 | im d=>exact h.2
 | fz ds=>obtain⟨a,xs,o,rfl,h1,h2,rfl⟩:=h;rfl
 | _=>cases c
theorem ao.out{H:Hp}:∀ {D:SD}{σ:St}{F:List Addr}{i:Nat}{d:Vl},ao H D σ F->D[i]?=some (some d)->∃ v F1 F2,σ[i]?=some (some v)/\Own H d v F1/\ao H (D.set i<|some .jk) σ F2/\(F2++F1).Perm F
 | [],σ,F,i,d,h,e=>by simp at e
 | o::D,σ,F,0,d,h,e=>by
  obtain⟨x,r,F1,F2,rfl,h1,h2,rfl⟩:=h;simp at e;subst e;obtain⟨v,rfl,h1⟩:=h1;exact⟨v,F1,F2,rfl,h1,⟨some v,r,[],F2,rfl,⟨v,rfl,rfl⟩,h2,rfl⟩,ZT⟩
 | o::D,σ,F,i+1,d,h,e=>by
  obtain⟨x,r,F1,F2,rfl,h1,h2,rfl⟩:=h;obtain⟨v,G1,G2,g1,g2,g3,g4⟩:=ao.out (i:=i) h2 (by simpa using e);refine⟨v,G1,F1++G2,by simpa using g1,g2,⟨x,r,F1,G2,rfl,h1,g3,rfl⟩,?_⟩;rw[Z4];exact ZL _ g4
theorem ao.put{H:Hp}:∀ {D:SD}{σ:St}{F:List Addr}{i:Nat}{d:Vl}{v:V}{G:List Addr},ao H D σ F->Own H d v G->i<D.length->∃ F1 F2,ao H (D.set i<|some d) (σ.set i<|some v) F1/\(F1++F2).Perm (F++G)
 | [],σ,F,i,d,v,G,h,w,l=>by simp at l
 | o::D,σ,F,0,d,v,G,h,w,l=>by
  obtain⟨x,r,F1,F2,rfl,h1,h2,rfl⟩:=h;refine⟨G++F2,F1,⟨some v,r,G,F2,rfl,⟨v,rfl,w⟩,h2,rfl⟩,?_⟩;refine ZT.trans ?_;rw[Z4];exact ZL _ ZT
 | o::D,σ,F,i+1,d,v,G,h,w,l=>by
  obtain⟨x,r,F1,F2,rfl,h1,h2,rfl⟩:=h;obtain⟨G1,G2,g1,g2⟩:=ao.put (i:=i) h2 w (by simpa using l);refine⟨F1++G1,G2,⟨x,_,F1,G1,rfl,h1,g1,rfl⟩,?_⟩;rw[Z4,Z4];exact ZL _ g2
theorem ao.cp{i:Nat}(h:ao H D σ F)(e:D[i]?=some (some d))(c:d.cp=true):∃ v,σ[i]?=some (some v)/\Own H d v []:=by
 obtain⟨v,F1,F2,g1,g2,_⟩:=h.out e;obtain rfl:=g2.cp c;exact⟨v,g1,g2⟩
theorem y3{i:Nat}(h:σ[i]?=some (some v)):σ.set i (some v)=σ:=by
 refine Yi fun j=>?_;by_cases e:i=j
 ·subst e;rw[h,XC (Zv.mp h).1]
 ·rw[Yq e]
theorem ao.back{i:Nat}(h:ao H D σ F)(w:Own H d v G)(hv:σ[i]?=some (some v)):∃ F1 F2,ao H (D.set i<|some d) σ F1/\(F1++F2).Perm (F++G):=by
 have l:i<D.length:=by rw[h.len];exact (Zv.mp hv).1
 obtain⟨F1,F2,h1,h2⟩:=h.put (i:=i) w l;rw[y3 hv] at h1;exact⟨F1,F2,h1,h2⟩
theorem w_.of(f:iV H H')(g:∀ a o u,H a=some (.Fj o u)->H' a=some (.Fj o u)):w_ H H':=⟨⟨f,g⟩,g⟩
theorem mF(H:Hp):w_ H H:=⟨⟨fun _ _ e=>e,fun _ _ _ e=>e⟩,fun _ _ _ e=>e⟩
theorem w_.trans(a:w_ H H1)(b:w_ H1 H2):w_ H H2:=⟨⟨fun x xs e=>b.tup.t x xs<|a.tup.t x xs e,fun x o u e=>b.Fj x o u<|a.Fj x o u e⟩,fun x o u e=>b.Fj x o u<|a.Fj x o u e⟩
theorem o_.refl{H:Hp}{F F':List Addr}(h:F'.Nodup)(s:∀ a∈F',a∈F):o_ H F H F':=⟨fun _ _ e _=>e,fun a ha=>.inl<|s a ha,h,mF H,fun _ o e=>⟨o,e⟩⟩
theorem o_.perm{F':List Addr}(h:F.Nodup)(p:F'.Perm F):o_ H F H F':=o_.refl ((p.nodup_iff).mpr h) fun a ha=>p.mem_iff.mp ha
theorem o_.trans(a:o_ H F H1 (F1++R))(b:o_ H1 F1 H2 F2)(cr:∀ x∈R,G_ H1 x):o_ H F H2 (F2++R):=by
 have nd:=ZH.mp a.nd;have al:∀ x∈F2,x∉R:=fun x hx hr=>by
  rcases b.sub x hx with h | h
  ·exact nd.2.2 x h x hr rfl
  ·obtain⟨o,e,_⟩:=cr x hr;rw[e] at h;cases h
 refine⟨fun x o e hx=>?_,fun x hx=>?_,ZH.mpr ⟨b.nd,nd.2.1,fun x hx y hy e=>al x hx<|e ▸ hy⟩,a.tup.trans b.tup,fun x o e=>let ⟨o',e'⟩:=a.grow x o e;b.grow x o' e'⟩
 ·refine b.keep x o (a.keep x o e hx) fun h1=>?_;rcases a.sub x (Zw _ h1) with h | h
  ·exact hx h
  ·rw[e] at h;cases h
 ·rcases ZA.mp hx with hx | hx
  ·rcases b.sub x hx with h | h
   ·exact a.sub x (Zw _ h)
   ·refine .inr ?_;cases e:H x with
    | none=>rfl
    | some o=>
     obtain⟨o',e'⟩:=a.grow x o e;rw[e'] at h;cases h
  ·exact a.sub x (ZI _ hx)
theorem aH.tupS(s:aH H H'):w_ H H':=⟨⟨fun a xs e=>s a _ e,fun a o u e=>s a _ e⟩,fun a o u e=>s a _ e⟩
theorem y4{a b:Addr}{o u:HO}(e:H b=some o)(h:H a=none):L2.upd H a u b=some o:=by rw[aD (cy e h)];exact e
theorem aH.upd(s:aH H H'){a:Addr}{o:HO}(h:H' a=none):aH H (L2.upd H' a o):=fun b u e=>y4 (s b u e) h
abbrev M(α:Type):=SD->Option (α×SD)
variable{ge:M Vl}{gc k:M Bool}
inductive Opd where
 | sl (i:Nat)
 | vl (d:Vl)
variable{gb ga:M Opd}{g:M (List Opd)}
def rsl(D:SD):Opd->Option Vl
 | .sl i=>(D[i]?).getD none
 | .vl d=>some d
def cS(H:Hp)(σ:St):Opd->V->List Addr->Prop
 | .sl i,v,R=>σ[i]?=some (some v)/\R=[]
 | .vl d,v,R=>Own H d v R
def tV(g:M Vl):TE:=fun σ H Q=>∃ D F r D',ao H D σ F/\F.Nodup/\g D=some (r,D')/\∀ v H' F' R,ao H' D' σ F'->Own H' r v R->o_ H F H' (F'++R)->Q v H'
def tO(g:M Opd):TE:=fun σ H Q=>∃ D F r D',ao H D σ F/\F.Nodup/\g D=some (r,D')/\∀ v H' F' R,ao H' D' σ F'->cS H' σ r v R->o_ H F H' (F'++R)->Q v H'
def IE(g:M Bool):TT:=fun σ H Q=>∃ D F b D',ao H D σ F/\F.Nodup/\g D=some (b,D')/\∀ H' F',ao H' D' σ F'->o_ H F H' F'->Q b H'
def VE(X:Cx)(e:Expr)(g:M Vl):Prop:=∀ ⦃p⦄,Oe X e (tV g) p
def VO(X:Cx)(e:Expr)(g:M Opd):Prop:=∀ ⦃p⦄,Oe X e (tO g) p
def VT(X:Cx)(e:Expr)(g:M Bool):Prop:=∀ ⦃p⦄,PV X e (IE g) p
theorem be{t t':TE}(h:PE X e t)(i:∀ σ H Q,t' σ H Q->t σ H Q):PE X e t':=fun pins s σ H Q I hw=>h pins s σ H Q I (i σ H Q hw)
theorem mG{t:TT}(h:PT X e t)(i:∀ σ H Q,t' σ H Q->t σ H Q):PT X e t':=fun pins s σ H Q I hw=>h pins s σ H Q I (i σ H Q hw)
theorem cS.mono{r:Opd}(h:cS H σ r v R)(t:w_ H H')(k:∀ a∈R,∀ o,H a=some o->H' a=some o):cS H' σ r v R:=by
 cases r with
 | sl i=>exact h
 | vl d=>exact Own.mono t h k
theorem cS.chg{r:Opd}(h:cS H σ r v R):∀ a∈R,G_ H a:=by
 cases r with
 | sl i=>intro a ha;rw[h.2] at ha;cases ha
 | vl d=>exact Own.chg h
def Gi(H:Hp)(d:Vl)(v:V):Prop:=∃ R,Own H d v R
theorem cS.read{r:Opd}(h:cS H σ r v R)(st:ao H D σ F)(e:rsl D r=some d):Gi H d v:=by
 cases r with
 | vl d'=>cases e;exact⟨R,h⟩
 | sl i=>
  have e':D[i]?=some (some d):=by
   have:(D[i]?).getD none=some d:=e;cases q:D[i]? with
   | none=>rw[q] at this;cases this
   | some o=>rw[q] at this;rw[show o=some d from this]
  obtain⟨v',F1,F2,g1,g2,_⟩:=st.out e';rw[h.1] at g1;cases g1;exact⟨F1,g2⟩
@[simp] def bB(i:Nat):M Vl:=fun D=>match D[i]? with
 | some (some d)=>if d.cp=true then some (d,D) else some (d,D.set i<|some .jk)
 | _=>none
def eC(d:Im):M Vl:=fun D=>some (.im d,D)
@[simp] def oSl(i:Nat):M Opd:=fun D=>match D[i]? with
 | some (some _)=>some (.sl i,D)
 | _=>none
@[simp] def oV(g:M Vl):M Opd:=fun D=>(g D).map fun p=>(.vl p.1,p.2)
section
variable{X:Cx}
variable{i:Nat}
theorem cE(h:PE X e (et i)):VE X e (bB i):=by
 refine be h fun σ H Q ⟨D,F,r,D',st,nd,hg,q⟩=>?_;unfold bB at hg;split at hg
 ·rename_i d hd;split at hg
  ·rename_i hc;cases hg;obtain⟨v,h1,h2⟩:=st.cp hd hc;exact⟨v,h1,q v H F [] st h2 (by rw[ZO];exact o_.perm nd (ZC _))⟩
  ·cases hg;obtain⟨v,F1,F2,h1,h2,h3,h4⟩:=st.out hd;exact⟨v,h1,q v H F2 F1 h3 h2<|o_.perm nd h4⟩
 ·cases hg
theorem y6(h:PE X e (et i)):VO X e (oSl i):=by
 refine be h fun σ H Q ⟨D,F,r,D',st,nd,hg,q⟩=>?_;unfold oSl at hg;split at hg
 ·rename_i d hd;cases hg;obtain⟨v,F1,F2,h1,h2,h3,h4⟩:=st.out hd;exact⟨v,h1,q v H F [] st ⟨h1,rfl⟩ (by rw[ZO];exact o_.perm nd (ZC _))⟩
 ·cases hg
theorem ab{g:M Vl}(h:VE X e g):VO X e (oV g):=by
 refine be h fun σ H Q ⟨D,F,r,D',st,nd,hg,q⟩=>?_;unfold oV at hg;obtain⟨⟨r',D1⟩,h1,h2⟩:=Z2.mp hg;cases h2;exact⟨D,F,r',_,st,nd,h1,q⟩
theorem hU{d:Im}(h:PE X e (tC v))(hd:∀ H,E7 H d v):VE X e (eC d):=by
 refine be h fun σ H Q ⟨D,F,r,D',st,nd,hg,q⟩=>?_;cases hg;exact q v H F [] st ⟨hd H,rfl⟩ (by rw[ZO];exact o_.perm nd (ZC _))
theorem b9{i:Int}{j pos}:VE X (.Constant (.int i) j pos) (eC<|.int i):=hU vC fun _=>rfl
theorem bG{b:Bool}{j pos}:VE X (.Constant (.bool b) j pos) (eC<|.bl b):=hU vD fun _=>rfl
theorem qw{j pos}:VE X (.Constant .none j pos) (eC .l_):=hU vE fun _=>rfl
theorem qx{j pos}:VE X (.Constant (.str x) j pos) (eC<|.str x):=hU vF fun _=>rfl
theorem two{D1 D2:SD}{x y:Opd}{K:V->V->Hp->Prop}(st:ao H D σ F)(nd:F.Nodup)(ha:ga D=some (x,D1))(hb:gb D1=some (y,D2))(k:∀ v u H' F' R1 R2,ao H' D2 σ F'->cS H' σ x v R1->cS H' σ y u R2->o_ H F H' ((F'++R2)++R1)->K v u H'):tO ga σ H fun v H1=>tO gb σ H1 fun u H2=>K v u H2:=by
 refine⟨D,F,x,D1,st,nd,ha,fun v H1 F1 R1 q_ o1 s1=>⟨D1,F1,y,D2,q_,(ZH.mp s1.nd).1,hb,fun u H2 F2 R2 p_ o2 s2=>?_⟩⟩;refine k v u H2 F2 R1 R2 p_ (o1.mono s2.tup fun a ha o e=>s2.keep a o e fun h=>?_) o2 (s1.trans s2 o1.chg);exact (ZH.mp s1.nd).2.2 a h a ha rfl
theorem o_.new{R':List Addr}(a:o_ H F H1 (F1++R))(s:aH H1 H2)(nd:R'.Nodup)(fr:∀ x∈R',H1 x=none)(c:∀ x∈F1,G_ H1 x):o_ H F H2 (F1++R'):=by
 refine⟨fun x o e hx=>s _ _<|a.keep x o e hx,fun x hx=>?_,ZH.mpr ⟨(ZH.mp a.nd).1,nd,fun x hx y hy e=>?_⟩,a.tup.trans s.tupS,fun x o e=>let ⟨o',e'⟩:=a.grow x o e;⟨o',s _ _ e'⟩⟩
 ·rcases ZA.mp hx with hx | hx
  ·exact a.sub x (Zw _ hx)
  ·refine .inr ?_;cases e:H x with
   | none=>rfl
   | some o=>
    obtain⟨o',e'⟩:=a.grow x o e;rw[fr x hx] at e';cases e'
 ·subst e;obtain⟨o,e,_⟩:=c x hx;rw[fr x hy] at e;cases e
def Gj(X:Cx)(f:Value->Value->Sem Value)(op:Vl->Vl->Option Vl):Prop:=
 FD X f fun x y H Q=>∃ d1 d2 d,Gi H d1 x/\Gi H d2 y/\op d1 d2=some d/\∀ v H' R,aH H H'->Own H' d v R->R.Nodup->(∀ a∈R,H a=none)->Q v H'
@[simp] def ae(op:Vl->Vl->Option Vl)(ga gb:M Opd):M Vl:=fun D=>(ga D).bind fun p=>(gb p.2).bind fun q=>(rsl q.2 p.1).bind fun d1=>(rsl q.2 q.1).bind fun d2=>(op d1 d2).map fun d=>(d,q.2)
theorem kz{op:Vl->Vl->Option Vl}(h:tV (ae op ga gb) σ H Q):
  tO ga σ H fun x H1=>tO gb σ H1 fun y H2=>∃ d1 d2 d,Gi H2 d1 x/\Gi H2 d2 y/\op d1 d2=some d/\∀ v H' R,aH H2 H'->Own H' d v R->R.Nodup->(∀ a∈R,H2 a=none)->Q v H':=by
 obtain⟨D,F,r,D',st,nd,hg,q⟩:=h;unfold ae at hg;obtain⟨⟨x,D1⟩,ha,hg⟩:=Z8.mp hg;obtain⟨⟨y,D2⟩,hb,hg⟩:=Z8.mp hg;obtain⟨d1,h1,hg⟩:=Z8.mp hg;obtain⟨d2,h2,hg⟩:=Z8.mp hg;obtain⟨d,h3,hg⟩:=Z2.mp hg;cases hg;refine two st nd ha hb fun v u H2 F2 R1 R2 p_ o1 o2 s2=>⟨d1,d2,_,o1.read p_ h1,o2.read p_ h2,h3,fun w H3 R s3 ow LF fr=>?_⟩;rw[Z4] at s2;exact q w H3 F2 R (p_.mono s3.tupS fun a _ o e=>s3 a o e) ow (s2.new s3 LF fr p_.chg)
theorem aq{op:Operator}(ho:Gj X (binaryOp op) f)(ha:VO X a ga)(hb:VO X b gb):VE X (.BinOp a op b pos) (ae f ga gb):=
 be (wI ho ha hb) fun _ _ _ h=>kz h
variable{op:CmpOp}
theorem cn(ho:Gj X (compareOp op) f)(ha:VO X a ga)(hb:VO X b gb)(hm:behindInMarks op b=false):VE X (.Compare a [op] [b] pos) (ae f ga gb):=
 be (wY ho ha hb hm) fun _ _ _ h=>kz h
theorem y7(ho:Ie X (fun x y H Q=>∃ d1 d2 d,Gi H d1 x/\Gi H d2 y/\f d1 d2=some d/\∀ v H' R,aH H H'->Own H' d v R->R.Nodup->(∀ a∈R,H a=none)->Q v H'))(ha:VO X a ga)(hb:VO X b gb)(hs:mf b):VE X (.Subscript a b pos) (ae f ga gb):=
 be (xN ho ha hb hs) fun _ _ _ h=>kz h
@[simp] def asB:Vl->Option Bool
 | .im (.bl b)=>some b
 | _=>none
@[simp] def kB(g:M Vl):M Bool:=fun D=>(g D).bind fun p=>(asB p.1).map fun b=>(b,p.2)
theorem kA{b:Bool}(h:asB d=some b):d=.im (.bl b):=by
 unfold asB at h;split at h
 ·cases h;rfl
 ·cases h
theorem bS(ho:Gj X (compareOp op) f)(ha:VO X a ga)(hb:VO X b gb)(hm:behindInMarks op b=false):VT X (.Compare a [op] [b] pos) (kB<|ae f ga gb):=by
 refine mG (w9 ho ha hb hm) fun σ H Q ⟨D,F,c,D',st,nd,hg,q⟩=>?_;refine kz ⟨D,F,.im<|.bl c,D',st,nd,?_,fun v H' F' R g_ ow s=>⟨c,ow.1,q H' F' g_ (by rw[ow.2,ZO] at s;exact s)⟩⟩;obtain⟨p,h1,h2⟩:=Z8.mp hg;obtain⟨c',h3,h4⟩:=Z2.mp h2;cases h4;rw[h1,<- kA h3]
@[simp] def ca(g:M Bool):M Bool:=fun D=>(g D).map fun p=>(!p.1,p.2)
variable{g:M Bool}
theorem eI(h:VT X a g):VT X (.UnaryOp .Not a pos) (ca g):=by
 refine mG (vM h) fun σ H Q ⟨D,F,c,D',st,nd,hg,q⟩=>?_;obtain⟨p,h1,h2⟩:=Z2.mp hg;cases h2;exact⟨D,F,p.1,_,st,nd,h1,q⟩
@[simp] def cq(g h:M Bool):M Bool:=fun D=>(g D).bind fun p=>if p.1=true then h p.2 else some (false,p.2)
@[simp] def kOr(g h:M Bool):M Bool:=fun D=>(g D).bind fun p=>if p.1=true then some (true,p.2) else h p.2
variable{Q:Bool->Hp->Prop}{h:M Bool}
theorem qy(w:IE (cq g h) σ H Q):pg (IE g) (IE h) σ H Q:=by
 obtain⟨D,F,c,D',st,nd,hg,q⟩:=w;obtain⟨⟨b,D1⟩,h1,h2⟩:=Z8.mp hg;refine⟨D,F,b,D1,st,nd,h1,fun H1 F1 q_ s1=>?_⟩;cases b with
 | true=>
  rw[ZY rfl];rw[ZY rfl] at h2;exact⟨D1,F1,c,D',q_,s1.nd,h2,fun H2 F2 p_ s2=>q H2 F2 p_ (by
   have:=o_.trans (R:=[]) (by rw[ZO];exact s1) s2 (fun x hx=>nomatch hx)
   rwa [ZO] at this)⟩
 | false=>
  rw[ZW ZM] at h2 ⊢;cases h2;exact q H1 F1 q_ s1
theorem qz(w:IE (kOr g h) σ H Q):P1 (IE g) (IE h) σ H Q:=by
 obtain⟨D,F,c,D',st,nd,hg,q⟩:=w;obtain⟨⟨b,D1⟩,h1,h2⟩:=Z8.mp hg;refine⟨D,F,b,D1,st,nd,h1,fun H1 F1 q_ s1=>?_⟩;cases b with
 | false=>
  rw[ZW ZM] at h2 ⊢;exact⟨D1,F1,c,D',q_,s1.nd,h2,fun H2 F2 p_ s2=>q H2 F2 p_ (by
   have:=o_.trans (R:=[]) (by rw[ZO];exact s1) s2 (fun x hx=>nomatch hx)
   rwa [ZO] at this)⟩
 | true=>
  rw[ZY rfl] at h2 ⊢;cases h2;exact q H1 F1 q_ s1
def VW(X:Cx)(e:Expr)(g:M Bool):Prop:=∀ ⦃p⦄,PX X e (IE g) p
theorem qA{t:TT}(h:PW X e t)(i:∀ σ H Q,t' σ H Q->t σ H Q):PW X e t':=fun wh pins s σ H Q I hw=>h wh pins s σ H Q I (i σ H Q hw)
theorem qB(h:VT X a g):VW X (.BoolOp .And [a] pos) g:=vI h
theorem fF(h:VT X a g):VW X (.BoolOp .Or [a] pos) g:=vJ h
theorem qC(h:VT X a g)(hb:VW X (.BoolOp .And (b::r) pos) k):VW X (.BoolOp .And (a::b::r) pos) (cq g k):=qA (vK h hb) fun _ _ _ w=>qy w
theorem eJ(h:VT X a g)(hb:VW X (.BoolOp .Or (b::r) pos) k):VW X (.BoolOp .Or (a::b::r) pos) (kOr g k):=qA (vL h hb) fun _ _ _ w=>qz w
theorem VW.vt(h:VW X e g):VT X e g:=PW.pt h
@[simp] def eB(g:M Bool):M Vl:=fun D=>(g D).map fun p=>(.im<|.bl p.1,p.2)
theorem jb(h:VE X e (eB g)):PE X e fun σ H Q=>IE g σ H fun b H'=>Q (.bl b) H':=by
 refine be h fun σ H Q ⟨D,F,c,D',st,nd,hg,q⟩=>⟨D,F,.im<|.bl c,D',st,nd,by unfold eB;rw[hg];rfl,fun v H' F' R g_ ow s=>?_⟩;rw[show v=.bl c from ow.1];exact q H' F' g_ (by rw[ow.2,ZO] at s;exact s)
theorem mH(h:PE X e fun σ H Q=>IE g σ H fun b H'=>Q (.bl b) H'):VE X e (eB g):=by
 refine be h fun σ H Q ⟨D,F,r,D',st,nd,hg,q⟩=>?_;obtain⟨p,h1,h2⟩:=Z2.mp hg;cases h2;exact⟨D,F,p.1,_,st,nd,h1,fun H' F' g_ s=>q _ H' F' [] g_ ⟨rfl,rfl⟩ (by rw[ZO];exact s)⟩
theorem cb{g:M Vl}(h:VE X e g):VE X e (eB<|kB g):=by
 refine be h fun σ H Q ⟨D,F,r,D',st,nd,hg,q⟩=>?_;obtain⟨p,h1,h2⟩:=Z2.mp hg;obtain⟨p',h3,h4⟩:=Z8.mp h1;obtain⟨c,h5,h6⟩:=Z2.mp h4;cases h6;cases h2;exact⟨D,F,p'.1,_,st,nd,h3,by rw[kA h5];exact q⟩
theorem y8(h:VE X a (eB g)):VE X (.UnaryOp .Not a pos) (eB<|ca g):=by
 refine mH (be (vT<|jb h) fun σ H Q ⟨D,F,c,D',st,nd,hg,q⟩=>?_);obtain⟨p,h1,h2⟩:=Z2.mp hg;cases h2;exact⟨D,F,p.1,_,st,nd,h1,fun H' F' g_ s=>⟨_,rfl,q H' F' g_ s⟩⟩
theorem gu{op}{g:M Vl}(h:VE X a g):VE X (.BoolOp op [a] pos) g:=vQ h
theorem fG(h:VE X a (eB g))(hb:VE X (.BoolOp .And (b::r) pos) (eB k)):VE X (.BoolOp .And (a::b::r) pos) (eB<|cq g k):=by
 refine mH (be (vR (jb h)<|jb hb) fun σ H Q w=>?_);have:=qy w;obtain⟨D,F,c,D',st,nd,hg,q⟩:=this;exact⟨D,F,c,D',st,nd,hg,fun H' F' g_ s=>⟨c,rfl,q H' F' g_ s⟩⟩
theorem qD(h:VE X a (eB g))(hb:VE X (.BoolOp .Or (b::r) pos) (eB k)):VE X (.BoolOp .Or (a::b::r) pos) (eB<|kOr g k):=by
 refine mH (be (vS (jb h)<|jb hb) fun σ H Q w=>?_);have:=qz w;obtain⟨D,F,c,D',st,nd,hg,q⟩:=this;exact⟨D,F,c,D',st,nd,hg,fun H' F' g_ s=>⟨c,rfl,q H' F' g_ s⟩⟩
theorem o_.seq(a:o_ H F H1 F1)(b:o_ H1 F1 H2 F2):o_ H F H2 F2:=by
 have:=o_.trans (R:=[]) (by rw[ZO];exact a) b (fun x hx=>nomatch hx)
 rwa [ZO] at this
end
def dY(H:Hp)(σ:St):List Opd->List V->List Addr->Prop
 | [],vs,R=>vs=[]/\R=[]
 | o::os,vs,R=>∃ v r R1 R2,vs=v::r/\cS H σ o v R1/\dY H σ os r R2/\R=R1++R2
def tA(g:M (List Opd)):TA:=fun σ H Q=>∃ D F r D',ao H D σ F/\F.Nodup/\g D=some (r,D')/\∀ vs H' F' R,ao H' D' σ F'->dY H' σ r vs R->o_ H F H' (F'++R)->Q vs H'
def VA(X:Cx)(es:List Expr)(g:M (List Opd)):Prop:=∀ ⦃p⦄,PY X es (tA g) p
theorem qE{t t':TA}(h:PA X es t)(i:∀ σ H Q,t' σ H Q->t σ H Q):PA X es t':=fun pos pins s σ H Q I hw=>h pos pins s σ H Q I (i σ H Q hw)
def aNil:M (List Opd):=fun D=>some ([],D)
@[simp] def aa(g:M Opd)(h:M (List Opd)):M (List Opd):=fun D=>(g D).bind fun p=>(h p.2).map fun q=>(p.1::q.1,q.2)
theorem o_.Fy(s:o_ H F H' A)(p:A.Perm B):o_ H F H' B:=⟨s.keep,fun a ha=>s.sub a<|p.mem_iff.mpr ha,(p.nodup_iff).mp s.nd,s.tup,s.grow⟩
theorem o_.less(s:o_ H F H' A)(p:(B++C).Perm A):o_ H F H' B:=
 ⟨s.keep,fun a ha=>s.sub a<|p.mem_iff.mp<|Zw _ ha,(ZH.mp<|(p.nodup_iff).mpr s.nd).1,s.tup,s.grow⟩
section
variable{X:Cx}
theorem fH:VA X [] aNil:=by
 refine qE pE fun σ H Q ⟨D,F,r,D',st,nd,hg,q⟩=>?_;cases hg;exact q [] H F [] st ⟨rfl,rfl⟩ (by rw[ZO];exact o_.perm nd (ZC _))
theorem aj{g:M Opd}{h:M (List Opd)}(he:VO X e g)(hr:VA X es h)(hs:starEach (e::es) X.env=(false,eval e X.env)::starEach es X.env:=by rfl):VA X (e::es) (aa g h):=by
 refine qE (ma he hr hs) fun σ H Q ⟨D,F,r,D',st,nd,hg,q⟩=>?_;obtain⟨⟨x,D1⟩,h1,h2⟩:=Z8.mp hg;obtain⟨⟨ys,D2⟩,h3,h4⟩:=Z2.mp h2;cases h4;refine⟨D,F,x,D1,st,nd,h1,fun v H1 F1 R1 q_ o1 s1=>⟨D1,F1,ys,_,q_,(ZH.mp s1.nd).1,h3,fun vs H2 F2 R2 p_ o2 s2=>?_⟩⟩;refine q (v::vs) H2 F2 (R1++R2) p_ ⟨v,vs,R1,R2,rfl,o1.mono s2.tup fun a ha o e=>s2.keep a o e fun h=>?_,o2,rfl⟩ ((s1.trans s2 o1.chg).Fy ?_)
 ·exact (ZH.mp s1.nd).2.2 a h a ha rfl
 ·rw[Z4];exact ZL _ ZT
end
def ce(D:SD):List Opd->Option (List Vl)
 | []=>some []
 | o::os=>(rsl D o).bind fun d=>(ce D os).map fun ds=>d::ds
def fI(H:Hp):List Vl->List V->Prop
 | [],vs=>vs=[]
 | d::ds,vs=>∃ v r,vs=v::r/\Gi H d v/\fI H ds r
theorem dY.read{H:Hp}{D:SD}{σ:St}{F:List Addr}(st:ao H D σ F):∀ {os:List Opd}{vs:List V}{R:List Addr}{ds:List Vl},dY H σ os vs R->ce D os=some ds->fI H ds vs
 | [],_,_,_,h,e=>by cases e;exact h.1
 | o::os,_,_,_,h,e=>by
  obtain⟨v,r,R1,R2,rfl,h1,h2,rfl⟩:=h;obtain⟨d,e1,e2⟩:=Z8.mp e;obtain⟨ds,e3,e4⟩:=Z2.mp e2;cases e4;exact⟨v,r,rfl,h1.read st e1,dY.read st h2 e3⟩
def bi:List Opd->SD->Option (List Vl×SD)
 | [],D=>some ([],D)
 | .vl d::os,D=>(bi os D).map fun p=>(d::p.1,p.2)
 | .sl i::os,D=>(bB i D).bind fun p=>(bi os p.2).map fun q=>(p.1::q.1,q.2)
theorem qF{i:Nat}(st:ao H D σ F)(h:bB i D=some (d,D')):∃ v F1 R,σ[i]?=some (some v)/\Own H d v R/\ao H D' σ F1/\(F1++R).Perm F:=by
 unfold bB at h;split at h
 ·rename_i e hd;split at h
  ·rename_i hc;cases h;obtain⟨v,h1,h2⟩:=st.cp hd hc;exact⟨v,F,[],h1,h2,st,by rw[ZO]⟩
  ·cases h;obtain⟨v,F1,F2,h1,h2,h3,h4⟩:=st.out hd;exact⟨v,F2,F1,h1,h2,h3,h4⟩
 ·cases h
theorem dZ:(A++(B++C)).Perm (B++(A++C)):=by
 rw[<- Z4,<- Z4];exact ZE _ ZT
theorem fJ{H:Hp}{σ:St}:∀ {os:List Opd}{vs:List V}{R F:List Addr}{D D':SD}{ds:List Vl},ao H D σ F->dY H σ os vs R->bi os D=some (ds,D')->∃ F1 R1,ao H D' σ F1/\aV H ds vs R1/\(F1++R1).Perm (F++R)
 | [],_,_,F,_,_,_,st,h,e=>by
  cases e;exact⟨F,[],st,⟨h.1,rfl⟩,by rw[h.2]⟩
 | .vl d::os,_,_,F,D,_,_,st,h,e=>by
  obtain⟨v,r,R1,R2,rfl,h1,h2,rfl⟩:=h;rw[bi] at e;obtain⟨p,e3,e4⟩:=Z2.mp e;cases e4;obtain⟨F1,R3,g1,g2,g3⟩:=fJ (D':=p.2) (ds:=p.1) st h2 e3;exact⟨F1,R1++R3,g1,⟨v,r,R1,R3,rfl,h1,g2,rfl⟩,dZ.trans<|(ZL _ g3).trans dZ⟩
 | .sl i::os,_,_,F,D,_,_,st,h,e=>by
  obtain⟨v,r,R1,R2,rfl,⟨h1,rfl⟩,h2,rfl⟩:=h;rw[bi] at e;obtain⟨⟨d,D1⟩,e1,e2⟩:=Z8.mp e;obtain⟨p,e3,e4⟩:=Z2.mp e2;cases e4;obtain⟨v',F1,R3,g1,g2,g3,g4⟩:=qF st e1;rw[h1] at g1;cases g1;obtain⟨F2,R4,k1,k2,k3⟩:=fJ (D':=p.2) (ds:=p.1) g3 h2 e3;refine⟨F2,R3++R4,k1,⟨v,r,R3,R4,rfl,g2,k2,rfl⟩,dZ.trans<|(ZL _ k3).trans ?_⟩;rw[<- Z4];exact ZE _ (ZT.trans g4)
@[simp] def wb:List Opd->List Vl->SD->SD
 | .sl i::os,d::ds,D=>wb os ds (match D[i]? with | some (some .jk)=>D.set i (some d) | _=>D)
 | .vl _::os,_::ds,D=>wb os ds D
 | _,_,D=>D
theorem kC{H H0:Hp}{σ:St}:∀ {os:List Opd}{ds:List Vl}{vs:List V}{R F S:List Addr}{D:SD},ao H D σ F->dY H0 σ os vs S->aV H ds vs R->∃ F1 R1,ao H (wb os ds D) σ F1/\(F1++R1).Perm (F++R)
 | [],ds,_,R,F,_,D,st,_,_=>⟨F,R,by unfold wb;exact st,ZC _⟩
 | .vl _::os,[],_,R,F,_,D,st,_,_=>⟨F,R,by unfold wb;exact st,ZC _⟩
 | .sl _::os,[],_,R,F,_,D,st,_,_=>⟨F,R,by unfold wb;exact st,ZC _⟩
 | .vl _::os,d::ds,_,R,F,_,D,st,h,w=>by
  obtain⟨v,r,S1,S2,rfl,h1,h2,rfl⟩:=h;obtain⟨v',r',R1,R2,e,w1,w2,rfl⟩:=w;cases e;obtain⟨F1,R3,g1,g2⟩:=kC (D:=D) st h2 w2;refine⟨F1,R1++R3,by rw[wb];exact g1,dZ.trans<|(ZL _ g2).trans dZ⟩
 | .sl i::os,d::ds,_,R,F,_,D,st,h,w=>by
  obtain⟨v,r,S1,S2,rfl,⟨h1,_⟩,h2,rfl⟩:=h;obtain⟨v',r',R1,R2,e,w1,w2,rfl⟩:=w;cases e;rw[wb];split
  ·obtain⟨F1,G,g1,g2⟩:=st.back w1 h1;obtain⟨F2,R3,k1,k2⟩:=kC g1 h2 w2;refine⟨F2,R3++G,k1,?_⟩;rw[<- Z4,<- Z4];refine (ZE _ k2).trans ?_;rw[Z4];refine (ZL _ ZT).trans ?_;rw[<- Z4];exact ZE _ g2
  ·obtain⟨F1,R3,g1,g2⟩:=kC st h2 w2;exact⟨F1,R1++R3,g1,dZ.trans<|(ZL _ g2).trans dZ⟩
def ims:List Vl->Option (List Im)
 | []=>some []
 | .im d::ds=>(ims ds).map fun r=>d::r
 | _::_=>none
@[simp] def mkT(ds:List Vl):Vl:=match ims ds with
 | some is=>.im (.tup is)
 | none=>.LE ds
@[simp] def mkL(ds:List Vl):Vl:=match ims ds with
 | some is=>.lst is
 | none=>.FV ds
theorem mI{H:Hp}:∀ {ds:List Vl}{vs:List V}{R:List Addr}{is:List Im},aV H ds vs R->ims ds=some is->am H is vs/\R=[]
 | [],_,_,_,h,e=>by cases e;exact h
 | .im d::ds,_,_,_,h,e=>by
  obtain⟨v,r,R1,R2,rfl,⟨h1,rfl⟩,h2,rfl⟩:=h;rw[ims] at e;obtain⟨p,e3,e4⟩:=Z2.mp e;cases e4;obtain⟨g1,rfl⟩:=mI h2 e3;exact⟨⟨v,r,rfl,h1,g1⟩,rfl⟩
 | .jk::_,_,_,_,_,e=>by rw[ims] at e;cases e;all_goals (intro _ z;cases z)
 | .fz _::_,_,_,_,_,e=>by rw[ims] at e;cases e;all_goals (intro _ z;cases z)
 | .lst _::_,_,_,_,_,e=>by rw[ims] at e;cases e;all_goals (intro _ z;cases z)
 | .dK _::_,_,_,_,_,e=>by rw[ims] at e;cases e;all_goals (intro _ z;cases z)
 | .dT _::_,_,_,_,_,e=>by rw[ims] at e;cases e;all_goals (intro _ z;cases z)
 | .FV _::_,_,_,_,_,e=>by rw[ims] at e;cases e;all_goals (intro _ z;cases z)
 | .NJ _ _::_,_,_,_,_,e=>by rw[ims] at e;cases e;all_goals (intro _ z;cases z)
 | .LE _::_,_,_,_,_,e=>by rw[ims] at e;cases e;all_goals (intro _ z;cases z)
 | .obj _ _ _::_,_,_,_,_,e=>by rw[ims] at e;cases e;all_goals (intro _ z;cases z)
@[simp] def aE(g:M (List Opd)):M Vl:=fun D=>(g D).bind fun p=>(bi p.1 p.2).bind fun q=>if q.1.length<=100000 then some (mkT q.1,q.2) else none
@[simp] def aZ(g:M (List Opd)):M Vl:=fun D=>(g D).bind fun p=>(bi p.1 p.2).bind fun q=>if q.1.length<=100000 then some (mkL q.1,q.2) else none
theorem y9{ds:List Vl}{p:Addr}(s:aH H H')(h:aV H ds vs R)(e:H' p=some (.tup vs)):∃ R',Own H' (mkT ds) (.ref p) R'/\R'=R:=by
 unfold mkT;split
 ·rename_i is hi;obtain⟨g1,rfl⟩:=mI h hi;exact⟨[],⟨⟨p,vs,rfl,e,g1.mono s.tupS.tup⟩,rfl⟩,rfl⟩
 ·exact⟨R,⟨p,vs,rfl,e,h.mono s.tupS fun a _ o q=>s a o q⟩,rfl⟩
theorem zc{ds:List Vl}{p:Addr}(s:aH H H')(h:aV H ds vs R)(e:H' p=some (.lst vs)):Own H' (mkL ds) (.ref p) (p::R):=by
 unfold mkL;split
 ·rename_i is hi;obtain⟨g1,rfl⟩:=mI h hi;exact⟨p,vs,rfl,e,g1.mono s.tupS.tup,rfl⟩
 ·exact⟨p,vs,R,rfl,e,h.mono s.tupS fun a _ o q=>s a o q,rfl⟩
theorem gw(h:n<=100000):n<=sizeLine:=Zn h (by decide)
theorem o_.add{p:Addr}{o:HO}(a:o_ H F H1 A)(fr:H1 p=none)(c:∀ x∈A,G_ H1 x):o_ H F (upd H1 p o) (A++[p]):=by
 have s:aH H1 (upd H1 p o):=(aH.refl H1).upd fr;have:=o_.new (R:=[]) (R':=[p]) (by rw[ZO];exact a) s (Zz _ _) (fun x hx=>by rw[ZZ.mp hx];exact fr) c;exact this
theorem o_.same(a:o_ H F H1 A)(s:aH H1 H2):o_ H F H2 A:=
 ⟨fun x o e hx=>s _ _<|a.keep x o e hx,a.sub,a.nd,a.tup.trans s.tupS,fun x o e=>let ⟨o',e'⟩:=a.grow x o e;⟨o',s _ _ e'⟩⟩
section
variable{X:Cx}
theorem aO{x1}(h:VA X es g):VE X (.Tuple es x1 pos) (aE g):=by
 refine be (xo h) fun σ H Q ⟨D,F,r,D',st,nd,hg,q⟩=>?_;obtain⟨⟨os,D1⟩,h1,h2⟩:=Z8.mp hg;obtain⟨⟨ds,D2⟩,h3,h4⟩:=Z8.mp h2;refine⟨D,F,os,D1,st,nd,h1,fun vs H1 F1 R1 q_ o1 s1=>?_⟩;obtain⟨F2,R2,p_,ow,pm⟩:=fJ q_ o1 h3;split at h4
 ·rename_i hl;cases h4;have Gn:vs.length<=100000:=by rw[<- ow.length];exact hl
  refine⟨gw Gn,fun p hp=>?_⟩;have s:aH H1 (upd H1 p<|.tup vs):=(aH.refl H1).upd hp;obtain⟨R',g1,rfl⟩:=y9 s ow bm;exact q _ _ F2 R' (p_.mono s.tupS fun a _ o e=>s a o e) g1 ((s1.Fy pm.symm).same s)
 ·cases h4
theorem bw(h:VA X es g):VE X (.List es pos) (aZ g):=by
 refine be (xp h) fun σ H Q ⟨D,F,r,D',st,nd,hg,q⟩=>?_;obtain⟨⟨os,D1⟩,h1,h2⟩:=Z8.mp hg;obtain⟨⟨ds,D2⟩,h3,h4⟩:=Z8.mp h2;refine⟨D,F,os,D1,st,nd,h1,fun vs H1 F1 R1 q_ o1 s1=>?_⟩;obtain⟨F2,R2,p_,ow,pm⟩:=fJ q_ o1 h3;split at h4
 ·rename_i hl;cases h4;have Gn:vs.length<=100000:=by rw[<- ow.length];exact hl
  refine⟨gw Gn,fun p hp=>?_⟩;have s:aH H1 (upd H1 p<|.lst vs):=(aH.refl H1).upd hp;have g1:=zc s ow (p:=p) bm;refine q _ _ F2 (p::R2) (p_.mono s.tupS fun a _ o e=>s a o e) g1 (((s1.Fy pm.symm).add hp fun x hx=>?_).Fy ?_)
  ·rcases ZA.mp hx with hx | hx
   ·exact p_.chg x hx
   ·exact ow.chg x hx
  ·rw[Z4];exact ZL _ ZT
 ·cases h4
def c6(X:Cx)(f:Value)(op:List Vl->Option Vl):Prop:=
 bt X f fun xs H Q=>∃ ds d,fI H ds xs/\op ds=some d/\∀ v H' R,aH H H'->Own H' d v R->R.Nodup->(∀ a∈R,H a=none)->Q v H'
@[simp] def aw(op:List Vl->Option Vl)(g:M (List Opd)):M Vl:=fun D=>(g D).bind fun p=>(ce p.2 p.1).bind fun ds=>(op ds).map fun d=>(d,p.2)
theorem qG(h:tV (aw op g) σ H Q):
  tA g σ H fun xs H1=>∃ ds d,fI H1 ds xs/\op ds=some d/\∀ v H' R,aH H1 H'->Own H' d v R->R.Nodup->(∀ a∈R,H1 a=none)->Q v H':=by
 obtain⟨D,F,r,D',st,nd,hg,q⟩:=h;obtain⟨⟨os,D1⟩,h1,h2⟩:=Z8.mp hg;obtain⟨ds,h3,h4⟩:=Z8.mp h2;obtain⟨d,h5,h6⟩:=Z2.mp h4;cases h6;refine⟨D,F,os,D1,st,nd,h1,fun vs H1 F1 R1 q_ o1 s1=>⟨ds,_,o1.read q_ h3,h5,fun v H2 R s2 ow LF fr=>?_⟩⟩;exact q v H2 F1 R (q_.mono s2.tupS fun a _ o e=>s2 a o e) ow (s1.new s2 LF fr q_.chg)
theorem bb{id:String}(hc:c6 X (.builtin id) op)(hg:Gl X x)(hm:X.mg x=none)(hv:bootBuiltins x=some (.builtin id))(ha:VA X (e::es) g)(hn:x ≠ "__name__" := by decide)(Id:(x == ("__debug__" : Str))=false:=by decide)(he:starEach (e::es) X.env=(false,eval e X.env)::starEach es X.env:=by rfl)(GF:(backTo pos<|starEach es X.env).any (·.1)=false:=by rfl):
  VE X (.Call (.Name x p) (e::es) [] pos) (aw op g):=be (pL hc hg hm hv ha hn Id he GF) fun _ _ _ h=>qG h
theorem eM{T:String}(hc:c6 X (.type T) op)(hg:Gl X x)(hm:X.mg x=none)(hv:bootBuiltins x=some (.type T))(ha:VA X (e::es) g)(hn:x ≠ "__name__" := by decide)(Id:(x == ("__debug__" : Str))=false:=by decide)(he:starEach (e::es) X.env=(false,eval e X.env)::starEach es X.env:=by rfl)(GF:(backTo pos<|starEach es X.env).any (·.1)=false:=by rfl):
  VE X (.Call (.Name x p) (e::es) [] pos) (aw op g):=be (xu hc hg hm hv ha hn Id he GF) fun _ _ _ h=>qG h
abbrev Fn:=List Vl->Option (Vl×List Vl)
def IZ(n:Nat)(G:Fn):Sp:=fun vs H Q _=>vs.length=n/\∃ ds F r outs,aV H ds vs F/\F.Nodup/\G ds=some (r,outs)/\∀ v H' R R',Own H' r v R->aV H' outs vs R'->o_ H F H' (R++R')->Q v H'
@[simp] def av(n:Nat)(G:Fn)(g:M (List Opd)):M Vl:=fun D=>(g D).bind fun p=>if p.1.length=n then (bi p.1 p.2).bind fun q=>(G q.1).map fun r=>(r.1,wb p.1 r.2 q.2) else none
theorem dY.length{H:Hp}{σ:St}:∀ {os:List Opd}{vs:List V}{R:List Addr},dY H σ os vs R->os.length=vs.length
 | [],_,_,h=>by rw[h.1];rfl
 | o::os,_,_,h=>by
  obtain⟨v,r,R1,R2,rfl,h1,h2,rfl⟩:=h;rw[ZJ,ZJ,dY.length h2]
theorem qH{G:Fn}{E:XK}(h:tV (av n G g) σ H Q):md (IZ n G) [] E (tA g) σ H Q:=by
 obtain⟨D,F,r,D',st,nd,hg,q⟩:=h;obtain⟨⟨os,D1⟩,h1,h2⟩:=Z8.mp hg;split at h2
 ·rename_i hn;obtain⟨⟨ds,D2⟩,h3,h4⟩:=Z8.mp h2;obtain⟨⟨r',outs⟩,h5,h6⟩:=Z2.mp h4;cases h6;refine⟨D,F,os,D1,st,nd,h1,fun vs H1 F1 R1 q_ o1 s1=>?_⟩;obtain⟨F2,R2,p_,ow,pm⟩:=fJ q_ o1 h3;have s2:=s1.Fy (pm.symm.trans ZT);rw[ZO];refine⟨by rw[<- o1.length];exact hn,ds,R2,_,outs,ow,(ZH.mp s2.nd).1,h5,fun v H3 R R' w1 w2 s3=>?_⟩;have s4:=s2.trans s3 p_.chg;have NK:∀ a∈F2,a∉R2:=fun a ha hb=>(ZH.mp s2.nd).2.2 a hb a ha rfl;have FM:ao H3 D2 σ F2:=p_.mono s3.tup fun a ha o e=>s3.keep a o e (NK a ha);obtain⟨F3,R3,FY,Ms⟩:=kC FM o1 w2;refine q v H3 F3 R FY w1 (s4.less (C:=R3) ?_);refine List.Perm.trans ?_ ZT;rw[Z4];refine (ZL _ ZT).trans ?_;rw[<- Z4];refine (ZE _ Ms).trans ?_;rw[Z4];exact ZL _ ZT
 ·cases h2
end
section
variable{X:Cx}
variable{k:Nat}
theorem zd{G:Fn}{f:Addr}(F:FJ X.prog X.w X.K X.mg X.base HM k f fd ps (IZ n G))(hr:E8 k X.A)(hg:Gl X x)(hm:X.mg x=some (.ref f))(hk:PySem.W.keepIn X.K (.ref f)=true)(hb:c9 X.K fd ps [])(ha:VA X (e::es) g)(Id:(x == ("__debug__" : Str))=false:=by decide)(he:starEach (e::es) X.env=(false,eval e X.env)::starEach es X.env:=by rfl)(GF:(backTo pos<|starEach es X.env).any (·.1)=false:=by rfl):
  VE X (.Call (.Name x p) (e::es) [] pos) (av n G g):=be (xq F hr hg hm hk hb .nil qd ha Id he GF) fun _ _ _ h=>qH h
inductive Fl where
 | nx | rt (d:Vl) | bk | ct
abbrev MS:=SD->Option (Fl×SD)
def aP(fix:List Nat)(σ σ':St):Prop:=σ'.length=σ.length/\∀ i∈fix,σ'[i]?=σ[i]?
theorem aP.refl{fix:List Nat}{σ:St}:aP fix σ σ:=⟨rfl,fun _ _=>rfl⟩
theorem aP.trans{σ2:St}(a:aP fix σ σ1)(b:aP fix σ1 σ2):aP fix σ σ2:=⟨b.1.trans a.1,fun i hi=>(b.2 i hi).trans<|a.2 i hi⟩
theorem aP.set{v:Option V}(h:j∉fix):aP fix σ (σ.set j v):=⟨Wo,fun i hi=>Yq fun e=>h (by rw[e];exact hi)⟩
def Mt(fix:List Nat)(E:Ends)(σ:St)(H:Hp)(F:List Addr)(D':SD):Fl->Prop
 | .nx=>∀ σ' H' F',aP fix σ σ'->ao H' D' σ' F'->o_ H F H' F'->E.nx σ' H'
 | .bk=>∀ σ' H' F',aP fix σ σ'->ao H' D' σ' F'->o_ H F H' F'->E.bk σ' H'
 | .ct=>∀ σ' H' F',aP fix σ σ'->ao H' D' σ' F'->o_ H F H' F'->E.ct σ' H'
 | .rt d=>∀ v σ' H' F' R,aP fix σ σ'->ao H' D' σ' F'->Own H' d v R->o_ H F H' (F'++R)->E.rt v H'
def tS(fix:List Nat)(g:MS):TS:=fun E σ H=>∃ D F fl D',ao H D σ F/\F.Nodup/\g D=some (fl,D')/\Mt fix E σ H F D' fl
def VS(X:Cx)(fix:List Nat)(st:Stmt)(g:MS):Prop:=∀ ⦃p⦄,PZ X st (tS fix g) p
def I_(X:Cx)(fix:List Nat)(NL:List Stmt)(g:MS):Prop:=∀ ⦃p⦄,oZ X NL (tS fix g) p
variable{t':TS}
theorem eO{t:TS}(h:PS X st t)(i:∀ E σ H,t' E σ H->t E σ H):PS X st t':=fun pins s σ H D I hw=>h pins s σ H D I (i D σ H hw)
theorem qI{st:List Stmt}{t:TS}(h:Hr X st t)(i:∀ E σ H,t' E σ H->t E σ H):Hr X st t':=fun pins s σ H D I hw=>h pins s σ H D I (i D σ H hw)
theorem Mt.on{fl:Fl}(h:Mt fix E σ H F D' fl)(fx:aP fix σ σ1)(s:o_ H F H1 F1):Mt fix E σ1 H1 F1 D' fl:=by
 cases fl with
 | nx=>exact fun σ' H' F' f st s'=>h σ' H' F' (fx.trans f) st (s.seq s')
 | bk=>exact fun σ' H' F' f st s'=>h σ' H' F' (fx.trans f) st (s.seq s')
 | ct=>exact fun σ' H' F' f st s'=>h σ' H' F' (fx.trans f) st (s.seq s')
 | rt d=>exact fun v σ' H' F' R f st ow s'=>h v σ' H' F' R (fx.trans f) st ow (s.seq s')
def sNil:MS:=fun D=>some (.nx,D)
@[simp] def ak(g h:MS):MS:=fun D=>(g D).bind fun p=>match p.1 with
 | .nx=>h p.2
 | fl=>some (fl,p.2)
theorem bT:I_ X fix [] sNil:=by
 refine qI vV fun E σ H ⟨D,F,fl,D',st,nd,hg,q⟩=>?_;cases hg;exact q σ H F aP.refl st (o_.perm nd<|ZC _)
variable{g:MS}
theorem aC(h:VS X fix st g):I_ X fix [st] g:=vX h
theorem ze{h:MS}(w:tS fix (ak g h) E σ H):ph (tS fix g) (tS fix h) E σ H:=by
 obtain⟨D,F,fl,D',st,nd,hg,q⟩:=w;obtain⟨⟨f1,D1⟩,h1,h2⟩:=Z8.mp hg;cases f1 with
 | nx=>exact⟨D,F,.nx,D1,st,nd,h1,fun σ' H' F' fx g_ s=>⟨D1,F',fl,D',g_,s.nd,h2,q.on fx s⟩⟩
 | bk=>cases h2;exact⟨D,F,.bk,D1,st,nd,h1,q⟩
 | ct=>cases h2;exact⟨D,F,.ct,D1,st,nd,h1,q⟩
 | rt d=>cases h2;exact⟨D,F,.rt d,D1,st,nd,h1,q⟩
theorem ar{NL:List Stmt}{h:MS}(h1:VS X fix st g)(h2:I_ X fix NL h):I_ X fix (st::NL) (ak g h):=qI (vW h1 h2) fun _ _ _ w=>ze w
@[simp] def fK(g:M Vl):MS:=fun D=>(g D).map fun p=>(.nx,p.2)
variable{g:M Vl}
theorem kD(h:VE X e g)(hs:swapsWith e none pos.line X.env=pure false:=by rfl):VS X fix (.Expr e pos) (fK g):=by
 refine eO (vZ h hs) fun E σ H ⟨D,F,fl,D',st,nd,hg,q⟩=>?_;obtain⟨⟨r,D1⟩,h1,h2⟩:=Z2.mp hg;cases h2;exact⟨D,F,r,_,st,nd,h1,fun v H' F' R g_ ow s=>q σ H' F' aP.refl g_<|s.less<|ZC _⟩
@[simp] def aQ(g:M Vl):MS:=fun D=>(g D).map fun p=>(.rt p.1,p.2)
theorem aY(h:VE X e g):VS X fix (.Return (some e) pos) (aQ g):=by
 refine eO (v4 h) fun E σ H ⟨D,F,fl,D',st,nd,hg,q⟩=>?_;obtain⟨⟨r,D1⟩,h1,h2⟩:=Z2.mp hg;cases h2;exact⟨D,F,r,_,st,nd,h1,fun v H' F' R g_ ow s=>q v σ H' F' R aP.refl g_ ow s⟩
@[simp] def sIf(c:M Bool)(a b:MS):MS:=fun D=>(c D).bind fun p=>if p.1=true then a p.2 else b p.2
variable{gb:MS}
theorem bU{a b:List Stmt}{ga:MS}(hc:VT X c gc)(ha:I_ X fix a ga)(hb:I_ X fix b gb):VS X fix (.If c a b pos) (sIf gc ga gb):=by
 refine eO (v7 hc ha hb) fun E σ H ⟨D,F,fl,D',st,nd,hg,q⟩=>?_;obtain⟨⟨t,D1⟩,h1,h2⟩:=Z8.mp hg;refine⟨D,F,t,D1,st,nd,h1,fun H1 F1 q_ s1=>?_⟩;cases t with
 | true=>
  rw[ZY rfl] at h2 ⊢;exact⟨D1,F1,fl,D',q_,s1.nd,h2,q.on aP.refl s1⟩
 | false=>
  rw[ZW ZM] at h2 ⊢;exact⟨D1,F1,fl,D',q_,s1.nd,h2,q.on aP.refl s1⟩
@[simp] def az(i:Nat)(g:M Vl):MS:=fun D=>(g D).bind fun p=>if i<p.2.length then some (.nx,p.2.set i<|some p.1) else none
variable{i:Nat}
theorem aF{pos':Pos}(hN:X.N.Nodup)(hi:X.N[i]?=some x)(hx:Loc X.env.scope x)(he:VE X e g)(hf:i∉fix)(hs:swapsWith e (some<|.Name x pos') pos.line X.env=pure false:=by rfl)(KF:X.fn x=true\/X.env.scope.names.lookup x=some .local:=by first | exact .inl rfl | exact .inr rfl | assumption):VS X fix (.Assign [.Name x pos'] e pos) (az i g):=by
 refine eO (wq hN hi hx he hs KF) fun E σ H ⟨D,F,fl,D',st,nd,hg,q⟩=>?_;obtain⟨⟨r,D1⟩,h1,h2⟩:=Z8.mp hg;split at h2
 ·rename_i hl;cases h2;refine⟨D,F,r,_,st,nd,h1,fun v H1 F1 R q_ ow s1=>?_⟩;obtain⟨F2,R2,p_,pm⟩:=q_.put (i:=i) ow hl;exact q _ H1 F2 (aP.set hf) p_ (s1.less pm)
 ·cases h2
abbrev MG:=Vl->SD->Option SD
def tG(fix:List Nat)(g:MG):TG:=fun v σ H Q=>∃ D F d R D',ao H D σ F/\Own H d v R/\(F++R).Nodup/\g d D=some D'/\∀ σ' H' F',aP fix σ σ'->ao H' D' σ' F'->o_ H (F++R) H' F'->Q σ' H'
def VG(X:Cx)(fix:List Nat)(e:Expr)(g:MG):Prop:=∀ ⦃p⦄,P2 X e (tG fix g) p
theorem mJ{t t':TG}(h:PG X e t)(i:∀ v σ H Q,t' v σ H Q->t v σ H Q):PG X e t':=fun pins s σ H x v Q I r hw=>h pins s σ H x v Q I r (i x σ H Q hw)
@[simp] def gN(i:Nat):MG:=fun d D=>if i<D.length then some (D.set i<|some d) else none
theorem aR(hN:X.N.Nodup)(hi:X.N[i]?=some x)(hx:Loc X.env.scope x)(hf:i∉fix)(KF:X.fn x=true\/X.env.scope.names.lookup x=some .local:=by first | exact .inl rfl | exact .inr rfl | assumption):VG X fix (.Name x pos) (gN i):=by
 refine mJ (v9 hN hi hx KF) fun v σ H Q ⟨D,F,d,R,D',st,ow,nd,hg,q⟩=>?_;unfold gN at hg;split at hg
 ·rename_i hl;cases hg;obtain⟨F2,R2,p_,pm⟩:=st.put (i:=i) ow hl;exact q _ H F2 (aP.set hf) p_ ((o_.perm nd<|ZC _).less pm)
 ·cases hg
def RL(fix:List Nat)(g:List Vl->SD->Option SD):Js:=fun vs σ H Q=>∃ D F ds R D',ao H D σ F/\aV H ds vs R/\(F++R).Nodup/\g ds D=some D'/\∀ σ' H' F',aP fix σ σ'->ao H' D' σ' F'->o_ H (F++R) H' F'->Q σ' H'
def NM(X:Cx)(fix:List Nat)(es:List Expr)(g:List Vl->SD->Option SD):Prop:=∀ ⦃p⦄,pi X es (RL fix g) p
@[simp] def gNil':List Vl->SD->Option SD
 | [],D=>some D
 | _,_=>none
@[simp] def bh(g:MG)(h:List Vl->SD->Option SD):List Vl->SD->Option SD
 | d::ds,D=>(g d D).bind (h ds)
 | _,_=>none
theorem qJ{t t':Js}(h:Ls X es t)(i:∀ v σ H Q,t' v σ H Q->t v σ H Q):Ls X es t':=fun pins s σ H xs vs Q I r hw=>h pins s σ H xs vs Q I r (i xs σ H Q hw)
theorem eQ:NM X fix [] gNil':=by
 refine qJ wf fun vs σ H Q ⟨D,F,ds,R,D',st,ow,nd,hg,q⟩=>?_;cases ds with
 | cons d ds=>cases hg
 | nil=>
  cases hg;exact⟨ow.1,q σ H F aP.refl st<|(o_.perm nd<|ZC _).less<|ZC _⟩
theorem bW{g:MG}(h1:VG X fix e g)(h2:NM X fix es h)(hs:(assignEach (e::es) X.env).map (·.2)=assign e X.env::(assignEach es X.env).map (·.2):=by rfl):NM X fix (e::es) (bh g h):=by
 refine qJ (wg h1 h2 hs) fun vs σ H Q ⟨D,F,ds,R,D',st,ow,nd,hg,q⟩=>?_;cases ds with
 | nil=>cases hg
 | cons d ds=>
  obtain⟨v,r,R1,R2,rfl,w1,w2,rfl⟩:=ow;obtain⟨D1,g1,g2⟩:=Z8.mp (show (g d D).bind (h ds)=some D' from hg);have Ja:((F++R1)++R2).Nodup:=by rw[Z4];exact nd
  refine⟨v,r,rfl,D,F,d,R1,D1,st,w1,(ZH.mp Ja).1,g1,fun σ1 H1 F1 fx q_ s1=>?_⟩;have NK:∀ a∈R2,a∉F++R1:=fun a ha hb=>(ZH.mp Ja).2.2 a hb a ha rfl;have OT:aV H1 ds r R2:=w2.mono s1.tup fun a ha o e=>s1.keep a o e (NK a ha);have s2:o_ H (F++(R1++R2)) H1 (F1++R2):=by
   refine⟨fun a o e ha=>s1.keep a o e fun h=>ha ?_,fun a ha=>?_,ZH.mpr ⟨s1.nd,(ZH.mp Ja).2.1,fun a ha b hb e=>?_⟩,s1.tup,s1.grow⟩
   ·rw[<- Z4];exact Zw _ h
   ·rcases ZA.mp ha with ha | ha
    ·rcases s1.sub a ha with h | h
     ·left;rw[<- Z4];exact Zw _ h
     ·exact .inr h
    ·left;rw[<- Z4];exact ZI _ ha
   ·subst e;rcases s1.sub a ha with h | h
    ·exact NK a hb h
    ·obtain⟨o,e,_⟩:=w2.chg a hb;rw[e] at h;cases h
  exact⟨D1,F1,ds,R2,D',q_,OT,s2.nd,g2,fun σ2 H2 F2 RM p_ s3=>q σ2 H2 F2 (fx.trans RM) p_<|s2.seq s3⟩
@[simp] def gT(n:Nat)(h:List Vl->SD->Option SD):MG:=fun d D=>match d with
 | .im (.tup is)=>if is.length=n then h (is.map .im) D else none
 | .LE ds=>if ds.length=n then h ds D else none
 | _=>none
theorem qK{H:Hp}:∀ {is:List Im}{vs:List V},am H is vs->aV H (is.map .im) vs []
 | [],vs,h=>⟨h,rfl⟩
 | d::is,vs,h=>by
  obtain⟨v,r,rfl,h1,h2⟩:=h;exact⟨v,r,[],[],rfl,⟨h1,rfl⟩,qK h2,rfl⟩
theorem eS(hc:X.calm=true)(hs:NM X fix es h)(hn:(assignEach es X.env).length=n:=by rfl)(JE:(assignEach es X.env).findIdx? (·.1)=none:=by rfl):VG X fix (.Tuple es k pos) (gT n h):=by
 refine mJ (wl hc hs hn JE) fun v σ H Q ⟨D,F,d,R,D',st,ow,nd,hg,q⟩=>?_;unfold gT at hg;split at hg
 ·rename_i is;split at hg
  ·rename_i hl;obtain⟨⟨a,xs,rfl,h1,h2⟩,rfl⟩:=ow;exact⟨a,xs,rfl,E1.of h1,by rw[<- h2.length];exact hl,D,F,_,[],D',st,qK h2,nd,hg,q⟩
  ·cases hg
 ·rename_i ds;split at hg
  ·rename_i hl;obtain⟨a,xs,rfl,h1,h2⟩:=ow;exact⟨a,xs,rfl,E1.of h1,by rw[<- h2.length];exact hl,D,F,_,R,D',st,h2,nd,hg,q⟩
  ·cases hg
 ·cases hg
@[simp] def cF(g:M Vl)(h:MG):MS:=fun D=>(g D).bind fun p=>(h p.1 p.2).map fun D'=>(.nx,D')
theorem dL{h:MG}(he:VE X e g)(hg:VG X fix tg h)(hs:swapsWithSole [tg] e pos.line X.env=pure false:=by rfl)(hw:swappedStores [tg] e X.env=pure none:=by rfl)(h1:(assignEach [tg] X.env).map (·.2)=[assign tg X.env]:=by rfl):VS X fix (.Assign [tg] e pos) (cF g h):=by
 refine eO (wo he hg hs hw h1) fun E σ H ⟨D,F,fl,D',st,nd,Gc,q⟩=>?_;obtain⟨⟨r,D1⟩,g1,g2⟩:=Z8.mp Gc;obtain⟨D2,g3,g4⟩:=Z2.mp g2;cases g4;exact⟨D,F,r,D1,st,nd,g1,fun v H1 F1 R q_ ow s1=>⟨D1,F1,r,R,_,q_,ow,s1.nd,g3,fun σ' H' F' fx g_ s2=>q σ' H' F' fx g_<|s1.seq s2⟩⟩
@[simp] def fL(i j:Nat)(g:M (List Opd)):MS:=fun D=>(g D).bind fun p=>(bi p.1 p.2).bind fun q=>match q.1 with
 | [d1,d2]=>if i<q.2.length/\j<q.2.length then some (.nx,(q.2.set i<|some d1).set j<|some d2) else none
 | _=>none
theorem mK{y:Str}{g:M (List Opd)}{px py pt:Pos}{kt k2 KH}(hc:X.calm=true)(hN:X.N.Nodup)(hi:X.N[i]?=some x)(hj:X.N[j]?=some y)(Gp:i≠j)(hx:X.env.scope.names.lookup x=some .local)(hy:X.env.scope.names.lookup y=some .local)(ha:VA X [a,b] g)(RN:i∉fix)(RO:j∉fix)(hw:swappedStores [.Tuple [.Name x px,.Name y py] kt pt] (.Tuple [a,b] k2 KH) X.env=pure (some [x,y]))(hs:swapsWithSole [.Tuple [.Name x px,.Name y py] kt pt] (.Tuple [a,b] k2 KH) pos.line X.env=pure false:=by rfl):
  VS X fix (.Assign [.Tuple [.Name x px,.Name y py] kt pt] (.Tuple [a,b] k2 KH) pos) (fL i j g):=by
 refine eO (wv hc hN hi hj Gp hx hy ha hw hs) fun E σ H ⟨D,F,fl,D',st,nd,hg,q⟩=>?_;obtain⟨⟨os,D1⟩,h1,h2⟩:=Z8.mp hg;obtain⟨⟨ds,D2⟩,h3,h4⟩:=Z8.mp h2;refine⟨D,F,os,D1,st,nd,h1,fun vs H1 F1 R1 q_ o1 s1=>?_⟩;obtain⟨F2,R2,p_,ow,pm⟩:=fJ q_ o1 h3;dsimp only at h4;split at h4
 ·rename_i d1 d2 e;split at h4
  ·rename_i hl;cases h4;obtain⟨v,r,A,B,rfl,w1,w2,rfl⟩:=ow;obtain⟨u,r',A',B',rfl,w3,⟨rfl,rfl⟩,rfl⟩:=w2;obtain⟨F3,G3,FM,Mu⟩:=p_.put (i:=i) w1 hl.1;obtain⟨F4,G4,FY,Ms⟩:=FM.put (i:=j) w3 (by rw[Wo];exact hl.2);refine⟨v,u,rfl,q _ H1 F4 ((aP.set RN).trans<|aP.set RO) FY<|(s1.Fy pm.symm).less (C:=G4++G3) ?_⟩;rw[<- Z4,ZO,<- Z4];refine (ZE G3 Ms).trans ?_;rw[Z4];refine (ZL F3 ZT).trans ?_;rw[<- Z4];exact ZE _ Mu
  ·cases h4
 ·cases h4
def d0(c:M Bool)(b:MS):Nat->MS
 | 0=>fun _=>none
 | n+1=>fun D=>(c D).bind fun p=>if p.1=true then (b p.2).bind fun q=>match q.1 with
  | .nx=>d0 c b n q.2
  | .ct=>d0 c b n q.2
  | .bk=>some (.nx,q.2)
  | .rt d=>some (.rt d,q.2) else some (.nx,p.2)
theorem qL(n:Nat)(hp:PassesOwn (model X.prog X.w) X.A X.env X.xe)(hc:VT X c gc)(hb:I_ X fix body gb):VS X fix (.While c body [] pos) (d0 gc gb n):=by
 refine eO (wx hp hc hb) fun E σ H ⟨D,F,fl,D',st,nd,hg,q⟩=>?_;refine⟨fun m σ' H'=>∃ Dd F',ao H' Dd σ' F'/\aP fix σ σ'/\o_ H F H' F'/\d0 gc gb m Dd=some (fl,D'),⟨n,D,F,st,aP.refl,o_.perm nd<|ZC _,hg⟩,?_⟩;rintro m σ1 H1 ⟨D1,F1,q_,Mv,s1,w⟩;cases m with
 | zero=>cases w
 | succ m=>
  rw[d0] at w;obtain⟨⟨t,D2⟩,w1,w2⟩:=Z8.mp w;refine⟨D1,F1,t,D2,q_,s1.nd,w1,fun H2 F2 p_ s2=>?_⟩;cases t with
  | false=>
   rw[ZW ZM] at w2 ⊢;cases w2;exact q σ1 H2 F2 Mv p_ (s1.seq s2)
  | true=>
   rw[ZY rfl] at w2 ⊢;obtain⟨⟨f,D3⟩,w3,w4⟩:=Z8.mp w2;refine⟨fun σ' H'=>∃ Dd F',ao H' Dd σ' F'/\aP fix σ σ'/\o_ H F H' F'/\d0 gc gb m Dd=some (fl,D'),fun σ' H' h=>⟨m,XI m,h⟩,D2,F2,f,D3,p_,s2.nd,w3,?_⟩;cases f with
   | nx=>exact fun σ' H' F' fx g_ s'=>⟨D3,F',g_,Mv.trans fx,(s1.seq s2).seq s',w4⟩
   | ct=>exact fun σ' H' F' fx g_ s'=>⟨D3,F',g_,Mv.trans fx,(s1.seq s2).seq s',w4⟩
   | bk=>
    cases w4;exact fun σ' H' F' fx g_ s'=>q σ' H' F' (Mv.trans fx) g_ ((s1.seq s2).seq s')
   | rt d=>
    cases w4;exact fun v σ' H' F' R fx g_ ow s'=>q v σ' H' F' R (Mv.trans fx) g_ ow ((s1.seq s2).seq s')
structure GL(J:It)(H:Hp)(R:List Addr)(ds:List Im):Prop where
 go:∀ H',w_ H H'->(∀ a∈R,∀ o,H a=some o->H' a=some o)->∀ (i:Nat) (d:Im),ds[i]?=some d->J.go i H'/\∀ x JV,J.Lu i H' x JV->aH H' JV/\E7 JV d x
 stop:∀ H',w_ H H'->(∀ a∈R,∀ o,H a=some o->H' a=some o)->J.stop ds.length H'
def jc(H:Hp)(σ:St)(R:List Addr):Option (Nat×Vl)->Prop
 | none=>True
 | some (i,d)=>∃ v,σ[i]?=some (some v)/\Own H d v R
def tI(g:M (List Im×Option (Nat×Vl))):TI:=fun σ H Rk=>∃ D F r D',ao H D σ F/\F.Nodup/\g D=some (r,D')/\∀ J H' F' R,ao H' D' σ F'->GL J H' R r.1->jc H' σ R r.2->(∀ a∈R,G_ H' a)->o_ H F H' (F'++R)->Rk J H'
def VI(X:Cx)(tg iter:Expr)(g:M (List Im×Option (Nat×Vl))):Prop:=∀ ⦃p⦄,P4 X tg iter (tI g) p
theorem jd{t t':TI}(h:PI X tg iter t)(i:∀ σ H R,t' σ H R->t σ H R):PI X tg iter t':=fun pins s σ H R I hw=>h pins s σ H R I (i σ H R hw)
def bx(tg:MG)(b:MS):List Im->MS
 | []=>fun D=>some (.nx,D)
 | x::r=>fun D=>(tg (.im x) D).bind fun D1=>(b D1).bind fun q=>match q.1 with
  | .nx=>bx tg b r q.2
  | .ct=>bx tg b r q.2
  | .bk=>some (.nx,q.2)
  | .rt d=>some (.rt d,q.2)
@[simp] def rst:Option (Nat×Vl)->SD->SD
 | none,D=>D
 | some (i,d),D=>match D[i]? with
  | some (some .jk)=>D.set i (some d)
  | _=>D
@[simp] def cf(g:M (List Im×Option (Nat×Vl)))(tg:MG)(b:MS):MS:=fun D=>(g D).bind fun p=>(bx tg b p.1.1 p.2).map fun q=>(q.1,rst p.1.2 q.2)
theorem mL{o:Option (Nat×Vl)}(st:ao H D σ F)(h:jc H σ R o):∃ F1 G,ao H (rst o D) σ F1/\(F1++G).Perm (F++R):=by
 cases o with
 | none=>exact⟨F,R,st,ZC _⟩
 | some p=>
  obtain⟨i,d⟩:=p;obtain⟨v,h1,h2⟩:=h;unfold rst;dsimp only;split
  ·exact st.back h2 h1
  ·exact⟨F,R,st,ZC _⟩
def fM(fx:List Nat):Option (Nat×Vl)->Prop
 | none=>True
 | some (i,_)=>i∈fx
theorem zf{g:M (List Im×Option (Nat×Vl))}{gt:MG}(hp:PassesOwn (model X.prog X.w) X.A X.env X.xe)(hc:X.calm=true)(hi:VI X tg iter g)(hg:VG X fx tg gt)(hb:I_ X fx body gb)(hf:∀ i∈fix,i∈fx)(hs:∀ D r D',g D=some (r,D')->fM fx r.2)(NN:PS X (.For tg iter body [] pos) (pk (tI g) (tG fx gt)<|tS fx gb)):VS X fix (.For tg iter body [] pos) (cf g gt gb):=by
 refine eO NN fun E σ H ⟨D,F,fl,D',st,nd,Gc,q⟩=>?_;obtain⟨⟨⟨ds,o⟩,D1⟩,h1,h2⟩:=Z8.mp Gc;obtain⟨⟨f,D2⟩,h3,h4⟩:=Z2.mp h2;cases h4;refine⟨D,F,(ds,o),D1,st,nd,h1,fun J H1 F1 R q_ it ln cR s1=>?_⟩;have RP:fM fx o:=hs D _ _ h1;have K9:=ZH.mp s1.nd;have keepR:∀ {H2:Hp}{F2:List Addr},o_ H1 F1 H2 F2->∀ a∈R,∀ u,H1 a=some u->H2 a=some u:=fun s a ha u e=>s.keep a u e fun h=>K9.2.2 a h a ha rfl;have Mw:∀ {H2:Hp}{F2:List Addr}{σ2:St},o_ H1 F1 H2 F2->aP fx σ σ2->jc H2 σ2 R o:=fun {H2 F2 σ2} s f=>by
  cases o with
  | none=>trivial
  | some p=>
   obtain⟨i,d⟩:=p;obtain⟨v,e1,e2⟩:=ln;exact⟨v,(f.2 i RP).trans e1,e2.mono s.tup<|keepR s⟩
 have Qj:∀ {σ2:St},aP fx σ σ2->aP fix σ σ2:=fun f=>⟨f.1,fun i hi=>f.2 i<|hf i hi⟩;have leave:∀ {σ2:St}{H2:Hp}{F2:List Addr}{D2:SD},Mt fix E σ H F (rst o D2) .nx->aP fx σ σ2->ao H2 D2 σ2 F2->o_ H1 F1 H2 F2->E.nx σ2 H2:=fun {σ2 H2 F2 D2} q f p_ s2=>by
  obtain⟨F3,G,FM,pm⟩:=mL p_ (Mw s2 f);exact q σ2 H2 F3 (Qj f) FM ((s1.trans s2 cR).less pm)
 refine⟨fun i m σ' H'=>m+i=ds.length/\∃ Dd F',aP fx σ σ'/\ao H' Dd σ' F'/\o_ H1 F1 H' F'/\bx gt gb (ds.drop i) Dd=some (f,D2),⟨ds.length,rfl,D1,F1,aP.refl,q_,o_.perm K9.1<|ZC _,h3⟩,?_⟩;rintro i m σ' H' ⟨hm,Dd,F',Mx,g_,s',hw⟩;by_cases Gb:i<ds.length
 ·obtain⟨OU,hy⟩:=it.go H' s'.tup (keepR s') i ds[i] (by simp[Gb]);rw[Y3 Gb,bx] at hw;obtain⟨D3,w1,w2⟩:=Z8.mp hw;obtain⟨⟨f2,D4⟩,w3,w4⟩:=Z8.mp w2;refine .inr ⟨OU,fun σ2 H2=>(m - 1)+(i+1)=ds.length/\∃ Dd F',aP fx σ σ2/\ao H2 Dd σ2 F'/\o_ H1 F1 H2 F'/\bx gt gb (ds.drop<|i+1) Dd=some (f,D2),fun σ2 H2 h=>⟨m - 1,by lia,h⟩,fun x H2 hx=>?_⟩;obtain⟨sm,OV⟩:=hy x H2 hx;have p_:=g_.mono sm.tupS fun a _ o e=>sm a o e;have s2:=s'.same sm;refine⟨Dd,F',.im ds[i],[],D3,p_,⟨OV,rfl⟩,by rw[ZO];exact s2.nd,w1,fun σ3 H3 F3 JW FM sg=>?_⟩;have s3:o_ H1 F1 H3 F3:=s2.seq (by rw[ZO] at sg;exact sg);refine⟨D3,F3,f2,D4,FM,s3.nd,w3,?_⟩;cases f2 with
  | nx=>exact fun σ4 H4 F4 K' FY s4=>⟨by lia,D4,F4,(Mx.trans JW).trans K',FY,s3.seq s4,w4⟩
  | ct=>exact fun σ4 H4 F4 K' FY s4=>⟨by lia,D4,F4,(Mx.trans JW).trans K',FY,s3.seq s4,w4⟩
  | bk=>
   cases w4;exact fun σ4 H4 F4 K' FY s4=>leave q ((Mx.trans JW).trans K') FY (s3.seq s4)
  | rt d=>
   cases w4;intro v σ4 H4 F4 R4 K' FY RQ s4;have s5:=s3.seq s4;have f5:=(Mx.trans JW).trans K';obtain⟨F5,G5,Ge,JX⟩:=mL (R:=R) FY (Mw s5 f5);refine q v σ4 H4 F5 R4 (Qj f5) Ge RQ ((s1.trans s5 cR).less (C:=G5) ?_);rw[Z4];refine (ZL F5 ZT).trans ?_;rw[<- Z4];refine (ZE R4 JX).trans ?_;rw[Z4,Z4];exact ZL _ ZT
 ·have hi:i=ds.length:=by lia
  subst hi;refine .inl ⟨it.stop H' s'.tup<|keepR s',?_⟩;rw[X5 (ZV _)] at hw;cases hw;exact leave q Mx g_ s'
end
section
variable{X:Cx}
variable{gt:MG}
theorem dM{g:M (List Im×Option (Nat×Vl))}{gb:MS}(hp:PassesOwn (model X.prog X.w) X.A X.env X.xe)(hc:X.calm=true)(hi:VI X tg iter g)(hg:VG X fx tg gt)(hb:I_ X fx body gb)(hf:∀ i∈fix,i∈fx)(hs:∀ D r D',g D=some (r,D')->fM fx r.2)(RR:∀ x,foldedSetIterable iter X.env x=pure x:=by intro _;rfl):VS X fix (.For tg iter body [] pos) (cf g gt gb):=
 zf hp hc hi hg hb hf hs (wG hp hc hi hg hb RR)
def RS(K:PySem.W.Frag)(tl:TE):TI:=fun σ H R=>tl σ H fun x H1=>∃ a,x=.ref a/\(((∃ xs,Fd K H1 a xs)/\R (L4 K a) H1)\/((∃ xs,E1 K H1 a xs)/\R (Nw K a) H1))
variable{l:Expr}
theorem zg{tl:TE}(hl:PE X l tl):PI X tg l (RS X.K tl):=by
 intro pins s σ H R I h;refine y_ (hl pins s σ H _ I h) fun v s1 ⟨x,H1,I1,r1,q1⟩=>?_;obtain⟨a,e,q⟩:=q1;subst e;cases r1;rcases q with ⟨⟨xs,hq⟩,q⟩ | ⟨⟨xs,hq⟩,q⟩
 ·obtain⟨f_,rv,p,hz⟩:=I1.list hq;refine wpAny_pyIter_list p.isList ?_;refine⟨s1.heap.objs.size,[s1.heap.objs.size],_,_,H1,rfl,I1.kept (t':=s1.toks) fun b o e=>Z7 _ e,wy a _,⟨_,ZS _ rfl,rfl,rfl⟩,fun b hb=>?_,q⟩;have e:b=s1.heap.objs.size:=by simpa using hb
  subst e;exact I1.IM (ZV _) (I1.n_.fresh<|ZV _)
 ·obtain⟨f_,rv,p,hz⟩:=I1.tuple hq;refine wpAny_pyIter_tuple (show s1.heap.IsTuple a f_.toArray from p) ?_;refine⟨s1.heap.objs.size,[s1.heap.objs.size],_,_,H1,rfl,I1.kept (t':=s1.toks) fun b o e=>Z7 _ e,wz a _,⟨_,ZS _ rfl,rfl,rfl⟩,fun b hb=>?_,q⟩;have e:b=s1.heap.objs.size:=by simpa using hb
  subst e;exact I1.IM (ZV _) (I1.n_.fresh<|ZV _)
theorem am.get{H:Hp}:∀ {ds:List Im}{vs:List V}{i:Nat}{d:Im},am H ds vs->ds[i]?=some d->∃ v,vs[i]?=some v/\E7 H d v
 | [],_,_,_,_,e=>by simp at e
 | d::ds,_,0,_,h,e=>by
  obtain⟨v,r,rfl,h1,h2⟩:=h;simp at e;subst e;exact⟨v,rfl,h1⟩
 | d::ds,_,i+1,_,h,e=>by
  obtain⟨v,r,rfl,h1,h2⟩:=h;obtain⟨u,g1,g2⟩:=am.get (i:=i) h2 (by simpa using e);exact⟨u,by simpa using g1,g2⟩
theorem zh{a:Addr}(h:H a=some (.lst xs))(hd:am H ds xs):GL (L4 K a) H [a] ds where
 go:=fun H' t k i d e=>by
  obtain⟨v,g1,g2⟩:=hd.get e;have h':=Fd.of (K:=K) (k a (.head _) _ h);refine⟨⟨xs,v,h',g1⟩,fun x JV ⟨e1,e2⟩=>?_⟩;subst e1;rw[e2 xs h'] at g1;cases g1;exact⟨aH.refl _,g2.mono t.tup⟩
 stop:=fun H' t k=>⟨xs,Fd.of<|k a (.head _) _ h,by rw[<- hd.length];exact ZV _⟩
theorem zi{a:Addr}{o:Obj}(h:H a=some (.Fj o<|.lst xs))(hd:am H ds xs):GL (L4 K a) H [] ds where
 go:=fun H' t k i d e=>by
  obtain⟨v,g1,g2⟩:=hd.get e;have h':Fd K H' a xs:=.inl (.inr ⟨o,t.Fj _ _ _ h⟩);refine⟨⟨xs,v,h',g1⟩,fun x JV ⟨e1,e2⟩=>?_⟩;subst e1;rw[e2 xs h'] at g1;cases g1;exact⟨aH.refl _,g2.mono t.tup⟩
 stop:=fun H' t k=>⟨xs,.inl<|.inr ⟨o,t.Fj _ _ _ h⟩,by rw[<- hd.length];exact ZV _⟩
theorem zj{a:Addr}(h:H a=some (.tup xs))(hd:am H ds xs):GL (Nw K a) H [] ds where
 go:=fun H' t k i d e=>by
  obtain⟨v,g1,g2⟩:=hd.get e;have h':=E1.of (K:=K) (t.tup a _ h);refine⟨⟨xs,v,h',g1⟩,fun x JV ⟨e1,e2⟩=>?_⟩;subst e1;rw[e2 xs h'] at g1;cases g1;exact⟨aH.refl _,g2.mono t.tup⟩
 stop:=fun H' t k=>⟨xs,E1.of<|t.tup a _ h,by rw[<- hd.length];exact ZV _⟩
abbrev MI:=M (List Im×Option (Nat×Vl))
@[simp] def cg(d:Vl):Option (List Im):=match d with
 | .im (.tup ds)=>some ds
 | .lst ds=>some ds
 | .fz ds=>some ds
 | _=>none
@[simp] def bu(g:M Opd):MI:=fun D=>(g D).bind fun p=>match p.1 with
 | .vl d=>(cg d).map fun ds=>((ds,none),p.2)
 | .sl i=>(bB i p.2).bind fun q=>(cg q.1).map fun ds=>((ds,if q.1.cp=true then none else some (i,q.1)),q.2)
theorem qM(w:Own H d v R)(e:cg d=some ds):
  ∃ a,v=.ref a/\(((∃ xs,Fd K H a xs)/\GL (L4 K a) H R ds)\/((∃ xs,E1 K H a xs)/\GL (Nw K a) H R ds)):=by
 unfold cg at e;split at e
 ·cases e;obtain⟨⟨a,xs,rfl,h1,h2⟩,rfl⟩:=w;exact⟨a,rfl,.inr ⟨⟨xs,E1.of h1⟩,zj h1 h2⟩⟩
 ·cases e;obtain⟨a,xs,rfl,h1,h2,rfl⟩:=w;exact⟨a,rfl,.inl ⟨⟨xs,Fd.of h1⟩,zh h1 h2⟩⟩
 ·cases e;obtain⟨a,xs,o,rfl,h1,h2,rfl⟩:=w;exact⟨a,rfl,.inl ⟨⟨xs,.inl<|.inr ⟨o,h1⟩⟩,zi h1 h2⟩⟩
 ·cases e
theorem dN{g:M Opd}(h:VO X l g):VI X tg l (bu g):=by
 refine jd (zg h) fun σ H Rk ⟨D,F,r,D',st,nd,hg,q⟩=>?_;obtain⟨⟨x,D1⟩,h1,h2⟩:=Z8.mp hg;refine⟨D,F,x,D1,st,nd,h1,fun v H1 F1 R q_ o1 s1=>?_⟩;cases x with
 | vl d=>
  obtain⟨ds,h3,h4⟩:=Z2.mp h2;cases h4;obtain⟨a,rfl,hh⟩:=qM (K:=X.K) o1 h3;refine⟨a,rfl,?_⟩;rcases hh with ⟨hx,it⟩ | ⟨hx,it⟩
  ·exact .inl ⟨hx,q _ H1 F1 R q_ it trivial (Own.chg o1) s1⟩
  ·exact .inr ⟨hx,q _ H1 F1 R q_ it trivial (Own.chg o1) s1⟩
 | sl i=>
  obtain⟨⟨d,D2⟩,h3,h4⟩:=Z8.mp h2;obtain⟨ds,h5,h6⟩:=Z2.mp h4;cases h6;obtain⟨v',F2,R2,g1,g2,g3,g4⟩:=qF q_ h3;obtain⟨o1,rfl⟩:=o1;rw[o1] at g1;cases g1;rw[ZO] at s1;have s2:=s1.Fy g4.symm;obtain⟨a,rfl,hh⟩:=qM (K:=X.K) g2 h5;have ln:jc H1 σ R2 (if d.cp=true then none else some (i,d)):=by
   split
   ·trivial
   ·exact⟨_,o1,g2⟩
  refine⟨a,rfl,?_⟩;rcases hh with ⟨hx,it⟩ | ⟨hx,it⟩
  ·exact .inl ⟨hx,q _ H1 F2 R2 g3 it ln g2.chg s2⟩
  ·exact .inr ⟨hx,q _ H1 F2 R2 g3 it ln g2.chg s2⟩
theorem zk{g:M Vl}:∀ D r D',bu (oV g) D=some (r,D')->fM fx r.2:=by
 intro D r D' h;obtain⟨⟨x,D1⟩,h1,h2⟩:=Z8.mp h;unfold oV at h1;obtain⟨p,h3,h4⟩:=Z2.mp h1;cases h4;obtain⟨ds,h5,h6⟩:=Z2.mp h2;cases h6
 trivial
variable{i:Nat}
theorem mM(hi:i∈fx):∀ D r D',bu (oSl i) D=some (r,D')->fM fx r.2:=by
 intro D r D' h;obtain⟨⟨x,D1⟩,h1,h2⟩:=Z8.mp h;unfold oSl at h1;split at h1
 ·cases h1;obtain⟨⟨d,D2⟩,h3,h4⟩:=Z8.mp h2;obtain⟨ds,h5,h6⟩:=Z2.mp h4;cases h6;show fM fx (if d.cp=true then none else some (i,d));split
  ·trivial
  ·exact hi
 ·cases h1
def bo(lo:Int)(n:Nat):List Im:=(range n).map fun (k:Nat)=>Im.int (lo+(k:Int))
theorem qN{lo:Int}:GL (L5 lo n) H [] (bo lo n) where
 go:=fun H' t k i d e=>by
  have hi:i<n:=by
   have:=(Zv.mp e).1
   rwa [bo,Z3,Zk] at this
  refine⟨hi,fun x JV ⟨e1,e2⟩=>?_⟩;subst e1;rw[bo,ZB,XN hi] at e;cases e;exact⟨aH.refl _,e2⟩
 stop:=fun H' t k=>by
  show n<=_;rw[bo,Z3,Zk];exact ZV _
def fN(i:Int):Prop := -1000000<=i/\i<=1000000
instance (i:Int):Decidable (fN i):=inferInstanceAs (Decidable<|_/\_)
@[simp] def iR1(g:M (List Opd)):MI:=fun D=>(g D).bind fun p=>(ce p.2 p.1).bind fun ds=>match ds with
 | [.im (.int j)]=>if fN j then some ((bo 0 j.toNat,none),p.2) else none
 | _=>none
@[simp] def iR2(g:M (List Opd)):MI:=fun D=>(g D).bind fun p=>(ce p.2 p.1).bind fun ds=>match ds with
 | [.im (.int i),.im<|.int j]=>if fN i/\fN j then some ((bo i (j - i).toNat,none),p.2) else none
 | _=>none
theorem mN{d:Im}(h:fI H [.im d] vs):∃ v,vs=[v]/\E7 H d v:=by
 obtain⟨v,r,rfl,⟨R,h1,_⟩,h2⟩:=h;cases (show r=[] from h2);exact⟨v,rfl,h1⟩
theorem qO{d e:Im}(h:fI H [.im d,.im e] vs):∃ v u,vs=[v,u]/\E7 H d v/\E7 H e u:=by
 obtain⟨v,r,rfl,⟨R,h1,_⟩,h2⟩:=h;obtain⟨u,rfl,h3⟩:=mN h2;exact⟨v,u,rfl,h1,h3⟩
theorem gx(hg:Gl X "range")(hm:X.mg "range" = none)(ha:VA X [a] g)(hs:starEach [a] X.env=[(false,eval a X.env)]:=by rfl):VI X tg (.Call (.Name "range" p) [a] [] pos) (iR1 g):=by
 refine jd (wE hg hm ha hs) fun σ H Rk ⟨D,F,r,D',st,nd,Gc,q⟩=>?_;obtain⟨⟨os,D1⟩,h1,h2⟩:=Z8.mp Gc;obtain⟨ds,h3,h4⟩:=Z8.mp h2;refine⟨D,F,os,D1,st,nd,h1,fun vs H1 F1 R1 q_ o1 s1=>?_⟩;have rd:=o1.read q_ h3;split at h4
 ·rename_i j;split at h4
  ·rename_i hj;cases h4;obtain⟨v,rfl,e⟩:=mN rd;cases (show v=.int j from e);exact⟨j,rfl,by have:=hj.1;lia,by have:=hj.2;lia,q _ H1 F1 [] q_ qN trivial (fun a ha=>nomatch ha) (by rw[ZO];exact s1.less (ZC _))⟩
  ·cases h4
 ·cases h4
theorem zl(hg:Gl X "range")(hm:X.mg "range" = none)(ha:VA X [a,b] g)(hs:starEach [a,b] X.env=[(false,eval a X.env),(false,eval b X.env)]:=by rfl)(GV:starEach [b] X.env=[(false,eval b X.env)]:=by rfl):VI X tg (.Call (.Name "range" p) [a,b] [] pos) (iR2 g):=by
 refine jd (wF hg hm ha hs GV) fun σ H Rk ⟨D,F,r,D',st,nd,Gc,q⟩=>?_;obtain⟨⟨os,D1⟩,h1,h2⟩:=Z8.mp Gc;obtain⟨ds,h3,h4⟩:=Z8.mp h2;refine⟨D,F,os,D1,st,nd,h1,fun vs H1 F1 R1 q_ o1 s1=>?_⟩;have rd:=o1.read q_ h3;split at h4
 ·rename_i i j;split at h4
  ·rename_i hj;cases h4;obtain⟨v,u,rfl,e,e'⟩:=qO rd;cases (show v=.int i from e);cases (show u=.int j from e');obtain⟨⟨a1,a2⟩,b1,b2⟩:=hj;exact⟨i,j,rfl,⟨by lia,by lia,by lia,by lia⟩,q _ H1 F1 [] q_ qN trivial (fun a ha=>nomatch ha) (by rw[ZO];exact s1.less (ZC _))⟩
  ·cases h4
 ·cases h4
theorem hV:∀ D r D',iR1 g D=some (r,D')->fM fx r.2:=by
 intro D r D' h;obtain⟨⟨os,D1⟩,h1,h2⟩:=Z8.mp h;obtain⟨ds,h3,h4⟩:=Z8.mp h2;split at h4
 ·split at h4
  ·cases h4;trivial
  ·cases h4
 ·cases h4
theorem zm:∀ D r D',iR2 g D=some (r,D')->fM fx r.2:=by
 intro D r D' h;obtain⟨⟨os,D1⟩,h1,h2⟩:=Z8.mp h;obtain⟨ds,h3,h4⟩:=Z8.mp h2;split at h4
 ·split at h4
  ·cases h4;trivial
  ·cases h4
 ·cases h4
def NO(X:Cx)(ifs:List Expr)(g:M Bool):Prop:=∀ ⦃p⦄,qg X ifs (IE g) p
def kYes:M Bool:=fun D=>some (true,D)
theorem fO:NO X [] kYes:=by
 intro pins s σ H Q I ⟨D,F,b,D',st,nd,hg,q⟩;cases hg;exact yv pins s σ H Q I (q H F st<|o_.perm nd<|ZC _)
theorem kF{g:M Bool}(h:VT X c g):NO X [c] g:=yw h
@[simp] def d6(caps:List Nat)(D:SD):SD:=caps.map fun i=>D.getD i none
def d7:List Nat->SD->SD
 | [],D=>D
 | i::r,D=>d7 r (match D[i]? with | some (some _)=>D.set i (some .jk) | _=>D)
@[simp] def df:List Nat->SD->SD->SD
 | i::r,o::C,D=>df r C (D.set i o)
 | _,_,D=>D
def cG(own : Nat)(tg : MG)(c : M Bool)(e : M Vl): List Im -> List Im -> SD -> Option (List Im × SD)
  | [], acc, C => some (acc, C)
  | x :: r, acc, C => (tg (.im x)<|List.replicate own none ++ C).bind fun D1 => (c D1).bind fun p => if p.1 = true then (e p.2).bind fun q => match q.1 with
      | .im d => if acc.length < 100000 then cG own tg c e r (acc ++ [d]) (q.2.drop own) else none
      | _ => none
    else cG own tg c e r acc (p.2.drop own)
@[simp] def a9(own:Nat)(caps:List Nat)(gi:MI)(tg:MG)(c:M Bool)(e:M Vl):M Vl:=fun D=>(gi D).bind fun p=>(cG own tg c e p.1.1 []<|d6 caps p.2).map fun q=>(.lst q.1,rst p.1.2<|df caps q.2 p.2)
def je(own n:Nat):List Nat:=(range n).map (·+own)
theorem zn(h:D[i]?=some o):D.getD i none=o:=by rw[Z5,h];rfl
theorem ao.void(st:ao H D σ F)(i:Nat):∃ F1 F2,ao H (match D[i]? with | some (some _)=>D.set i (some .jk) | _=>D) σ F1/\fE H (D.getD i none) (σ.getD i none) F2/\(F1++F2).Perm F:=by
 split
 ·rename_i d hd;obtain⟨v,F1,F2,h1,h2,h3,h4⟩:=st.out hd;refine⟨F2,F1,h3,?_,h4⟩;rw[zn hd,Z5,h1];exact⟨v,rfl,h2⟩
 ·rename_i hn;refine⟨F,[],st,?_,by rw[ZO]⟩;have:D.getD i none=none:=by
   rw[Z5];cases e:D[i]? with
   | none=>rfl
   | some o=>
    cases o with
    | none=>rfl
    | some d=>exact absurd e (hn d)
  rw[this];exact rfl
theorem qP{H:Hp}{σ:St}:∀ {caps:List Nat}{D:SD}{F:List Addr},caps.Nodup->ao H D σ F->∃ F1 F2,ao H (d7 caps D) σ F1/\ao H (d6 caps D) (caps.map fun i=>σ.getD i none) F2/\(F1++F2).Perm F
 | [],D,F,_,st=>⟨F,[],st,⟨rfl,rfl⟩,by rw[ZO]⟩
 | i::r,D,F,nd,st=>by
  obtain⟨F1,F2,h1,h2,h3⟩:=st.void i;have hn:=YO.mp nd;obtain⟨F3,F4,g1,g2,g3⟩:=qP (caps:=r) hn.2 h1;refine⟨F3,F2++F4,g1,⟨_,_,F2,F4,rfl,h2,?_,rfl⟩,dZ.trans<|(ZL _ g3).trans<|ZT.trans h3⟩;have e:d6 r (match D[i]? with | some (some _)=>D.set i (some .jk) | _=>D)=d6 r D:=by
   unfold d6;refine Wk fun j hj=>?_;split
   ·rw[Z5,Z5,Yq];rintro rfl;exact hn.1 hj
   ·rfl
  rw[e] at g2;exact g2
theorem ao.OW(st:ao H D σ F)(h:fE H o (σ.getD i none) G):∃ F1 F2,ao H (D.set i o) σ F1/\(F1++F2).Perm (F++G):=by
 cases o with
 | some d=>
  obtain⟨v,e,w⟩:=h;refine st.back w ?_;rw[Z5] at e;cases q:σ[i]? with
  | none=>rw[q] at e;cases e
  | some x=>rw[q] at e;rw[show x=some v from e]
 | none=>
  cases (show G=[] from h);rw[ZO];by_cases hi:i<D.length
  ·cases q:D[i]? with
   | none=>exact absurd (List.getElem?_eq_none_iff.mp q) (by lia)
   | some x=>
    cases x with
    | none=>
     refine⟨F,[],?_,by rw[ZO]⟩;have:D.set i none=D:=by
      refine Yi fun j=>?_;by_cases e:i=j
      ·subst e;rw[q,XC hi]
      ·rw[Yq e]
     rw[this];exact st
    | some d=>
     obtain⟨v,F1,F2,h1,h2,h3,h4⟩:=st.out q;have gen:∀ {D:SD}{σ:St}{F:List Addr}{i:Nat},ao H D σ F->∃ F1 F2,ao H (D.set i none) σ F1/\(F1++F2).Perm F:=by
      intro D;induction D with
      | nil=>intro σ F i st;exact⟨F,[],by simpa using st,by rw[ZO]⟩
      | cons o D ih=>
       intro σ F i st;obtain⟨x,r,A,B,rfl,s1,s2,rfl⟩:=st;cases i with
       | zero=>exact⟨B,A,⟨x,r,[],B,rfl,rfl,s2,rfl⟩,ZT⟩
       | succ i=>
        obtain⟨C,E,c1,c2⟩:=ih (i:=i) s2;refine⟨A++C,E,⟨x,r,A,C,rfl,s1,c1,rfl⟩,?_⟩;rw[Z4];exact ZL _ c2
     exact gen st
  ·refine⟨F,[],?_,by rw[ZO]⟩;rw[List.set_eq_of_length_le (by lia)];exact st
theorem qQ{H:Hp}{σ:St}:∀ {caps:List Nat}{C D:SD}{F G:List Addr},ao H D σ F->ao H C (caps.map fun i=>σ.getD i none) G->∃ F1 F2,ao H (df caps C D) σ F1/\(F1++F2).Perm (F++G)
 | [],C,D,F,G,st,_=>⟨F,G,by cases C<;>exact st,ZC _⟩
 | i::r,[],D,F,G,st,h=>⟨F,G,st,ZC _⟩
 | i::r,o::C,D,F,G,st,h=>by
  obtain⟨x,t,G1,G2,e,h1,h2,rfl⟩:=h;cases e;obtain⟨F1,A,g1,g2⟩:=st.OW h1;obtain⟨F2,B,k1,k2⟩:=qQ (caps:=r) (C:=C) g1 h2;refine⟨F2,B++A,k1,?_⟩;rw[<- Z4,<- Z4];refine (ZE A k2).trans ?_;rw[Z4];refine (ZL F1 ZT).trans ?_;rw[<- Z4];exact ZE _ g2
theorem zo:∀ {caps:List Nat}{C D:SD},caps.length=C.length->caps.Nodup->df caps C (d7 caps D)=df caps C D:=by
 have comm:∀ {r:List Nat}{C D:SD}{i:Nat}{o:Option Vl},i∉r->df r C (D.set i o)=(df r C D).set i o:=by
  intro r;induction r with
  | nil=>intro C D i o _;cases C<;>rfl
  | cons j r ih=>
   intro C D i o h;cases C with
   | nil=>rfl
   | cons c C=>
    have hj:i≠j:=fun e=>h (by rw[e];exact .head _);show df r C ((D.set i o).set j c)=(df r C<|D.set j c).set i o;rw[Vk _ _ hj,ih fun z=>h<|.tail _ z]
 have Jb:∀ {r:List Nat}{D:SD}{i:Nat}{o:Option Vl},i∉r->d7 r (D.set i o)=(d7 r D).set i o:=by
  intro r;induction r with
  | nil=>intro D i o _;rfl
  | cons j r ih=>
   intro D i o h;have hj:i≠j:=fun e=>h (by rw[e];exact .head _);show d7 r (match (D.set i o)[j]? with | some (some _)=>(D.set i o).set j (some .jk) | _=>D.set i o)=(d7 r (match D[j]? with | some (some _)=>D.set j (some .jk) | _=>D)).set i o;rw[Yq hj];cases D[j]? with
   | none=>exact ih fun z=>h (.tail _ z)
   | some q=>
    cases q with
    | none=>exact ih fun z=>h (.tail _ z)
    | some d=>
     show d7 r ((D.set i o).set j<|some .jk)=_;rw[Vk _ _ hj];exact ih fun z=>h (.tail _ z)
 intro caps;induction caps with
 | nil=>intro C D _ _;cases C<;>rfl
 | cons i r ih=>
  intro C D hl nd;have hn:=YO.mp nd;cases C with
  | nil=>cases hl
  | cons c C=>
   have Gn:r.length=C.length:=by simpa using hl
   show df r C ((d7 r (match D[i]? with | some (some _)=>D.set i (some .jk) | _=>D)).set i c)=df r C (D.set i c);split
   ·rw[Jb hn.1,Vd,<- Jb hn.1,ih Gn hn.2]
   ·rw[<- Jb hn.1,ih Gn hn.2]
theorem qR{H:Hp}{D:SD}{r:St}{F:List Addr}(h:ao H D r F):∀ {own:List Str},ao H (List.replicate own.length none++D) (own.map (fun _=>none)++r) F
 | []=>h
 | x::own=>⟨none,_,[],F,rfl,rfl,qR h (own:=own),rfl⟩
theorem mO{H:Hp}:∀ {n:Nat}{D:SD}{σ:St}{F:List Addr},ao H D σ F->∃ F1 F2,ao H (D.drop n) (σ.drop n) F1/\(F1++F2).Perm F
 | 0,D,σ,F,h=>⟨F,[],h,by rw[ZO]⟩
 | n+1,[],σ,F,h=>by
  cases h.1;exact⟨[],F,⟨rfl,rfl⟩,ZC _⟩
 | n+1,o::D,σ,F,h=>by
  obtain⟨x,r,A,B,rfl,h1,h2,rfl⟩:=h;obtain⟨F1,F2,g1,g2⟩:=mO (n:=n) h2;exact⟨F1,F2++A,g1,by rw[<- Z4];exact (ZE A g2).trans ZT⟩
theorem o_.both(a:o_ H F H1 (F1++R)):o_ H F H1 F1:=a.less (ZC _)
theorem am.snoc:∀ {ds:List Im}{vs:List V}{d:Im}{v:V},am H ds vs->E7 H d v->am H (ds++[d]) (vs++[v])
 | [],vs,d,v,h,w=>by cases (show vs=[] from h);exact⟨v,[],rfl,w,rfl⟩
 | e::ds,vs,d,v,h,w=>by
  obtain⟨u,r,rfl,h1,h2⟩:=h;exact⟨u,r++[v],rfl,h1,h2.snoc w⟩
variable{gi:MI}
theorem qS(nd:caps.Nodup)(h:tV (a9 own.length caps gi gt gc ge) σ H Q):
  ko own caps (tI gi) (fun _=>tG (je own.length caps.length) gt) (fun _=>IE gc) (fun _=>tV ge) σ H Q:=by
 obtain⟨D,F,r,D',st,RT,Gc,q⟩:=h;obtain⟨⟨⟨xs,o⟩,D1⟩,h1,h2⟩:=Z8.mp Gc;obtain⟨⟨ds,C'⟩,h3,h4⟩:=Z2.mp h2;cases h4;refine⟨D,F,(xs,o),D1,st,RT,h1,fun J H1 F1 R q_ it ln cR s1 Y=>?_⟩;obtain⟨Fo,Fc,so,sc,pm⟩:=qP nd q_;have s2:o_ H F H1 (Fc++(Fo++R)):=s1.Fy (by
  refine (ZE R pm.symm).trans ?_;rw[Z4];exact dZ)
 have Hn:=ZH.mp s2.nd;have cO:∀ x∈Fo++R,G_ H1 x:=fun x hx=>by
  rcases ZA.mp hx with hx | hx
  ·exact so.chg x hx
  ·exact cR x hx
 have HN:∀ {H2:Hp}{F2:List Addr},o_ H1 Fc H2 F2->∀ a∈Fo++R,∀ u,H1 a=some u->H2 a=some u:=fun s a ha u e=>s.keep a u e fun h=>Hn.2.2 a h a ha rfl;refine⟨fun i m ys H'=>m+i=xs.length/\∃ acc C K_,ao H' C (caps.map fun i=>σ.getD i none) K_/\C.length=caps.length/\o_ H1 Fc H' K_/\am H' acc ys/\cG own.length gt gc ge (xs.drop i) acc C=some (ds,C'),
  ⟨xs.length,rfl,[],d6 caps D1,Fc,sc,by rw[d6,Z3],o_.perm Hn.1<|ZC _,rfl,h3⟩,?_⟩;rintro i m ys H' ⟨hm,acc,C,K_,sC,lC,s',NP,hw⟩;by_cases Gb:i<xs.length
 ·obtain⟨OU,hy⟩:=it.go H' s'.tup (fun a ha=>HN s' a<|ZI _ ha) i xs[i] (by simp[Gb]);rw[Y3 Gb,cG] at hw;obtain⟨D3,w1,w2⟩:=Z8.mp hw;obtain⟨⟨b,D4⟩,w3,w4⟩:=Z8.mp w2;refine .inr ⟨OU,fun Qk H2=>(m - 1)+(i+1)=xs.length/\∃ acc C K_,ao H2 C (caps.map fun i=>σ.getD i none) K_/\C.length=caps.length/\o_ H1 Fc H2 K_/\am H2 acc Qk/\cG own.length gt gc ge (xs.drop<|i+1) acc C=some (ds,C'),fun Qk H2 h=>⟨m - 1,by lia,h⟩,fun x H2 hx=>?_⟩;obtain⟨sm,OV⟩:=hy x H2 hx;have RU:=sC.mono sm.tupS fun a _ o e=>sm a o e;have Ql:=s'.same sm;have JY:=NP.mono sm.tupS.tup;refine⟨List.replicate own.length none++C,K_,.im xs[i],[],D3,qR RU,⟨OV,rfl⟩,by rw[ZO];exact Ql.nd,w1,fun σ3 H3 F3 JW FM sg=>⟨fun j v hj=>?_,?_⟩⟩
  ·
   have hlen:own.length<=j:=by
    by_cases RV:j<own.length
    ·rw[dJ,Y4 (by simpa using RV),ZB] at hj;cases e:own[j]? with
     | none=>rw[e] at hj;cases hj
     | some z=>rw[e] at hj;cases hj
    ·lia
   have RW:j<own.length+caps.length:=by
    have:=(Zv.mp hj).1
    rwa [dJ,ZR,Z3,Z3] at this
   have hm:j∈je own.length caps.length:=Zl.mpr ⟨j - own.length,Zi.mpr (by lia),by lia⟩;exact (JW.2 j hm).trans hj
  ·have s3:o_ H1 Fc H3 F3:=Ql.seq (by rw[ZO] at sg;exact sg);have JY:=JY.mono sg.tup.tup;have Jc:σ3.drop own.length=caps.map fun i=>σ.getD i none:=by
    have Tq:=FM.len;refine Yi fun j=>?_;by_cases hj:j<caps.length
    ·have hm:j+own.length∈je own.length caps.length:=Zl.mpr ⟨j,Zi.mpr hj,rfl⟩;have:=JW.2 _ hm;rw[YF,Vw,this,dJ,Y6 (by simp),Z3,Nat.add_sub_cancel]
    ·have l1:σ3.length<=own.length+caps.length:=by
      rw[JW.1,dJ,ZR,Z3,Z3];exact ZV _
     rw[YV (by rw[Zm];lia),YV (by rw[Z3];lia)]
   have lσ:σ3.length=own.length+caps.length:=by rw[JW.1,dJ,ZR,Z3,Z3]
   refine⟨D3,F3,b,D4,FM,s3.nd,w3,fun H4 F4 FY s4=>?_⟩;have s5:=s3.seq s4;dsimp only at w4 ⊢;cases b with
   | false=>
    rw[ZW ZM] at w4 ⊢;obtain⟨F5,G5,Ge,JX⟩:=mO (n:=own.length) FY;rw[Jc] at Ge;exact⟨by lia,acc,D4.drop own.length,F5,Ge,by rw[Zm,FY.len,lσ];lia,s5.less JX,JY.mono s4.tup.tup,w4⟩
   | true=>
    rw[ZY rfl] at w4 ⊢;obtain⟨⟨v,D5⟩,w5,w6⟩:=Z8.mp w4;dsimp only at w6;split at w6
    ·rename_i d;split at w6
     ·rename_i hl;refine⟨D4,F4,.im d,D5,FY,s5.nd,w5,fun u H5 F5 R5 Ge ow s6=>?_⟩;obtain⟨iu,rfl⟩:=ow;rw[ZO] at s6;have Gv:=(JY.mono s4.tup.tup).mono s6.tup.tup;refine⟨W2 (show ys.length<=100000 by rw[<- Gv.length];lia) (by decide),?_⟩;obtain⟨F6,G6,Qm,RX⟩:=mO (n:=own.length) Ge;rw[Jc] at Qm;exact⟨by lia,acc++[d],D5.drop own.length,F6,Qm,by rw[Zm,Ge.len,lσ];lia,(s5.seq s6).less RX,Gv.snoc iu,w6⟩
     ·cases w6
    ·cases w6
 ·have hi:i=xs.length:=by lia
  subst hi;refine .inl ⟨it.stop H' s'.tup<|fun a ha=>HN s' a<|ZI _ ha,fun Dn Qn=>?_⟩;rw[X5 (ZV _),cG] at hw;cases hw;have RY:ao H' (d7 caps D1) σ Fo:=so.mono s'.tup fun a ha=>HN s' a (Zw _ ha);obtain⟨F4,G4,FY,Ms⟩:=qQ RY sC;rw[zo (by rw[lC]) nd] at FY;have RZ:jc H' σ R o:=by
   cases o with
   | none=>trivial
   | some p=>
    obtain⟨i,d⟩:=p;obtain⟨v,e1,e2⟩:=ln;exact⟨v,e1,e2.mono s'.tup fun a ha=>HN s' a<|ZI _ ha⟩
  obtain⟨F5,G5,Ge,JX⟩:=mL (R:=R) FY RZ;have sm:aH H' (upd H' Dn<|.lst ys):=(aH.refl H').upd Qn;have s5:o_ H F H' F5:=(s2.trans s' cO).less (C:=G5++G4) (by
   rw[<- Z4];refine (ZE G4 JX).trans ?_;rw[Z4];refine (ZL F4 ZT).trans ?_;rw[<- Z4];refine (ZE R Ms).trans ?_;rw[Z4];exact dZ)
  exact q _ _ F5 [Dn] (Ge.mono sm.tupS fun a _ o e=>sm a o e) ⟨Dn,ys,rfl,bm,NP.mono sm.tupS.tup,rfl⟩ (s5.add Qn Ge.chg)
theorem fP{elt:Expr}{ifs:List Expr}{scope:Scope}(hc:X.calm=true)(S:t_ X scope own caps)(nd:caps.Nodup)(hi:VI X tg iter gi)(hg:∀ Y,VG (X.GW (bP X own caps) scope Y) (je own.length caps.length) tg gt)(ht:∀ Y,NO (X.GW (bP X own caps) scope Y) ifs gc)(he:∀ Y,VE (X.GW (bP X own caps) scope Y) elt ge)(hs:∀ x,foldedSetIterable iter X.env x=pure x:=by intro _;rfl):VE X (.ListComp elt [⟨tg,iter,ifs,0⟩] scope pos) (a9 own.length caps gi gt gc ge):=
 be (yz hc S hi hg ht he hs) fun σ H Q h=>qS nd h
end
@[simp] def dv(fix:List Nat):List Vl->SD->Nat->List Vl
 | d::ds,o::D,j=>(if d.cp=true then d else if j∈fix then o.getD .jk else .jk)::dv fix ds D (j+1)
 | d::ds,[],j=>(if d.cp=true then d else .jk)::dv fix ds [] (j+1)
 | [],_,_=>[]
@[simp] def bj(n m:Nat)(fix:List Nat)(g:MS):Fn:=fun ds=>if ds.length=n then match g (ds.map some++List.replicate (m - n) none) with
 | some (.rt r,D)=>some (r,dv fix ds D 0)
 | some (.nx,D)=>some (.im .l_,dv fix ds D 0)
 | _=>none else none
theorem qT{H:Hp}:∀ {ds:List Vl}{vs:List V}{F:List Addr}{m:Nat},aV H ds vs F->ao H (ds.map some++List.replicate m none) (vs.map some++List.replicate m none) F
 | [],vs,F,m,h=>by
  obtain⟨rfl,rfl⟩:=h;show ao H (List.replicate m none) (List.replicate m none) [];induction m with
  | zero=>exact⟨rfl,rfl⟩
  | succ m ih=>exact⟨none,_,[],[],rfl,rfl,ih,rfl⟩
 | d::ds,vs,F,m,h=>by
  obtain⟨v,r,F1,F2,rfl,h1,h2,rfl⟩:=h;exact⟨some v,_,F1,F2,rfl,⟨v,rfl,h1⟩,qT h2,rfl⟩
theorem mP{H H':Hp}{fix:List Nat}(t:w_ H H'):∀ {ds:List Vl}{vs:List V}{F0:List Addr}{D:SD}{σ:St}{F:List Addr}{j0:Nat},aV H ds vs F0->ao H' D σ F->(∀ (j:Nat) (v:V),(j0+j)∈fix->vs[j]?=some v->σ[j]?=some (some v))->
  ∃ R G,aV H' (dv fix ds D j0) vs R/\(R++G).Perm F
 | [],vs,F0,D,σ,F,j0,h,st,_=>⟨[],F,by unfold dv;exact⟨h.1,rfl⟩,ZC _⟩
 | d::ds,vs,F0,[],σ,F,j0,h,st,k=>by
  obtain⟨v,r,A,B,rfl,h1,h2,rfl⟩:=h;obtain⟨rfl,rfl⟩:=st;obtain⟨R,G,g1,g2⟩:=mP (D:=[]) (σ:=[]) (F:=[]) (j0:=j0+1) t h2 ⟨rfl,rfl⟩ fun j v hj hv=>by
   have:=k (j+1) v (by rw[show j0+(j+1)=j0+1+j by lia];exact hj) (by simpa using hv);simp at this
  rw[dv];refine⟨R,G,⟨v,r,[],R,rfl,?_,g1,rfl⟩,g2⟩;split
  ·rename_i hc;have:=h1.mono t fun a ha=>by rw[h1.cp hc] at ha;cases ha
   rw[h1.cp hc] at this;exact this
  ·exact rfl
 | d::ds,vs,F0,o::D,σ,F,j0,h,st,k=>by
  obtain⟨v,r,A,B,rfl,h1,h2,rfl⟩:=h;obtain⟨x,s,C,E,rfl,s1,s2,rfl⟩:=st;obtain⟨R,G,g1,g2⟩:=mP (D:=D) (σ:=s) (j0:=j0+1) t h2 s2 fun j v hj hv=>by
   have:=k (j+1) v (by rw[show j0+(j+1)=j0+1+j by lia];exact hj) (by simpa using hv);simpa using this
  rw[dv];split
  ·rename_i hc;have hm:=h1.mono t fun a ha=>by rw[h1.cp hc] at ha;cases ha
   rw[h1.cp hc] at hm;refine⟨R,G++C,⟨v,r,[],R,rfl,hm,g1,rfl⟩,?_⟩;rw[<- Z4];exact (ZE C g2).trans ZT
  ·split
   ·rename_i hf;have hx:x=some v:=by
     have:=k 0 v hf rfl;simpa using this
    subst hx;cases o with
    | none=>
     refine⟨R,G++C,⟨v,r,[],R,rfl,rfl,g1,rfl⟩,?_⟩;rw[<- Z4];exact (ZE C g2).trans ZT
    | some e=>
     obtain⟨v',e1,w⟩:=s1;cases e1;refine⟨C++R,G,⟨v,r,C,R,rfl,w,g1,rfl⟩,?_⟩;rw[Z4];exact ZL _ g2
   ·refine⟨R,G++C,⟨v,r,[],R,rfl,rfl,g1,rfl⟩,?_⟩;rw[<- Z4];exact (ZE C g2).trans ZT
section
variable{P:Program}{w:World}{K:PySem.W.Frag}{mg:Str->Option Value}{base:Heap}
theorem R8{qual:Str}{f:Addr}{N:List Str}{k:Nat}{g:MS}(F:Hm K x qual st f fd)(S:k_ N ps (aB st))(hn:ps.length=n)(Qo:∀ i∈fix,i<n)(hb:∀ (u_:Value) (A:Around) (outer:List Env) (s:Shared) (H:Hp) (E:XK),E8 k (A.deeper<|envOfC qual (aB st) s.heap.objs.size f u_)->I_ (fw HM P w K mg base N qual (aB st) f u_ A outer s H E).Lr fix (cP st) g):
  FJ P w K mg base HM (k+1) f fd ps (IZ n<|bj n N.length fix g):=by
 refine F.ok S (fun vs H Q E h=>h.1.trans hn.symm) (fun u_ A outer s H vs Q E hr h=>⟨_,hb u_ A outer s H E hr,?_⟩);obtain⟨hl,ds,F0,r,outs,ow,nd,hg,q⟩:=h;have LG:ds.length=n:=ow.length.trans hl;unfold bj at hg;rw[ZY LG] at hg;have st:=qT (m:=N.length - n) ow;have es:dX N vs=vs.map some++List.replicate (N.length - n) none:=by unfold dX;rw[hl]
 rw[es];have fin:∀ {σ':St}{H':Hp}{F':List Addr}{D':SD}{v:V}{R:List Addr},dv fix ds D' 0=outs->aP fix (vs.map some++List.replicate (N.length - n) none) σ'->ao H' D' σ' F'->Own H' r v R->o_ H F0 H' (F'++R)->Q v H':=fun {σ' H' F' D' v R} eo fx g_ wr s'=>by
  obtain⟨R2,G,g1,g2⟩:=mP (fix:=fix) (j0:=0) s'.tup ow g_ fun j v hj hv=>by
   rw[Nat.zero_add] at hj;rw[fx.2 j hj,Y4 (by rw[Z3];exact (Zv.mp hv).1),ZB,hv];rfl
  rw[eo] at g1;refine q v H' R R2 wr g1 (s'.less (C:=G) ?_);rw[Z4];exact (ZL R g2).trans ZT
 split at hg
 ·rename_i r' D' e;cases hg;exact⟨_,F0,.rt r,D',st,nd,e,fun v σ' H' F' R fx g_ wr s'=>fin rfl fx g_ wr s'⟩
 ·rename_i D' e;cases hg;exact⟨_,F0,.nx,D',st,nd,e,fun σ' H' F' fx g_ s'=>fin rfl fx g_ ⟨rfl,rfl⟩ (by rw[ZO];exact s')⟩
 ·cases hg
end
def Out(H:Hp)(d:Vl)(Q:VK):Prop:=∀ v H' R,aH H H'->Own H' d v R->R.Nodup->(∀ a∈R,H a=none)->Q v H'
theorem Out.Qq{d:Im}(q:Out H (.im d) Q)(s:aH H H')(h:E7 H' d v):Q v H':=q v H' [] s ⟨h,rfl⟩ YG (fun a ha=>nomatch ha)
theorem Out.i{d:Im}(q:Out H (.im d) Q)(h:E7 H d v):Q v H:=q.Qq (aH.refl H) h
theorem Out.l{p:Addr}(q:Out H (.lst ds) Q)(hp:H p=none)(h:am H ds xs):Q (.ref p) (upd H p<|.lst xs):=by
 have s:aH H (upd H p<|.lst xs):=(aH.refl H).upd hp;exact q _ _ [p] s ⟨p,xs,rfl,bm,h.mono s.tupS.tup,rfl⟩ (Zz _ _) fun a ha=>by rw[ZZ.mp ha];exact hp
theorem Out.t{p:Addr}(q:Out H (.im<|.tup ds) Q)(hp:H p=none)(h:am H ds xs):Q (.ref p) (upd H p<|.tup xs):=by
 have s:aH H (upd H p<|.tup xs):=(aH.refl H).upd hp;exact q.Qq s ⟨p,xs,rfl,bm,h.mono s.tupS.tup⟩
section
variable{X:Cx}
theorem FD.imp{f:Value->Value->Sem Value}{r:R2}(h:FD X f r)(i:∀ x y H Q,r' x y H Q->r x y H Q):FD X f r':=fun pins s σ H x y v u Q I rx ry hh=>h pins s σ H x y v u Q I rx ry (i x y H Q hh)
theorem bt.imp{f:Value}{r r':List V->Hp->VK->Prop}(h:bt X f r)(i:∀ xs H Q,r' xs H Q->r xs H Q):bt X f r':=fun pins s σ H xs us Q I rx hh=>h pins s σ H xs us Q I rx (i xs H Q hh)
theorem Ie.imp{r:R2}(h:Ie X r)(i:∀ x y H Q,r' x y H Q->r x y H Q):Ie X r':=fun e1 e2 pins s σ H x y v u Q I rx ry hh=>h e1 e2 pins s σ H x y v u Q I rx ry (i x y H Q hh)
theorem Gi.i{d:Im}(h:Gi H (.im d) v):E7 H d v:=h.elim fun _ w=>w.1
end
abbrev Op2:=Vl->Vl->Option Vl
@[simp] def dg(C:Int->Int->Bool)(g:Int->Int->Im):Op2:=fun a b=>match a,b with
 | .im (.int i),.im (.int j)=>if C i j=true then some (.im<|g i j) else none
 | _,_=>none
theorem qU{C:Int->Int->Bool}{g:Int->Int->Im}{a b:Vl}(h:dg C g a b=some d):∃ i j,a=.im (.int i)/\b=.im (.int j)/\C i j=true/\d=.im (g i j):=by
 unfold dg at h;split at h
 ·rename_i i j;split at h
  ·rename_i hc;cases h;exact⟨i,j,rfl,rfl,hc,rfl⟩
  ·cases h
 ·cases h
section
variable{X:Cx}
variable{f:Value->Value->Sem Value}{g:Int->Int->V}{h:Int->Int->Im}
theorem kG{C:Int->Int->Prop}{B:Int->Int->Bool}(o:FD X f (rI C g))(hB:∀ i j,B i j=true->C i j)(hg:∀ H i j,E7 H (h i j)<|g i j):Gj X f (dg B h):=
 o.imp fun x y H Q ⟨d1,d2,d,r1,r2,e,q⟩=>by
  obtain⟨i,j,rfl,rfl,hc,rfl⟩:=qU e;exact⟨i,j,r1.i,r2.i,hB i j hc,Out.i q<|hg H i j⟩
theorem jf(o:FD X f (JF g))(hg:∀ H i j,E7 H (h i j)<|g i j):Gj X f (dg (fun _ _=>true) h):=
 o.imp fun x y H Q ⟨d1,d2,d,r1,r2,e,q⟩=>by
  obtain⟨i,j,rfl,rfl,hc,rfl⟩:=qU e;exact⟨i,j,r1.i,r2.i,Out.i q<|hg H i j⟩
@[simp] def vSub:Op2:=dg (fun _ _=>true) fun i j=>.int (i - j)
def dO(i j:Int):Bool:=!(decide (Builtin.Int.intBits i > shortFactorBits) && decide (Builtin.Int.intBits j > shortFactorBits) && Builtin.Int.intTooBig (Builtin.Int.intBits i+Builtin.Int.intBits j))
@[simp] def vMul:Op2:=dg dO fun i j=>.int (i * j)
@[simp] def vDiv:Op2:=dg (fun _ j=>decide (0<j/\j<1073741824)) fun i j=>.int (i / j)
@[simp] def vMod:Op2:=dg (fun _ j=>decide (0<j)) fun i j=>.int (i % j)
@[simp] def vPow:Op2:=dg (fun i j=>decide (0<=j/\j<=1000000/\i.natAbs<2 ^ 64)) fun i j=>.int (i ^ j.toNat)
@[simp] def vLt:Op2:=dg (fun _ _=>true) fun i j=>.bl (decide (i<j))
@[simp] def vLe:Op2:=dg (fun _ _=>true) fun i j=>.bl (decide (i<=j))
@[simp] def vGt:Op2:=dg (fun _ _=>true) fun i j=>.bl (decide (j<i))
@[simp] def vGe:Op2:=dg (fun _ _=>true) fun i j=>.bl (decide (j<=i))
theorem bX:Gj X (binaryOp .Sub) vSub:=jf wN fun _ _ _=>rfl
theorem cU:Gj X (binaryOp .Mult) vMul:=kG yZ (fun i j h=>by unfold dO at h;unfold IntMulOk;rw[WT] at h;rw[h];exact ZM) fun _ _ _=>rfl
theorem kJ:Gj X (binaryOp .FloorDiv) vDiv:=kG wO (fun i j h=>show 0<j/\j<1073741824 from Y8 h) fun _ _ _=>rfl
theorem eT:Gj X (binaryOp .Mod) vMod:=kG wP (fun i j h=>Y8 h) fun _ _ _=>rfl
theorem kK:Gj X (binaryOp .Pow) vPow:=kG wQ (fun i j h=>show 0<=j/\j<=1000000/\i.natAbs<2 ^ 64 from Y8 h) fun _ _ _=>rfl
theorem zp:Gj X (compareOp .Lt) vLt:=jf wT fun _ _ _=>rfl
theorem kL:Gj X (compareOp .LtE) vLe:=jf wU fun _ _ _=>rfl
theorem qV:Gj X (compareOp .Gt) vGt:=jf wV fun _ _ _=>rfl
theorem zq:Gj X (compareOp .GtE) vGe:=jf wW fun _ _ _=>rfl
theorem zr:FD X (binaryOp .Add) (fun x y H Q=>∃ a b ys,x=.ref a/\y=.ref b/\E1 X.K H a []/\E1 X.K H b ys/\Q (.ref b) H):=by
 intro pins s σ H x y v u Q I rx ry h;obtain⟨a,b,ys,rfl,rfl,ha,hb,q⟩:=h;cases rx;cases ry;obtain⟨f_,r1,p1,_⟩:=I.tuple ha;obtain⟨FG,r2,p2,_⟩:=I.tuple hb;have e:f_=[]:=r1.Gf.mpr rfl;subst e;obtain⟨⟨cls,dd,data,sl⟩,ho,hc,n,hd⟩:=id p1;obtain⟨⟨Oo,Lv,data2,Lw⟩,KL,L8,n2,hd2⟩:=id p2;simp only at hc hd L8 hd2;subst hc hd L8 hd2;exact concat_meets ⟨_,ho,rfl⟩ ⟨_,KL,rfl⟩ VH seq_tuple_add WZ W1 (Xa _ _) (tuple_addW0 a b _ _ n n2 dd Lv sl Lw rfl) ⟨ho,KL,.ref b,H,I,rfl,q⟩
@[simp] def vAdd:Op2:=fun a b=>match a,b with
 | .im (.int i),.im (.int j)=>some (.im<|.int<|i+j)
 | .im (.tup x),.im (.tup y)=>if x.length+y.length<=100000 then some (.im<|.tup<|x++y) else none
 | .lst x,.lst y=>if x.length+y.length<=100000 then some (.lst<|x++y) else none
 | .im (.str x),.im (.str y)=>if x.length+y.length<=100000 then some (.im<|.str<|x++y) else none
 | _,_=>none
theorem am.app:∀ {a b:List Im}{x y:List V},am H a x->am H b y->am H (a++b) (x++y)
 | [],b,x,y,h,k=>by cases (show x=[] from h);exact k
 | d::a,b,x,y,h,k=>by
  obtain⟨v,r,rfl,h1,h2⟩:=h;exact⟨v,r++y,rfl,h1,h2.app k⟩
theorem am.nil{H:Hp}{a:List Im}(h:am H a []):a=[]:=by
 cases a with
 | nil=>rfl
 | cons d a=>obtain⟨_,_,e,_⟩:=h;cases e
theorem aK:Gj X (binaryOp .Add) vAdd:=by
 refine (wM.or<|zr.or<|xK.or<|yd.or xg).imp fun x y H Q ⟨d1,d2,d,r1,r2,e,q⟩=>?_;unfold vAdd at e;split at e
 ·cases e;exact .inl ⟨_,_,r1.i,r2.i,Out.i q rfl⟩
 ·rename_i a b;split at e
  ·rename_i hl;cases e;obtain⟨p,xs,rfl,h1,h2⟩:=r1.i;obtain⟨p',ys,rfl,h3,h4⟩:=r2.i;refine .inr ?_;by_cases hx:xs=[]
   ·subst hx;cases h2.nil;exact .inl ⟨p,p',ys,rfl,rfl,E1.of h1,E1.of h3,Out.i q ⟨p',ys,rfl,h3,h4⟩⟩
   ·refine .inr (.inl ⟨p,p',xs,ys,rfl,rfl,E1.of h1,E1.of h3,hx,gw (by rw[<- h2.length,<- h4.length];exact hl),fun hy=>?_,fun hy n hn=>Out.t q hn<|h2.app h4⟩);subst hy;cases h4.nil;rw[ZO] at q;exact Out.i q ⟨p,xs,rfl,h1,h2⟩
  ·cases e
 ·rename_i a b;split at e
  ·rename_i hl;cases e;obtain⟨_,p,xs,rfl,h1,h2,_⟩:=r1;obtain⟨_,p',ys,rfl,h3,h4,_⟩:=r2;exact .inr (.inr (.inr (.inl ⟨p,p',xs,ys,rfl,rfl,h1,h3,gw (by rw[<- h2.length,<- h4.length];exact hl),fun n hn=>Out.l q hn<|h2.app h4⟩)))
  ·cases e
 ·rename_i a b;split at e
  ·rename_i hl;cases e;exact .inr (.inr<|.inr<|.inr ⟨a,b,r1.i,r2.i,gw hl,Out.i q rfl⟩)
  ·cases e
 ·cases e
theorem zt(n:Nat){A:Around}{x y:Im}{u v:Value}(kx:Im.pl n x=true)(ky:Im.pl n y=true)(hu:A.units+n+2<cLine)(hx:FF s.heap x u)(hy:FF s.heap y v):SeqAt.RcAt A s u v (aA x y):=by
 cases x with
 | l_=>
  cases (show u=.none from hx);cases y with
  | l_=>cases (show v=.none from hy);exact SeqAt.RcAt.none_none
  | bl b=>cases (show v=.bool b from hy);exact SeqAt.RcAt.none_bool b
  | int j=>obtain⟨t,rfl⟩:=hy;exact SeqAt.RcAt.none_int j t
  | str z=>obtain⟨t,rfl⟩:=hy;exact SeqAt.RcAt.none_str z t
  | tup ds=>obtain⟨a,o,items,m,rfl,h1,h2,h3,_⟩:=hy;exact SeqAt.RcAt.none_tuple ⟨o,h1,h2,m,h3⟩ (by lia)
  | fn a=>cases n<;>cases ky
  | fl a=>cases n<;>cases ky
  | fd=>cases n<;>cases ky
 | bl b=>
  cases (show u=.bool b from hx);cases y with
  | l_=>cases (show v=.none from hy);exact SeqAt.RcAt.bool_none b
  | bl c=>cases (show v=.bool c from hy);exact SeqAt.RcAt.bool_bool b c
  | int j=>obtain⟨t,rfl⟩:=hy;exact SeqAt.RcAt.bool_int b j t
  | str z=>obtain⟨t,rfl⟩:=hy;exact SeqAt.RcAt.bool_str b z t
  | tup ds=>obtain⟨a,o,items,m,rfl,h1,h2,h3,_⟩:=hy;exact SeqAt.RcAt.bool_tuple b ⟨o,h1,h2,m,h3⟩ (by lia)
  | fn a=>cases n<;>cases ky
  | fl a=>cases n<;>cases ky
  | fd=>cases n<;>cases ky
 | int i=>
  obtain⟨t0,rfl⟩:=hx;cases y with
  | l_=>cases (show v=.none from hy);exact SeqAt.RcAt.int_none i t0
  | bl c=>cases (show v=.bool c from hy);exact SeqAt.RcAt.int_bool i t0 c
  | int j=>obtain⟨t,rfl⟩:=hy;exact SeqAt.RcAt.int_int i t0 j t
  | str z=>obtain⟨t,rfl⟩:=hy;exact SeqAt.RcAt.int_str i t0 z t
  | tup ds=>obtain⟨a,o,items,m,rfl,h1,h2,h3,_⟩:=hy;exact SeqAt.RcAt.int_tuple i t0 ⟨o,h1,h2,m,h3⟩ (by lia)
  | fn a=>cases n<;>cases ky
  | fl a=>cases n<;>cases ky
  | fd=>cases n<;>cases ky
 | str i=>
  obtain⟨t0,rfl⟩:=hx;cases y with
  | l_=>cases (show v=.none from hy);exact SeqAt.RcAt.str_none i t0
  | bl c=>cases (show v=.bool c from hy);exact SeqAt.RcAt.str_bool i t0 c
  | int j=>obtain⟨t,rfl⟩:=hy;exact SeqAt.RcAt.str_int i t0 j t
  | str z=>obtain⟨t,rfl⟩:=hy;exact SeqAt.RcAt.str_str i t0 z t
  | tup ds=>obtain⟨a,o,items,m,rfl,h1,h2,h3,_⟩:=hy;exact SeqAt.RcAt.str_tuple i t0 ⟨o,h1,h2,m,h3⟩ (by lia)
  | fn a=>cases n<;>cases ky
  | fl a=>cases n<;>cases ky
  | fd=>cases n<;>cases ky
 | fn a=>cases n<;>cases kx
 | fl a=>cases n<;>cases kx
 | fd=>cases n<;>cases kx
 | tup ds=>
  cases n with
  | zero=>cases kx
  | succ n=>
  obtain⟨a,o,items,m,rfl,h1,h2,h3,h4⟩:=hx;have ta:s.heap.IsTuple a items:=⟨o,h1,h2,m,h3⟩;cases y with
  | l_=>cases (show v=.none from hy);exact SeqAt.RcAt.tuple_none ta (by lia)
  | bl c=>cases (show v=.bool c from hy);exact SeqAt.RcAt.tuple_bool c ta (by lia)
  | int j=>obtain⟨t,rfl⟩:=hy;exact SeqAt.RcAt.tuple_int j t ta (by lia)
  | str z=>obtain⟨t,rfl⟩:=hy;exact SeqAt.RcAt.tuple_str z t ta (by lia)
  | fn a=>cases ky
  | fl a=>cases ky
  | fd=>cases ky
  | tup es=>
   obtain⟨b,o',s_,m',rfl,g1,g2,g3,g4⟩:=hy;have tb:s.heap.IsTuple b s_:=⟨o',g1,g2,m',g3⟩;have l1:=h4.length;have l2:=g4.length;have l3:items.toList.length=items.size:=by simp
   have l4:s_.toList.length=s_.size:=by simp
   rw[l3] at l1;rw[l4] at l2;have q:=VZ (A:=A) (e:=fun j=>aA (ds.getD j .l_)<|es.getD j .l_) ta tb (by lia) fun j j1 j2=>by
    obtain⟨d1,e1,r1⟩:=h4.get (j:=j) (v:=items[j]) (by rw[ZD];simp[j1]);obtain⟨d2,e2,r2⟩:=g4.get (j:=j) (v:=s_[j]) (by rw[ZD];simp[j2]);rw[Z5,e1,Z5,e2];exact dr n (dG kx e1) (dG ky e2) (by show A.units+1+n+1<cLine;lia) r1 r2
   rw[<- l1,<- l2,iU (ds:=ds) (es:=es) (fun j x y a b=>by rw[Z5,a,Z5,b];rfl)] at q;rw[aA];exact q
@[simp] def vEq:Op2:=fun a b=>match a,b with
 | .im x,.im y=>if (Im.pl 8 x && Im.pl 8 y)=true then some (.im<|.bl<|aA x y) else none
 | .lst x,.lst y=>if (Im.pls 8 x && Im.pls 8 y)=true then some (.im<|.bl<|bC x y) else none
 | _,_=>none
theorem mQ:∀ {x y:List Im},x.length≠y.length->bC x y=false
 | [],[],h=>absurd rfl h
 | [],_::_,_=>rfl
 | _::_,[],_=>rfl
 | a::x,b::y,h=>by
  rw[bC,mQ (fun e=>h (by rw[ZJ,ZJ,e])),V6]
theorem hX{pins:List (Addr×Obj)}(I:Inv X pins σ H s){a:Addr}{xs:List V}{ds:List Im}(h1:H a=some (.lst xs))(h2:am H ds xs):∃ f_:List Value,s.heap.IsList a f_.toArray/\aU s.heap ds f_/\f_.length=ds.length:=by
 obtain⟨z,f_,n,rv,e⟩:=I.n_ a _ h1;have:=h2.Gh I.n_ rv;exact⟨f_,⟨_,e,rfl,n,rfl⟩,this,this.length.symm⟩
theorem dh(hu:X.A.units+20<cLine):Gj X (compareOp .Eq) vEq:=by
 intro pins s σ H x y v u Q I rx ry ⟨d1,d2,d,r1,r2,e,q⟩;unfold vEq at e;split at e
 ·rename_i a b;split at e
  ·rename_i hp;cases e;rw[ZU] at hp;exact zt 8 hp.1 hp.2 (by lia) (r1.i.Gh I.n_ rx) (r2.i.Gh I.n_ ry) X.prog X.w _ _ ⟨.bl _,H,I,rfl,Out.i q rfl⟩
  ·cases e
 ·rename_i a b;split at e
  ·rename_i hp;cases e;rw[ZU] at hp;obtain⟨_,p,xs,rfl,h1,h2,_⟩:=r1;obtain⟨_,p',ys,rfl,h3,h4,_⟩:=r2;cases rx;cases ry;obtain⟨i1,l1,v1,n1⟩:=hX I h1 h2;obtain⟨i2,l2,v2,n2⟩:=hX I h3 h4;by_cases hl:a.length=b.length
   ·have:=SeqAt.RcAt.lists (A:=X.A) (e:=fun j=>aA (a.getD j .l_)<|b.getD j .l_) l1 l2 (by rw[ZQ,ZQ,n1,n2];exact hl) (by lia) fun j j1 j2=>by
     obtain⟨d1,e1,r1⟩:=v1.get (j:=j) (v:=i1.toArray[j]) (by simp at j1;simp[j1]);obtain⟨d2,e2,r2⟩:=v2.get (j:=j) (v:=i2.toArray[j]) (by simp at j2;simp[j2]);rw[Z5,e1,Z5,e2];exact dr 8 (dG hp.1 e1) (dG hp.2 e2) (by show X.A.units+1+8+1<cLine;lia) r1 r2
    refine this X.prog X.w _ _ ⟨.bl _,H,I,rfl,?_⟩;have e5:=iU (ds:=a) (es:=b) (e:=fun j=>aA (a.getD j .l_)<|b.getD j .l_) (fun j x y a b=>by rw[Z5,a,Z5,b];rfl);rw[<- hl,Nat.min_self,Yp,Wv] at e5;rw[ZQ,n1,e5];exact Out.i q rfl
   ·refine SeqAt.RcAt.lists_lengths (A:=X.A) l1 l2 (by rw[ZQ,ZQ,n1,n2];simpa using hl) (by lia) X.prog X.w _ _ ⟨.bl _,H,I,rfl,?_⟩;rw[mQ hl] at q;exact Out.i q rfl
  ·cases e
 ·cases e
end
section
variable{X:Cx}
theorem zu(n:Nat){A:Around}{x y:Im}{u v:Value}(kx:Im.pl n x=true)(ky:Im.pl n y=true)(hu:A.units+n+2<cLine)(hx:FF s.heap x u)(hy:FF s.heap y v):SeqAt.RcNeAt A s u v (!aA x y):=by
 cases x with
 | l_=>
  cases (show u=.none from hx);cases y with
  | l_=>cases (show v=.none from hy);exact SeqAt.RcNeAt.none_none
  | bl b=>cases (show v=.bool b from hy);exact SeqAt.RcNeAt.none_bool b
  | int j=>obtain⟨t,rfl⟩:=hy;exact SeqAt.RcNeAt.none_int j t
  | str z=>obtain⟨t,rfl⟩:=hy;exact SeqAt.RcNeAt.none_str z t
  | tup ds=>obtain⟨a,o,items,m,rfl,h1,h2,h3,_⟩:=hy;exact SeqAt.RcNeAt.none_tuple ⟨o,h1,h2,m,h3⟩ (by lia)
  | fn a=>cases n<;>cases ky
  | fl a=>cases n<;>cases ky
  | fd=>cases n<;>cases ky
 | bl b=>
  cases (show u=.bool b from hx);cases y with
  | l_=>cases (show v=.none from hy);exact SeqAt.RcNeAt.bool_none b
  | bl c=>cases (show v=.bool c from hy);exact SeqAt.RcNeAt.bool_bool b c
  | int j=>obtain⟨t,rfl⟩:=hy;exact SeqAt.RcNeAt.bool_int b j t
  | str z=>obtain⟨t,rfl⟩:=hy;exact SeqAt.RcNeAt.bool_str b z t
  | tup ds=>obtain⟨a,o,items,m,rfl,h1,h2,h3,_⟩:=hy;exact SeqAt.RcNeAt.bool_tuple b ⟨o,h1,h2,m,h3⟩ (by lia)
  | fn a=>cases n<;>cases ky
  | fl a=>cases n<;>cases ky
  | fd=>cases n<;>cases ky
 | int i=>
  obtain⟨t0,rfl⟩:=hx;cases y with
  | l_=>cases (show v=.none from hy);exact SeqAt.RcNeAt.int_none i t0
  | bl c=>cases (show v=.bool c from hy);exact SeqAt.RcNeAt.int_bool i t0 c
  | int j=>obtain⟨t,rfl⟩:=hy;exact SeqAt.RcNeAt.int_int i t0 j t
  | str z=>obtain⟨t,rfl⟩:=hy;exact SeqAt.RcNeAt.int_str i t0 z t
  | tup ds=>obtain⟨a,o,items,m,rfl,h1,h2,h3,_⟩:=hy;exact SeqAt.RcNeAt.int_tuple i t0 ⟨o,h1,h2,m,h3⟩ (by lia)
  | fn a=>cases n<;>cases ky
  | fl a=>cases n<;>cases ky
  | fd=>cases n<;>cases ky
 | str i=>
  obtain⟨t0,rfl⟩:=hx;cases y with
  | l_=>cases (show v=.none from hy);exact SeqAt.RcNeAt.str_none i t0
  | bl c=>cases (show v=.bool c from hy);exact SeqAt.RcNeAt.str_bool i t0 c
  | int j=>obtain⟨t,rfl⟩:=hy;exact SeqAt.RcNeAt.str_int i t0 j t
  | str z=>obtain⟨t,rfl⟩:=hy;exact SeqAt.RcNeAt.str_str i t0 z t
  | tup ds=>obtain⟨a,o,items,m,rfl,h1,h2,h3,_⟩:=hy;exact SeqAt.RcNeAt.str_tuple i t0 ⟨o,h1,h2,m,h3⟩ (by lia)
  | fn a=>cases n<;>cases ky
  | fl a=>cases n<;>cases ky
  | fd=>cases n<;>cases ky
 | fn a=>cases n<;>cases kx
 | fl a=>cases n<;>cases kx
 | fd=>cases n<;>cases kx
 | tup ds=>
  cases n with
  | zero=>cases kx
  | succ n=>
  obtain⟨a,o,items,m,rfl,h1,h2,h3,h4⟩:=hx;have ta:s.heap.IsTuple a items:=⟨o,h1,h2,m,h3⟩;cases y with
  | l_=>cases (show v=.none from hy);exact SeqAt.RcNeAt.tuple_none ta (by lia)
  | bl c=>cases (show v=.bool c from hy);exact SeqAt.RcNeAt.tuple_bool c ta (by lia)
  | int j=>obtain⟨t,rfl⟩:=hy;exact SeqAt.RcNeAt.tuple_int j t ta (by lia)
  | str z=>obtain⟨t,rfl⟩:=hy;exact SeqAt.RcNeAt.tuple_str z t ta (by lia)
  | fn a=>cases ky
  | fl a=>cases ky
  | fd=>cases ky
  | tup es=>
   obtain⟨b,o',s_,m',rfl,g1,g2,g3,g4⟩:=hy;have tb:s.heap.IsTuple b s_:=⟨o',g1,g2,m',g3⟩;have l1:=h4.length;have l2:=g4.length;have l3:items.toList.length=items.size:=by simp
   have l4:s_.toList.length=s_.size:=by simp
   rw[l3] at l1;rw[l4] at l2;have q:=SeqAt.RcNeAt.tuples (A:=A) (e:=fun j=>aA (ds.getD j .l_)<|es.getD j .l_) ta tb (by lia) fun j j1 j2=>by
    obtain⟨d1,e1,r1⟩:=h4.get (j:=j) (v:=items[j]) (by rw[ZD];simp[j1]);obtain⟨d2,e2,r2⟩:=g4.get (j:=j) (v:=s_[j]) (by rw[ZD];simp[j2]);rw[Z5,e1,Z5,e2];exact dr n (dG kx e1) (dG ky e2) (by show A.units+1+n+1<cLine;lia) r1 r2
   rw[<- l1,<- l2,iU (ds:=ds) (es:=es) (fun j x y a b=>by rw[Z5,a,Z5,b];rfl)] at q;rw[aA];exact q
@[simp] def vNe:Op2:=fun a b=>match a,b with
 | .im x,.im y=>if (Im.pl 8 x && Im.pl 8 y)=true then some (.im<|.bl<|!aA x y) else none
 | .lst x,.lst y=>if (Im.pls 8 x && Im.pls 8 y)=true then some (.im<|.bl<|!bC x y) else none
 | _,_=>none
theorem gy(hu:X.A.units+20<cLine):Gj X (compareOp .NotEq) vNe:=by
 intro pins s σ H x y v u Q I rx ry ⟨d1,d2,d,r1,r2,e,q⟩;unfold vNe at e;split at e
 ·rename_i a b;split at e
  ·rename_i hp;cases e;rw[ZU] at hp;exact zu 8 hp.1 hp.2 (by lia) (r1.i.Gh I.n_ rx) (r2.i.Gh I.n_ ry) X.prog X.w _ _ ⟨.bl _,H,I,rfl,Out.i q rfl⟩
  ·cases e
 ·rename_i a b;split at e
  ·rename_i hp;cases e;rw[ZU] at hp;obtain⟨_,p,xs,rfl,h1,h2,_⟩:=r1;obtain⟨_,p',ys,rfl,h3,h4,_⟩:=r2;cases rx;cases ry;obtain⟨i1,l1,v1,n1⟩:=hX I h1 h2;obtain⟨i2,l2,v2,n2⟩:=hX I h3 h4;by_cases hl:a.length=b.length
   ·have:=SeqAt.RcNeAt.lists (A:=X.A) (e:=fun j=>aA (a.getD j .l_)<|b.getD j .l_) l1 l2 (by rw[ZQ,ZQ,n1,n2];exact hl) (by lia) fun j j1 j2=>by
     obtain⟨d1,e1,r1⟩:=v1.get (j:=j) (v:=i1.toArray[j]) (by simp at j1;simp[j1]);obtain⟨d2,e2,r2⟩:=v2.get (j:=j) (v:=i2.toArray[j]) (by simp at j2;simp[j2]);rw[Z5,e1,Z5,e2];exact dr 8 (dG hp.1 e1) (dG hp.2 e2) (by show X.A.units+1+8+1<cLine;lia) r1 r2
    refine this X.prog X.w _ _ ⟨.bl _,H,I,rfl,?_⟩;have e5:=iU (ds:=a) (es:=b) (e:=fun j=>aA (a.getD j .l_)<|b.getD j .l_) (fun j x y a b=>by rw[Z5,a,Z5,b];rfl);rw[<- hl,Nat.min_self,Yp,Wv] at e5;rw[ZQ,n1,e5];exact Out.i q rfl
   ·refine SeqAt.RcNeAt.lists_lengths (A:=X.A) l1 l2 (by rw[ZQ,ZQ,n1,n2];simpa using hl) (by lia) X.prog X.w _ _ ⟨.bl _,H,I,rfl,?_⟩;rw[mQ hl] at q;exact Out.i q rfl
  ·cases e
 ·cases e
@[simp] def oIs(n:Bool):Op2:=fun a b=>match a,b with
 | .im x,.im .l_=>some (.im<|.bl<|n != decide (x=.l_))
 | .im (.bl x),.im (.bl y)=>some (.im<|.bl<|n != (x == y))
 | _,_=>none
theorem zv{d:Im}(h:E7 H d v):decide (v=.l_)=decide (d=.l_):=by
 cases d with
 | l_=>cases (show v=.l_ from h);rfl
 | bl b=>cases (show v=.bl b from h);rfl
 | int b=>cases (show v=.int b from h);rfl
 | str b=>cases (show v=.str b from h);rfl
 | fn b=>cases (show v=.ref b from h);rfl
 | tup ds=>obtain⟨a,xs,rfl,_⟩:=h;rfl
 | fl ds=>obtain⟨a,xs,o,rfl,_⟩:=h;rfl
 | fd=>obtain⟨a,o,rfl,_⟩:=h;rfl
theorem zw:FD X (compareOp .IsNot) (fun x y H Q=>∃ a b,x=.bl a/\y=.bl b/\Q (.bl<|!(a == b)) H):=by
 intro pins s σ H x y v u Q I rx ry ⟨a,b,e1,e2,q⟩;subst e1 e2;cases rx;cases ry;refine wpAny_isNot_plain (by cases a<;>cases b<;>rfl) ⟨.bl<|!(a == b),H,I,?_,q⟩;cases a<;>cases b<;>rfl
theorem zx:Gj X (compareOp .IsNot) (oIs true):=by
 refine (wX.or zw).imp fun x y H Q ⟨d1,d2,d,r1,r2,e,q⟩=>?_;unfold oIs at e;split at e
 ·rename_i a;cases e;refine .inl ⟨r2.i,?_⟩;rw[zv r1.i];refine Out.i q ?_;show _=_;rw[Bool.true_bne]
 ·cases e;refine .inr ⟨_,_,r1.i,r2.i,Out.i q ?_⟩;show _=_;rw[Bool.true_bne]
 ·cases e
def bH{κ:Type}[DecidableEq κ](kvs:List (κ×Im))(k:κ):Option Im:=(kvs.find? fun p=>decide (p.1=k)).map (·.2)
theorem ic{κ:Type}[DecidableEq κ]{H:Hp}{k:κ}:∀ {kvs:List (κ×Im)}{Fv:List (κ×V)},GH H kvs Fv->(∀ d,bH kvs k=some d->∃ v,cN Fv k=some v/\E7 H d v)/\(bH kvs k=none->cN Fv k=none)
 | _,_,.nil=>⟨(fun d e=>by cases e),(fun _=>rfl)⟩
 | _,_,.cons (a:=p) (b:=q) h t=>by
  obtain⟨h1,h2⟩:=ic (k:=k) t;by_cases e:p.1=k
  ·have e':q.1=k:=h.1.symm.trans e;refine⟨fun d hd=>?_,fun hn=>?_⟩
   ·have:∀ r,bH (p::r) k=some p.2:=fun r=>by simp[bH,Yf,e]
    rw[this] at hd;cases hd;exact⟨q.2,kh e',h.2⟩
   ·have:∀ r,bH (p::r) k=some p.2:=fun r=>by simp[bH,Yf,e]
    rw[this] at hn;cases hn
  ·have e':¬ q.1=k:=fun z=>e (h.1.trans z);have:∀ r,bH (p::r) k=bH r k:=fun r=>by simp[bH,Yf,e]
   rw[this,kj e'];exact⟨h1,h2⟩
@[simp] def vIx:Op2:=fun a b=>match a,b with
 | .im (.tup ds),.im (.int i)=>(FS ds i).map .im
 | .lst ds,.im (.int i)=>(FS ds i).map .im
 | .fz ds,.im (.int i)=>(FS ds i).map .im
 | .dT kvs,.im (.tup k)=>if Im.keys 7 k=true then (bH kvs k).map .im else none
 | .dK kvs,.im (.int i)=>(bH kvs<|.inl i).map .im
 | .dK kvs,.im (.str i)=>(bH kvs<|.inr i).map .im
 | _,_=>none
theorem zy(hu:X.A.units+20<cLine):Ie X (fun x y H Q=>∃ a v,x=.ref a/\b7 H a y (some v)/\Q v H):=by
 intro value slice pins s σ H x y v u Q I rx ry ⟨a,z,e,g,q⟩ hs;subst e;cases rx;exact tail_any (yi I g) PySem.F.slot_dict_getitem.lookup (yf hu I g ry fun w' s3 I3 IL=>⟨z,H,I3,IL,q⟩) hs
theorem mR{i:Int}{d:Im}(h:am H ds xs)(e:FS ds i=some d):∃ v,FS xs i=some v/\E7 H d v:=by
 unfold FS at e ⊢;rw[<- h.length];obtain⟨j,e1,e2⟩:=Z8.mp e;obtain⟨v,g1,g2⟩:=h.get e2;exact⟨v,by rw[e1];exact g1,g2⟩
theorem zA(hu:X.A.units+20<cLine):Ie X (fun x y H Q=>∃ d1 d2 d,Gi H d1 x/\Gi H d2 y/\vIx d1 d2=some d/\∀ v H' R,aH H H'->Own H' d v R->R.Nodup->(∀ a∈R,H a=none)->Q v H'):=by
 refine (xQ.or<|xR.or<|zy hu).imp fun x y H Q ⟨d1,d2,d,r1,r2,e,q⟩=>?_;unfold vIx at e;split at e
 ·obtain⟨d',e1,e2⟩:=Z2.mp e;cases e2;obtain⟨p,xs,rfl,h1,h2⟩:=r1.i;obtain⟨v,g1,g2⟩:=mR h2 e1;exact .inr (.inl ⟨p,xs,_,v,rfl,r2.i,E1.of h1,g1,Out.i q g2⟩)
 ·obtain⟨d',e1,e2⟩:=Z2.mp e;cases e2;obtain⟨_,p,xs,rfl,h1,h2,_⟩:=r1;obtain⟨v,g1,g2⟩:=mR h2 e1;exact .inl ⟨p,xs,_,v,rfl,r2.i,Fd.of h1,g1,Out.i q g2⟩
 ·obtain⟨d',e1,e2⟩:=Z2.mp e;cases e2;obtain⟨_,p,xs,o,rfl,h1,h2,_⟩:=r1;obtain⟨v,g1,g2⟩:=mR h2 e1;exact .inl ⟨p,xs,_,v,rfl,r2.i,.inl<|.inr ⟨o,h1⟩,g1,Out.i q g2⟩
 ·rename_i kvs k;split at e
  ·rename_i hk;obtain⟨d',e1,e2⟩:=Z2.mp e;cases e2;obtain⟨_,p,Fv,rfl,h1,h2,_⟩:=r1;obtain⟨v,g1,g2⟩:=(ic h2).1 d' e1;obtain⟨b,xs,rfl,k1,k2⟩:=r2.i;exact .inr (.inr ⟨p,v,rfl,by rw[<- g1];exact b7.t h1 ⟨hk,b,xs,rfl,k1,k2⟩,Out.i q g2⟩)
  ·cases e
 ·rename_i kvs i;obtain⟨d',e1,e2⟩:=Z2.mp e;cases e2;obtain⟨_,p,Fv,rfl,h1,h2,_⟩:=r1;obtain⟨v,g1,g2⟩:=(ic h2).1 d' e1;refine .inr (.inr ⟨p,v,rfl,?_,Out.i q g2⟩);rw[show y=kV (.inl i) from r2.i,<- g1];exact b7.k h1
 ·rename_i kvs i;obtain⟨d',e1,e2⟩:=Z2.mp e;cases e2;obtain⟨_,p,Fv,rfl,h1,h2,_⟩:=r1;obtain⟨v,g1,g2⟩:=(ic h2).1 d' e1;refine .inr (.inr ⟨p,v,rfl,?_,Out.i q g2⟩);rw[show y=kV (.inr i) from r2.i,<- g1];exact b7.k h1
 ·cases e
end
end L2
namespace HT
open PySem PySem.Spec PyProof.Rows
section
variable{prog:Program}{w:World}{A:Around}{E:Value->Shared->Prop}{s:Shared}
theorem zB{t sl:Addr}{f_:Array Value}{vl vu:Value}{lo hi:Option Int}{Q:Value->Shared->Prop}(p:IsTup s.heap t f_)(hs:s.heap.IsSliceOf sl vl vu .none)(pl:IsPart vl lo)(pu:IsPart vu hi)(h0:E2 f_.size 0 lo=0)(h1:E2 f_.size f_.size hi=f_.size)(q:Q (.ref t) s):wpAny (model prog w) A (getItem (.ref t)<|.ref sl) Q E s:=by
 obtain⟨os,ho,hc,hd⟩:=id hs;have ty:s.TypeIs (.ref sl) "slice" := ⟨os,ho,hc⟩;unfold getItem;try with_reducible refine YY ?_
 first | refine Z9 (Z6 ?_) | skip
 refine Z9 (VY p.typeIs (by decide) ?_);refine Z9 (Zb (name:=Str.ofString "__getitem__") p.typeIs Zh<|Zj Zh p.typeIs Wl ?_<|args_tuple_getitem _ _);show wpAny _ _ (Builtin.Tuple.tupleItemsOf (.ref t) >>= _) _ _ s;refine Z9 (tupleItemsOf_ p ?_);refine Z9 (Xh ty ?_);rw[ZY (by decide)];refine Z9 (pO hs pl pu ?_);rw[h0,h1];show wpAny _ _ (if (((0:Nat):Int) == 0 && (1:Int) == 1 && (f_.size - 0) == f_.size)=true then _ else _) _ _ s;rw[ZY (by simp)];refine Z9 (m:=Builtin.Tuple.tupleIsExact _) (Z9<|Xh p.typeIs<|Z6 ?_);show wpAny _ _ (if (Value.type "tuple" == Value.type "tuple")=true then _ else _) _ _ s;rw[ZY (by decide)];exact Z9 (Yl<|Z6 ⟨_,rfl,Z6 q⟩)
end
end HT
namespace L2
open PySem PySem.Spec PyProof.Rows
section
variable{X:Cx}
@[simp] def eU(g:M Vl):M Vl:=fun D=>(g D).bind fun p=>match p.1 with
 | .im (.int i)=>some (.im<|.int<|-i,p.2)
 | _=>none
variable{g:M Vl}{pos:Pos}
theorem ie{a:Expr}(h:VE X a g):VE X (.UnaryOp .USub a pos) (eU g):=by
 refine be (wJ wR h) fun σ H Q ⟨D,F,r,D',st,nd,hg,q⟩=>?_;obtain⟨⟨x,D1⟩,h1,h2⟩:=Z8.mp hg;refine⟨D,F,x,D1,st,nd,h1,fun v H1 F1 R q_ ow s1=>?_⟩;dsimp only at h2;split at h2
 ·rename_i i;cases h2;exact⟨i,ow.1,q _ H1 F1 [] q_ ⟨rfl,rfl⟩ (by rw[ZO];exact s1.both)⟩
 ·cases h2
def tP(g:M (Option Int)):TO:=fun σ H Q=>∃ D F l D',ao H D σ F/\F.Nodup/\g D=some (l,D')/\∀ H' F',ao H' D' σ F'->o_ H F H' F'->Q l H'
def VP(X:Cx)(e:Option Expr)(g:M (Option Int)):Prop:=∀ ⦃p⦄,P7 X e (tP g) p
theorem qW{e:Option Expr}{t t':TO}(h:PO X e t)(i:∀ σ H Q,t' σ H Q->t σ H Q):PO X e t':=fun pins s σ H Q I hw=>h pins s σ H Q I (i σ H Q hw)
def pNone:M (Option Int):=fun D=>some (none,D)
@[simp] def bY(g:M Vl):M (Option Int):=fun D=>(g D).bind fun p=>match p.1 with
 | .im (.int i)=>some (some i,p.2)
 | _=>none
theorem dw:VP X none pNone:=by
 refine qW xE fun σ H Q ⟨D,F,r,D',st,nd,hg,q⟩=>?_;cases hg;exact q H F st (o_.perm nd<|ZC _)
variable{e:Expr}
theorem c7(h:VE X e g):VP X (some e) (bY g):=by
 refine qW (xF h) fun σ H Q ⟨D,F,r,D',st,nd,hg,q⟩=>?_;obtain⟨⟨x,D1⟩,h1,h2⟩:=Z8.mp hg;refine⟨D,F,x,D1,st,nd,h1,fun v H1 F1 R q_ ow s1=>?_⟩;dsimp only at h2;split at h2
 ·rename_i i;cases h2;exact⟨i,ow.1,q H1 F1 q_ s1.both⟩
 ·cases h2
def aS{α:Type}(xs:List α)(lo hi:Option Int):List α:=(xs.drop<|HT.E2 xs.length 0 lo).take (HT.E2 xs.length xs.length hi - HT.E2 xs.length 0 lo)
variable{H:Hp}
theorem am.drop:∀ {ds:List Im}{xs:List V} (n:Nat),am H ds xs->am H (ds.drop n) (xs.drop n)
 | ds,xs,0,h=>h
 | [],xs,n+1,h=>by cases (show xs=[] from h);exact rfl
 | d::ds,xs,n+1,h=>by
  obtain⟨v,r,rfl,h1,h2⟩:=h;exact h2.drop n
theorem am.take:∀ {ds:List Im}{xs:List V} (n:Nat),am H ds xs->am H (ds.take n) (xs.take n)
 | ds,xs,0,h=>rfl
 | [],xs,n+1,h=>by cases (show xs=[] from h);exact rfl
 | d::ds,xs,n+1,h=>by
  obtain⟨v,r,rfl,h1,h2⟩:=h;exact⟨v,_,rfl,h1,h2.take n⟩
theorem am.cut{ds:List Im}{xs:List V}(lo hi:Option Int)(h:am H ds xs):am H (aS ds lo hi) (fy xs lo hi):=by
 unfold aS fy;rw[h.length];exact (h.drop _).take _
@[simp] def vSl(d:Vl)(lo hi:Option Int):Option Vl:=match d with
 | .im (.tup ds)=>some (.im<|.tup<|aS ds lo hi)
 | .lst ds=>some (.lst<|aS ds lo hi)
 | .fz ds=>some (.lst<|aS ds lo hi)
 | _=>none
def zC(K:PySem.W.Frag):V->Option Int->Option Int->Hp->VK->Prop:=fun x lo hi H Q=>∃ a xs,x=.ref a/\E1 K H a xs/\HT.E2 xs.length 0 lo=0/\HT.E2 xs.length xs.length hi=xs.length/\Q (.ref a) H
theorem zE:L9 X (fun x lo hi H Q=>∃ d r,Gi H d x/\vSl d lo hi=some r/\Out H r Q):=by
 have all:L9 X (zC X.K):=by
  intro pins s σ H x v vl vu lo hi sl Q I rx hs pl pu h;obtain⟨a,xs,rfl,hx,h0,h1,q⟩:=h;cases rx;obtain⟨f_,r,ht,hz⟩:=I.tuple hx;have hlen:f_.toArray.size=xs.length:=by rw[ZQ];exact r.length.symm
  exact⟨"tuple",_,Zh.lookup,ht.typeIs,HT.zB ht hs pl pu (by rw[hlen];exact h0) (by rw[hlen];exact h1) ⟨.ref a,H,I,rfl,q⟩⟩
 intro pins s σ H x v vl vu lo hi sl Q I rx hs pl pu ⟨d,r,rd,e,q⟩;unfold vSl at e;split at e
 ·rename_i ds;cases e;obtain⟨p,xs,rfl,h1,h2⟩:=rd.i;by_cases hw:HT.E2 xs.length 0 lo=0/\HT.E2 xs.length xs.length hi=xs.length
  ·refine all pins s σ H _ v vl vu lo hi sl Q I rx hs pl pu ⟨p,xs,rfl,E1.of h1,hw.1,hw.2,Out.i q ⟨p,xs,rfl,h1,?_⟩⟩;have:aS ds lo hi=ds:=by
    unfold aS;rw[h2.length,hw.1,hw.2,X3,Nat.sub_zero,<- h2.length,XE]
   rw[this];exact h2
  ·exact xI pins s σ H _ v vl vu lo hi sl Q I rx hs pl pu ⟨p,xs,rfl,E1.of h1,hw,fun n hn=>Out.t q hn<|h2.cut lo hi⟩
 ·cases e;obtain⟨_,p,xs,rfl,h1,h2,_⟩:=rd;exact pS pins s σ H _ v vl vu lo hi sl Q I rx hs pl pu ⟨p,xs,rfl,Fd.of h1,fun n hn=>Out.l q hn<|h2.cut lo hi⟩
 ·cases e;obtain⟨_,p,xs,o,rfl,h1,h2,_⟩:=rd;exact pS pins s σ H _ v vl vu lo hi sl Q I rx hs pl pu ⟨p,xs,rfl,.inl<|.inr ⟨o,h1⟩,fun n hn=>Out.l q hn<|h2.cut lo hi⟩
 ·cases e
@[simp] def eSl(g:M Opd)(l h:M (Option Int)):M Vl:=fun D=>(g D).bind fun p=>(l p.2).bind fun q=>(h q.2).bind fun r=>(rsl r.2 p.1).bind fun d=>(vSl d q.1 r.1).map fun d'=>(d',r.2)
theorem di{lo hi:Option Expr}{g:M Opd}{gl gh:M (Option Int)}{p2:Pos}(he:VO X e g)(hl:VP X lo gl)(hh:VP X hi gh):VE X (.Subscript e (.Slice lo hi none p2) pos) (eSl g gl gh):=by
 refine be (xG zE he hl hh) fun σ H Q ⟨D,F,r,D',st,nd,hg,q⟩=>?_;obtain⟨⟨x,D1⟩,h1,h2⟩:=Z8.mp hg;obtain⟨⟨l,D2⟩,h3,h4⟩:=Z8.mp h2;obtain⟨⟨u,D3⟩,h5,h6⟩:=Z8.mp h4;obtain⟨d,h7,h8⟩:=Z8.mp h6;obtain⟨d',h9,R9⟩:=Z2.mp h8;cases R9;refine⟨D,F,x,D1,st,nd,h1,fun v H1 F1 R q_ o1 s1=>⟨D1,F1,l,D2,q_,(ZH.mp s1.nd).1,h3,fun H2 F2 p_ s2=>⟨D2,F2,u,D3,p_,s2.nd,h5,fun H3 F3 FM s3=>?_⟩⟩⟩;have s4:=s2.seq s3;have o3:cS H3 σ x v R:=o1.mono s4.tup fun a ha o e=>s4.keep a o e fun h=>(ZH.mp s1.nd).2.2 a h a ha rfl;have s5:=s1.trans s4 o1.chg;exact⟨d,_,o3.read FM h7,h9,fun w H4 R4 s6 ow LF fr=>q w H4 F3 R4 (FM.mono s6.tupS fun a _ o e=>s6 a o e) ow<|s5.new s6 LF fr FM.chg⟩
abbrev OpN:=List Vl->Option Vl
@[simp] def vLen:OpN:=fun ds=>match ds with
 | [.im (.tup x)]=>some (.im<|.int x.length)
 | [.lst x]=>some (.im<|.int x.length)
 | [.fz x]=>some (.im<|.int x.length)
 | [.FV x]=>some (.im<|.int x.length)
 | [.dK x]=>some (.im<|.int x.length)
 | [.im (.str x)]=>if x.length<=100000 then some (.im<|.int x.length) else none
 | _=>none
variable{vs:List V}
theorem bZ{d:Vl}(h:fI H [d] vs):∃ v,vs=[v]/\Gi H d v:=by
 obtain⟨v,r,rfl,h1,h2⟩:=h;cases (show r=[] from h2);exact⟨v,rfl,h1⟩
theorem qX{d e:Vl}(h:fI H [d,e] vs):∃ v u,vs=[v,u]/\Gi H d v/\Gi H e u:=by
 obtain⟨v,r,rfl,h1,h2⟩:=h;obtain⟨u,rfl,h3⟩:=bZ h2;exact⟨v,u,rfl,h1,h3⟩
theorem GH.length{κ:Type}{H:Hp}{l:List (κ×Im)}{m:List (κ×V)}(h:GH H l m):l.length=m.length:=Ww h
theorem dy:c6 X (.builtin "len") vLen:=by
 refine (xX.or<|xY.or yq).imp fun xs H Q ⟨ds,d,rd,e,q⟩=>?_;unfold vLen at e;split at e
 ·cases e;obtain⟨v,rfl,h⟩:=bZ rd;obtain⟨p,xs,rfl,h1,h2⟩:=h.i;exact .inl ⟨p,xs,rfl,.inr<|E1.of h1,by rw[<- h2.length];exact Out.i q rfl⟩
 ·cases e;obtain⟨v,rfl,_,p,xs,rfl,h1,h2,_⟩:=bZ rd;exact .inl ⟨p,xs,rfl,.inl<|Fd.of h1,by rw[<- h2.length];exact Out.i q rfl⟩
 ·cases e;obtain⟨v,rfl,_,p,xs,o,rfl,h1,h2,_⟩:=bZ rd;exact .inl ⟨p,xs,rfl,.inl<|.inl<|.inr ⟨o,h1⟩,by rw[<- h2.length];exact Out.i q rfl⟩
 ·cases e;obtain⟨v,rfl,_,p,xs,G,rfl,h1,h2,_⟩:=bZ rd;exact .inl ⟨p,xs,rfl,.inl<|Fd.of h1,by rw[<- h2.length];exact Out.i q rfl⟩
 ·cases e;obtain⟨v,rfl,_,p,Fv,rfl,h1,h2,_⟩:=bZ rd;exact .inr (.inr ⟨p,Fv,rfl,h1,by rw[<- h2.length];exact Out.i q rfl⟩)
 ·split at e
  ·rename_i hl;cases e;obtain⟨v,rfl,h⟩:=bZ rd;cases (show v=_ from h.i);exact .inr (.inl ⟨_,rfl,gw hl,Out.i q rfl⟩)
  ·cases e
 ·cases e
@[simp] def vTuple:OpN:=fun ds=>match ds with
 | [d]=>(cg d).map fun x=>.im (.tup x)
 | _=>none
@[simp] def vList:OpN:=fun ds=>match ds with
 | [d]=>(cg d).map .lst
 | _=>none
theorem jg:c6 X (.type "tuple") vTuple:=by
 refine x5.imp fun xs H Q ⟨ds,d,rd,e,q⟩=>?_;unfold vTuple at e;split at e
 ·obtain⟨x,e1,e2⟩:=Z2.mp e;cases e2;obtain⟨v,rfl,h⟩:=bZ rd;unfold cg at e1;split at e1
  ·cases e1;obtain⟨p,xs,rfl,h1,h2⟩:=h.i;exact⟨p,xs,rfl,.inr ⟨E1.of h1,Out.i q ⟨p,xs,rfl,h1,h2⟩⟩⟩
  ·cases e1;obtain⟨_,p,xs,rfl,h1,h2,_⟩:=h;exact⟨p,xs,rfl,.inl ⟨Fd.of h1,fun l hl=>Out.t q hl h2⟩⟩
  ·cases e1;obtain⟨_,p,xs,o,rfl,h1,h2,_⟩:=h;exact⟨p,xs,rfl,.inl ⟨.inl<|.inr ⟨o,h1⟩,fun l hl=>Out.t q hl h2⟩⟩
  ·cases e1
 ·cases e
theorem zF:c6 X (.type "list") vList:=by
 refine xZ.imp fun xs H Q ⟨ds,d,rd,e,q⟩=>?_;unfold vList at e;split at e
 ·obtain⟨x,e1,e2⟩:=Z2.mp e;cases e2;obtain⟨v,rfl,h⟩:=bZ rd;unfold cg at e1;split at e1
  ·cases e1;obtain⟨p,xs,rfl,h1,h2⟩:=h.i;exact⟨p,xs,rfl,.inr<|E1.of h1,fun l hl=>Out.l q hl h2⟩
  ·cases e1;obtain⟨_,p,xs,rfl,h1,h2,_⟩:=h;exact⟨p,xs,rfl,.inl<|Fd.of h1,fun l hl=>Out.l q hl h2⟩
  ·cases e1;obtain⟨_,p,xs,o,rfl,h1,h2,_⟩:=h;exact⟨p,xs,rfl,.inl<|.inl<|.inr ⟨o,h1⟩,fun l hl=>Out.l q hl h2⟩
  ·cases e1
 ·cases e
@[simp] def vInt:OpN:=fun ds=>match ds with
 | [.im (.int i)]=>some (.im<|.int i)
 | [.im (.bl b)]=>some (.im<|.int<|if b then 1 else 0)
 | _=>none
theorem mS:c6 X (.type "int") vInt:=by
 refine xk.imp fun xs H Q ⟨ds,d,rd,e,q⟩=>?_;unfold vInt at e;split at e
 ·cases e;obtain⟨v,rfl,h⟩:=bZ rd;cases (show v=_ from h.i);exact .inl ⟨_,rfl,Out.i q rfl⟩
 ·cases e;obtain⟨v,rfl,h⟩:=bZ rd;cases (show v=_ from h.i);exact .inr ⟨_,rfl,Out.i q rfl⟩
 ·cases e
@[simp] def vAbs:OpN:=fun ds=>match ds with
 | [.im (.int i)]=>some (.im<|.int<|if i<0 then -i else i)
 | _=>none
theorem qY:c6 X (.builtin "abs") vAbs:=by
 refine xh.imp fun xs H Q ⟨ds,d,rd,e,q⟩=>?_;unfold vAbs at e;split at e
 ·cases e;obtain⟨v,rfl,h⟩:=bZ rd;cases (show v=_ from h.i);exact⟨_,rfl,Out.i q rfl⟩
 ·cases e
@[simp] def vMax2:OpN:=fun ds=>match ds with
 | [.im (.int i),.im<|.int j]=>some (.im<|.int<|if j > i then j else i)
 | _=>none
@[simp] def vMin2:OpN:=fun ds=>match ds with
 | [.im (.int i),.im<|.int j]=>some (.im<|.int<|if j<i then j else i)
 | _=>none
theorem kN(hc:X.calm=true):c6 X (.builtin "max") vMax2:=by
 refine (xi hc).imp fun xs H Q ⟨ds,d,rd,e,q⟩=>?_;unfold vMax2 at e;split at e
 ·cases e;obtain⟨v,u,rfl,h,k⟩:=qX rd;cases (show v=_ from h.i);cases (show u=_ from k.i);exact⟨_,_,rfl,Out.i q rfl⟩
 ·cases e
theorem mT(hc:X.calm=true):c6 X (.builtin "min") vMin2:=by
 refine (xj hc).imp fun xs H Q ⟨ds,d,rd,e,q⟩=>?_;unfold vMin2 at e;split at e
 ·cases e;obtain⟨v,u,rfl,h,k⟩:=qX rd;cases (show v=_ from h.i);cases (show u=_ from k.i);exact⟨_,_,rfl,Out.i q rfl⟩
 ·cases e
@[simp] def bls:List Im->Option (List Bool)
 | []=>some []
 | .bl b::ds=>(bls ds).map fun r=>b::r
 | _::_=>none
theorem mU{H:Hp}:∀ {ds:List Im}{xs:List V}{bs:List Bool},am H ds xs->bls ds=some bs->xs=bs.map V.bl
 | [],xs,bs,h,e=>by cases e;exact h
 | .bl b::ds,xs,bs,h,e=>by
  obtain⟨v,r,rfl,h1,h2⟩:=h;rw[bls] at e;obtain⟨p,e1,e2⟩:=Z2.mp e;cases e2;cases (show v=.bl b from h1);rw[mU h2 e1];rfl
 | .l_::_,_,_,_,e=>by cases e
 | .int _::_,_,_,_,e=>by cases e
 | .str _::_,_,_,_,e=>by cases e
 | .tup _::_,_,_,_,e=>by cases e
 | .fn _::_,_,_,_,e=>by cases e
 | .fl _::_,_,_,_,e=>by cases e
 | .fd::_,_,_,_,e=>by cases e
@[simp] def vAll:OpN:=fun ds=>match ds with
 | [.lst x]=>(bls x).map fun bs=>.im (.bl<|bs.all id)
 | _=>none
@[simp] def vAny:OpN:=fun ds=>match ds with
 | [.lst x]=>(bls x).map fun bs=>.im (.bl<|bs.any id)
 | _=>none
theorem jh(hc:X.calm=true):c6 X (.builtin "all") vAll:=by
 refine (yY hc).imp fun xs H Q ⟨ds,d,rd,e,q⟩=>?_;unfold vAll at e;split at e
 ·obtain⟨x,e1,e2⟩:=Z2.mp e;cases e2;obtain⟨v,rfl,_,p,xs,rfl,h1,h2,_⟩:=bZ rd;rw[mU h2 e1] at h1;exact⟨p,x,rfl,h1,Out.i q rfl⟩
 ·cases e
end
section
variable{X:Cx}
theorem zG(hc:X.calm=true):bt X (.builtin "any") (fun xs H Q=>∃ l bs,xs=[.ref l]/\H l=some (.lst<|List.map V.bl bs)/\Q (.bl<|bs.any id) H):=by
 intro pins s σ H xs us Q I r h;obtain⟨l,bs,rfl,hl,q⟩:=h;obtain⟨u,rfl,ru⟩:=cK r;cases ru;obtain⟨z,f_,n,rv,e⟩:=I.n_ l _ hl;have Kp:s.heap.IsList l f_.toArray:=⟨_,e,rfl,n,rfl⟩;refine call_any_walk (wpAny_pyIter_list Kp ⟨s.heap.objs.size,[s.heap.objs.size,l],[s.heap.objs.size],f_.toArray.size,_,_,fun i=>(bs[i]?).getD false,rfl,Walks.list (A:=X.A.in1) (I.ok.hd hc) _ l (Zx<|ZP e) f_.toArray,
  ⟨⟨_,ZS _ rfl,rfl,rfl⟩,Kp.push _⟩,fun i v s' Q' E' hP hQ=>?_,fun h' tk hk=>?_⟩)
 ·obtain⟨b,eb,rfl⟩:=qv rv i v (by simpa using hP);simp only[eb,WB] at hQ;exact Yk hQ
 ·have el:f_.toArray.size=bs.length:=by
   have:=rv.length;rw[Z3] at this;rw[ZQ,this]
  rw[el,LSm.range_any];exact⟨.bl _,H,I.kept<|LSm.kept_iter hk,rfl,q⟩
theorem qZ(hc:X.calm=true):c6 X (.builtin "any") vAny:=by
 refine (zG hc).imp fun xs H Q ⟨ds,d,rd,e,q⟩=>?_;unfold vAny at e;split at e
 ·obtain⟨x,e1,e2⟩:=Z2.mp e;cases e2;obtain⟨v,rfl,_,p,xs,rfl,h1,h2,_⟩:=bZ rd;rw[mU h2 e1] at h1;exact⟨p,x,rfl,h1,Out.i q rfl⟩
 ·cases e
@[simp] def eV(T:String)(d:Vl):Option Bool:=
 if T = "int" then match d with
  | .im (.int _)=>some true
  | .im (.bl _)=>some true
  | .im (.str _)=>some false
  | .im (.tup _)=>some false
  | .im .l_=>some false
  | .lst _=>some false
  | .im (.fl _)=>some false
  | .im .fd=>some false
  | .dT _=>some false
  | .dK _=>some false
  | _=>none
 else if T = "bool" then match d with
  | .im (.int _)=>some false
  | .im (.bl _)=>some true
  | .im (.str _)=>some false
  | .im (.tup _)=>some false
  | .im .l_=>some false
  | .lst _=>some false
  | .im (.fl _)=>some false
  | .im .fd=>some false
  | .dT _=>some false
  | .dK _=>some false
  | _=>none
 else if T = "str" then match d with
  | .im (.int _)=>some false
  | .im (.bl _)=>some false
  | .im (.str _)=>some true
  | .im (.tup _)=>some false
  | .im .l_=>some false
  | .lst _=>some false
  | .im (.fl _)=>some false
  | .im .fd=>some false
  | .dT _=>some false
  | .dK _=>some false
  | _=>none
 else if T = "tuple" then match d with
  | .im (.int _)=>some false
  | .im (.bl _)=>some false
  | .im (.str _)=>some false
  | .im (.tup _)=>some true
  | .im .l_=>some false
  | .lst _=>some false
  | .im (.fl _)=>some false
  | .im .fd=>some false
  | .dT _=>some false
  | .dK _=>some false
  | _=>none
 else none
variable{pins:List (Addr×Obj)}{H:Hp}{s:Shared}
theorem fQ{σ:St}(I:Inv X pins σ H s){a:Addr}(h:(∃ k,H a=some (.dT k))\/∃ k,H a=some (.dK k)):∃ o,s.heap.get? a=some o/\o.cls=.type "dict" := by
 rcases h with ⟨k,h⟩ | ⟨k,h⟩
 ·obtain⟨_,_,xs,_,o,es,ep,h1,h2,_⟩:=(show bv X.prog X.w H s.heap a (.dT k) from I.n_ a _ h);exact⟨o,h1,h2.1⟩
 ·obtain⟨_,_,vs,_,o,es,ep,h1,h2,_⟩:=(show bv X.prog X.w H s.heap a (.dK k) from I.n_ a _ h);exact⟨o,h1,h2.1⟩
theorem kO{σ:St}(I:Inv X pins σ H s){a:Addr}{p:Obj}(h:H a=some (.Fj p<|.dT [])):∃ o,s.heap.get? a=some o/\o.cls=.type "dict" := by
 obtain⟨_,_,_,xs,_,o,es,ep,h1,h2,_⟩:=(show bv X.prog X.w H s.heap a (.Fj p<|.dT []) from I.n_ a _ h);exact⟨o,h1,h2.1⟩
theorem zH:bt X (.builtin "isinstance") (fun xs H Q=>∃ x T d b,xs=[x,.ty T]/\Gi H d x/\eV T d=some b/\Q (.bl b) H):=by
 intro pins s σ H xs us Q I r h;obtain⟨x,T,d,b,rfl,rd,hi,q⟩:=h;have r0:=r;cases r with
 | cons r rr=>
  cases rr with
  | cons r' rr=>
   cases rr;cases r';have f1:∀ {b:Bool},Q (.bl b) H->EP X pins σ Q (.bool b) { s with toks:=s.toks+1 }:=fun {b} q=>⟨.bl b,H,I.tok _,rfl,q⟩;have dI:∀ {a:Addr},(∃ o,s.heap.get? a=some o/\o.cls=.type "dict")->(T = "int" \/ T = "bool" \/ T = "str" \/ T = "tuple")->b=false->wpAny (model X.prog X.w) X.A (call (.builtin "isinstance") [.ref a,.type T]) (EP X pins σ Q) X.xe s:=by
    rintro a ⟨o,ho,hc⟩ hT rfl;rcases hT with rfl | rfl | rfl | rfl
    ·exact IsiPair.dict_int ho hc (f1 q)
    ·exact IsiPair.dict_bool ho hc (f1 q)
    ·exact IsiPair.dict_str ho hc (f1 q)
    ·exact IsiPair.dict_tuple ho hc (f1 q)
   have nI:(T = "int" \/ T = "bool" \/ T = "str" \/ T = "tuple")->b=false->wpAny (model X.prog X.w) X.A (call (.builtin "isinstance") [.none,.type T]) (EP X pins σ Q) X.xe s:=by
    rintro hT rfl;rcases hT with rfl | rfl | rfl | rfl
    ·exact IsiPair.NoneType_int (f1 q)
    ·exact IsiPair.NoneType_bool (f1 q)
    ·exact IsiPair.NoneType_str (f1 q)
    ·exact IsiPair.NoneType_tuple (f1 q)
   have cI:qu X.K H x T b->wpAny (model X.prog X.w) X.A (call (.builtin "isinstance") [_,.type T]) (EP X pins σ Q) X.xe s:=fun hh=>yX pins s σ H _ _ Q I r0 ⟨x,T,b,rfl,hh,q⟩;unfold eV at hi;split at hi
   ·rename_i hT;subst hT;split at hi
    ·cases hi;exact cI (.inl ⟨_,rd.i,.inl ⟨rfl,rfl⟩⟩)
    ·cases hi;exact cI (.inr<|.inl ⟨_,rd.i,.inr<|.inl ⟨rfl,rfl⟩⟩)
    ·cases hi;exact cI (.inr<|.inr<|.inl ⟨_,rd.i,.inr<|.inl ⟨rfl,rfl⟩⟩)
    ·cases hi;obtain⟨a,xs,e,h1,h2⟩:=rd.i;exact cI (.inr<|.inr<|.inr<|.inl ⟨a,xs,e,E1.of h1,.inr<|.inl ⟨rfl,rfl⟩⟩)
    ·cases hi;cases (show x=.l_ from rd.i);cases r;exact nI (.inl rfl) rfl
    ·cases hi;obtain⟨_,a,xs,e,h1,h2,_⟩:=rd;exact cI (.inr<|.inr<|.inr<|.inr ⟨a,xs,e,Fd.of h1,.inr<|.inl ⟨rfl,rfl⟩⟩)
    ·cases hi;obtain⟨a,xs,o,e,h1,h2⟩:=rd.i;exact cI (.inr<|.inr<|.inr<|.inr ⟨a,xs,e,.inl<|.inr ⟨o,h1⟩,.inr<|.inl ⟨rfl,rfl⟩⟩)
    ·cases hi;obtain⟨a,o,rfl,h1⟩:=rd.i;cases r;exact dI (kO I h1) (.inl rfl) rfl
    ·cases hi;obtain⟨_,a,xs,rfl,h1,h2,_⟩:=rd;cases r;exact dI (fQ I<|.inl ⟨_,h1⟩) (.inl rfl) rfl
    ·cases hi;obtain⟨_,a,xs,rfl,h1,h2,_⟩:=rd;cases r;exact dI (fQ I<|.inr ⟨_,h1⟩) (.inl rfl) rfl
    ·cases hi
   ·split at hi
    ·rename_i hT;subst hT;split at hi
     ·cases hi;exact cI (.inl ⟨_,rd.i,.inr<|.inr<|.inr<|.inl ⟨rfl,rfl⟩⟩)
     ·cases hi;exact cI (.inr<|.inl ⟨_,rd.i,.inl ⟨rfl,rfl⟩⟩)
     ·cases hi;exact cI (.inr<|.inr<|.inl ⟨_,rd.i,.inr<|.inr<|.inr<|.inl ⟨rfl,rfl⟩⟩)
     ·cases hi;obtain⟨a,xs,e,h1,h2⟩:=rd.i;exact cI (.inr<|.inr<|.inr<|.inl ⟨a,xs,e,E1.of h1,.inr<|.inr<|.inr<|.inl ⟨rfl,rfl⟩⟩)
     ·cases hi;cases (show x=.l_ from rd.i);cases r;exact nI (.inr<|.inl rfl) rfl
     ·cases hi;obtain⟨_,a,xs,e,h1,h2,_⟩:=rd;exact cI (.inr<|.inr<|.inr<|.inr ⟨a,xs,e,Fd.of h1,.inr<|.inr<|.inr<|.inl ⟨rfl,rfl⟩⟩)
     ·cases hi;obtain⟨a,xs,o,e,h1,h2⟩:=rd.i;exact cI (.inr<|.inr<|.inr<|.inr ⟨a,xs,e,.inl<|.inr ⟨o,h1⟩,.inr<|.inr<|.inr<|.inl ⟨rfl,rfl⟩⟩)
     ·cases hi;obtain⟨a,o,rfl,h1⟩:=rd.i;cases r;exact dI (kO I h1) (.inr<|.inl rfl) rfl
     ·cases hi;obtain⟨_,a,xs,rfl,h1,h2,_⟩:=rd;cases r;exact dI (fQ I<|.inl ⟨_,h1⟩) (.inr<|.inl rfl) rfl
     ·cases hi;obtain⟨_,a,xs,rfl,h1,h2,_⟩:=rd;cases r;exact dI (fQ I<|.inr ⟨_,h1⟩) (.inr<|.inl rfl) rfl
     ·cases hi
    ·split at hi
     ·rename_i hT;subst hT;split at hi
      ·cases hi;exact cI (.inl ⟨_,rd.i,.inr<|.inr<|.inl ⟨rfl,rfl⟩⟩)
      ·cases hi;exact cI (.inr<|.inl ⟨_,rd.i,.inr<|.inr<|.inr<|.inl ⟨rfl,rfl⟩⟩)
      ·cases hi;exact cI (.inr<|.inr<|.inl ⟨_,rd.i,.inl ⟨rfl,rfl⟩⟩)
      ·cases hi;obtain⟨a,xs,e,h1,h2⟩:=rd.i;exact cI (.inr<|.inr<|.inr<|.inl ⟨a,xs,e,E1.of h1,.inr<|.inr<|.inl ⟨rfl,rfl⟩⟩)
      ·cases hi;cases (show x=.l_ from rd.i);cases r;exact nI (.inr<|.inr<|.inl rfl) rfl
      ·cases hi;obtain⟨_,a,xs,e,h1,h2,_⟩:=rd;exact cI (.inr<|.inr<|.inr<|.inr ⟨a,xs,e,Fd.of h1,.inr<|.inr<|.inl ⟨rfl,rfl⟩⟩)
      ·cases hi;obtain⟨a,xs,o,e,h1,h2⟩:=rd.i;exact cI (.inr<|.inr<|.inr<|.inr ⟨a,xs,e,.inl<|.inr ⟨o,h1⟩,.inr<|.inr<|.inl ⟨rfl,rfl⟩⟩)
      ·cases hi;obtain⟨a,o,rfl,h1⟩:=rd.i;cases r;exact dI (kO I h1) (.inr<|.inr<|.inl rfl) rfl
      ·cases hi;obtain⟨_,a,xs,rfl,h1,h2,_⟩:=rd;cases r;exact dI (fQ I<|.inl ⟨_,h1⟩) (.inr<|.inr<|.inl rfl) rfl
      ·cases hi;obtain⟨_,a,xs,rfl,h1,h2,_⟩:=rd;cases r;exact dI (fQ I<|.inr ⟨_,h1⟩) (.inr<|.inr<|.inl rfl) rfl
      ·cases hi
     ·split at hi
      ·rename_i hT;subst hT;split at hi
       ·cases hi;exact cI (.inl ⟨_,rd.i,.inr<|.inl ⟨rfl,rfl⟩⟩)
       ·cases hi;exact cI (.inr<|.inl ⟨_,rd.i,.inr<|.inr<|.inl ⟨rfl,rfl⟩⟩)
       ·cases hi;exact cI (.inr<|.inr<|.inl ⟨_,rd.i,.inr<|.inr<|.inl ⟨rfl,rfl⟩⟩)
       ·cases hi;obtain⟨a,xs,e,h1,h2⟩:=rd.i;exact cI (.inr<|.inr<|.inr<|.inl ⟨a,xs,e,E1.of h1,.inl ⟨rfl,rfl⟩⟩)
       ·cases hi;cases (show x=.l_ from rd.i);cases r;exact nI (.inr<|.inr<|.inr rfl) rfl
       ·cases hi;obtain⟨_,a,xs,e,h1,h2,_⟩:=rd;exact cI (.inr<|.inr<|.inr<|.inr ⟨a,xs,e,Fd.of h1,.inr<|.inr<|.inr<|.inr ⟨rfl,rfl⟩⟩)
       ·cases hi;obtain⟨a,xs,o,e,h1,h2⟩:=rd.i;exact cI (.inr<|.inr<|.inr<|.inr ⟨a,xs,e,.inl<|.inr ⟨o,h1⟩,.inr<|.inr<|.inr<|.inr ⟨rfl,rfl⟩⟩)
       ·cases hi;obtain⟨a,o,rfl,h1⟩:=rd.i;cases r;exact dI (kO I h1) (.inr<|.inr<|.inr rfl) rfl
       ·cases hi;obtain⟨_,a,xs,rfl,h1,h2,_⟩:=rd;cases r;exact dI (fQ I<|.inl ⟨_,h1⟩) (.inr<|.inr<|.inr rfl) rfl
       ·cases hi;obtain⟨_,a,xs,rfl,h1,h2,_⟩:=rd;cases r;exact dI (fQ I<|.inr ⟨_,h1⟩) (.inr<|.inr<|.inr rfl) rfl
       ·cases hi
      ·cases hi
@[simp] def ci(T:String)(g:M Opd):M Vl:=fun D=>(g D).bind fun p=>(rsl p.2 p.1).bind fun d=>(eV T d).map fun b=>(.im<|.bl b,p.2)
variable{x:Str}{e:Expr}{g:M Opd}{pos:Pos}
theorem dP{T:String}{p p2:Pos}(hg:Gl X "isinstance")(hm:X.mg "isinstance" = none)(hv:bootBuiltins "isinstance" = some (.builtin "isinstance"))(R_:Gl X x)(Sa:X.mg x=none)(Sb:bootBuiltins x=some (.type T))(h:VO X e g)(hn:x ≠ "__name__" := by decide)(hd:(x == ("__debug__" : Str))=false:=by decide)(he:starEach [e,.Name x p2] X.env=(false,eval e X.env)::starEach [.Name x p2] X.env:=by rfl)(GV:starEach [.Name x p2] X.env=(false,eval (.Name x p2) X.env)::starEach [] X.env:=by rfl)(GF:(backTo pos<|starEach [.Name x p2] X.env).any (·.1)=false:=by rfl):VE X (.Call (.Name "isinstance" p) [e,.Name x p2] [] pos) (ci T g):=by
 refine be (pL zH hg hm hv (ma h (ma (vG (v:=.ty T) R_ Sa Sb rfl hn hd) pE GV) he) (by decide) (by decide) he GF) fun σ H Q ⟨D,F,r,D',st,nd,Gc,q⟩=>?_;obtain⟨⟨o,D1⟩,h1,h2⟩:=Z8.mp Gc;obtain⟨d,h3,h4⟩:=Z8.mp h2;obtain⟨b,h5,h6⟩:=Z2.mp h4;cases h6;exact⟨D,F,o,D1,st,nd,h1,fun v H1 F1 R q_ o1 s1=>⟨v,T,d,b,rfl,o1.read q_ h3,h5,q _ H1 F1 [] q_ ⟨rfl,rfl⟩ (by rw[ZO];exact s1.both)⟩⟩
@[simp] def ji:Vl->Option Bool
 | .im .l_=>some false
 | .im (.bl b)=>some b
 | .im (.int i)=>some (i != 0)
 | .im (.str x)=>if x.length<=100000 then some ((x.length:Int) != 0) else none
 | .im (.tup ds)=>some (!ds.isEmpty)
 | .lst ds=>some (!ds.isEmpty)
 | .fz ds=>some (!ds.isEmpty)
 | .dK kvs=>some (!kvs.isEmpty)
 | _=>none
theorem am.emp{ds:List Im}{xs:List V}(h:am H ds xs):(!xs.isEmpty)=!ds.isEmpty:=by
 cases ds with
 | nil=>cases (show xs=[] from h);rfl
 | cons d ds=>obtain⟨v,r,rfl,_⟩:=h;rfl
theorem zI{d:Vl}{v:V}{b:Bool}(h:Gi H d v)(e:ji d=some b):l9 X.K v H b:=by
 unfold ji at e;split at e
 ·cases e;cases (show v=_ from h.i);rfl
 ·cases e;cases (show v=_ from h.i);rfl
 ·cases e;cases (show v=_ from h.i);rfl
 ·split at e
  ·rename_i hl;cases e;cases (show v=_ from h.i);exact⟨gw hl,rfl⟩
  ·cases e
 ·cases e;obtain⟨p,xs,rfl,h1,h2⟩:=h.i;exact .inr (.inl ⟨xs,E1.of h1,h2.emp.symm⟩)
 ·cases e;obtain⟨_,p,xs,rfl,h1,h2,_⟩:=h;exact .inl ⟨xs,Fd.of h1,h2.emp.symm⟩
 ·cases e;obtain⟨_,p,xs,o,rfl,h1,h2,_⟩:=h;exact .inl ⟨xs,.inl<|.inr ⟨o,h1⟩,h2.emp.symm⟩
 ·cases e;obtain⟨_,p,Fv,rfl,h1,h2,_⟩:=h;refine .inr (.inr ⟨Fv,h1,?_⟩);cases h2<;>rfl
 ·cases e
@[simp] def bd(g:M Opd):M Bool:=fun D=>(g D).bind fun p=>(rsl p.2 p.1).bind fun d=>(ji d).map fun b=>(b,p.2)
theorem cu(h:VO X e g)(he:∀ whole,isTrue e X.env whole=(do let v <- whole;standAt e.pos;holding [v] (truthy v)):=by intro _;rfl):VT X e (bd g):=by
 refine mG (xf h he) fun σ H Q ⟨D,F,b,D',st,nd,Gc,q⟩=>?_;obtain⟨⟨o,D1⟩,h1,h2⟩:=Z8.mp Gc;obtain⟨d,h3,h4⟩:=Z8.mp h2;obtain⟨b',h5,h6⟩:=Z2.mp h4;cases h6;exact⟨D,F,o,D1,st,nd,h1,fun v H1 F1 R q_ o1 s1=>⟨_,zI (o1.read q_ h3) h5,q H1 F1 q_ s1.both⟩⟩
theorem q8{i:Int}{t:Tok}(hg:Gl X x)(hm:X.mg x=some (.int i t))(hd:(x == ("__debug__" : Str))=false:=by decide):VE X (.Name x pos) (eC<|.int i):=hU (pf (v:=.int i) hg hm ⟨t,rfl⟩ hd) fun _=>rfl
theorem zJ{f:Addr}(hg:Gl X x)(hm:X.mg x=some (.ref f))(hd:(x == ("__debug__" : Str))=false:=by decide):VE X (.Name x pos) (eC<|.fn f):=hU (pf (v:=.ref f) hg hm rfl hd) fun _=>rfl
end
variable{Fs apos:Pos}{o:Expr}{id T:String}{name:Str}{g:M (List Opd)}{i:Nat}{ty:Vl->Bool}{K:PySem.W.Frag}{o':HO}{a:Addr}{H:Hp}
theorem o_.chg{F F1:List Addr}(ha:a∈F)(c:G_ H a)(nd:F1.Nodup)(sb:∀ x∈F1,x∈F):o_ H F (upd H a o') F1:=by
 obtain⟨o,e,ht,hf⟩:=c;refine⟨fun x u ex hx=>?_,fun x hx=>.inl<|sb x hx,nd,w_.of (fun x xs ex=>?_)<|fun x p u ex=>?_,fun x u ex=>?_⟩
 ·rw[aD (fun z=>hx (by rw[z];exact ha))];exact ex
 ·rw[aD]
  ·exact ex
  ·rintro rfl;rw[e] at ex;exact ht xs (Zq ex)
 ·rw[aD]
  ·exact ex
  ·rintro rfl;rw[e] at ex;exact hf p u (Zq ex)
 ·by_cases hx:x=a
  ·subst hx;exact⟨o',bm⟩
  ·exact⟨u,(aD hx).trans ex⟩
theorem E7.Ij(c:G_ H a):H9 H (upd H a o'):=(o_.chg (F:=[a]) (F1:=[]) (.head _) c YG<|fun x hx=>nomatch hx).tup.tup
def NQ(X:Cx)(id:String)(mt:Vl->List Vl->Option (Vl×Vl)):Prop:=
 Oq X id fun x vs H Q=>∃ c ds r c' R S,Own H c x R/\aV H ds vs S/\(R++S).Nodup/\mt c ds=some (r,c')/\∀ v H' R1 R2,Own H' r v R1->Own H' c' x R2->o_ H (R++S) H' (R1++R2)->Q v H'
@[simp] def gz:Vl->Bool
 | .lst _=>true
 | .FV _=>true
 | _=>false
@[simp] def dz(ty:Vl->Bool)(i:Nat)(mt:Vl->List Vl->Option (Vl×Vl))(g:M (List Opd)):M Vl:=fun D=>match D[i]? with
 | some (some c0)=>if ty c0=true then (g D).bind fun p=>(bi p.1 p.2).bind fun q=>match q.2[i]? with
   | some (some c)=>(mt c q.1).map fun r=>(r.1,q.2.set i<|some r.2)
   | _=>none
  else none
 | _=>none
theorem q9{mt:Vl->List Vl->Option (Vl×Vl)}{σ:St}{Q:VK}(JI:∀ H c x R,Own H c x R->ty c=true->Kb K T x H)(h:tV (dz ty i mt g) σ H Q):∃ x,σ[i]?=some (some x)/\Kb K T x H/\tA g σ H fun vs H2=>∃ c ds r c' R S,Own H2 c x R/\aV H2 ds vs S/\(R++S).Nodup/\mt c ds=some (r,c')/\∀ v H' R1 R2,Own H' r v R1->Own H' c' x R2->o_ H2 (R++S) H' (R1++R2)->Q v H':=by
 obtain⟨D,F,r,D',st,nd,hg,q⟩:=h;unfold dz at hg;split at hg
 ·rename_i c0 OX;split at hg
  ·rename_i ht;obtain⟨x,A0,B0,hx,w0,_,_⟩:=st.out OX;refine⟨x,hx,JI H c0 x _ w0 ht,?_⟩;obtain⟨⟨os,D1⟩,h1,h2⟩:=Z8.mp hg;obtain⟨⟨ds,D2⟩,h3,h4⟩:=Z8.mp h2;refine⟨D,F,os,D1,st,nd,h1,fun vs H1 F1 R1 q_ o1 s1=>?_⟩;obtain⟨F2,S,p_,ow,pm⟩:=fJ q_ o1 h3;dsimp only at h4;split at h4
   ·rename_i c hc;obtain⟨⟨r',c'⟩,h5,h6⟩:=Z2.mp h4;cases h6;obtain⟨x',R,F3,HG,w1,FM,Mu⟩:=p_.out hc;rw[hx] at HG;cases HG;have s2:o_ H F H1 ((R++S)++F3):=s1.Fy (pm.symm.trans ((ZE S Mu.symm).trans (by
     rw[Z4];exact ZT)))
    have Hn:=ZH.mp s2.nd;refine⟨c,ds,_,c',R,S,w1,ow,Hn.1,h5,fun v H' A B wa wb s3=>?_⟩;have FY:ao H' (D2.set i<|some .jk) σ F3:=FM.mono s3.tup fun a ha o e=>s3.keep a o e fun h=>Hn.2.2 a h a ha rfl;obtain⟨F4,G,Ge,JX⟩:=FY.back wb hx;rw[Vd] at Ge;refine q v H' F4 A Ge wa ((s2.trans s3 FM.chg).less (C:=G) ?_);rw[Z4];refine (ZL F4 ZT).trans ?_;rw[<- Z4];refine (ZE A JX).trans ?_;rw[Z4];refine ZT.trans ?_;rw[Z4];refine ZT.trans ?_;rw[Z4,Z4];refine (ZL A ?_);exact ZT
   ·cases h4
  ·cases hg
 ·cases hg
section
variable{X:Cx}
theorem jj:∀ (H:Hp) (c:Vl) (x:V) (R:List Addr),Own H c x R->gz c=true->Kb K "list" x H:=by
 intro H c x R h e;cases c with
 | lst ds=>obtain⟨a,xs,rfl,h1,_⟩:=h;exact .inl ⟨rfl,xs,Fd.of h1⟩
 | FV ds=>obtain⟨a,xs,G,rfl,h1,_⟩:=h;exact .inl ⟨rfl,xs,Fd.of h1⟩
 | _=>cases e
theorem kP{mt:Vl->List Vl->Option (Vl×Vl)}{e:Expr}{es:List Expr}(JI:∀ H c x R,Own H c x R->ty c=true->Kb X.K T x H)(pa:PlainAttrs T)(slot:Slot T name id)(ht:typeOf (.builtin id)=pure (.type "method_descriptor"))(hm:NQ X id mt)(ho:PE X o (et i))(ha:VA X (e::es) g)(Gr:attributeBase o name X.env (eval o X.env)=eval o X.env:=by rfl)(KO:((backTo Fs<|starEach (e::es) X.env).all (fun x=>!x.1) && (backToKw Fs<|keywordEach [] X.env).all (fun x=>x.1.isSome)
   && decide ((e::es).length+([]:List Keyword).length+(if ([]:List Keyword).isEmpty then 0 else 1)<30))=true:=by rfl)(Gs:(apos.endLine == Fs.line)=true:=by rfl)(hs:starEach (e::es) X.env=(false,eval e X.env)::starEach es X.env:=by rfl)(Hs:(backTo Fs<|starEach es X.env).any (·.1)=false:=by rfl):
  VE X (.Call (.Attribute o name apos) (e::es) [] Fs) (dz ty i mt g):=
 be (x9 pa slot ht hm ho ha Gr KO Gs hs Hs) fun σ H Q h=>by
  obtain⟨x,hx,h1,h2⟩:=q9 JI h;exact⟨x,hx,h1,h2⟩
theorem zK{mt:Vl->List Vl->Option (Vl×Vl)}(JI:∀ H c x R,Own H c x R->ty c=true->Kb X.K T x H)(pa:PlainAttrs T)(slot:Slot T name id)(ht:typeOf (.builtin id)=pure (.type "method_descriptor"))(hm:NQ X id mt)(ho:PE X o (et i))(Gr:attributeBase o name X.env (eval o X.env)=eval o X.env:=by rfl)(Gs:(apos.endLine == Fs.line)=true:=by rfl):
  VE X (.Call (.Attribute o name apos) [] [] Fs) (dz ty i mt aNil):=
 be (x8 pa slot ht hm ho Gr Gs) fun σ H Q h=>by
  obtain⟨x,hx,h1,h2⟩:=q9 JI h;refine⟨x,hx,h1,?_⟩;obtain⟨D,F,r,D',st,nd,hg,q⟩:=h2;cases hg;exact q [] H F [] st ⟨rfl,rfl⟩ (by rw[ZO];exact o_.perm nd (ZC _))
@[simp] def mAppend:Vl->List Vl->Option (Vl×Vl):=fun c ds=>match c,ds with
 | .lst xs,[.im d]=>if xs.length<100000 then some (.im .l_,.lst<|xs++[d]) else none
 | _,_=>none
theorem mV{n:Nat}(h:n<100000):n<sizeLine:=Zt h (by decide)
theorem kQ:NQ X "list.append" mAppend:=by
 intro pins s σ H x vs v us Q I rx rv ⟨c,ds,r,c',R,S,wc,wd,nd,e,q⟩;unfold mAppend at e;split at e
 ·split at e
  ·rename_i hl;cases e;obtain⟨a,ys,rfl,h1,h2,rfl⟩:=wc;obtain⟨y,t,S1,S2,rfl,⟨hy,rfl⟩,⟨rfl,rfl⟩,rfl⟩:=wd;have c:G_ H a:=⟨_,h1,(fun _ e=>by cases e),(fun _ _ e=>by cases e)⟩;refine yb pins s σ H _ _ v us Q I rx rv ⟨a,ys,y,rfl,rfl,h1,mV (by rw[<- h2.length];exact hl),q .l_ _ [] [a] ⟨rfl,rfl⟩ ?_ (o_.chg (.head _) c (Zz _ _) fun x hx=>by simpa using hx)⟩;exact⟨a,_,rfl,bm,(h2.snoc hy).mono<|E7.Ij c,rfl⟩
  ·cases e
 ·cases e
@[simp] def mPop:Vl->List Vl->Option (Vl×Vl):=fun c ds=>match c,ds with
 | .lst xs,[]=>(xs.getLast?).map fun d=>(.im d,.lst xs.dropLast)
 | _,_=>none
theorem am.last{ds:List Im}{xs:List V}{d:Im}(h:am H ds xs)(e:ds.getLast?=some d):∃ v,xs[xs.length - 1]?=some v/\E7 H d v/\am H ds.dropLast xs.dropLast:=by
 rw[List.getLast?_eq_getElem?] at e;obtain⟨v,g1,g2⟩:=h.get e;refine⟨v,by rw[<- h.length];exact g1,g2,?_⟩;rw[List.dropLast_eq_take,List.dropLast_eq_take,<- h.length];exact h.take _
theorem zL:NQ X "list.pop" mPop:=by
 intro pins s σ H x vs v us Q I rx rv ⟨c,ds,r,c',R,S,wc,wd,nd,e,q⟩;unfold mPop at e;split at e
 ·obtain⟨d,e1,e2⟩:=Z2.mp e;cases e2;obtain⟨a,ys,rfl,h1,h2,rfl⟩:=wc;obtain⟨rfl,rfl⟩:=wd;obtain⟨y,g1,g2,g3⟩:=h2.last e1;have c:G_ H a:=⟨_,h1,(fun _ e=>by cases e),(fun _ _ e=>by cases e)⟩;refine yc pins s σ H _ _ v us Q I rx rv ⟨a,ys,y,rfl,rfl,h1,g1,q y _ [] [a] ⟨g2.mono<|E7.Ij c,rfl⟩ ?_ (o_.chg (.head _) c (Zz _ _) fun x hx=>by simpa using hx)⟩;exact⟨a,_,rfl,bm,g3.mono<|E7.Ij c,rfl⟩
 ·cases e
@[simp] def Ep:Vl->List Vl->Option (Vl×Vl):=fun c ds=>match c,ds with
 | .lst xs,[.im (.int i)]=>if 0<=i/\i<xs.length then (xs[i.toNat]?).map fun d=>(.im d,.lst<|xs.eraseIdx i.toNat) else none
 | _,_=>none
def kR(X:Cx)(pt:Vl->Vl->Vl->Option Vl):Prop:=
 lZ X fun o i v H Q=>∃ c k d c' R S,Own H c o R/\Own H k i []/\Own H d v S/\(R++S).Nodup/\pt c k d=some c'/\∀ H' R',Own H' c' o R'->o_ H (R++S) H' R'->Q H'
@[simp] def putV(c k d:Vl):Option Vl:=match c,k,d with
 | .lst xs,.im<|.int i,.im d=>(IA xs.length i).map fun j=>.lst (xs.set j d)
 | _,_,_=>none
theorem am.set{H:Hp}{d:Im}{v:V}(w:E7 H d v):∀ {ds:List Im}{xs:List V} (n:Nat),am H ds xs->am H (ds.set n d) (xs.set n v)
 | [],xs,n,h=>by cases (show xs=[] from h);exact rfl
 | e::ds,xs,0,h=>by obtain⟨u,r,rfl,h1,h2⟩:=h;exact⟨v,r,rfl,w,h2⟩
 | e::ds,xs,n+1,h=>by obtain⟨u,r,rfl,h1,h2⟩:=h;exact⟨u,_,rfl,h1,am.set w n h2⟩
theorem ra:kR X putV:=by
 intro pins s σ H o i v ov iv u Q I ro ri rv ⟨c,k,d,c',R,S,wc,wk,wd,nd,e,q⟩;unfold putV at e;split at e
 ·obtain⟨j,e1,e2⟩:=Z2.mp e;cases e2;obtain⟨a,ys,rfl,h1,h2,rfl⟩:=wc;obtain⟨hd,rfl⟩:=wd;have c:G_ H a:=⟨_,h1,(fun _ e=>by cases e),(fun _ _ e=>by cases e)⟩;refine xT pins s σ H _ _ _ ov iv u Q I ro ri rv ⟨a,ys,_,j,rfl,wk.1,h1,by rw[<- h2.length];exact e1,q _ [a] ?_ (o_.chg (.head _) c (Zz _ _) fun x hx=>by simpa using hx)⟩;exact⟨a,_,rfl,bm,(am.set hd j h2).mono<|E7.Ij c,rfl⟩
 ·cases e
@[simp] def gIx(i:Nat)(gk:M Vl)(pt:Vl->Vl->Vl->Option Vl):MG:=fun d D=>match D[i]? with
 | some (some _)=>(gk D).bind fun p=>if p.1.cp=true then match p.2[i]? with
   | some (some c)=>(pt c p.1 d).map fun c'=>p.2.set i (some c')
   | _=>none
  else none
 | _=>none
theorem ig{fix:List Nat}{k:Expr}{gk:M Vl}{pt:Vl->Vl->Vl->Option Vl}{pos:Pos}(ho:PE X o (et i))(hk:VE X k gk)(hp:kR X pt)(ha:∀ v,assign (.Subscript o k pos) X.env v=(do
   let ov <- holding [v] (eval o X.env)
   let iv <- holding [v,ov] (eval k X.env)
   standAt pos
   holding [v,ov,iv] (setItem ov iv v)
   release [v,ov,iv] []):=by intro _;rfl):VG X fix (.Subscript o k pos) (gIx i gk pt):=by
 refine mJ (wn ho hk hp ha) fun v σ H Q ⟨D,F,d,R,D',st,ow,nd,hg,q⟩=>?_;unfold gIx at hg;split at hg
 ·rename_i c0 OX;obtain⟨x,A0,B0,hx,w0,_,_⟩:=st.out OX;obtain⟨⟨kd,D1⟩,h1,h2⟩:=Z8.mp hg;split at h2
  ·rename_i Sc;refine⟨x,hx,D,F,kd,D1,st,(ZH.mp nd).1,h1,fun kv H1 F1 RK q_ wk s1=>?_⟩;obtain rfl:=wk.cp Sc;rw[ZO] at s1;have Sd:=ZH.mp nd;dsimp only at h2;split at h2
   ·rename_i c hc;obtain⟨c',h5,h6⟩:=Z2.mp h2;cases h6;obtain⟨x',RC,F3,HG,w1,FM,Mu⟩:=q_.out hc;rw[hx] at HG;cases HG;have Se:Own H1 d v R:=ow.mono s1.tup fun a ha o e=>s1.keep a o e fun h=>Sd.2.2 a h a ha rfl;have s2:o_ H (F++R) H1 ((RC++R)++F3):=by
     have e0:o_ H (F++R) H (F++R):=o_.perm nd (ZC _);have:=o_.trans (F1:=F) (R:=R) e0 s1 ow.chg;refine this.Fy ((ZE R Mu.symm).trans ?_);rw[Z4];exact ZT
    have Hn:=ZH.mp s2.nd;refine⟨c,kd,d,c',RC,R,w1,wk,Se,Hn.1,h5,fun H' R' w' s3=>?_⟩;have FY:ao H' (D1.set i<|some .jk) σ F3:=FM.mono s3.tup fun a ha o e=>s3.keep a o e fun h=>Hn.2.2 a h a ha rfl;obtain⟨F4,G,Ge,JX⟩:=FY.back w' hx;rw[Vd] at Ge;exact q σ H' F4 aP.refl Ge ((s2.trans s3 FM.chg).less<|JX.trans ZT)
   ·cases h2
  ·cases h2
 ·cases hg
end
section
variable{prog:Program}{w:World}{A:Around}{E:Value->Shared->Prop}{s:Shared}
end
section
variable{X:Cx}
end
end L2
namespace L2
open PySem PySem.Spec PyProof.Rows PySem.W
variable{ns:List Int}{p:Array Nat}{α:Type}
theorem zM(l:List α)(d:α):(range l.length).map (fun i=>l.getD i d)=l:=by
 apply VD
 ·simp
 ·intro i h1 h2;simp[List.getD,h2]
theorem kS{l:List α}{d:α}(h:Rg l.length p):(p.toList.map fun i=>l.getD i d).Perm l:=by
 have:=Vj (fun i=>l.getD i d) h;rw[zM] at this;exact this
theorem kT{α β:Type}{F:α->β->Prop}:∀ {l₁:List α}{l₂:List β},l₁.length=l₂.length->(∀ (i:Nat) a b,l₁[i]?=some a->l₂[i]?=some b->F a b)->Paired F l₁ l₂
 | [],[],_,_=>.nil
 | a::l,b::m,h,f=>.cons (f 0 a b rfl rfl) (kT (by simpa using h) fun i x y h1 h2=>f (i+1) x y (by simpa using h1) (by simpa using h2))
 | [],_::_,h,_=>by simp at h
 | _::_,[],h,_=>by simp at h
section
variable{prog:Program}{w:World}{A:Around}{E:Value->Shared->Prop}{s:Shared}{vs:List Value}
theorem mW{B:Addr}{n0:Nat}{P:PySem.Fin->Shared->Prop}(key:Nat->Int)(κ:SortKind)(ho:s.heap.get? B=some (seqObj "list" vs.toArray n0))(r_:2<=vs.length->∀ h6:Heap,(∀ b o,b≠B->s.heap.get? b=some o->h6.get? b=some o)->∀ Q:SortKind->Shared->Prop,Q κ { s with heap:=h6 }->wpAny (model prog w) A (keyKind' vs.toArray) Q E { s with heap:=h6 })(La:∀ h6:Heap,(∀ b o,b≠B->s.heap.get? b=some o->h6.get? b=some o)->cz vs.length key (kas_cmp prog w A κ<|vs.toArray.zip vs.toArray) { s with heap:=h6 })(inj:∀ i j,i<vs.length->j<vs.length->key i=key j->i=j)(up:vs.length<1001\/∀ j,1<=j->j<vs.length->key (j - 1)<=key j)(hz:vs.length<=1000)(h:∀ (p:Array Nat) (h':Heap),Rg vs.length p->Up key p vs.length->(∀ b o,b≠B->s.heap.get? b=some o->h'.get? b=some o)->(∃ e,h'.get? B=some (seqObj "list" (p.toList.map fun i=>vs.getD i Value.none).toArray e))->
   P (.done<|.ret .none) { s with heap:=h' }):wpAny (model prog w) A (Builtin.«list.sort» ⟨[.ref B],[]⟩) P E s:=by
 have Qr:vs.length<=sizeLine:=Zn hz (by decide);rw[list_sort_plain];have hB:B<s.heap.objs.size:=ZP ho;refine Z9 (listItems_at ho rfl (Z9 (listUpdate_at ho rfl ?_ (hsz:=by rw[ZQ];exact Qr) (hsz2:=by show 0<=_;exact Yz _))));have Kq:=get?_update_seq ho (fun _=>#[]);generalize OY:(if (#[]:Array Value).size == vs.toArray.size then n0 else n0+1)=e1 at Kq;refine Z9 (seqEpoch_at Kq rfl (Z9 (wpAny_newTuple (Z9<|VM<|YY ?_) (by simpa using Qr))));have k6:∀ b o,b≠B->s.heap.get? b=some o->(((s.heap.update B<|Obj.mapSeq fun _=>#[]).push<|seqObj "tuple" vs.toArray.toList.toArray 0).push<|seqObj "list" ([]:List Value).toArray 0).get? b=some o:=fun b o hb e=>
  Z7 _ (Z7 _<|(Y0 _ _<|Yb hb).trans e);have o6:(((s.heap.update B<|Obj.mapSeq fun _=>#[]).push<|seqObj "tuple" vs.toArray.toList.toArray 0).push<|seqObj "list" ([]:List Value).toArray 0).get? B=some (seqObj "list" #[] e1):=
  Z7 _ (Z7 _ Kq);show wpAny (model prog w) A _ P E { s with heap:=((s.heap.update B<|Obj.mapSeq fun _=>#[]).push<|seqObj "tuple" vs.toArray.toList.toArray 0).push (seqObj "list" ([]:List Value).toArray 0) };generalize ((s.heap.update B<|Obj.mapSeq fun _=>#[]).push<|seqObj "tuple" vs.toArray.toList.toArray 0).push (seqObj "list" ([]:List Value).toArray 0)=h6 at k6 o6 ⊢;have fin:∀ (st:SortSt) (p:Array Nat),Rg vs.length p->Up key p vs.length->arrOf st=p.map (kas_item<|vs.toArray.zip vs.toArray)->failedOf st=none->
   wpAny (model prog w) A (do
    let touched:=(<- seqEpoch B) != e1
    Builtin.List.listUpdate (.ref B) fun _=>(arrOf st).map (·.2)
    if let some e:=failedOf st then rule "list.sort.comparison-raised";throw e
    if touched then rule "list.sort.modified";raiseError "ValueError" "list modified during sort"
    ret .none) P E { s with heap:=h6 }:=fun st p r1 r2 r3 r4=>by
  have out:=kat_snds (ks:=vs) (vs:=vs) rfl r3;rw[out,r4];refine Z9 (seqEpoch_at (s:={ s with heap:=h6 }) o6 rfl (Z9 (listUpdate_at (s:={ s with heap:=h6 }) o6 rfl ?_ (hsz:=Yz _) (hsz2:=by
   show (List.toArray<|p.toList.map fun i=>vs.getD i Value.none).size<=_;rw[ZQ,Z3,ZN,r1.size];lia))))
  simp only[bne_self_eq_false,Zg,Yr];refine Z6 (h p _ r1 r2 (fun b o hb e=>(Y0 _ _<|Yb hb).trans<|k6 b o hb e) ⟨_,get?_update_seq o6 fun _=>_⟩)
 dsimp only;by_cases h2:vs.toArray.size<2
 ·rw[ZY h2,ZY h2];refine Z9 (Z6 ?_);rw[StateT.run_pure];apply Z9;apply Z6;have Kn:vs.length<2:=by simpa using h2
  refine fin (SortSt.mk' general' (vs.toArray.zip vs.toArray) #[] 7 none) (range vs.length).toArray (ZC _) (fun i j Gp hj=>?_) ?_ rfl
  ·have:i=j:=by lia
   subst this;exact Xm _
  ·have:=kas_range (vs.toArray.zip vs.toArray);rw[show (vs.toArray.zip vs.toArray).size=vs.length by simp] at this;exact this.symm
 ·rw[ZW h2,ZW h2];have Kn:2<=vs.length:=by simpa using h2
  refine Z9 (r_ Kn h6 k6 _ ?_)
  ·have cm:=La h6 k6;have kr:=kas_range (vs.toArray.zip vs.toArray);rw[show (vs.toArray.zip vs.toArray).size=vs.length by simp] at kr;have run:=yQ (E:=E) (Q:=fun _ st s'=>s'={ s with heap:=h6 }/\∃ p,Rg vs.length p/\Up key p vs.length/\arrOf st=p.map (kas_item<|vs.toArray.zip vs.toArray)/\failedOf st=none) cm
    inj Kn up fun p' g_ a b c d=>⟨rfl,p',a,b,c,d⟩;unfold kas_st at run;rw[kr] at run;refine Z9 (YA run (fun r s' hr=>?_) fun _ _ e=>e);obtain⟨u,st⟩:=r;obtain⟨rfl,p,r1,r2,r3,r4⟩:=hr;exact fin st p r1 r2 r3 r4
end
section
variable{X:Cx}{pins:List (Addr×Obj)}{σ:L2.St}{H:Hp}{s:Shared}
theorem rb(hc:X.calm=true){a:Addr}{ys:List V}{f_:List Value}{n:Nat}{T:String}{o:Obj}{Q:VK}(key:Nat->Int)(κ:SortKind)(I:Inv X pins σ H s)(rv:au ys f_)(hT:T = "list" \/ T = "tuple")(e:s.heap.get? a=some o)(eC:o.cls=.type T)(eD:o.data=.seq f_.toArray n)(hz:ys.length<=1000)(r_:2<=f_.length->∀ (h6:Heap) (tk:Nat),(∀ b o,s.heap.get? b=some o->h6.get? b=some o)->∀ (A:Around) (E:Value->Shared->Prop) (Q:SortKind->Shared->Prop),Q κ { s with heap:=h6,toks:=tk }->wpAny (model X.prog X.w) A (keyKind' f_.toArray) Q E { s with heap:=h6,toks:=tk })(La:∀ (h6:Heap) (tk:Nat),(∀ b o,s.heap.get? b=some o->h6.get? b=some o)->cz f_.length key (kas_cmp X.prog X.w X.A.in1.in1 κ<|f_.toArray.zip f_.toArray) { s with heap:=h6,toks:=tk })(inj:∀ i j,i<f_.length->j<f_.length->key i=key j->i=j)(up:f_.length<1001\/∀ j,1<=j->j<f_.length->key (j - 1)<=key j)(q:∀ (p:Array Nat) l,Rg f_.length p->Up key p f_.length->H l=none->Q (.ref l) (upd H l<|.lst<|p.toList.map fun i=>ys.getD i .l_)):
  wpAny (model X.prog X.w) X.A (call (.builtin "sorted") [.ref a]) (EP X pins σ Q) X.xe s:=by
 have hl:ys.length=f_.length:=rv.length;have My:f_.length<=sizeLine:=Zn (by lia) (show 1000<=sizeLine by decide);refine Xf kind_sorted plain_sorted entry_sorted (args_sorted1 _) ?z
 case z=>
  unfold Builtin.«sorted»;refine Z9 (m:=checkCount "sorted" 1 1 _) (Z6 (Z9 (wpAny_collect_seq a hT e eC eD (fun h' JZ=>?_) (by rw[ZQ];exact My))));show wpAny _ _ (newList f_ >>= _) _ _ _;refine Z9 (VM ?_ My);have oB:(h'.push<|seqObj "list" f_.toArray 0).get? h'.objs.size=some (seqObj "list" f_.toArray 0):=ZS _ rfl;have kB:∀ b o,s.heap.get? b=some o->(h'.push<|seqObj "list" f_.toArray 0).get? b=some o:=fun b o e=>Z7 _ (JZ b o e);have I1:Inv X pins σ H { s with heap:=h' }:=I.kept (t':=s.toks) JZ;have nB:∀ b o,s.heap.get? b=some o->b≠h'.objs.size:=fun b o e=>Zx (ZP<|JZ b o e);refine Z9 (YY<|Zj slot_list_sort ⟨_,oB,rfl⟩ entry_list_sort ?y<|args_list_sort _)
  case y=>
   refine mW (s:={ s with heap:=h'.push (seqObj "list" f_.toArray 0) }) key κ oB (fun h2 h6 k6 Q hq=>r_ h2 h6 s.toks (fun b o eb=>k6 b o (nB b o eb)<|kB b o eb) _ _ Q hq) (fun h6 k6=>La h6 s.toks fun b o eb=>k6 b o (nB b o eb)<|kB b o eb) inj up (by lia) fun p h2 r1 r2 k2 ⟨e9,Mz⟩=>⟨_,rfl,Z6 ⟨_,rfl,?_⟩⟩;have fB:H h'.objs.size=none:=I1.n_.fresh (ZV _);have OZ:∀ b o,h'.get? b=some o->b≠h'.objs.size:=fun b o e=>Zx (ZP e);refine⟨.ref h'.objs.size,upd H h'.objs.size<|.lst<|p.toList.map fun i=>ys.getD i .l_,?_,rfl,q p _ r1 r2 fB⟩;refine I1.laid (t':=s.toks) (fun b u e=>k2 b u (OZ b u e)<|Z7 _ e) (ZV _) ⟨?_,_,e9,?_,Mz⟩
   ·rw[Z3,ZN,r1.size];lia
   ·refine kT (by simp) fun i v u h1 h2=>?_;rw[ZB] at h1 h2;cases Jd:p.toList[i]? with
    | none=>rw[Jd] at h1;cases h1
    | some k=>
     rw[Jd] at h1 h2;cases h1;cases h2;have hk:k<f_.length:=Zi.mp (r1.mem_iff.mp<|Zr Jd);obtain⟨u,h3,h4⟩:=rv.get (i:=k) (x:=ys[k]'(by lia)) (by simp[show k<ys.length by lia]);rw[Z0 hk] at h3;have h3:=Zq h3;simp only[List.getD,Z0 hk,Z0 (show k<ys.length by lia),WB];rw[h3];exact h4
end
def ii(ns:List Int)(i:Nat):Int:=ns.getD i 0
theorem rc(nd:ns.Nodup):∀ i j,i<ns.length->j<ns.length->ii ns i=ii ns j->i=j:=fun i j hi hj e=>by
 unfold ii at e;rw[Z5,Z5,Z0 hi,Z0 hj] at e;have e':ns[i]=ns[j]:=e;rcases WP i j with h | h | h
 ·exact absurd e' ((YQ.mp nd) i j hi hj h)
 ·exact h
 ·exact absurd e'.symm ((YQ.mp nd) j i hj hi h)
theorem Sf(hp:Rg ns.length p)(up:Up (ii ns) p ns.length)(nd:ns.Nodup):(p.toList.map fun i=>ns.getD i 0).Pairwise (· < ·):=by
 rw[YQ];intro i j hi hj Gp;have hs:=hp.size;have GG:i<ns.length:=by simpa [hs] using hi
 have Kk:j<ns.length:=by simpa [hs] using hj
 have ne:=hp.ne (rc nd) Gp Kk;have le:=up i j (by lia) Kk;have g:∀ k (hk:k<(p.toList.map fun i=>ns.getD i 0).length),(p.toList.map fun i=>ns.getD i 0)[k]=B_ (ii ns) p k:=fun k hk=>by
  have F9:k<p.size:=by simpa using hk
  rw[List.getElem_map,Array.getElem_toList];show _=ns.getD (p.getD k 0) 0;simp[Array.getD,F9]
 rw[g i hi,g j hj];lia
section
variable{X:Cx}
theorem kU{H:Hp}:∀ {ns:List Int}{f_:List Value},au (ns.map V.int) f_->∀ (i:Nat),i<ns.length->∃ t,f_[i]?=some (.int (ns.getD i 0) t)
 | n::r,_,.cons a b,0,h=>by obtain⟨t,rfl⟩:=a;exact⟨t,rfl⟩
 | n::r,_,.cons a b,i+1,h=>by
  obtain⟨t,e⟩:=kU (H:=H) b i (by simpa using h);exact⟨t,by simpa using e⟩
theorem zN(hc:X.calm=true):bt X (.builtin "sorted") (fun xs H Q=>∃ (a:Addr) (ns:List Int),xs=[.ref a]/\H a=some (.lst<|ns.map V.int)/\ns.Nodup/\ns.length<=1000/\
  ∀ l (NR:List Int),H l=none->NR.Perm ns->NR.Pairwise (· < ·)->Q (.ref l) (upd H l<|.lst<|NR.map V.int)):=by
 intro pins s σ H xs us Q I r h;obtain⟨a,ns,rfl,ha,nd,hz,q⟩:=h;obtain⟨u,rfl,ru⟩:=cK r;cases ru;obtain⟨z,f_,n,rv,e⟩:=I.n_ a _ ha;have li:f_.length=ns.length:=by rw[<- rv.length,Z3]
 refine rb hc (ii ns) oneType' I rv (.inl rfl) e rfl rfl (by rw[Z3];exact hz) (fun h2 h6 tk k A E Q hq=>?_) (fun h6 tk k=>?_) (by rw[li];exact rc nd) (.inl (by lia)) fun p l r1 r2 fl=>?_
 ·refine kas_kind (T:=Value.type "int") h2 (fun v hv=>?_) (by decide) (by decide) hq;obtain⟨i,hi⟩:=Xk hv;obtain⟨t,ht⟩:=kU (H:=H) rv i (by rw[<- li];exact (Zv.mp hi).1);rw[hi] at ht;cases ht;exact Looks.of_pure rfl
 ·intro i j C hi hj q;obtain⟨t,h1⟩:=kU (H:=H) rv i (by lia);obtain⟨u,h2⟩:=kU (H:=H) rv j (by lia);unfold kas_cmp;rw[kat_item rfl,kat_item rfl,Z5,Z5,h1,h2];show wpAny _ _ (keyLt' oneType' (.int _ t)<|.int _ u) _ _ _;rw[keyLt'_oneType];exact oneLt_int q
 ·rw[li] at r1 r2;have e2:(p.toList.map fun i=>(ns.map V.int).getD i .l_)=(p.toList.map fun i=>ns.getD i 0).map V.int:=by
   rw[YK];refine Wk fun k hk=>?_;have F9:k<ns.length:=Zi.mp (r1.mem_iff.mp hk);show (ns.map V.int).getD k .l_=V.int (ns.getD k 0);simp[List.getD,F9]
  rw[e2];exact q l _ fl (kS r1) (Sf r1 r2 nd)
end
end L2
namespace L2
open PySem PySem.Spec PyProof.Rows
section
variable{X:Cx}
def bp:List Im->List Im->List Im
 | x::xs,y::ys=>.tup [x,y]::bp xs ys
 | _,_=>[]
theorem mX:∀ (xs ys:List Im),(bp xs ys).length=min xs.length ys.length
 | [],ys=>by simp[bp]
 | x::xs,[]=>by simp[bp]
 | x::xs,y::ys=>by simp[bp,mX xs ys]
theorem mY:∀ (xs ys:List Im) (i:Nat) (d:Im),(bp xs ys)[i]?=some d->∃ x y,xs[i]?=some x/\ys[i]?=some y/\d=.tup [x,y]
 | [],ys,i,d,h=>by simp[bp] at h
 | x::xs,[],i,d,h=>by simp[bp] at h
 | x::xs,y::ys,0,d,h=>by simp[bp] at h;exact⟨x,y,rfl,rfl,h.symm⟩
 | x::xs,y::ys,i+1,d,h=>by
  obtain⟨a,b,h1,h2,h3⟩:=mY xs ys i d (by simpa [bp] using h);exact⟨a,b,by simpa using h1,by simpa using h2,h3⟩
@[simp] def iZ(g:M (List Opd)):MI:=fun D=>(g D).bind fun p=>(ce p.2 p.1).bind fun ds=>match ds with
 | [.im (.tup x),.im<|.tup y]=>some ((bp x y,none),p.2)
 | _=>none
theorem zO{K:PySem.W.Frag}{H:Hp}{a b:Addr}{xs ys:List V}{ds es:List Im}(h:H a=some (.tup xs))(hd:am H ds xs)(h':H b=some (.tup ys))(Jr:am H es ys):GL (NI K a b) H [] (bp ds es) where
 go:=fun H' t k i d e=>by
  obtain⟨x,y,e1,e2,rfl⟩:=mY ds es i d e;obtain⟨v,g1,g2⟩:=hd.get e1;obtain⟨u,k1,k2⟩:=Jr.get e2;have q1:=E1.of (K:=K) (t.tup a _ h);have q2:=E1.of (K:=K) (t.tup b _ h');refine⟨⟨xs,ys,v,u,q1,q2,g1,k1⟩,fun z JV ⟨T,x',y',f,ez,eH,y1,y2⟩=>?_⟩;subst ez eH;have z1:=y1 xs q1;have z2:=y2 ys q2;rw[g1] at z1;rw[k1] at z2;cases z1;cases z2;have s:aH H' (upd H' T<|.tup [v,u]):=(aH.refl H').upd f;exact⟨s,T,[v,u],rfl,bm,⟨v,[u],rfl,(g2.mono t.tup).mono s.tupS.tup,u,[],rfl,(k2.mono t.tup).mono s.tupS.tup,rfl⟩⟩
 stop:=fun H' t k=>⟨xs,ys,E1.of<|t.tup a _ h,E1.of<|t.tup b _ h',by rw[mX,<- hd.length,<- Jr.length];lia⟩
theorem re{a b:Expr}{g:M (List Opd)}{p pos:Pos}{es:List Expr}{ek:Nat}{ps:Pos}(hg:Gl X "zip")(hm:X.mg "zip" = none)(ha:VA X [a,b] g)(hs:starEach [a,b] X.env=[(false,eval a X.env),(false,eval b X.env)]:=by rfl)(GV:starEach [b] X.env=[(false,eval b X.env)]:=by rfl):
  VI X (.Tuple es ek ps) (.Call (.Name "zip" p) [a,b] [] pos) (iZ g):=by
 refine jd (yW hg hm ha hs GV) fun σ H Rk ⟨D,F,r,D',st,nd,Gc,q⟩=>?_;obtain⟨⟨os,D1⟩,h1,h2⟩:=Z8.mp Gc;obtain⟨ds,h3,h4⟩:=Z8.mp h2;refine⟨D,F,os,D1,st,nd,h1,fun vs H1 F1 R1 q_ o1 s1=>?_⟩;have rd:=o1.read q_ h3;split at h4
 ·cases h4;obtain⟨v,u,rfl,e,e'⟩:=qO rd;obtain⟨a,xs,rfl,k1,k2⟩:=e;obtain⟨b,ys,rfl,k3,k4⟩:=e';exact⟨a,b,rfl,⟨xs,E1.of k1⟩,⟨ys,E1.of k3⟩,q _ H1 F1 [] q_ (zO k1 k2 k3 k4) trivial (fun a ha=>nomatch ha) (by rw[ZO];exact s1.both)⟩
 ·cases h4
@[simp] def Er:OpN:=fun ds=>match ds with
 | [.im (.int i),.im<|.int j,.im<|.int k]=>some (.im<|.int<|min (min i j) k)
 | _=>none
def fR(lt:Im->Im->Bool)(x:Im):List Im->List Im
 | []=>[x]
 | y::r=>if lt x y=true then x::y::r else y::fR lt x r
def b6(lt:Im->Im->Bool):List Im->List Im
 | []=>[]
 | x::r=>fR lt x (b6 lt r)
def ltI:Im->Im->Bool
 | .int i,.int j=>decide (i<j)
 | _,_=>false
def Fz:List Im->Option (List Int)
 | []=>some []
 | .int i::r=>(Fz r).map fun s=>i::s
 | _::_=>none
@[simp] def vSorted:OpN:=fun ds=>match ds with
 | [.lst x]=>(Fz x).bind fun ns=>if ns.Nodup/\ns.length<=1000 then some (.lst<|b6 ltI x) else none
 | _=>none
theorem zP(ns:List Int):Fz (ns.map .int)=some ns:=by
 induction ns with
 | nil=>rfl
 | cons n r ih=>rw[ZF,Fz,ih];rfl
def fS(x:Int):List Int->List Int
 | []=>[x]
 | y::r=>if x<y then x::y::r else y::fS x r
def ij:List Int->List Int
 | []=>[]
 | x::r=>fS x (ij r)
theorem rf(x:Int):∀ l:List Int,fR ltI (.int x) (l.map .int)=(fS x l).map .int
 | []=>rfl
 | y::r=>by
  rw[ZF,fR,fS,ltI];by_cases h:x<y
  ·rw[ZY (by simpa using h),ZY h];rfl
  ·rw[ZW (by simpa using h),ZW h,rf x r];rfl
theorem rg:∀ l:List Int,b6 ltI (l.map .int)=(ij l).map .int
 | []=>rfl
 | x::r=>by rw[ZF,b6,rg r,rf];rfl
theorem mZ(x:Int):∀ l:List Int,(fS x l).Perm (x::l)
 | []=>ZC _
 | y::r=>by
  rw[fS];split
  ·exact ZC _
  ·exact ((mZ x r).cons y).trans (List.Perm.swap x y r)
theorem m5:∀ l:List Int,(ij l).Perm l
 | []=>ZC _
 | x::r=>(mZ x _).trans ((m5 r).cons x)
theorem rh(x:Int):∀ l:List Int,l.Pairwise (·<=·)->(fS x l).Pairwise (·<=·)
 | [],_=>Zz _ _
 | y::r,h=>by
  obtain⟨h1,h2⟩:=Zf.mp h;rw[fS];split
  ·rename_i Sg;refine Zf.mpr ⟨fun z hz=>?_,h⟩;rcases ZG.mp hz with rfl | hz
   ·lia
   ·have:=h1 z hz;lia
  ·rename_i Sg;refine Zf.mpr ⟨fun z hz=>?_,rh x r h2⟩;rcases ZG.mp ((mZ x r).mem_iff.mp hz) with rfl | hz
   ·lia
   ·exact h1 z hz
theorem rj:∀ l:List Int,(ij l).Pairwise (·<=·)
 | []=>List.Pairwise.nil
 | x::r=>rh x _ (rj r)
theorem zQ{l:List Int}(h:l.Nodup):(ij l).Pairwise (· < ·):=by
 have h1:=rj l;have h2:(ij l).Nodup:=(m5 l).nodup_iff.mpr h;exact List.Pairwise.imp₂ (fun a b x y=>by lia) h1 h2
theorem rk:∀ {l m:List Int},l.Perm m->l.Pairwise (· < ·)->m.Pairwise (· < ·)->l=m
 | [],m,h,_,_=>h.nil_eq
 | a::l,[],h,_,_=>absurd h.length_eq (by simp)
 | a::l,b::m,h,hl,hm=>by
  have Gn:=Zf.mp hl;have O0:=Zf.mp hm;have e:a=b:=by
   rcases ZG.mp (h.mem_iff.mp<|.head _) with z | z
   ·exact z
   ·rcases ZG.mp (h.mem_iff.mpr<|.head _) with y | y
    ·exact y.symm
    ·have h1:=Gn.1 b y;have h2:=O0.1 a z;lia
  subst e;rw[rk h.cons_inv Gn.2 O0.2]
theorem m6:∀ {x:List Im}{ns:List Int},Fz x=some ns->x=ns.map .int
 | [],ns,h=>by cases h;rfl
 | .int i::r,ns,h=>by
  rw[Fz] at h;obtain⟨s,h1,rfl⟩:=Z2.mp h;rw[m6 h1];rfl
 | .l_::_,_,h=>by cases h
 | .bl _::_,_,h=>by cases h
 | .str _::_,_,h=>by cases h
 | .tup _::_,_,h=>by cases h
 | .fn _::_,_,h=>by cases h
 | .fl _::_,_,h=>by cases h
 | .fd::_,_,h=>by cases h
theorem m7{H:Hp}:∀ {ns:List Int}{vs:List V},am H (ns.map .int) vs->vs=ns.map V.int
 | [],vs,h=>h
 | n::r,vs,h=>by
  obtain⟨v,t,rfl,h1,h2⟩:=h;cases (show v=.int n from h1);rw[m7 h2];rfl
theorem rl{H:Hp}:∀ ns:List Int,am H (ns.map .int) (ns.map V.int)
 | []=>rfl
 | n::r=>⟨.int n,_,rfl,rfl,rl r⟩
theorem zR(hc:X.calm=true)(hu:X.A.units+20<cLine):c6 X (.builtin "sorted") vSorted:=by
 refine (zN hc).imp fun xs H Q ⟨ds,d,rd,e,q⟩=>?_;unfold vSorted at e;split at e
 ·rename_i x;obtain⟨ns,e1,e2⟩:=Z8.mp e;split at e2
  ·rename_i hn;cases e2;obtain⟨v,rfl,_,p,xs,rfl,h1,h2,_⟩:=bZ rd;cases m6 e1;cases m7 h2;refine⟨p,ns,rfl,h1,hn.1,hn.2,fun l NR fl pm up=>?_⟩;rw[rg] at q;rw[rk (pm.trans (m5 ns).symm) up (zQ hn.1)];exact Out.l q fl (rl _)
  ·cases e2
 ·cases e
theorem rm(hu:X.A.units+20<cLine):kR X putV:=ra
end
end L2
namespace L2
open PySem
variable{a h g b:MS}{e:M Vl}{own m n:Nat}{ds:List Vl}{fix:List Nat}{o:Option (Nat×Vl)}{xs:List Im}{d:Vl}{D1 D:SD}{c:M Bool}{tg:MG}{α:Type}{j i:Int}
@[simp] theorem Es(d:Im)(D:SD):eC d D=some (.im d,D):=rfl
@[simp] theorem Et(D:SD):aNil D=some ([],D):=rfl
@[simp] theorem Eu(D:SD):sNil D=some (.nx,D):=rfl
@[simp] theorem Ev(D:SD):pNone D=some (none,D):=rfl
@[simp] theorem Ew(D:SD):kYes D=some (true,D):=rfl
@[simp] theorem Ex(d:Im):(Vl.im d).cp=true:=rfl
@[simp] theorem Ey(d:List Im):(Vl.fz d).cp=true:=rfl
@[simp] theorem Ez(d:List Im):(Vl.lst d).cp=false:=rfl
@[simp] theorem EA(d:List (List Im×Im)):(Vl.dT d).cp=false:=rfl
@[simp] theorem EB(d:List (Key×Im)):(Vl.dK d).cp=false:=rfl
@[simp] theorem EC(D:SD)(d:Vl):rsl D (.vl d)=some d:=rfl
@[simp] theorem ED(D:SD)(i:Nat):rsl D (.sl i)=(D[i]?).getD none:=rfl
@[simp] theorem EE(D:SD):ce D []=some []:=rfl
@[simp] theorem EF(D:SD)(o:Opd)(os:List Opd):ce D (o::os)=(rsl D o).bind fun d=>(ce D os).map fun ds=>d::ds:=rfl
@[simp] theorem EG(D:SD):bi [] D=some ([],D):=rfl
@[simp] theorem EH(d:Vl)(os:List Opd)(D:SD):bi (.vl d::os) D=(bi os D).map fun p=>(d::p.1,p.2):=rfl
@[simp] theorem EI(i:Nat)(os:List Opd)(D:SD):bi (.sl i::os) D=(bB i D).bind fun p=>(bi os p.2).map fun q=>(p.1::q.1,q.2):=rfl
@[simp] theorem EJ:ims []=some []:=rfl
@[simp] theorem EK(d:Im)(ds:List Vl):ims (.im d::ds)=(ims ds).map fun r=>d::r:=rfl
@[simp] theorem EL(b:Bool):asB (.im<|.bl b)=some b:=rfl
theorem m8(h1 : -(2 ^ 64)<j)(h2:j<2 ^ 64):dO i j=true:=by
 have:Builtin.Int.intBits j<=64:=intBits_le_64 h1 h2;have h':¬ (Builtin.Int.intBits j > shortFactorBits):=V5.mpr this;unfold dO;rw[Zs h'];simp
theorem fU(h1 : -(2 ^ 64)<i)(h2:i<2 ^ 64):dO i j=true:=by
 have:Builtin.Int.intBits i<=64:=intBits_le_64 h1 h2;have h':¬ (Builtin.Int.intBits i > shortFactorBits):=V5.mpr this;unfold dO;rw[Zs h'];simp
theorem zS{xs:List α}(h:xs.length<=n):xs.take n=xs:=WU h
theorem kW(xs:List α)(k:Nat):aS xs (some (k:Int)) none=xs.drop k:=by
 unfold aS;rw[HT.me,HT.xx];by_cases h:k<=xs.length
 ·rw[XX h,zS (by rw[Zm];lia)]
 ·rw[Nat.min_eq_right (by lia),Ve,V9,X5 (by lia)]
theorem ik{xs:List α}{d:α}(h0:0<=i)(h:xs[i.toNat]?=some d):FS xs i=some d:=by
 unfold FS IA;have hi:i.toNat<xs.length:=(Zv.mp h).1;rw[ZY h0,ZY (by lia)];exact h
theorem zU(I:Nat->SD->Prop)(R:Vl->SD->Prop):∀ {xs:List Im}{D:SD},I 0 D->
  (∀ (i:Nat) (x:Im) (D:SD),xs[i]?=some x->I i D->∃ D1 fl D2,tg (.im x) D=some D1/\b D1=some (fl,D2)/\(((fl=.nx\/fl=.ct)/\I (i+1) D2)\/∃ d,fl=.rt d/\R d D2))->
  (∃ D',bx tg b xs D=some (.nx,D')/\I xs.length D')\/∃ d D',bx tg b xs D=some (.rt d,D')/\R d D':=by
 intro xs;induction xs generalizing I with
 | nil=>intro D h0 _;exact .inl ⟨D,rfl,h0⟩
 | cons x r ih=>
  intro D h0 h;obtain⟨D1,fl,D2,h1,h2,h3⟩:=h 0 x D rfl h0;rcases h3 with ⟨hf,hI⟩ | ⟨d,rfl,hR⟩
  ·have:=ih (fun i=>I<|i+1) (D:=D2) hI fun i y D' hy O1=>h (i+1) y D' (by simpa using hy) O1;have e:bx tg b (x::r) D=bx tg b r D2:=by
    rw[bx];dsimp only;rw[h1];show (b D1).bind _=_;rw[h2];rcases hf with rfl | rfl<;>rfl
   rw[e];exact this
  ·refine .inr ⟨d,D2,?_,hR⟩;rw[bx];dsimp only;rw[h1];show (b D1).bind _=_;rw[h2];rfl
theorem gC(I:Nat->SD->Prop){xs:List Im}{D:SD}(h0:I 0 D)(h:∀ (i:Nat) (x:Im) (D:SD),xs[i]?=some x->I i D->∃ D1 fl D2,tg (.im x) D=some D1/\b D1=some (fl,D2)/\(fl=.nx\/fl=.ct)/\I (i+1) D2):
  ∃ D',bx tg b xs D=some (.nx,D')/\I xs.length D':=by
 rcases zU I (fun _ _=>False) h0 (fun i x D hx hI=>by
  obtain⟨D1,fl,D2,h1,h2,h3,h4⟩:=h i x D hx hI;exact⟨D1,fl,D2,h1,h2,.inl ⟨h3,h4⟩⟩) with h | ⟨_,_,_,h⟩
 ·exact h
 ·exact h.elim
theorem rn(I:Nat->SD->Prop)(MA:SD->Prop)(step:∀ m D,I m D->∃ t D1,c D=some (t,D1)/\(t=true->∃ fl D2,b D1=some (fl,D2)/\(fl=.nx\/fl=.ct)/\∃ m',m'<m/\I m' D2)/\(t=false->MA D1)):
  ∀ (n m:Nat) (D:SD),I m D->m<n->∃ D',d0 c b n D=some (.nx,D')/\MA D':=by
 intro n;induction n with
 | zero=>intro m D _ h;lia
 | succ n ih=>
  intro m D hI hm;obtain⟨t,D1,h1,h2,h3⟩:=step m D hI;rw[d0];dsimp only;rw[h1];cases t with
  | false=>exact⟨D1,rfl,h3 rfl⟩
  | true=>
   obtain⟨fl,D2,h4,hf,m',O0,O1⟩:=h2 rfl;obtain⟨D',h5,h6⟩:=ih m' D2 O1 (by lia);refine⟨D',?_,h6⟩;simp only[Option.bind_some,Xr,h4];rcases hf with rfl | rfl<;>exact h5
theorem zV(xs:List α):xs.filter (fun _=>true)=xs:=List.filter_eq_self.mpr fun _ _=>rfl
theorem rp(e:g D=some (.nx,D1)):ak g h D=h D1:=by unfold ak;rw[e];rfl
theorem fV(e:g D=some (.rt d,D1)):ak g h D=some (.rt d,D1):=by unfold ak;rw[e];rfl
theorem zW{g:MI}{D2:SD}{fl:Fl}(e:g D=some ((xs,o),D1))(h:bx tg b xs D1=some (fl,D2)):cf g tg b D=some (fl,rst o D2):=by
 unfold cf;rw[e];show (bx tg b xs D1).map _=_;rw[h];rfl
theorem zX{r:Vl}(hl:ds.length=n)(e:g (ds.map some++List.replicate (m - n) none)=some (.rt r,D)):bj n m fix g ds=some (r,dv fix ds D 0):=by
 unfold bj;rw[ZY hl,e]
theorem m9{caps:List Nat}{gi:MI}{C':SD}{ds:List Im}(h1:gi D=some ((xs,o),D1))(h2:cG own tg c e xs [] (d6 caps D1)=some (ds,C')):a9 own caps gi tg c e D=some (.lst ds,rst o<|df caps C' D1):=by
 unfold a9;rw[h1];show (cG own tg c e xs []<|d6 caps D1).map _=_;rw[h2];rfl
theorem bM{g:M Vl}(e:g D=some (d,D1)):aQ g D=some (.rt d,D1):=by unfold aQ;rw[e];rfl
theorem rq{i:Nat}{g:M Vl}(e:g D=some (d,D1))(h:i<D1.length):az i g D=some (.nx,D1.set i<|some d):=by unfold az;rw[e];show (if i<D1.length then _ else _)=_;rw[ZY h]
theorem zY(e:c D=some (true,D1)):sIf c a b D=a D1:=by unfold sIf;rw[e];rfl
theorem zZ(e:c D=some (false,D1)):sIf c a b D=b D1:=by unfold sIf;rw[e];rfl
theorem rz(D:SD){r:Vl}{outs:List Vl}(hl:ds.length=n)(e:g (ds.map some++List.replicate (m - n) none)=some (.rt r,D))(ho:dv fix ds D 0=outs):bj n m fix g ds=some (r,outs):=by
 rw[zX hl e,ho]
theorem gD{α:Type}{own:Nat}{tg:MG}{c:M Bool}{e:M Vl}{C:SD}(φ:α->Im)(p:α->Bool)(f:α->Im):∀ (xs:List α) (acc:List Im),(∀ x∈xs,∃ D1 D2,tg (.im<|φ x) (List.replicate own none++C)=some D1/\c D1=some (p x,D2)/\(p x=false->D2.drop own=C)/\(p x=true->∃ D3,e D2=some (.im<|f x,D3)/\D3.drop own=C))->
  acc.length+xs.length<=100000->cG own tg c e (xs.map φ) acc C=some (acc++(xs.filter p).map f,C)
 | [],acc,_,_=>by simp[cG]
 | x::r,acc,h,hl=>by
  obtain⟨D1,D2,h1,h2,h3,h4⟩:=h x (.head _);rw[ZJ] at hl;rw[ZF,cG,h1];show (c D1).bind _=_;rw[h2];show (if p x=true then _ else _)=_;cases hp:p x with
  | false=>
   rw[ZW ZM];show cG own tg c e (r.map φ) acc (D2.drop own)=_;rw[h3 hp,gD φ p f r acc (fun y hy=>h y<|.tail _ hy) (by lia),WA,hp];rfl
  | true=>
   obtain⟨D3,h5,h6⟩:=h4 hp;rw[ZY rfl];show (e D2).bind _=_;rw[h5];show (if acc.length<100000 then cG own tg c e (r.map φ) (acc++[f x]) (D3.drop own) else none)=_;rw[ZY (by lia),h6,gD φ p f r (acc++[f x]) (fun y hy=>h y<|.tail _ hy) (by rw[ZR,Zp];lia),WA,hp];simp
theorem fW{C:SD}(φ:α->Im)(f:α->Im)(xs:List α)(h:∀ x∈xs,∃ D1 D2 D3,tg (.im<|φ x) (List.replicate own none++C)=some D1/\c D1=some (true,D2)/\e D2=some (.im<|f x,D3)/\D3.drop own=C)(hl:xs.length<=100000):cG own tg c e (xs.map φ) [] C=some (xs.map f,C):=by
 have:=gD (own:=own) (tg:=tg) (c:=c) (e:=e) (C:=C) φ (fun _=>true) f xs [] (fun x hx=>by
  obtain⟨D1,D2,D3,h1,h2,h3,h4⟩:=h x hx;exact⟨D1,D2,h1,h2,(fun z=>by cases z),(fun _=>⟨D3,h3,h4⟩)⟩) (by rw[Xy];lia)
 rw[zV] at this;exact this
theorem z9{β:Type}(f:α->β)(xs:List α)(lo hi:Option Int):aS (xs.map f) lo hi=(aS xs lo hi).map f:=by
 unfold aS;rw[Z3,Yx,YE]
end L2
namespace L2
open PySem PySem.Spec PyProof.Rows
variable{fd:FuncData}{f it t a:Addr}{k ek k2 k1 i:Nat}{e elt iter tg:Expr}{caps:List Nat}{own ps:List Str}{scope:Scope}{ifs es:List Expr}{J0 pos' p pos:Pos}{x0:Str}{g:M (List Opd)}{ds:List Im}{R:List Addr}{κ:Type}{v:V}{K:PySem.W.Frag}{b2 b1 b:Bool}{Q:Value->Shared->Prop}{x:Value}{items ys xs:Array Value}{s:Shared}{H:Hp}{σ:St}{pins:List (Addr×Obj)}{X:Cx}{h' h:Heap}
def cv(b:Bool)(h:Heap)(it a:Addr)(i:Nat):Prop:=if b=true then h.IsListIter it a i else h.IsTupleIter it a i
def cw(b:Bool)(h:Heap)(a:Addr)(xs:Array Value):Prop:=if b=true then h.IsList a xs else h.IsTuple a xs
def Ha(b:Bool)(K:PySem.W.Frag)(H:Hp)(a:Addr)(xs:List V):Prop:=if b=true then Fd K H a xs else E1 K H a xs
def Hb(b:Bool):String:=if b=true then "list_iterator" else "tuple_iterator"
theorem dj(x:cv b h a t i)(k:∀ o,h.get? a=some o->h'.get? a=some o):cv b h' a t i:=by
 cases b with
 | true=>obtain⟨o,e,r⟩:=x;exact⟨o,k o e,r⟩
 | false=>obtain⟨o,e,r⟩:=x;exact⟨o,k o e,r⟩
theorem il(x:cw b h a xs)(k:∀ o,h.get? a=some o->h'.get? a=some o):cw b h' a xs:=by
 cases b with
 | true=>obtain⟨o,e,r⟩:=x;exact⟨o,k o e,r⟩
 | false=>obtain⟨o,e,r⟩:=x;exact⟨o,k o e,r⟩
theorem kX(x:cv b h a t i):∃ o,h.get? a=some o/\∀ v,o.data≠.cell v:=by
 cases b with
 | true=>obtain⟨o,e,_,d⟩:=x;exact⟨o,e,fun v z=>by rw[d] at z;cases z⟩
 | false=>obtain⟨o,e,_,d⟩:=x;exact⟨o,e,fun v z=>by rw[d] at z;cases z⟩
theorem rA(x:cw b h a xs):∃ o,h.get? a=some o:=by
 cases b with
 | true=>obtain⟨o,e,_⟩:=x;exact⟨o,e⟩
 | false=>obtain⟨o,e,_⟩:=x;exact⟨o,e⟩
theorem rB(e:h.get? a=some { cls:=.type (Hb b),data:=.fields #[.ref t,.int 0 0] }):cv b h a t 0:=by
 cases b with
 | true=>exact⟨_,e,rfl,rfl⟩
 | false=>exact⟨_,e,rfl,rfl⟩
theorem Inv.LI{xs:List V}(I:Inv X pins σ H s)(h:Ha b X.K H a xs):∃ f_:List Value,au xs f_/\cw b s.heap a f_.toArray/\xs.length<=sizeLine:=by
 cases b with
 | true=>
  obtain⟨f_,r,p,z⟩:=I.list h;exact⟨f_,r,p.isList,z⟩
 | false=>
  obtain⟨f_,r,p,z⟩:=I.tuple h;exact⟨f_,r,p,z⟩
theorem Inv.HP{xs ys:List V}(I:Inv X pins σ H s)(h:Ha b X.K H a xs)(h':Ha b X.K H a ys):xs=ys:=by
 cases b with
 | true=>exact I.Hf h h'
 | false=>exact I.FC h h'
section
variable{prog:Program}{w:World}{A:Around}{E:Value->Shared->Prop}{s:Shared}
theorem ng(hit:cv b s.heap it t i)(ht:cw b s.heap t items)(hx:items[i]?=some x)(q:∀ h',cv b h' it t (i+1)->Heap.SameBut it s.heap h'->Q x { s with heap:=h' }):wpAny (model prog w) A (Builtin.SmallTypes.nextOf<|.ref it) Q E s:=by
 cases b with
 | true=>exact wpAny_nextOf_list_item hit ht hx q
 | false=>exact kw hit ht hx q
theorem rC(hh:A.handled=none)(hit:cv b s.heap it t i)(ht:cw b s.heap t items)(hx:items[i]?=none)(q:∀ h' e,Heap.ExtBut it s.heap h'->(∃ o,h'.get? e=some o/\o.cls=.type "StopIteration")->E (.ref e) { s with heap:=h' }):wpAny (model prog w) A (Builtin.SmallTypes.nextOf<|.ref it) Q E s:=by
 cases b with
 | true=>exact wpAny_nextOf_list_end hh hit ht hx q
 | false=>exact mE hh hit ht hx q
variable{b a:Value}
theorem Aa{z TI TO i1 i2 l1 l2:Addr}{y:Value}(D:ZipApart z TI TO i1 i2 l1 l2)(hz:IsZip s.heap z TI TO .none)(K6:IsPair s.heap TI (.ref i1) (.ref i2))(K7:IsPair s.heap TO a b)(h1:cv b1 s.heap i1 l1 k1)(h2:cv b2 s.heap i2 l2 k2)(ID:cw b1 s.heap l1 xs)(Jt:cw b2 s.heap l2 ys)(hx:xs[k1]?=some x)(hy:ys[k2]?=some y)(hQ:∀ h',IsZip h' z TI TO (rawInt s.heap.objs.size)->IsPair h' TO x y->cv b1 h' i1 l1 (k1+1)->cv b2 h' i2 l2 (k2+1)->IsPair h' s.heap.objs.size x y->
   (∀ c o,c≠z->c≠TO->c≠i1->c≠i2->s.heap.get? c=some o->h'.get? c=some o)->Q (.ref s.heap.objs.size) { s with heap:=h' }):
  wpAny (model prog w) A (Builtin.«zip.__next__» ⟨[.ref z],[]⟩) (fun fin s'=>∃ v,fin=.done (.ret v)/\Q v s') E s:=by
 show wpAny _ _ (field (.ref z) 2 >>= _) _ _ _;refine Z9 (Za hz rfl (x:=.bool false) rfl ?_);show wpAny _ _ (field (.ref z) 3 >>= _) _ _ _;refine Z9 (Za hz rfl (x:=.ref TI) rfl<|Z9<|Y9 K6 rfl ?_);show wpAny _ _ (Builtin.SmallTypes.ownedTupleIsFree (.ref z) >>= _) _ _ _;apply Z9;unfold Builtin.SmallTypes.ownedTupleIsFree;refine Z9 (Za hz rfl (x:=.none) rfl<|Z6 ?_);simp only[Xr];refine Z9 (Yl (Z9 (Za hz rfl (x:=.ref TO) rfl (Z9 (Y5 hz (by simp) fun j1 z1 s1=>?_)))));replace z1:IsZip j1 z TI TO .ellipsis:=z1;apply Z9;simp only[Xg,Wm,Xx,V7];refine Z9 (Z9<|XS ?_);show wpAny _ _ (Builtin.SmallTypes.nextOf (.ref i1) >>= _) _ _ _;refine Z9 (ng (s:={ s with heap:=j1 }) (dj h1 fun o e=>s1.extBut _ o D.i1z e) (il ID fun o e=>s1.extBut _ o D.l1z e) hx fun j2 a2 s2=>Z6 ?_);have o2:IsPair j2 TO a b:=s2.extBut _ _ D.TOi1 (s1.extBut _ _ D.TOz K7);refine Z9 (Y9 (s:={ s with heap:=j2 }) o2 rfl<|Z9<|Yc (s:={ s with heap:=j2 }) o2 fun j3 o3 s3=>?_);replace o3:IsPair j3 TO x b:=o3;refine Z9 (Wr<|Z6<|Z9<|Z9<|XS ?_);show wpAny _ _ (Builtin.SmallTypes.nextOf (.ref i2) >>= _) _ _ _;refine Z9 (ng (s:={ s with heap:=j3 }) (dj h2 fun o e=>s3.extBut _ o D.TOi2.symm<|s2.extBut _ o D.i12.symm<|s1.extBut _ o D.i2z e) (il Jt fun o e=>s3.extBut _ o D.l2TO<|s2.extBut _ o D.l2i1<|s1.extBut _ o D.l2z e) hy fun j4 a4 s4=>Z6 ?_);have o4:IsPair j4 TO x b:=s4.extBut _ _ D.TOi2 o3;refine Z9 (Y9 (s:={ s with heap:=j4 }) o4 rfl<|Z9<|Yc (s:={ s with heap:=j4 }) o4 fun j5 o5 s5=>?_);replace o5:IsPair j5 TO x y:=o5;refine Z9 (Wr<|Z6<|Z6<|Z9<|Y9 (s:={ s with heap:=j5 }) o5 rfl<|Z9<|wpAny_newTuple ?_);have hsz:j5.objs.size=s.heap.objs.size:=by rw[s5.1,s4.1,s3.1,s2.1,s1.1]
 have z5:IsZip j5 z TI TO .ellipsis:=s5.extBut _ _ D.TOz.symm (s4.extBut _ _ D.i2z.symm<|s3.extBut _ _ D.TOz.symm<|s2.extBut _ _ D.i1z.symm z1);have k5:∀ c o,c≠z->c≠TO->c≠i1->c≠i2->s.heap.get? c=some o->j5.get? c=some o:=fun c o c1 c2 c3 c4 e=>s5.extBut _ _ c2 (s4.extBut _ _ c4<|s3.extBut _ _ c2<|s2.extBut _ _ c3<|s1.extBut _ _ c1 e);have b1:cv b1 j5 i1 l1 (k1+1):=dj a2 fun o e=>s5.extBut _ o D.TOi1.symm (s4.extBut _ o D.i12<|s3.extBut _ o D.TOi1.symm e);have b2:cv b2 j5 i2 l2 (k2+1):=dj a4 fun o e=>s5.extBut _ o D.TOi2.symm e;have Mr:z<j5.objs.size:=ZP z5;show wpAny _ _ (Builtin.SmallTypes.ownedTupleHandOut (.ref z) (.ref j5.objs.size) >>= _) _ _ _;apply Z9;unfold Builtin.SmallTypes.ownedTupleHandOut;have z6:IsZip (j5.push { cls:=.type "tuple",data:=.seq #[x,y] }) z TI TO .ellipsis:=Z7 _ z5;refine Z9 (Y5 z6 (by simp) fun j7 z7 s7=>?_);replace z7:IsZip j7 z TI TO (rawInt j5.objs.size):=z7;refine Y5 z7 (by simp) fun j8 z8 s8=>?_;replace z8:IsZip j8 z TI TO (rawInt j5.objs.size):=z8;have up:∀ c o,c≠z->j5.get? c=some o->j8.get? c=some o:=fun c o c1 e=>s8.extBut _ _ c1 (s7.extBut _ _ c1<|Z7 _ e);have t8:IsPair j8 j5.objs.size x y:=s8.extBut _ _ (X6 Mr) (s7.extBut _ _ (X6 Mr)<|ZS _ rfl);rw[hsz] at z8 t8;refine Z6 ⟨_,rfl,?_⟩;show Q (.ref j5.objs.size) _;rw[hsz];exact hQ j8 z8 (up _ _ D.TOz o5) (dj b1 fun o e=>up _ o D.i1z e) (dj b2 fun o e=>up _ o D.i2z e) t8 fun c o c1 c2 c3 c4 e=>up c o c1 (k5 c o c1 c2 c3 c4 e)
theorem Ab{z TI TO i1 i2 l1 l2:Addr}{Q:PySem.Fin->Shared->Prop}(hh:A.handled=none)(D:ZipApart z TI TO i1 i2 l1 l2)(hz:IsZip s.heap z TI TO .none)(K6:IsPair s.heap TI (.ref i1) (.ref i2))(K7:IsPair s.heap TO a b)(h1:cv b1 s.heap i1 l1 k1)(h2:cv b2 s.heap i2 l2 k2)(ID:cw b1 s.heap l1 xs)(Jt:cw b2 s.heap l2 ys)(FW:xs[k1]?=none\/ys[k2]?=none)(hE:∀ h' e,(∀ c o,c≠z->c≠TO->c≠i1->c≠i2->s.heap.get? c=some o->h'.get? c=some o)->(∃ o,h'.get? e=some o/\o.cls=.type "StopIteration")->E (.ref e) { s with heap:=h' }):
  wpAny (model prog w) A (Builtin.«zip.__next__» ⟨[.ref z],[]⟩) Q E s:=by
 show wpAny _ _ (field (.ref z) 2 >>= _) _ _ _;refine Z9 (Za hz rfl (x:=.bool false) rfl ?_);show wpAny _ _ (field (.ref z) 3 >>= _) _ _ _;refine Z9 (Za hz rfl (x:=.ref TI) rfl<|Z9<|Y9 K6 rfl ?_);show wpAny _ _ (Builtin.SmallTypes.ownedTupleIsFree (.ref z) >>= _) _ _ _;apply Z9;unfold Builtin.SmallTypes.ownedTupleIsFree;refine Z9 (Za hz rfl (x:=.none) rfl<|Z6 ?_);simp only[Xr];refine Z9 (Yl (Z9 (Za hz rfl (x:=.ref TO) rfl (Z9 (Y5 hz (by simp) fun j1 z1 s1=>?_)))));replace z1:IsZip j1 z TI TO .ellipsis:=z1;apply Z9;simp only[Xg,Wm,Xx,V7];refine Z9 (Z9<|XS ?_);show wpAny _ _ (Builtin.SmallTypes.nextOf (.ref i1) >>= _) _ _ _;cases hx:xs[k1]? with
 | none=>
  refine Z9 (rC (s:={ s with heap:=j1 }) hh (dj h1 fun o e=>s1.extBut _ o D.i1z e) (il ID fun o e=>s1.extBut _ o D.l1z e) hx fun j2 e s2 ⟨oe,e1,e2⟩=>?_);have z2:IsZip j2 z TI TO .ellipsis:=s2 _ _ D.i1z.symm z1;have ez:e≠z:=fun q=>by subst q;rw[z2] at e1;cases e1;simp at e2
  refine Y5 z2 (by simp) fun j3 _ s3=>hE j3 e (fun c o c1 _ c3 _ q=>s3.extBut _ _ c1<|s2 _ _ c3<|s1.extBut _ _ c1 q) ⟨oe,s3.extBut _ _ ez e1,e2⟩
 | some x=>
  have hy:ys[k2]?=none:=by
   rcases FW with h | h
   ·rw[hx] at h;cases h
   ·exact h
  refine Z9 (ng (s:={ s with heap:=j1 }) (dj h1 fun o e=>s1.extBut _ o D.i1z e) (il ID fun o e=>s1.extBut _ o D.l1z e) hx fun j2 a2 s2=>Z6 ?_);have o2:IsPair j2 TO a b:=s2.extBut _ _ D.TOi1 (s1.extBut _ _ D.TOz K7);refine Z9 (Y9 (s:={ s with heap:=j2 }) o2 rfl<|Z9<|Yc (s:={ s with heap:=j2 }) o2 fun j3 o3 s3=>?_);refine Z9 (Wr<|Z6<|Z9<|Z9<|XS ?_);show wpAny _ _ (Builtin.SmallTypes.nextOf (.ref i2) >>= _) _ _ _;refine Z9 (rC (s:={ s with heap:=j3 }) hh (dj h2 fun o e=>s3.extBut _ o D.TOi2.symm<|s2.extBut _ o D.i12.symm<|s1.extBut _ o D.i2z e) (il Jt fun o e=>s3.extBut _ o D.l2TO<|s2.extBut _ o D.l2i1<|s1.extBut _ o D.l2z e) hy fun j4 e s4 ⟨oe,e1,e2⟩=>?_);have z4:IsZip j4 z TI TO .ellipsis:=s4 _ _ D.i2z.symm (s3.extBut _ _ D.TOz.symm<|s2.extBut _ _ D.i1z.symm z1);have ez:e≠z:=fun q=>by subst q;rw[z4] at e1;cases e1;simp at e2
  refine Y5 z4 (by simp) fun j5 _ s5=>hE j5 e (fun c o c1 c2 c3 c4 q=>s5.extBut _ _ c1<|s4 _ _ c4<|s3.extBut _ _ c2<|s2.extBut _ _ c3<|s1.extBut _ _ c1 q) ⟨oe,s5.extBut _ _ ez e1,e2⟩
end
def Je(b1 b2:Bool)(h:Heap)(l1 l2:Addr):Heap:=((((h.push { cls:=.type (Hb b1),data:=.fields #[.ref l1,.int 0 0] }).push { cls:=.type (Hb b2),data:=.fields #[.ref l2,.int 0 0] }).push { cls:=.type "tuple",data:=.seq #[.ref h.objs.size,.ref (h.push { cls:=.type (Hb b1),data:=.fields #[.ref l1,.int 0 0] }).objs.size] }).push { cls:=.type "tuple",data:=.seq #[.none,.none] })
theorem Ac(b1 b2 : Bool)(l1 l2 : Addr)(xs ys : Array Value):
    Meets (Builtin.«zip.__new__» ⟨[.type "zip", .ref l1, .ref l2], []⟩) (fun _ R s => cw b1 s.heap l1 xs /\ cw b2 s.heap l2 ys /\
      R (.ok<|.ret<|.ref (Je b1 b2 s.heap l1 l2).objs.size) { s with heap := (Je b1 b2 s.heap l1 l2).push { cls := .type "zip", data := .fields #[.none, .bool false, .bool false, .ref ((s.heap.push { cls := .type (Hb b1), data := .fields #[.ref l1, .int 0 0] }).push { cls := .type (Hb b2), data := .fields #[.ref l2, .int 0 0] }).objs.size,
        .ref (((s.heap.push { cls := .type (Hb b1), data := .fields #[.ref l1, .int 0 0] }).push { cls := .type (Hb b2), data := .fields #[.ref l2, .int 0 0] }).push { cls := .type "tuple", data := .seq #[.ref s.heap.objs.size, .ref (s.heap.push { cls := .type (Hb b1), data := .fields #[.ref l1, .int 0 0] }).objs.size] }).objs.size] } }) :=
  .of_wp fun prog w A R s h => by
    obtain ⟨hp, g, d, tk, os⟩ := s;obtain ⟨q1, q2, h⟩ := h;have K8 := sub_zip;have NS : cw b2 (hp.push { cls := .type (Hb b1), data := .fields #[.ref l1, .int 0 0] }) l2 ys := il q2 fun o e => Z7 _ e;cases b1 <;> cases b2
    · have m1 : Heap.IsTuple (Shared.heap ⟨hp, g, d, tk, os⟩) l1 xs := q1
      have m2 : Heap.IsTuple (Shared.heap ⟨hp.push { cls := .type "tuple_iterator", data := .fields #[.ref l1, .int 0 0] }, g, d, tk, os⟩) l2 ys := NS
      wp_walk using wpAny_pyIter_tuple m1, wpAny_pyIter_tuple m2
      exact ⟨_, rfl, h⟩
    · have m1 : Heap.IsTuple (Shared.heap ⟨hp, g, d, tk, os⟩) l1 xs := q1
      have m2 : Heap.IsList (Shared.heap ⟨hp.push { cls := .type "tuple_iterator", data := .fields #[.ref l1, .int 0 0] }, g, d, tk, os⟩) l2 ys := NS
      wp_walk using wpAny_pyIter_tuple m1, wpAny_pyIter_list m2
      exact ⟨_, rfl, h⟩
    · have m1 : Heap.IsList (Shared.heap ⟨hp, g, d, tk, os⟩) l1 xs := q1
      have m2 : Heap.IsTuple (Shared.heap ⟨hp.push { cls := .type "list_iterator", data := .fields #[.ref l1, .int 0 0] }, g, d, tk, os⟩) l2 ys := NS
      wp_walk using wpAny_pyIter_list m1, wpAny_pyIter_tuple m2
      exact ⟨_, rfl, h⟩
    · have m1 : Heap.IsList (Shared.heap ⟨hp, g, d, tk, os⟩) l1 xs := q1
      have m2 : Heap.IsList (Shared.heap ⟨hp.push { cls := .type "list_iterator", data := .fields #[.ref l1, .int 0 0] }, g, d, tk, os⟩) l2 ys := NS
      wp_walk using wpAny_pyIter_list m1, wpAny_pyIter_list m2
      exact ⟨_, rfl, h⟩
def MB(b1 b2:Bool)(K:PySem.W.Frag)(a b:Addr):It:=
 ⟨fun i H=>∃ xs ys x y,Ha b1 K H a xs/\Ha b2 K H b ys/\xs[i]?=some x/\ys[i]?=some y,
  fun i H v H'=>∃ T x y,H T=none/\v=.ref T/\H'=upd H T (.tup [x,y])/\(∀ xs,Ha b1 K H a xs->xs[i]?=some x)/\(∀ ys,Ha b2 K H b ys->ys[i]?=some y),
  fun i H=>∃ xs ys,Ha b1 K H a xs/\Ha b2 K H b ys/\(xs.length<=i\/ys.length<=i)⟩
def rE(b1 b2:Bool)(a b z TI TO i1 i2:Addr)(i:Nat)(h:Heap):Prop:=IsZip h z TI TO .none/\IsPair h TI (.ref i1) (.ref i2)/\(∃ p q,IsPair h TO p q)/\cv b1 h i1 a i/\cv b2 h i2 b i
theorem Ad{P:Program}{w:World}(a b z TI TO i1 i2:Addr)(D:ZipApart z TI TO i1 i2 a b):
  Turn P w K (.Tuple es ek pos) (MB b1 b2 K a b) [z,TI,TO,i1,i2] z (rE b1 b2 a b z TI TO i1 i2) where
 mem:=by simp
 obj:=fun i h st c hc=>by
  obtain⟨h1,h2,⟨p,q,h3⟩,h4,h5⟩:=st;simp only[ZG,YC,Xl] at hc;rcases hc with rfl | rfl | rfl | rfl | rfl
  ·exact⟨_,h1,fun v e=>by cases e⟩
  ·exact⟨_,h2,fun v e=>by cases e⟩
  ·exact⟨_,h3,fun v e=>by cases e⟩
  ·exact kX h4
  ·exact kX h5
 keep:=fun i h h' st k=>by
  obtain⟨h1,h2,⟨p,q,h3⟩,h4,h5⟩:=st;exact⟨k z (by simp) _ h1,k TI (by simp) _ h2,⟨p,q,k TO (by simp) _ h3⟩,dj h4 fun o e=>k i1 (by simp) o e,dj h5 fun o e=>k i2 (by simp) o e⟩
 item:=by
  intro X hP hw hK hc i pins s σ H E I hf st hg;subst hP hw hK;obtain⟨xs,ys,x,y,q1,q2,x1,y1⟩:=hg;obtain⟨f_,rv,p,hz⟩:=I.LI q1;obtain⟨FG,JU,p2,JP⟩:=I.LI q2;obtain⟨u,hu,ru⟩:=rv.get x1;obtain⟨u2,OP,OQ⟩:=JU.get y1;have there:=st;obtain⟨h1,h2,⟨pa,pb,h3⟩,h4,h5⟩:=st;have hT:s.TypeIs (.ref z) "zip" := ⟨_,h1,rfl⟩;unfold pyNext;refine Z9 (XT (Zb (name:=Str.ofString "__next__") hT X9 (Zj X9 hT WD
   (Aa (Q:=fun v s'=>wpAny (model X.prog X.w) X.A (pure<|some v) (fun r s1=>∃ u,r=some u/\wpAny (model X.prog X.w) X.A (letOwnedTupleGo (.Tuple es ek pos) (.ref z) u) (fun _ s2=>∃ x H',Inv X pins σ H' s2/\ay x u/\(MB b1 b2 X.K a b).Lu i H x H'/\rE b1 b2 a b z TI TO i1 i2 (i+1) s2.heap/\∀ b∈[z,TI,TO,i1,i2],H' b=none) E s1) E s')
    D h1 h2 h3 h4 h5 (show cw b1 s.heap a f_.toArray from p) (show cw b2 s.heap b FG.toArray from p2) (x:=u) (y:=u2) (by simpa using hu) (by simpa using OP) fun h' g1 g2 g3 g4 g5 kk=>Z6 ⟨_,rfl,?_⟩) (WQ _))));refine wpAny_letOwnedTupleGo_zip g1 fun Kn OR sb=>?_;have lt:∀ c∈[z,TI,TO,i1,i2],c<s.heap.objs.size:=fun c hc=>by
   obtain⟨h1,h2,⟨p,q,h3⟩,h4,h5⟩:=there;simp only[ZG,YC,Xl] at hc;rcases hc with rfl | rfl | rfl | rfl | rfl
   ·exact ZP h1
   ·exact ZP h2
   ·exact ZP h3
   ·obtain⟨o,e,_⟩:=kX h4;exact ZP e
   ·obtain⟨o,e,_⟩:=kX h5;exact ZP e
  have kp:∀ c o,c∉[z,TI,TO,i1,i2]->s.heap.get? c=some o->Kn.get? c=some o:=fun c o hc e=>by
   simp only[ZG,YC,Xl,not_or] at hc;exact sb.extBut _ _ hc.1 (kk c o hc.1 hc.2.2.1 hc.2.2.2.1 hc.2.2.2.2 e)
  have zT:s.heap.objs.size≠z:=X6 (lt z (by simp));have fT:H s.heap.objs.size=none:=I.n_.fresh (ZV _);refine⟨.ref s.heap.objs.size,upd H s.heap.objs.size<|.tup [x,y],I.Kl (t':=s.toks) hf kp (ZV _) ⟨by show 2<=sizeLine;decide,[u,u2],.cons ru<|.cons OQ .nil,?_⟩,rfl,⟨_,x,y,fT,rfl,rfl,fun zs hz=>?_,fun zs hz=>?_⟩,?_,fun c hc=>?_⟩
  ·exact⟨_,sb.extBut _ _ zT g5,rfl,0,rfl⟩
  ·rw[I.HP hz q1];exact x1
  ·rw[I.HP hz q2];exact y1
  ·exact⟨OR,sb.extBut _ _ D.TIz<|kk _ _ D.TIz D.TITO D.TIi1 D.TIi2 h2,⟨_,_,sb.extBut _ _ D.TOz g2⟩,dj g3 fun o e=>sb.extBut _ o D.i1z e,dj g4 fun o e=>sb.extBut _ o D.i2z e⟩
  ·rw[aD (Zx<|lt c hc)];exact (hf c hc).1
 done:=by
  intro X hP hw hK hc i pins s σ H E I hf st hg;subst hP hw hK;obtain⟨xs,ys,q1,q2,FW⟩:=hg;obtain⟨f_,rv,p,hz⟩:=I.LI q1;obtain⟨FG,JU,p2,JP⟩:=I.LI q2;obtain⟨h1,h2,⟨pa,pb,h3⟩,h4,h5⟩:=st;have hT:s.TypeIs (.ref z) "zip" := ⟨_,h1,rfl⟩;have l1:=rv.length;have l2:=JU.length;unfold pyNext;refine Z9 (XT (Zb (name:=Str.ofString "__next__") hT X9 (Zj X9 hT WD
   (Ab (I.ok.hd hc) D h1 h2 h3 h4 h5 (show cw b1 s.heap a f_.toArray from p) (show cw b2 s.heap b FG.toArray from p2) (by
    rcases FW with h | h
    ·exact .inl (by simp;lia)
    ·exact .inr (by simp;lia)) fun h' e kk ⟨o,ho,Ko⟩=>?_) (WQ _))))
  refine Z9 (XJ (T := "StopIteration") (b:=true) ⟨o,ho,Ko⟩ Wc<|Z6 ⟨rfl,I.Km (t':=s.toks) hf fun c o hc e=>?_⟩);simp only[ZG,YC,Xl,not_or] at hc;exact kk c o hc.1 hc.2.2.1 hc.2.2.2.1 hc.2.2.2.2 e
 self:=fun _ _ _ _ _ st h=>WC st.1 h
section
variable{X:Cx}
def Ae(K:PySem.W.Frag)(ta:TA):TI:=fun σ H R=>ta σ H fun vs H1=>∃ b1 b2 a b,vs=[.ref a,.ref b]/\(∃ xs,Ha b1 K H1 a xs)/\(∃ ys,Ha b2 K H1 b ys)/\R (MB b1 b2 K a b) H1
theorem Af{a b:Expr}{ta:TA}{ps:Pos}(hg:Gl X "zip")(hm:X.mg "zip" = none)(ha:PA X [a,b] ta)(hs:starEach [a,b] X.env=[(false,eval a X.env),(false,eval b X.env)]:=by rfl)(GV:starEach [b] X.env=[(false,eval b X.env)]:=by rfl):
  PI X (.Tuple es ek ps) (.Call (.Name "zip" p) [a,b] [] pos) (Ae X.K ta):=by
 intro pins s σ H R I h;refine Call_ (eE I hg hm boot_zip (YL (y_ (ha pos pins s σ H _ I h) fun us s1 ⟨vs,H1,I1,r1,q1⟩=>?_) (by rw[hs,GV]) (by rw[GV];rfl)));obtain⟨b1,b2,l1,l2,e,⟨xs,hx⟩,⟨ys,hy⟩,q⟩:=q1;subst e;cases r1 with
 | cons r rr=>
  cases rr with
  | cons r' rr=>
   cases rr;cases r;cases r';obtain⟨f_,rv,p,hz⟩:=I1.LI hx;obtain⟨FG,JU,p2,JP⟩:=I1.LI hy;have Mo:l1<s1.heap.objs.size:=by obtain⟨o,e⟩:=rA p;exact ZP e
   have OS:l2<s1.heap.objs.size:=by obtain⟨o,e⟩:=rA p2;exact ZP e
   refine callType_new F.called_zip (by decide) (F.typeCall_zip_2 _ _) (F.newCall_zip_2 _ _) (fun obj=>F.args_object_init_3 obj _ _) F.entry_zip_new (Ac b1 b2 l1 l2 f_.toArray FG.toArray) ⟨p,p2,?_⟩;have z1:(s1.heap.push { cls:=.type (Hb b1),data:=.fields #[.ref l1,.int 0 0] }).objs.size=s1.heap.objs.size+1:=YZ ..;have z2:((s1.heap.push { cls:=.type (Hb b1),data:=.fields #[.ref l1,.int 0 0] }).push { cls:=.type (Hb b2),data:=.fields #[.ref l2,.int 0 0] }).objs.size=s1.heap.objs.size+2:=by rw[YZ,z1]
   have z3:(((s1.heap.push { cls:=.type (Hb b1),data:=.fields #[.ref l1,.int 0 0] }).push { cls:=.type (Hb b2),data:=.fields #[.ref l2,.int 0 0] }).push
    { cls:=.type "tuple",data:=.seq #[.ref s1.heap.objs.size,.ref (s1.heap.push { cls:=.type (Hb b1),data:=.fields #[.ref l1,.int 0 0] }).objs.size] }).objs.size=s1.heap.objs.size+3:=by rw[YZ,z2]
   have z4:(Je b1 b2 s1.heap l1 l2).objs.size=s1.heap.objs.size+4:=by unfold Je;rw[YZ,z3]
   show _/\_;refine⟨⟨_,ZS _ rfl,rfl⟩,WC (TI:=s1.heap.objs.size+2) (TO:=s1.heap.objs.size+3) (f0:=.none) ?_ ?_⟩
   ·rw[z2,z3];exact ZS _ rfl
   ·rw[z2,z3,z4];have g5:((Je b1 b2 s1.heap l1 l2).push { cls:=.type "zip",data:=.fields #[.none,.bool false,.bool false,.ref<|s1.heap.objs.size+2,.ref<|s1.heap.objs.size+3] }).get? (s1.heap.objs.size+4)=some { cls:=.type "zip",data:=.fields #[.none,.bool false,.bool false,.ref<|s1.heap.objs.size+2,.ref<|s1.heap.objs.size+3] }:=by rw[<- z4];exact ZS _ rfl
    have g4:((Je b1 b2 s1.heap l1 l2).push { cls:=.type "zip",data:=.fields #[.none,.bool false,.bool false,.ref<|s1.heap.objs.size+2,.ref<|s1.heap.objs.size+3] }).get? (s1.heap.objs.size+3)=some { cls:=.type "tuple",data:=.seq #[.none,.none] }:=by
     rw[<- z3];exact Z7 _ (ZS _ rfl)
    have g3:((Je b1 b2 s1.heap l1 l2).push { cls:=.type "zip",data:=.fields #[.none,.bool false,.bool false,.ref<|s1.heap.objs.size+2,.ref<|s1.heap.objs.size+3] }).get? (s1.heap.objs.size+2)=some { cls:=.type "tuple",data:=.seq #[.ref s1.heap.objs.size,.ref<|s1.heap.objs.size+1] }:=by
     rw[<- z2,<- z1];exact Z7 _ (Z7 _<|ZS _ rfl)
    have g2:((Je b1 b2 s1.heap l1 l2).push { cls:=.type "zip",data:=.fields #[.none,.bool false,.bool false,.ref<|s1.heap.objs.size+2,.ref<|s1.heap.objs.size+3] }).get? (s1.heap.objs.size+1)=some { cls:=.type (Hb b2),data:=.fields #[.ref l2,.int 0 0] }:=by
     rw[<- z1];exact Z7 _ (Z7 _<|Z7 _<|ZS _ rfl)
    have g1:((Je b1 b2 s1.heap l1 l2).push { cls:=.type "zip",data:=.fields #[.none,.bool false,.bool false,.ref<|s1.heap.objs.size+2,.ref<|s1.heap.objs.size+3] }).get? s1.heap.objs.size=some { cls:=.type (Hb b1),data:=.fields #[.ref l1,.int 0 0] }:=
     Z7 _ (Z7 _<|Z7 _<|Z7 _<|ZS _ rfl);have kp:∀ c o,s1.heap.get? c=some o->((Je b1 b2 s1.heap l1 l2).push { cls:=.type "zip",data:=.fields #[.none,.bool false,.bool false,.ref<|s1.heap.objs.size+2,.ref<|s1.heap.objs.size+3] }).get? c=some o:=fun c o e=>
     Z7 _ (Z7 _<|Z7 _<|Z7 _<|Z7 _ e);generalize ((Je b1 b2 s1.heap l1 l2).push { cls:=.type "zip",data:=.fields #[.none,.bool false,.bool false,.ref<|s1.heap.objs.size+2,.ref<|s1.heap.objs.size+3] })=h5 at g1 g2 g3 g4 g5 kp ⊢;have D:ZipApart (s1.heap.objs.size+4) (s1.heap.objs.size+2) (s1.heap.objs.size+3) s1.heap.objs.size (s1.heap.objs.size+1) l1 l2:=PySem.W.ktu_apart _ _ _ Mo OS;refine⟨_,_,_,_,H1,rfl,I1.kept (t':=s1.toks) kp,Ad l1 l2 _ _ _ _ _ D,⟨g5,g3,⟨_,_,g4⟩,rB g1,rB g2⟩,fun c hc=>?_,q⟩;have:s1.heap.objs.size<=c:=by
     simp only[ZG,YC,Xl] at hc;rcases hc with rfl | rfl | rfl | rfl | rfl
     ·exact YN _ _
     ·exact YN _ _
     ·exact YN _ _
     ·exact ZV _
     ·exact YN _ _
    exact I1.IM this (I1.n_.fresh this)
end
section
variable{X:Cx}
end
section
variable{X:Cx}
def jl:Im->Option Key
 | .int i=>some (.inl i)
 | .str x=>some (.inr x)
 | _=>none
@[simp] theorem EM(i:Int):jl (.int i)=some (.inl i):=rfl
@[simp] theorem EN(x:Str):jl (.str x)=some (.inr x):=rfl
def kI:Key->Im
 | .inl i=>.int i
 | .inr x=>.str x
@[simp] theorem EO(i:Int):kI (.inl i)=.int i:=rfl
@[simp] theorem EQ(x:Str):kI (.inr x)=.str x:=rfl
theorem Ag{d:Im}{k:Key}(h:E7 H d v)(e:jl d=some k):v=kV k:=by
 cases d with
 | int i=>cases e;exact h
 | str x=>cases e;exact h
 | _=>cases e
def fX{κ:Type}[DecidableEq κ](kvs:List (κ×Im))(k:κ)(d:Im):List (κ×Im):=
 if (kvs.any fun kv=>decide (kv.1=k))=true then kvs.map (fun kv=>if kv.1=k then (kv.1,d) else kv) else kvs++[(k,d)]
theorem GH.any[DecidableEq κ]{H:Hp}{k:κ}{l:List (κ×Im)}{m:List (κ×V)}(h:GH H l m):(l.any fun kv=>decide (kv.1=k))=(m.any fun kv=>decide (kv.1=k)):=by
 unfold GH at h;induction h with
 | nil=>rfl
 | cons r _ ih=>rw[Xt,Xt,ih,r.1]
theorem GH.upd[DecidableEq κ]{H:Hp}{k:κ}{d:Im}{v:V}(w:E7 H d v){l:List (κ×Im)}{m:List (κ×V)}(h:GH H l m):GH H (l.map fun kv=>if kv.1=k then (kv.1,d) else kv) (m.map fun kv=>if kv.1=k then (kv.1,v) else kv):=by
 unfold GH at h;induction h with
 | nil=>exact .nil
 | @cons p q _ _ r _ ih=>
  rw[ZF,ZF];refine .cons ?_ ih;by_cases e:p.1=k
  ·have e':q.1=k:=r.1.symm.trans e;rw[ZY e,ZY e'];exact⟨r.1,w⟩
  ·have e':¬ q.1=k:=fun z=>e (r.1.trans z);rw[ZW e,ZW e'];exact r
theorem Ah{α β:Type}{F:α->β->Prop}{l:List α}{m:List β}{a:α}{b:β}(h:Paired F l m)(x:F a b):Paired F (l++[a]) (m++[b]):=by
 induction h with
 | nil=>exact .cons x .nil
 | cons r _ ih=>exact .cons r ih
theorem GH.put[DecidableEq κ]{H:Hp}{k:κ}{d:Im}{v:V}(w:E7 H d v){l:List (κ×Im)}{m:List (κ×V)}(h:GH H l m):GH H (fX l k d) (cY m k v):=by
 unfold fX cY;rw[h.any];split
 ·exact h.upd w
 ·exact Ah h ⟨rfl,w⟩
@[simp] def eDict0T:M Vl:=fun D=>some (.dT [],D)
theorem nh:VE X (.Dict [] [] pos) eDict0T:=by
 refine be yj fun σ H Q ⟨D,F,r,D',st,nd,Gc,q⟩ p hp=>?_;cases Gc;have s:aH H (L2.upd H p<|.dT []):=(aH.refl H).upd hp;have s1:o_ H F H (F++[]):=by rw[ZO];exact o_.perm nd (ZC _)
 exact q _ _ F [p] (st.mono s.tupS fun a _ o e=>s a o e) ⟨p,[],rfl,bm,.nil,rfl⟩ (s1.new s (Zz _ _) (fun a ha=>by rw[ZZ.mp ha];exact hp) st.chg)
@[simp] def ER(gk gv:M Vl):M Vl:=fun D=>(gk D).bind fun p=>(gv p.2).bind fun q=>match p.1,q.1 with
 | .im k,.im d=>(jl k).map fun k'=>(.dK [(k',d)],q.2)
 | _,_=>none
@[simp] def putA(c k d:Vl):Option Vl:=match c,k,d with
 | .lst xs,.im<|.int i,.im d=>(IA xs.length i).map fun j=>.lst (xs.set j d)
 | .dK kvs,.im k,.im d=>(jl k).bind fun k'=>if kvs.length<100000 then some (.dK<|fX kvs k' d) else none
 | .dT kvs,.im<|.tup k,.im d=>if Im.keys 7 k=true/\kvs.length<100000 then some (.dT<|fX kvs k d) else none
 | _,_,_=>none
theorem kY(hu:X.A.units+20<cLine):kR X putA:=by
 intro pins s σ H o i v ov iv u Q I ro ri rv ⟨c,k,d,c',R,S,wc,wk,wd,nd,e,q⟩;unfold putA at e;split at e
 ·exact ra pins s σ H o i v ov iv u Q I ro ri rv ⟨_,_,_,c',R,S,wc,wk,wd,nd,e,q⟩
 ·obtain⟨k',e1,e2⟩:=Z8.mp e;split at e2
  ·rename_i hl;cases e2;obtain⟨a,ys,rfl,h1,h2,rfl⟩:=wc;obtain⟨hd,rfl⟩:=wd;have c:G_ H a:=⟨_,h1,(fun _ e=>by cases e),(fun _ _ e=>by cases e)⟩;cases ro;have hy:=Ag wk.1 e1;subst hy;refine pY hu I (gf.k h1 (by rw[<- h2.length];exact mV hl)) ri rv fun s' I'=>⟨_,I',q _ [a] ?_ (o_.chg (.head _) c (Zz _ _) fun x hx=>by simpa using hx)⟩;exact⟨a,_,rfl,bm,(GH.put hd h2).mono<|E7.Ij c,rfl⟩
  ·cases e2
 ·split at e
  ·rename_i hl;cases e;obtain⟨a,ys,rfl,h1,h2,rfl⟩:=wc;obtain⟨hd,rfl⟩:=wd;have c:G_ H a:=⟨_,h1,(fun _ e=>by cases e),(fun _ _ e=>by cases e)⟩;cases ro;obtain⟨b,xs,rfl,k1,k2⟩:=wk.1;refine pY hu I (gf.t h1 ⟨hl.1,b,xs,rfl,k1,k2⟩ (by rw[<- h2.length];exact mV hl.2)) ri rv fun s' I'=>⟨_,I',q _ [a] ?_ (o_.chg (.head _) c (Zz _ _) fun x hx=>by simpa using hx)⟩;exact⟨a,_,rfl,bm,(GH.put hd h2).mono<|E7.Ij c,rfl⟩
  ·cases e
 ·cases e
end
section
variable{X:Cx}
def jm:Opd->Vl->Option (Nat×Vl)
 | .sl i,d=>some (i,d)
 | .vl _,_=>none
@[simp] theorem ES(i:Nat)(d:Vl):jm (.sl i) d=some (i,d):=rfl
@[simp] theorem ET(c d:Vl):jm (.vl c) d=none:=rfl
@[simp] def iZm(g:M (List Opd)):MI:=fun D=>(g D).bind fun p=>(bi p.1 p.2).bind fun q=>match p.1,q.1 with
 | [o1,o2],[d1,d2]=>(cg d1).bind fun x=>(cg d2).bind fun y=>
   if d2.cp=true then some ((bp x y,if d1.cp=true then none else jm o1 d1),q.2)
   else if d1.cp=true then some ((bp x y,jm o2 d2),q.2) else none
 | _,_=>none
theorem rF{d:Vl}(w:Own H d v R)(e:cg d=some ds):
  ∃ b a xs,v=.ref a/\am H ds xs/\∀ H',w_ H H'->(∀ a∈R,∀ o,H a=some o->H' a=some o)->Ha b K H' a xs:=by
 unfold cg at e;split at e
 ·cases e;obtain⟨⟨a,xs,rfl,h1,h2⟩,rfl⟩:=w;exact⟨false,a,xs,rfl,h2,fun H' t k=>E1.of<|t.tup a _ h1⟩
 ·cases e;obtain⟨a,xs,rfl,h1,h2,rfl⟩:=w;exact⟨true,a,xs,rfl,h2,fun H' t k=>Fd.of<|k a (.head _) _ h1⟩
 ·cases e;obtain⟨a,xs,o,rfl,h1,h2,rfl⟩:=w;exact⟨true,a,xs,rfl,h2,fun H' t k=>.inl<|.inr ⟨o,t.Fj _ _ _ h1⟩⟩
 ·cases e
variable{xs:List V}
theorem rG{x y:V}(h:∀ zs,Ha b K H a zs->zs[i]?=some x)(h1:Ha b K H a xs)(h2:xs[i]?=some y):x=y:=by
 have:=h xs h1;rw[h2] at this;exact (Zq this).symm
theorem Ai{b:Addr}{ys:List V}{es:List Im}(hd:am H ds xs)(Jr:am H es ys)(h:∀ H',w_ H H'->(∀ a∈R,∀ o,H a=some o->H' a=some o)->Ha b1 K H' a xs)(h':∀ H',w_ H H'->(∀ a∈R,∀ o,H a=some o->H' a=some o)->Ha b2 K H' b ys):GL (MB b1 b2 K a b) H R (bp ds es) where
 go:=fun H' t k i d e=>by
  obtain⟨x,y,e1,e2,rfl⟩:=mY ds es i d e;obtain⟨v,g1,g2⟩:=hd.get e1;obtain⟨u,k1,k2⟩:=Jr.get e2;have q1:=h H' t k;have q2:=h' H' t k;refine⟨⟨xs,ys,v,u,q1,q2,g1,k1⟩,fun z JV ⟨T,x',y',f,ez,eH,y1,y2⟩=>?_⟩;subst ez eH;cases rG y1 q1 g1;cases rG y2 q2 k1;have s:aH H' (L2.upd H' T<|.tup [v,u]):=(aH.refl H').upd f;exact⟨s,T,[v,u],rfl,bm,⟨v,[u],rfl,(g2.mono t.tup).mono s.tupS.tup,u,[],rfl,(k2.mono t.tup).mono s.tupS.tup,rfl⟩⟩
 stop:=fun H' t k=>⟨xs,ys,h H' t k,h' H' t k,by rw[mX,<- hd.length,<- Jr.length];lia⟩
theorem rH{a b:Expr}{ps:Pos}(hg:Gl X "zip")(hm:X.mg "zip" = none)(ha:VA X [a,b] g)(hs:starEach [a,b] X.env=[(false,eval a X.env),(false,eval b X.env)]:=by rfl)(GV:starEach [b] X.env=[(false,eval b X.env)]:=by rfl):
  VI X (.Tuple es ek ps) (.Call (.Name "zip" p) [a,b] [] pos) (iZm g):=by
 refine jd (Af hg hm ha hs GV) fun σ H Rk ⟨D,F,r,D',st,nd,Gc,q⟩=>?_;obtain⟨⟨os,D1⟩,h1,h2⟩:=Z8.mp Gc;obtain⟨⟨ds,D2⟩,h3,h4⟩:=Z8.mp h2;refine⟨D,F,os,D1,st,nd,h1,fun vs H1 F1 R1 q_ o1 s1=>?_⟩;obtain⟨F2,S,p_,ow,pm⟩:=fJ q_ o1 h3;have s2:=s1.Fy pm.symm;dsimp only at h4;split at h4
 ·rename_i oa ob da db;obtain⟨x,e1,h5⟩:=Z8.mp h4;obtain⟨y,e2,h6⟩:=Z8.mp h5;obtain⟨v,_,Ra,_,rfl,wa,⟨u,_,Rb,_,rfl,wb,⟨rfl,rfl⟩,rfl⟩,rfl⟩:=ow;rw[ZO] at s2;obtain⟨v',_,A1,_,ev,Sh,⟨u',_,A2,_,eu,Si,⟨rfl,rfl⟩,rfl⟩,rfl⟩:=o1;cases ev;cases eu;obtain⟨c1,a1,xs,rfl,i1,t1⟩:=rF (K:=X.K) wa e1;obtain⟨c2,a2,ys,rfl,i2,t2⟩:=rF (K:=X.K) wb e2;have hL:Ha c1 X.K H1 a1 xs:=t1 H1 (mF H1) fun _ _ _ e=>e;have hR:Ha c2 X.K H1 a2 ys:=t2 H1 (mF H1) fun _ _ _ e=>e;have it:GL (MB c1 c2 X.K a1 a2) H1 (Ra++Rb) (bp x y):=Ai i1 i2 (fun H' t k=>t1 H' t fun a ha=>k a<|Zw _ ha) (fun H' t k=>t2 H' t fun a ha=>k a<|ZI _ ha);have ch:∀ a∈Ra++Rb,G_ H1 a:=fun a ha=>(ZA.mp ha).elim (fun z=>wa.chg a z) fun z=>wb.chg a z;refine⟨c1,c2,a1,a2,rfl,⟨xs,hL⟩,⟨ys,hR⟩,?_⟩;split at h6
  ·rename_i Sj;cases h6;have eb:=wb.cp Sj;subst eb;rw[ZO] at s2 it ch;refine q _ H1 F2 Ra p_ it ?_ ch s2;dsimp only;split
   ·trivial
   ·cases oa with
    | sl i=>exact⟨_,Sh.1,wa⟩
    | vl c=>trivial
  ·split at h6
   ·rename_i Sk;cases h6;have ea:=wa.cp Sk;subst ea;rw[Vr] at s2 it ch;refine q _ H1 F2 Rb p_ it ?_ ch s2;cases ob with
    | sl i=>exact⟨_,Si.1,wb⟩
    | vl c=>trivial
   ·cases h6
 ·cases h4
end
section
variable{prog:Program}{w:World}{A:Around}{E:Value->Shared->Prop}{s:Shared}
end
section
variable{X:Cx}
end
section
variable{X:Cx}
theorem Aj{ns:List Int}{us:List Value}(r:au (ns.map V.int) us)(i:Nat)(v:Value)(h:us[i]?=some v):∃ t,v=.int ((ns[i]?).getD 0) t:=by
 have hl:=r.length;rw[Z3] at hl;have hi:i<ns.length:=by rw[hl];exact (Zv.mp h).1
 obtain⟨u,hu,t,e⟩:=r.get (i:=i) (x:=V.int ns[i]) (by simp[hi]);rw[h] at hu;cases hu;exact⟨t,by rw[e];simp[hi]⟩
end
section
variable{prog:Program}{w:World}{A:Around}{E:Value->Shared->Prop}{s:Shared}
end
section
variable{prog:Program}{w:World}{A:Around}{E:Value->Shared->Prop}{s:Shared}
end
section
variable{X:Cx}
end
section
variable{X:Cx}
end
section
variable{X:Cx}
end
section
variable{X:Cx}
theorem Ak{i0:Nat}{wi:TI}{g:IT->TG}{tt:IT->TT}{te:IT->TE}(hN:X.N.Nodup)(O2:X.N[i0]?=some x0)(O3:Loc X.env.scope x0)(hc:X.calm=true)(S:t_ X scope own caps)(hi:PI X tg iter wi)(hg:∀ Y,PG (X.GW (bP X own caps) scope Y) tg<|g Y)(ht:∀ Y,Md (X.GW (bP X own caps) scope Y) ifs<|tt Y)(he:∀ Y,PE (X.GW (bP X own caps) scope Y) elt<|te Y)(hs:∀ x,foldedSetIterable iter X.env x=pure x:=by intro _;rfl)(O4:swapsWith (.ListComp elt [⟨tg,iter,ifs,0⟩] scope pos) (some<|.Name x0 pos') J0.line X.env=pure true:=by rfl)(MC:X.fn x0=true\/X.env.scope.names.lookup x0=some .local:=by first | exact .inl rfl | exact .inr rfl | assumption):
  PS X (.Assign [.Name x0 pos'] (.ListComp elt [⟨tg,iter,ifs,0⟩] scope pos) J0) (l6 (ko own caps wi g tt te)<|l5 i0):=by
 intro pins s σ H Dn I h;rw[exec_Assign_Name_used _ _ _ _ O4];refine Z9 (VQ<|Z9 ?_);show wpAny _ X.A (do let _ <- comprehension (.ListComp elt [⟨tg,iter,ifs,0⟩] scope pos) scope X.env _ (newList []) false (eval iter X.env) (some<|assign (.Name x0 pos') X.env)) _ _ s;refine Z9 (YA (qi (use:=some (assign (.Name x0 pos') X.env)) (Qp:=fun _ s'=>SP X pins Dn .next s') hc S hi hg ht he hs I h fun D C H4 s4 m I4 hn f ND NE z p q=>?_) (fun _ s' hq=>Z6<|Z6 hq) fun _ _ e=>e);show wpAny _ X.A (assign (.Name x0 pos') X.env<|.ref D) _ _ s4;refine wpAny_assign_Name (oY I4 hN O2 O3 (v:=.ref D) rfl (fun s5 I5 h5=>?_) MC);obtain⟨a,Sl,ha⟩:=h5;have Sm:C≠a:=by
  rcases ha with rfl | ha
  ·exact Yb ND
  ·exact Yb (NE _ _ ha)
 exact⟨m,hn.sameBut Sl Sm,fun h' sb=>⟨_,_,I5.turned (it:=C) (t':=s5.toks) (fun b o hb e=>(sb.2 b hb).trans e) f (Yb ND) (.inr z) NE p,q⟩⟩
end
section
variable{X:Cx}
theorem kZ{fix:List Nat}{gi:MI}{gt:MG}{gc:M Bool}{ge:M Vl}(hN:X.N.Nodup)(O2:X.N[i]?=some x0)(O3:Loc X.env.scope x0)(hc:X.calm=true)(S:t_ X scope own caps)(nd:caps.Nodup)(hi:VI X tg iter gi)(hg:∀ Y,VG (X.GW (bP X own caps) scope Y) (je own.length caps.length) tg gt)(ht:∀ Y,NO (X.GW (bP X own caps) scope Y) ifs gc)(he:∀ Y,VE (X.GW (bP X own caps) scope Y) elt ge)(hf:i∉fix)(hs:∀ x,foldedSetIterable iter X.env x=pure x:=by intro _;rfl)(O4:swapsWith (.ListComp elt [⟨tg,iter,ifs,0⟩] scope pos) (some<|.Name x0 pos') J0.line X.env=pure true:=by rfl)(MC:X.fn x0=true\/X.env.scope.names.lookup x0=some .local:=by first | exact .inl rfl | exact .inr rfl | assumption):
  VS X fix (.Assign [.Name x0 pos'] (.ListComp elt [⟨tg,iter,ifs,0⟩] scope pos) J0) (az i<|a9 own.length caps gi gt gc ge):=by
 refine eO (Ak hN O2 O3 hc S hi hg ht he hs O4 MC) fun E σ H ⟨D,F,fl,D',st,Ja,Gc,q⟩=>?_;obtain⟨⟨r,D1⟩,h1,h2⟩:=Z8.mp Gc;split at h2
 ·rename_i hl;cases h2;refine qS nd ⟨D,F,r,_,st,Ja,h1,fun v H1 F1 R q_ ow s1=>?_⟩;obtain⟨F2,R2,p_,pm⟩:=q_.put (i:=i) ow hl;exact q _ H1 F2 (aP.set hf) p_ (s1.less pm)
 ·cases h2
end
section
variable{X:Cx}
def k7:Vl->Vl
 | .lst x=>.im (.fl x)
 | .dT []=>.im .fd
 | d=>d
@[simp] theorem EU(x:List Im):k7 (.lst x)=.im (.fl x):=rfl
@[simp] theorem EV(d:Im):k7 (.im d)=.im d:=rfl
@[simp] def eFz(g:M Vl):M Vl:=fun D=>(g D).map fun p=>(k7 p.1,p.2)
theorem Al{u:HO}{ob:Obj}(k1:H a=some u)(n1:∀ xs,u≠.tup xs)(n2:∀ p v,u≠.Fj p v):w_ H (upd H a<|.Fj ob u):=w_.of (fun b xs e=>by
  have:b≠a:=fun z=>by subst z;rw[k1] at e;cases e;exact n1 _ rfl
  rw[aD this];exact e) fun b o u e=>by
  have:b≠a:=fun z=>by subst z;rw[k1] at e;cases e;exact n2 _ _ rfl
  rw[aD this];exact e
theorem io{g:M Vl}(h:VE X e g):VE X e (eFz g):=by
 intro pins s σ H Q I ⟨D,F,r,D',st,nd,hg,q⟩;obtain⟨⟨r0,D1⟩,h1,h2⟩:=Z2.mp hg;cases h2;refine y_ (@h pins s σ H (fun v H1=>∃ F1 R,ao H1 D1 σ F1/\Own H1 r0 v R/\o_ H F H1 (F1++R)) I ⟨D,F,r0,D1,st,nd,h1,fun v H1 F1 R a b c=>⟨F1,R,a,b,c⟩⟩) fun u s1 ⟨v,H1,I1,rv,F1,R,q_,ow,s2⟩=>?_;have fin:∀ {a:Addr}{ob:Obj}{u:HO}{d:Im},H1 a=some u->(∀ xs,u≠.tup xs)->(∀ p w,u≠.Fj p w)->R=[a]->Inv X pins σ (upd H1 a<|.Fj ob u) s1->(w_ H1 (upd H1 a<|.Fj ob u)->E7 (upd H1 a<|.Fj ob u) d (.ref a))->(∀ v H' F' R',ao H' D1 σ F'->Own H' (.im d) v R'->o_ H F H' (F'++R')->Q v H')->EP X pins σ Q (.ref a) s1:=by
  intro a ob u d k1 n1 n2 eR I2 hd q;subst eR;have Hn:=ZH.mp s2.nd;have NT:a∉F1:=fun z=>Hn.2.2 a z a (.head _) rfl;have Fr:=Al (ob:=ob) k1 n1 n2;refine⟨.ref a,_,I2,rfl,q _ _ F1 [] (q_.mono Fr fun b hb o e=>by
    have ne:b≠a:=fun z=>by subst z;exact NT hb
    rw[aD ne];exact e) ⟨hd Fr,rfl⟩ ?_⟩
  rw[ZO];refine⟨fun b o e hb=>?_,fun b hb=>s2.sub b<|Zw _ hb,Hn.1,s2.tup.trans Fr,fun b o e=>?_⟩
  ·have:b≠a:=fun z=>by
    subst z;rcases s2.sub b (ZI _<|.head _) with h | h
    ·exact hb h
    ·rw[e] at h;cases h
   rw[aD this];exact s2.keep b o e hb
  ·by_cases z:b=a
   ·exact⟨_,by rw[z];exact bm⟩
   ·obtain⟨o',e'⟩:=s2.grow b o e;exact⟨o',by rw[aD z];exact e'⟩
 cases r0 with
 | lst x=>
  obtain⟨a,xs,rfl,k1,k2,eR⟩:=ow;cases rv;obtain⟨z,f_,n,rel,f1⟩:=I1.n_ a _ k1;exact fin (d:=.fl x) k1 (fun _ e=>by cases e) (fun _ _ e=>by cases e) eR (I1.write (h':=s1.heap) (t':=s1.toks) (e:=a) (by rw[k1];trivial) (.inl rfl) (fun b u _ e=>e) ⟨_,f1⟩ ⟨f1,z,f_,n,rel,f1⟩) (fun Fr=>⟨a,xs,_,rfl,bm,k2.mono Fr.tup⟩) q
 | dT kvs=>
  cases kvs with
  | nil=>
   obtain⟨a,Fv,rfl,k1,k2,eR⟩:=ow;cases k2;cases rv;obtain⟨z,lo,xs,rel,o,es,ep,f1,f2,f3,f4,f5⟩:=I1.n_ a _ k1;cases rel;exact fin (d:=.fd) k1 (fun _ e=>by cases e) (fun _ _ e=>by cases e) eR (I1.write (h':=s1.heap) (t':=s1.toks) (e:=a) (by rw[k1];trivial) (.inl rfl) (fun b u _ e=>e) ⟨_,f1⟩ ⟨f1,z,lo,[],.nil,o,es,ep,f1,f2,f3,f4,f5⟩) (fun _=>⟨a,_,rfl,bm⟩) q
  | cons k r=>exact⟨v,H1,I1,rv,q v H1 F1 R q_ ow s2⟩
 | _=>exact⟨v,H1,I1,rv,q v H1 F1 R q_ ow s2⟩
variable{x:Str}
theorem Am{CX:IN}{sp:Sp}{E:XK}{tv:TE}{t:TA}{ds:List Value}{IO:List V}(F:FJ X.prog X.w X.K X.mg X.base CX k f fd ps sp)(hr:E8 k X.A)(hv:PE X (.Name x p) tv)(hk:PySem.W.keepIn X.K (.ref f)=true)(hb:c9 X.K fd ps ds)(hd:au IO ds)(hx:kg CX X E)(ha:PA X (e::es) t)(he:starEach (e::es) X.env=(false,eval e X.env)::starEach es X.env:=by rfl)(GF:(backTo pos<|starEach es X.env).any (·.1)=false:=by rfl):
  PE X (.Call (.Name x p) (e::es) [] pos) (fun σ H Q=>tv σ H fun v H1=>v=.ref f/\md sp IO E t σ H1 Q):=by
 intro pins s σ H Q I h;refine XB (y_ (hv pins s σ H _ I h) fun v s1 ⟨y,H1,I1,r1,e1,q1⟩=>?_);subst e1;cases r1;refine PySem.W.callWith_K (h₀:=X.base) I1.ok.mod.Nr hk (y_ (ha pos pins s1 σ H1 _ I1 q1) fun us s2 ⟨vs,H2,I2,r,q⟩=>⟨I2.KD,?_⟩) he GF;exact pF F hr hb hd hx I2 r q
@[simp] def k8(i:Nat)(f:Addr)(n:Nat)(G:Fn)(g:M (List Opd)):M Vl:=fun D=>match D[i]? with
 | some (some<|.im<|.fn a)=>if a=f then av n G g D else none
 | _=>none
theorem An{n:Nat}{G:Fn}(F:FJ X.prog X.w X.K X.mg X.base HM k f fd ps (IZ n G))(hr:E8 k X.A)(hv:PE X (.Name x p) (et i))(hk:PySem.W.keepIn X.K (.ref f)=true)(hb:c9 X.K fd ps [])(ha:VA X (e::es) g)(he:starEach (e::es) X.env=(false,eval e X.env)::starEach es X.env:=by rfl)(GF:(backTo pos<|starEach es X.env).any (·.1)=false:=by rfl):
  VE X (.Call (.Name x p) (e::es) [] pos) (k8 i f n G g):=by
 refine be (Am F hr hv hk hb .nil qd ha he GF) fun σ H Q ⟨D,F0,r,D',st,nd,hg,q⟩=>?_;unfold k8 at hg;split at hg
 ·rename_i a hd;split at hg
  ·rename_i ha;subst ha;obtain⟨v,F1,F2,h1,h2,h3,h4⟩:=st.out hd;exact⟨v,h1,h2.1,qH ⟨D,F0,r,D',st,nd,hg,q⟩⟩
  ·cases hg
 ·cases hg
end
end L2
namespace HT
open PySem PySem.Spec PyProof.Rows
section
variable{prog:Program}{w:World}{A:Around}{E:Value->Shared->Prop}{s:Shared}
theorem Ao(n:Nat):Builtin.Slice.slicePlaces ((n:Int) - 1) (-1) (-1)=n:=by
 unfold Builtin.Slice.slicePlaces;rw[ZW (by decide)];split
 ·rw[show (- -1:Int)=1 by decide,Int.ediv_one];lia
 ·show (0:Int).toNat=n;lia
variable{sl:Addr}
theorem Ap{t:Tok}{n:Nat}{Q:Int×Int×Nat->Shared->Prop}(hs:s.heap.IsSliceOf sl .none .none (.int (-1) t))(h:Q ((n:Int) - 1,-1,n) s):wpAny (model prog w) A (Builtin.Slice.sliceApplied (.ref sl)<|pure (n:Int)) Q E s:=by
 obtain⟨os,IQ,KM,IR⟩:=id hs;unfold Builtin.Slice.sliceApplied Builtin.Slice.sliceFields;refine Z9 (Z9<|Za IQ IR (x:=.none) rfl<|Z9<|Za IQ IR (x:=.none) rfl<|Z9<|Za IQ IR (x:=.int (-1) t) rfl<|Z6 ?_);refine Z9 (slicePart_int ?_);show wpAny _ _ (if ((-1:Int) == 0)=true then _ else _) _ _ s;rw[ZW (by decide)];refine Z9 (Wd<|Z9<|Wd<|Z9<|Z6 ?_);show wpAny _ _ (pure ((n:Int) - 1,(-1:Int),Builtin.Slice.slicePlaces ((n:Int) - 1) (-1)<|-1)) _ _ s;rw[Ao];exact Z6 h
theorem rJ{α β:Type}{f g:α->Option β}:∀ (l:List α),(∀ x∈l,f x=g x)->l.filterMap f=l.filterMap g
 | [],_=>rfl
 | x::r,h=>by rw[Yg,Yg,h x<|.head _,rJ r fun y hy=>h y<|.tail _ hy]
theorem Aq(xs:Array Value):((range xs.size).filterMap fun (m:Nat)=>xs[((xs.size:Int) - 1+(m:Int) * (-1)).toNat]?).toArray=xs.toList.reverse.toArray:=by
 have e:(range xs.size).filterMap (fun (m:Nat)=>xs[((xs.size:Int) - 1+(m:Int) * (-1)).toNat]?)=((range xs.size).map fun k=>xs.size - 1 - k).filterMap (xs[·]?):=by
  rw[List.filterMap_map];refine rJ _ fun k hk=>?_;have:=Zi.mp hk;show xs[_]?=xs[xs.size - 1 - k]?;congr 1;lia
 rw[e,PySem.W.krv_range,List.filterMap_reverse,PySem.W.krv_all]
theorem Ar{t:Addr}{items:Array Value}{tk:Tok}{Q:Value->Shared->Prop}(ht:IsTup s.heap t items)(hs:s.heap.IsSliceOf sl .none .none (.int (-1) tk))(h:Q (.ref s.heap.objs.size) { s with heap:=s.heap.push { cls:=.type "tuple",data:=.seq items.toList.reverse.toArray } })(hsz:items.size<=sizeLine):wpAny (model prog w) A (getItem (.ref t)<|.ref sl) Q E s:=by
 obtain⟨os,IQ,KM,IR⟩:=id hs;have Op:s.TypeIs (.ref sl) "slice" := ⟨os,IQ,KM⟩;unfold getItem;try with_reducible refine YY ?_
 first | refine Z9 (Z6 ?_) | skip
 refine Z9 (VY ht.typeIs (by decide) ?_);refine Z9 (Zb (name:=Str.ofString "__getitem__") ht.typeIs Zh<|Zj Zh ht.typeIs Wl ?_<|args_tuple_getitem _ _);show wpAny _ _ (Builtin.Tuple.tupleItemsOf (.ref t) >>= _) _ _ s;refine Z9 (tupleItemsOf_ ht<|Z9<|Xh Op ?_);rw[ZY (by decide)];refine Z9 (Ap hs ?_);show wpAny _ _ (if (((items.size:Int) - 1) == 0 && (-1:Int) == 1 && items.size == items.size)=true then _ else _) _ _ s;rw[ZW (by simp),Aq];have hz:sizeOk (.seq items.toList.reverse.toArray):=by
  show items.toList.reverse.toArray.size<=sizeLine;simpa using hsz
 first
  | exact Z9 (m:=Builtin.Tuple.tupleExact _) (Zo (Z6 ⟨_,rfl,Z6 h⟩) hz)
  | exact Z9 (m:=Builtin.Tuple.tupleExact _) (Zo (Z9<|Z6<|Z6 ⟨_,rfl,Z6 h⟩) hz)
  | exact Z9 (Z9 (m:=Builtin.Tuple.tupleExact _)<|Zo (Z6<|Z6 ⟨_,rfl,Z6 h⟩) hz)
  | exact Z9 (Z9 (m:=Builtin.Tuple.tupleExact _)<|Zo (Z6 ⟨_,rfl,Z6 h⟩) hz)
end
end HT
namespace L2
open PySem PySem.Spec PyProof.Rows
section
variable{X:Cx}
def As(K:PySem.W.Frag)(te ts:TE):TE:=fun σ H Q=>te σ H fun x H1=>ts σ H1 fun y H2=>y=.int (-1)/\∃ a xs,x=.ref a/\E1 K H2 a xs/\∀ p,H2 p=none->Q (.ref p) (upd H2 p<|.tup xs.reverse)
variable{e st:Expr}{p2 pos:Pos}
theorem At{te ts:TE}(he:PE X e te)(hs:PE X st ts):PE X (.Subscript e (.Slice none none (some st) p2) pos) (As X.K te ts):=by
 intro pins s σ H Q I h;refine Subscript_ (y_ (he pins s σ H _ I h) fun v s1 ⟨x,H1,I1,r1,q1⟩=>?_);refine wpAny_Slice ?_;rw[evalPart_none,evalPart_some];refine Z6 (Z6 ?_);refine y_ (hs pins s1 σ H1 _ I1 q1) fun vs s2 ⟨y,H2,I2,r2,e1,a,xs,ex,hx,q⟩=>?_;subst e1 ex;cases r1;obtain⟨t,rfl⟩:=r2;have I3:Inv X pins σ H2 { s2 with heap:=s2.heap.push { cls:=.type "slice",data:=.fields #[.none,.none,.int (-1) t] } }:=I2.kept (t':=s2.toks) fun b ob q=>Z7 _ q;obtain⟨f_,r,ht,hz⟩:=I3.tuple hx;show wpAny (model X.prog X.w) X.A (subscriptTail e (.Slice none none (some st) p2) (.ref a)<|.ref s2.heap.objs.size) (EP X pins σ Q) X.xe { s2 with heap:=s2.heap.push { cls:=.type "slice",data:=.fields #[.none,.none,.int (-1) t] } };refine tail_any (ops:=[.ref a,.ref s2.heap.objs.size]) ht.typeIs Zh.lookup (HT.Ar ht (Heap.IsSliceOf.new ..) ?_ (by rw[ZQ,<- r.length];exact hz)) (by with_unfolding_all rfl);refine⟨.ref _,_,I3.laid (t':=s2.toks) (o:=.tup xs.reverse) (fun b ob q=>Z7 _ q) (ZV _) ?_,rfl,q _<|I3.n_.fresh<|ZV _⟩;exact⟨by rw[List.length_reverse];exact hz,f_.reverse,r.reverse,IsTup.new _ _⟩
theorem am.rev{H:Hp}:∀ {ds:List Im}{xs:List V},am H ds xs->am H ds.reverse xs.reverse
 | [],xs,h=>by cases (show xs=[] from h);rfl
 | d::ds,xs,h=>by
  obtain⟨v,r,rfl,h1,h2⟩:=h;rw[WY,WY];exact h2.rev.app ⟨v,[],rfl,h1,rfl⟩
@[simp] def rK(g:M Opd):M Vl:=fun D=>(g D).bind fun p=>(rsl p.2 p.1).bind fun d=>match d with
 | .im (.tup x)=>some (.im<|.tup x.reverse,p.2)
 | _=>none
theorem Au{g:M Opd}(he:VO X e g)(hs:VE X st (eU<|eC<|.int 1)):VE X (.Subscript e (.Slice none none (some st) p2) pos) (rK g):=by
 refine be (At he hs) fun σ H Q ⟨D,F,r,D',st,nd,hg,q⟩=>?_;obtain⟨⟨x,D1⟩,h1,h2⟩:=Z8.mp hg;obtain⟨d,h3,h4⟩:=Z8.mp h2;split at h4
 ·rename_i x';cases h4;refine⟨D,F,x,D1,st,nd,h1,fun v H1 F1 R q_ o1 s1=>⟨D1,F1,.im<|.int<|-1,D1,q_,(ZH.mp s1.nd).1,rfl,fun w H2 F2 R2 p_ Sn s2=>?_⟩⟩;obtain⟨e2,rfl⟩:=Sn;rw[ZO] at s2;have o3:cS H2 σ x v R:=o1.mono s2.tup fun a ha o e=>s2.keep a o e fun h=>(ZH.mp s1.nd).2.2 a h a ha rfl;have s5:=s1.trans s2 o1.chg;obtain⟨p,xs,rfl,k1,k2⟩:=(o3.read p_ h3).i;refine⟨e2,p,xs,rfl,E1.of k1,fun l hl=>?_⟩;have s6:aH H2 (upd H2 l<|.tup xs.reverse):=(aH.refl H2).upd hl;exact q _ _ F2 [] (p_.mono s6.tupS fun a _ o e=>s6 a o e) ⟨⟨l,_,rfl,bm,(k2.mono s6.tupS.tup).rev⟩,rfl⟩ (s5.new s6 YG (fun a ha=>nomatch ha) p_.chg)
 ·cases h4
end
variable{gc gb ga:M Opd}{f' f:Op2}{Q:Value->Shared->Prop}{b:Bool}{d2:Vl}{u v:Value}{y x:V}{s:Shared}{σ:St}{pins:List (Addr×Obj)}{d:Im}{H:Hp}
theorem rL{h:Heap}:∀ (n:Nat) {x y:Im}{v:Value},Im.pl n x=true->Im.pl n y=true->FF h x v->FF h y v->x=y
 | n,.l_,y,v,_,ky,hx,hy=>by
  cases (show v=.none from hx);cases y with
  | l_=>rfl
  | bl b=>cases hy
  | int j=>obtain⟨u,e⟩:=hy;cases e
  | str z=>obtain⟨u,e⟩:=hy;cases e
  | tup ds=>obtain⟨_,_,_,_,e,_⟩:=hy;cases e
  | fn a=>cases n<;>cases ky
  | fl a=>cases n<;>cases ky
  | fd=>cases n<;>cases ky
 | n,.bl b,y,v,_,ky,hx,hy=>by
  cases (show v=.bool b from hx);cases y with
  | l_=>cases hy
  | bl c=>cases hy;rfl
  | int j=>obtain⟨u,e⟩:=hy;cases e
  | str z=>obtain⟨u,e⟩:=hy;cases e
  | tup ds=>obtain⟨_,_,_,_,e,_⟩:=hy;cases e
  | fn a=>cases n<;>cases ky
  | fl a=>cases n<;>cases ky
  | fd=>cases n<;>cases ky
 | n,.int i,y,v,_,ky,hx,hy=>by
  obtain⟨t,rfl⟩:=hx;cases y with
  | l_=>cases hy
  | bl c=>cases hy
  | int j=>obtain⟨u,e⟩:=hy;injection e with e;rw[e]
  | str z=>obtain⟨u,e⟩:=hy;cases e
  | tup ds=>obtain⟨_,_,_,_,e,_⟩:=hy;cases e
  | fn a=>cases n<;>cases ky
  | fl a=>cases n<;>cases ky
  | fd=>cases n<;>cases ky
 | n,.str i,y,v,_,ky,hx,hy=>by
  obtain⟨t,rfl⟩:=hx;cases y with
  | l_=>cases hy
  | bl c=>cases hy
  | int j=>obtain⟨u,e⟩:=hy;cases e
  | str z=>obtain⟨u,e⟩:=hy;injection e with e;rw[e]
  | tup ds=>obtain⟨_,_,_,_,e,_⟩:=hy;cases e
  | fn a=>cases n<;>cases ky
  | fl a=>cases n<;>cases ky
  | fd=>cases n<;>cases ky
 | n+1,.tup ds,y,v,kx,ky,hx,hy=>by
  obtain⟨a,o,items,m,rfl,h1,h2,h3,h4⟩:=hx;cases y with
  | l_=>cases hy
  | bl c=>cases hy
  | int j=>obtain⟨u,e⟩:=hy;cases e
  | str z=>obtain⟨u,e⟩:=hy;cases e
  | fn a=>cases ky
  | fl a=>cases ky
  | fd=>cases ky
  | tup es=>
   obtain⟨a',o',s_,m',e,g1,g2,g3,g4⟩:=hy;cases e;rw[h1] at g1;cases g1;rw[h3] at g3;injection g3 with g3 _;subst g3;have all:∀ (ds es:List Im) (vs:List Value),Im.pls n ds=true->Im.pls n es=true->aU h ds vs->aU h es vs->ds=es:=by
    intro ds;induction ds with
    | nil=>
     intro es vs _ _ a b;cases es with
     | nil=>rfl
     | cons e es=>obtain⟨_,_,q,_⟩:=b;rw[show vs=[] from a] at q;cases q
    | cons d ds ih=>
     intro es vs k1 k2 a b;obtain⟨v,r,rfl,a1,a2⟩:=a;cases es with
     | nil=>cases (show v::r=[] from b)
     | cons e es=>
      obtain⟨v',r',q,b1,b2⟩:=b;cases q;rw[Im.pls,ZU] at k1 k2;rw[rL n k1.1 k2.1 a1 b1,ih es r k1.2 k2.2 a2 b2]
   rw[all ds es _ kx ky h4 g4]
 | 0,.tup _,_,_,k,_,_,_=>by cases k
 | n,.fn _,_,_,k,_,_,_=>by cases n<;>cases k
 | n,.fl _,_,_,k,_,_,_=>by cases n<;>cases k
 | n,.fd,_,_,k,_,_,_=>by cases n<;>cases k
open Classical in
noncomputable def gE(h:Heap)(d:Im)(v:Value):Bool:=if z:∃ x,Im.pl 8 x=true/\FF h x v then aA z.choose d else false
theorem jn{h:Heap}{x:Im}(k:Im.pl 8 x=true)(i:FF h x v):gE h d v=aA x d:=by
 unfold gE;have z:∃ x,Im.pl 8 x=true/\FF h x v:=⟨x,k,i⟩;rw[dif_pos z,rL 8 z.choose_spec.1 k z.choose_spec.2 i]
theorem jo{h:Heap}{d:Im}:∀ {ds:List Im}{vs:List Value},Im.pls 8 ds=true->aU h ds vs->vs.any (gE h d)=ds.any fun x=>aA x d
 | [],vs,_,e=>by rw[show vs=[] from e];rfl
 | x::ds,vs,k,e=>by
  obtain⟨v,r,rfl,h1,h2⟩:=e;rw[Im.pls,ZU] at k;rw[Xt,Xt,jn k.1 h1,jo k.2 h2]
theorem jp{h:Heap}:∀ {ds:List Im}{vs:List Value}{v:Value},Im.pls 8 ds=true->aU h ds vs->v∈vs->∃ x,Im.pl 8 x=true/\FF h x v
 | [],vs,v,_,e,m=>by rw[show vs=[] from e] at m;cases m
 | x::ds,vs,v,k,e,m=>by
  obtain⟨u,r,rfl,h1,h2⟩:=e;rw[Im.pls,ZU] at k;rcases ZG.mp m with rfl | m
  ·exact⟨x,k.1,h1⟩
  ·exact jp k.2 h2 m
section
variable{X:Cx}
def inB(d:Im):Vl->Option Bool
 | .im (.tup ds)=>if (Im.pl 8 d && Im.pls 8 ds)=true then some (ds.any fun x=>aA x d) else none
 | .lst ds=>if (Im.pl 8 d && Im.pls 8 ds)=true then some (ds.any fun x=>aA x d) else none
 | .dT kvs=>match d with
  | .tup k=>if Im.keys 7 k=true then some (bH kvs k).isSome else none
  | _=>none
 | .dK kvs=>match d with
  | .int i=>some (bH kvs<|.inl i).isSome
  | .str x=>some (bH kvs<|.inr x).isSome
  | _=>none
 | _=>none
@[simp] theorem Av(d:Im)(ds:List Im):inB d (.im<|.tup ds)=if (Im.pl 8 d && Im.pls 8 ds)=true then some (ds.any fun x=>aA x d) else none:=rfl
@[simp] theorem Aw(d:Im)(ds:List Im):inB d (.lst ds)=if (Im.pl 8 d && Im.pls 8 ds)=true then some (ds.any fun x=>aA x d) else none:=rfl
@[simp] theorem EW(k:List Im)(kvs:List (List Im×Im)):inB (.tup k) (.dT kvs)=if Im.keys 7 k=true then some (bH kvs k).isSome else none:=rfl
@[simp] def vIn:Op2:=fun a b=>match a with
 | .im d=>(inB d b).map fun r=>.im (.bl r)
 | _=>none
@[simp] def vNotIn:Op2:=fun a b=>match a with
 | .im d=>(inB d b).map fun r=>.im (.bl<|!r)
 | _=>none
theorem ip{κ:Type}[DecidableEq κ]{H:Hp}{k:κ}{kvs:List (κ×Im)}{Fv:List (κ×V)}(h:GH H kvs Fv):(cN Fv k).isSome=(bH kvs k).isSome:=by
 cases e:bH kvs k with
 | none=>rw[(ic h).2 e];rfl
 | some d=>obtain⟨v,h1,_⟩:=(ic h).1 d e;rw[h1];rfl
theorem Ax(hu:X.A.units+20<cLine)(I:Inv X pins σ H s)(rx:ay x v)(ry:ay y u)(i1:E7 H d x)(r2:Gi H d2 y)(e:inB d d2=some b)(q:∀ s',Inv X pins σ H s'->Q (.bool b) s'):wpAny (model X.prog X.w) X.A (compareOp .In v u) Q X.xe s:=by
 unfold inB at e;split at e
 ·rename_i ds;split at e
  ·rename_i hp;cases e;rw[ZU] at hp;obtain⟨a,xs,rfl,h1,h2⟩:=r2.i;cases ry;obtain⟨f_,rv,p,_⟩:=I.tuple (E1.of h1);have iv:=h2.Gh I.n_ rv;refine SeqAt.in_tupleAt (gE s.heap d) (show s.heap.IsTuple a f_.toArray from p) (fun w hw=>?_) ?_
   ·obtain⟨z,z1,z2⟩:=jp hp.2 iv (by simpa using hw);rw[jn z1 z2];exact dr 8 z1 hp.1 (by show X.A.units+1+8+1<cLine;lia) z2 (i1.Gh I.n_ rx)
   ·rw[Wz,jo hp.2 iv];exact q s I
  ·cases e
 ·rename_i ds;split at e
  ·rename_i hp;cases e;rw[ZU] at hp;obtain⟨_,a,xs,rfl,h1,h2,_⟩:=r2;cases ry;obtain⟨f_,p,iv,_⟩:=hX I h1 h2;refine SeqAt.in_listAt (gE s.heap d) p (fun w hw=>?_) ?_
   ·obtain⟨z,z1,z2⟩:=jp hp.2 iv (by simpa using hw);rw[jn z1 z2];exact dr 8 z1 hp.1 (by show X.A.units+1+8+1<cLine;lia) z2 (i1.Gh I.n_ rx)
   ·rw[Wz,jo hp.2 iv];exact q s I
  ·cases e
 ·rename_i kvs;split at e
  ·rename_i k;split at e
   ·rename_i hk;cases e;obtain⟨_,a,Fv,rfl,h1,h2,_⟩:=r2;cases ry;obtain⟨b,ys,rfl,g1,g2⟩:=i1;rw[<- ip h2] at q;exact mh hu I (b7.t h1 ⟨hk,b,ys,rfl,g1,g2⟩) rx q
   ·cases e
  ·cases e
 ·rename_i kvs;split at e
  ·rename_i i;cases e;obtain⟨_,a,Fv,rfl,h1,h2,_⟩:=r2;cases ry;rw[<- ip h2] at q;cases (show x=kV (.inl i) from i1);exact mh hu I (b7.k h1) rx q
  ·rename_i i;cases e;obtain⟨_,a,Fv,rfl,h1,h2,_⟩:=r2;cases ry;rw[<- ip h2] at q;cases (show x=kV (.inr i) from i1);exact mh hu I (b7.k h1) rx q
  ·cases e
 ·cases e
theorem iq(hu:X.A.units+20<cLine):Gj X (compareOp .In) vIn:=by
 intro pins s σ H x y v u Q I rx ry ⟨d1,d2,d,r1,r2,e,q⟩;unfold vIn at e;split at e
 ·obtain⟨b,e1,e2⟩:=Z2.mp e;cases e2;exact Ax hu I rx ry r1.i r2 e1 fun s' I'=>⟨.bl b,H,I',rfl,Out.i q rfl⟩
 ·cases e
theorem Ay(hu:X.A.units+20<cLine)(I:Inv X pins σ H s)(rx:ay x v)(ry:ay y u)(i1:E7 H d x)(r2:Gi H d2 y)(e:inB d d2=some b)(q:∀ s',Inv X pins σ H s'->Q (.bool<|!b) s'):wpAny (model X.prog X.w) X.A (compareOp .NotIn v u) Q X.xe s:=by
 unfold inB at e;split at e
 ·rename_i ds;split at e
  ·rename_i hp;cases e;rw[ZU] at hp;obtain⟨a,xs,rfl,h1,h2⟩:=r2.i;cases ry;obtain⟨f_,rv,p,_⟩:=I.tuple (E1.of h1);have iv:=h2.Gh I.n_ rv;refine SeqAt.notIn_tupleAt (gE s.heap d) (show s.heap.IsTuple a f_.toArray from p) (fun w hw=>?_) ?_
   ·obtain⟨z,z1,z2⟩:=jp hp.2 iv (by simpa using hw);rw[jn z1 z2];exact dr 8 z1 hp.1 (by show X.A.units+1+8+1<cLine;lia) z2 (i1.Gh I.n_ rx)
   ·rw[Wz,jo hp.2 iv];exact q s I
  ·cases e
 ·rename_i ds;split at e
  ·rename_i hp;cases e;rw[ZU] at hp;obtain⟨_,a,xs,rfl,h1,h2,_⟩:=r2;cases ry;obtain⟨f_,p,iv,_⟩:=hX I h1 h2;refine SeqAt.notIn_listAt (gE s.heap d) p (fun w hw=>?_) ?_
   ·obtain⟨z,z1,z2⟩:=jp hp.2 iv (by simpa using hw);rw[jn z1 z2];exact dr 8 z1 hp.1 (by show X.A.units+1+8+1<cLine;lia) z2 (i1.Gh I.n_ rx)
   ·rw[Wz,jo hp.2 iv];exact q s I
  ·cases e
 ·rename_i kvs;split at e
  ·rename_i k;split at e
   ·rename_i hk;cases e;obtain⟨_,a,Fv,rfl,h1,h2,_⟩:=r2;cases ry;obtain⟨b,ys,rfl,g1,g2⟩:=i1;rw[<- ip h2] at q;exact mo hu I (b7.t h1 ⟨hk,b,ys,rfl,g1,g2⟩) rx q
   ·cases e
  ·cases e
 ·rename_i kvs;split at e
  ·rename_i i;cases e;obtain⟨_,a,Fv,rfl,h1,h2,_⟩:=r2;cases ry;rw[<- ip h2] at q;cases (show x=kV (.inl i) from i1);exact mo hu I (b7.k h1) rx q
  ·rename_i i;cases e;obtain⟨_,a,Fv,rfl,h1,h2,_⟩:=r2;cases ry;rw[<- ip h2] at q;cases (show x=kV (.inr i) from i1);exact mo hu I (b7.k h1) rx q
  ·cases e
 ·cases e
theorem ni(hu:X.A.units+20<cLine):Gj X (compareOp .NotIn) vNotIn:=by
 intro pins s σ H x y v u Q I rx ry ⟨d1,d2,d,r1,r2,e,q⟩;unfold vNotIn at e;split at e
 ·obtain⟨b,e1,e2⟩:=Z2.mp e;cases e2;exact Ay hu I rx ry r1.i r2 e1 fun s' I'=>⟨.bl<|!b,H,I',rfl,Out.i q rfl⟩
 ·cases e
@[simp] def fY(f f':Op2)(ga gb gc:M Opd):M Vl:=fun D=>(ga D).bind fun p=>(gb p.2).bind fun q=>(rsl q.2 p.1).bind fun d1=>(rsl q.2 q.1).bind fun d2=>(f d1 d2).bind fun d=>(asB d).bind fun k=>
 if k=true then (gc q.2).bind fun r=>(rsl r.2 q.1).bind fun Lb=>(rsl r.2 r.1).bind fun d3=>(f' Lb d3).bind fun z=>(asB z).map fun b=>(.im<|.bl b,r.2) else some (.im<|.bl false,q.2)
theorem Az{Q:VK}(h:tV (fY f f' ga gb gc) σ H Q):
  pA (fun x y H Q=>∃ d1 d2 d,Gi H d1 x/\Gi H d2 y/\f d1 d2=some d/\Out H d Q) (fun x y H Q=>∃ d1 d2 d,Gi H d1 x/\Gi H d2 y/\f' d1 d2=some d/\Out H d Q) (tO ga) (tO gb) (tO gc) σ H Q:=by
 obtain⟨D,F,r,D',st,nd,hg,q⟩:=h;obtain⟨⟨o1,D1⟩,h1,hg⟩:=Z8.mp hg;obtain⟨⟨o2,D2⟩,h2,hg⟩:=Z8.mp hg;obtain⟨d1,h3,hg⟩:=Z8.mp hg;obtain⟨d2,h4,hg⟩:=Z8.mp hg;obtain⟨d,h5,hg⟩:=Z8.mp hg;obtain⟨k,h6,hK⟩:=Z8.mp hg;have hd:=kA h6;subst hd;refine⟨D,F,o1,D1,st,nd,h1,fun x H1 F1 R1 q_ w1 s1=>⟨D1,F1,o2,D2,q_,(ZH.mp s1.nd).1,h2,fun y H2 F2 R2 p_ w2 s2=>?_⟩⟩;have So:cS H2 σ o1 x R1:=w1.mono s2.tup fun a ha o e=>s2.keep a o e fun h=>(ZH.mp s1.nd).2.2 a h a ha rfl;refine⟨d1,d2,_,So.read p_ h3,w2.read p_ h4,h5,fun v H3 R3 sm ow LF fr=>?_⟩;obtain⟨rfl,rfl⟩:=(show v=.bl k/\R3=[] from ow);refine⟨k,rfl,?_⟩;have Lc:=s1.trans s2 w1.chg;rw[Z4] at Lc;have sA:=Lc.new sm YG (fun a ha=>nomatch ha) p_.chg;have FM:ao H3 D2 σ F2:=p_.mono sm.tupS fun a _ o e=>sm a o e;cases k with
 | false=>
  rw[ZW ZM] at hK ⊢;cases hK;exact q _ H3 F2 [] FM ⟨rfl,rfl⟩ sA
 | true=>
  rw[ZY rfl] at hK ⊢;obtain⟨⟨o3,D3⟩,g1,k1⟩:=Z8.mp hK;obtain⟨Lb,g2,k2⟩:=Z8.mp k1;obtain⟨d3,g3,k3⟩:=Z8.mp k2;obtain⟨z,g4,k4⟩:=Z8.mp k3;obtain⟨b,g5,k5⟩:=Z2.mp k4;cases k5;have hz:=kA g5;subst hz;rw[ZO] at sA;refine⟨D2,F2,o3,D3,FM,sA.nd,g1,fun w H4 F3 R4 FY w3 s4=>?_⟩;have Hn:=ZH.mp s2.nd;have OT:cS H4 σ o2 y R2:=(w2.mono sm.tupS fun a _ o e=>sm a o e).mono s4.tup fun a ha o e=>s4.keep a o e fun h=>Hn.2.2 a h a ha rfl;refine⟨Lb,d3,_,OT.read FY g2,w3.read FY g3,g4,fun v H5 R5 O5 Sq Tr Nx=>?_⟩;obtain⟨rfl,rfl⟩:=(show v=.bl b/\R5=[] from Sq);exact q _ H5 F3 [] (FY.mono O5.tupS fun a _ o e=>O5 a o e) ⟨rfl,rfl⟩ ((sA.seq s4).new O5 YG (fun a ha=>nomatch ha) FY.chg)
theorem rM{op KJ:CmpOp}{a b c:Expr}{pos:Pos}(ho:Gj X (compareOp op) f)(IK:Gj X (compareOp KJ) f')(ha:VO X a ga)(hb:VO X b gb)(hc:VO X c gc)(hm:lastMarks [op,KJ] [b,c]=false:=by with_unfolding_all rfl):VE X (.Compare a [op,KJ] [b,c] pos) (fY f f' ga gb gc):=
 be (xa ho IK ha hb hc hm) fun _ _ _ h=>Az h
end
mutual
def z_:Im->Im->Bool
 | .int i,.int j=>decide (i<j)
 | .tup a,.tup b=>cx a b
 | _,_=>false
def cx:List Im->List Im->Bool
 | [],[]=>false
 | [],_::_=>true
 | _::_,[]=>false
 | a::r,b::t=>if Im.beq a b=true then cx r t else z_ a b
end
mutual
def cj:Nat->Im->Im->Bool
 | _,.int _,.int _=>true
 | n+1,.tup a,.tup b=>bN n a b
 | _,_,_=>false
def bN:Nat->List Im->List Im->Bool
 | _,[],[]=>true
 | n,a::r,b::t=>cj n a b && bN n r t
 | _,_,_=>false
end
theorem nj:∀ {n:Nat}{a b:List Im},bN n a b=true->a.length=b.length
 | _,[],[],_=>rfl
 | n,a::r,b::t,h=>by
  rw[bN,ZU] at h;rw[ZJ,ZJ,nj h.2]
 | _,[],_::_,h=>by cases h
 | _,_::_,[],h=>by cases h
mutual
theorem k9:∀ {n:Nat}{a b:Im},cj n a b=true->Im.pl n a=true/\Im.pl n b=true/\aA a b=Im.beq a b
 | n,.int i,.int j,_=>by
  refine⟨by cases n<;>rfl,by cases n<;>rfl,?_⟩;rw[aA,Im.beq];by_cases h:i=j<;>simp[h]
 | n+1,.tup a,.tup b,h=>by
  rw[cj] at h;obtain⟨h1,h2,h3⟩:=rN h;exact⟨h1,h2,by rw[aA,Im.beq];exact h3⟩
theorem rN:∀ {n:Nat}{a b:List Im},bN n a b=true->Im.pls n a=true/\Im.pls n b=true/\bC a b=Im.GT a b
 | n,[],[],_=>⟨by cases n<;>rfl,by cases n<;>rfl,rfl⟩
 | n,a::r,b::t,h=>by
  rw[bN,ZU] at h;obtain⟨h1,h2,h3⟩:=k9 h.1;obtain⟨g1,g2,g3⟩:=rN h.2;exact⟨by rw[Im.pls,h1,g1];rfl,by rw[Im.pls,h2,g2];rfl,by rw[bC,Im.GT,h3,g3]⟩
end
theorem gF{a b:Im}(h:¬ a=b):Im.beq a b=false:=by
 cases e:Im.beq a b with
 | false=>rfl
 | true=>exact absurd ((Im.beq_iff a b).mp e) h
mutual
theorem nk:∀ a:Im,z_ a a=false
 | .int i=>by simp[z_]
 | .tup a=>by rw[z_];exact rO a
 | .l_=>rfl
 | .bl _=>rfl
 | .str _=>rfl
 | .fn _=>rfl
 | .fl _=>rfl
 | .fd=>rfl
theorem rO:∀ a:List Im,cx a a=false
 | []=>rfl
 | a::r=>by rw[cx,ZY<|(Im.beq_iff a a).mpr rfl];exact rO r
end
mutual
theorem ir:∀ {n:Nat}{a b:Im},cj n a b=true->a≠b->z_ a b=!(z_ b a)
 | n,.int i,.int j,_,h=>by
  have:i≠j:=fun e=>h (by rw[e]);rw[z_,z_];rcases Int.lt_or_gt_of_ne this with g | g
  ·simp[g];lia
  ·simp[g];lia
 | n+1,.tup a,.tup b,h,e=>by
  rw[cj] at h;rw[z_,z_];exact rP h fun z=>e (by rw[z])
theorem rP:∀ {n:Nat}{a b:List Im},bN n a b=true->a≠b->cx a b=!(cx b a)
 | n,[],[],_,h=>absurd rfl h
 | n,a::r,b::t,h,e=>by
  rw[bN,ZU] at h;rw[cx,cx];by_cases z:a=b
  ·subst z;rw[ZY ((Im.beq_iff a a).mpr rfl),ZY<|(Im.beq_iff a a).mpr rfl];exact rP h.2 fun w=>e (by rw[w])
  ·rw[gF z,gF<|fun w=>z w.symm,ZW ZM,ZW ZM];exact ir h.1 z
end
mutual
theorem lc:∀ {n:Nat}{a b c:Im},cj n a b=true->cj n b c=true->z_ a b=true->z_ b c=true->z_ a c=true
 | n,.int i,.int j,.int k,_,_,h1,h2=>by
  rw[z_] at h1 h2 ⊢;have:=Y8 h1;have:=Y8 h2;exact Zu (by lia)
 | n+1,.tup a,.tup b,.tup c,l1,l2,h1,h2=>by
  rw[cj] at l1 l2;rw[z_] at h1 h2 ⊢;exact rQ l1 l2 h1 h2
theorem rQ:∀ {n:Nat}{a b c:List Im},bN n a b=true->bN n b c=true->cx a b=true->cx b c=true->cx a c=true
 | n,[],[],[],_,_,h,_=>h
 | n,a::r,b::t,c::u,l1,l2,h1,h2=>by
  rw[bN,ZU] at l1 l2;rw[cx] at h1 h2 ⊢;by_cases z1:a=b
  ·subst z1;rw[ZY ((Im.beq_iff a a).mpr rfl)] at h1;by_cases z2:a=c
   ·subst z2;rw[ZY ((Im.beq_iff a a).mpr rfl)] at h2 ⊢;exact rQ l1.2 l2.2 h1 h2
   ·rw[gF z2,ZW ZM] at h2 ⊢;exact h2
  ·rw[gF z1,ZW ZM] at h1;by_cases z2:b=c
   ·subst z2;rw[gF z1,ZW ZM];exact h1
   ·rw[gF z2,ZW ZM] at h2;have h3:=lc l1.1 l2.1 h1 h2;have z3:¬ a=c:=fun w=>by
     subst w;have:=ir l2.1 z2;rw[h1,h2] at this;cases this
    rw[gF z3,ZW ZM];exact h3
end
def np(A:Around)(s:Shared)(y x:Value)(k:Bool):Prop:=∀ (prog:Program) (w:World) (E:Value->Shared->Prop) (Q:Value->Shared->Prop),Q (.bool k) s->wpAny (model prog w) A (richCompare .Lt y x) Q E s
def fZ(f:Bool):List (Bool×Bool)->Bool
 | []=>f
 | (e,k)::r=>if e=true then fZ f r else k
section
open PySem.SeqAt
open PySem.AutoSeq1 (wpAny_loadPart')
open PySem.MeetsSeq PySem.MeetsSeq2 PySem.MeetsSeq3
theorem AA(l b:Addr)(items x_:Array Value)(n n2:Nat)(dd Lv:Option Addr)(sl Lw:Array (Option Value))(ps:List (Bool×Bool))(NN:ps.length=min items.size x_.size):
  Meets (Builtin.«tuple.__lt__» ⟨[.ref l,.ref b],[]⟩)
   (fun A R s=>s.heap.get? l=some { cls:=.type "tuple",dict:=dd,data:=.seq items n,slots:=sl }/\s.heap.get? b=some { cls:=.type "tuple",dict:=Lv,data:=.seq x_ n2,slots:=Lw }/\
    (∀ j (h1:j<items.size) (h2:j<x_.size) (h3:j<ps.length),EqAt A.in1 s items[j] x_[j] (ps[j]).1/\((ps[j]).1=false->np A.in1 s items[j] x_[j] (ps[j]).2))/\
    R (.ok<|.ret<|.bool<|fZ (decide (items.size<x_.size)) ps) s):=
 .of_wp fun prog w A R s h=>by
  obtain⟨hp,g,d,tk,os⟩:=s;obtain⟨hl,hb,he,h⟩:=h;have f2:=AutoSeq1.sub_tuple_tuple;have hZ:(items.toList.zip x_.toList).length=min items.size x_.size:=by simp
  wp_walk using wpAny_loadPart' hl,wpAny_loadPart' hb,XL _ (fun rest b s'=>b.1=none/\s'=⟨hp,g,d,tk,os⟩/\∃ i,rest=(items.toList.zip x_.toList).drop i/\
   R (.ok<|.ret<|.bool<|fZ (decide (items.size<x_.size))<|ps.drop i) ⟨hp,g,d,tk,os⟩) _
  case turn=>
   rintro⟨y,x⟩ rest b s' ⟨Jw,rfl,i,hz,hR⟩;have Gb:i<(items.toList.zip x_.toList).length:=by
    rcases YJ i (items.toList.zip x_.toList).length with h' | h'
    ·exact h'
    ·rw[X5 h'] at hz;cases hz
   have hm:i<min items.size x_.size:=hZ ▸ Gb;have h1:i<items.size:=by lia
   have h2:i<x_.size:=by lia
   have h3:i<ps.length:=by lia
   rw[Y3 Gb] at hz;injection hz with Qs MD;have hy:y=items[i]:=by have:=congrArg Prod.fst Qs;simpa using this
   have hx:x=x_[i]:=by have:=congrArg Prod.snd Qs;simpa using this
   subst hy hx;rw[Y3 h3] at hR;obtain⟨OY,ME⟩:=he i h1 h2 h3;generalize ps[i]=pr at hR OY ME;obtain⟨e,k⟩:=pr;refine Z9 (OY prog w _ _ ?_);cases e with
   | true=>
    have MF:R (.ok<|.ret<|.bool<|fZ (decide (items.size<x_.size))<|ps.drop<|i+1) ⟨hp,g,d,tk,os⟩:=hR
    wp_walk
    exact⟨rfl,rfl,i+1,MD,MF⟩
   | false=>
    have MF:R (.ok<|.ret<|.bool k) ⟨hp,g,d,tk,os⟩:=hR;have Sr:=ME rfl prog w
    wp_walk using Sr
    exact⟨_,rfl,by simpa using MF⟩
  case fin=>
   rintro⟨b1,b2⟩ s' ⟨Jw,rfl,i,hz,hR⟩;simp only at Jw;subst Jw;have Ts:min items.size x_.size<=i:=by
    rcases YJ i (items.toList.zip x_.toList).length with h' | h'
    ·rw[Y3 h'] at hz;cases hz
    ·exact hZ ▸ h'
   rw[X5 (by lia)] at hR;have MF:R (.ok<|.ret<|.bool<|decide (items.size<x_.size)) ⟨hp,g,d,tk,os⟩:=hR
   wp_walk
   exact⟨_,rfl,by simpa [Builtin.Tuple.tupleCompareSizes] using MF⟩
  case h=>
   exact⟨rfl,rfl,0,rfl,by simpa using h⟩
end
def Jx(ds es:List Im):List (Bool×Bool):=(ds.zip es).map fun p=>(aA p.1 p.2,z_ p.1 p.2)
theorem rR:∀ {n:Nat}{ds es:List Im},bN n ds es=true->fZ false (Jx ds es)=cx ds es
 | _,[],[],_=>rfl
 | n,a::r,b::t,h=>by
  rw[bN,ZU] at h;show (if aA a b=true then fZ false (Jx r t) else z_ a b)=cx (a::r) (b::t);rw[cx,(k9 h.1).2.2,rR h.2]
 | _,[],_::_,h=>by cases h
 | _,_::_,[],h=>by cases h
theorem rS{n:Nat}:∀ {ds es:List Im}{j:Nat}{a b:Im},bN n ds es=true->ds[j]?=some a->es[j]?=some b->cj n a b=true
 | [],es,j,a,b,_,h,_=>by simp at h
 | d::ds,[],j,a,b,h,_,_=>by cases h
 | d::ds,e::es,0,a,b,h,h1,h2=>by
  rw[bN,ZU] at h;cases h1;cases h2;exact h.1
 | d::ds,e::es,j+1,a,b,h,h1,h2=>by
  rw[bN,ZU] at h;exact rS (j:=j) h.2 (by simpa using h1) (by simpa using h2)
theorem rT{A:Around}{i j:Int}(hx:FF s.heap (.int i) u)(hy:FF s.heap (.int j) v):np A s u v (z_ (.int i)<|.int j):=by
 obtain⟨t,rfl⟩:=hx;obtain⟨t',rfl⟩:=hy;intro prog w E Q q;rw[z_] at q;exact HT.xv A s i t j t' prog w E Q q
theorem nq:∀ {n:Nat}{x y:Im},cj n x y=true->(∃ i j,x=.int i/\y=.int j)\/∃ m a b,n=m+1/\x=.tup a/\y=.tup b/\bN m a b=true:=by
 intro n x y h;unfold cj at h;split at h
 ·exact .inl ⟨_,_,rfl,rfl⟩
 ·exact .inr ⟨_,_,_,rfl,rfl,rfl,h⟩
 ·cases h
theorem rV(n:Nat):∀ {A:Around}{x y:Im}{u v:Value},cj n x y=true->A.units+n+2<cLine->FF s.heap x u->FF s.heap y v->np A s u v (z_ x y):=by
 induction n with
 | zero=>
  intro A x y u v h hu hx hy;rcases nq h with ⟨i,j,rfl,rfl⟩ | ⟨m,_,_,e,_⟩
  ·exact rT hx hy
  ·cases e
 | succ n ih=>
  intro A x y u v h hu hx hy;rcases nq h with ⟨i,j,rfl,rfl⟩ | ⟨m,ds,es,e,rfl,rfl,h⟩
  ·exact rT hx hy
  cases e;obtain⟨a,o,f_,m,rfl,h1,h2,h3,h4⟩:=hx;obtain⟨b,o',its',m',rfl,g1,g2,g3,g4⟩:=hy;obtain⟨cls,dd,data,sl⟩:=o;obtain⟨Ss,Kc,Qt,Oa⟩:=o';simp only at h2 h3 g2 g3;subst h2 h3 g2 g3;have l0:=nj h;have l1:ds.length=f_.size:=by rw[h4.length,ZN]
  have l2:es.length=its'.size:=by rw[g4.length,ZN]
  intro prog w E Q q;rw[z_,<- rR h] at q;have lp:(Jx ds es).length=min f_.size its'.size:=by rw[Jx,Z3,Vq,l1,l2]
  have hd:decide (f_.size<its'.size)=false:=Zs (by lia);refine richCompare_meets_room (op:=.Lt) ⟨_,h1,rfl⟩ ⟨_,g1,rfl⟩ PySem.F.slot_tuple_lt PySem.F.entry_tuple_lt (PySem.F.args_tuple_lt_2 _ _) (AA a b f_ its' m m' dd Kc sl Oa (Jx ds es) lp)
   ⟨h1,g1,fun j j1 j2 j3=>?_,show Value.bool (fZ (decide (f_.size<its'.size))<|Jx ds es)≠Value.notImplemented/\Q (.bool<|fZ (decide (f_.size<its'.size))<|Jx ds es) s from ⟨(fun x=>nomatch x),by rw[hd];exact q⟩⟩ (by lia);obtain⟨d1,e1,r1⟩:=h4.get (j:=j) (v:=f_[j]) (by rw[ZD];simp[j1]);obtain⟨d2,e2,r2⟩:=g4.get (j:=j) (v:=its'[j]) (by rw[ZD];simp[j2]);have lk:=rS h e1 e2;have hp:=k9 lk;have ez:(Jx ds es)[j]=(aA d1 d2,z_ d1 d2):=by
   have:(Jx ds es)[j]?=some (aA d1 d2,z_ d1 d2):=by
    rw[Jx,ZB,(Xe (z:=(d1,d2))).mpr ⟨e1,e2⟩];rfl
   rw[Z0 j3] at this;exact Zq this
  rw[ez];exact⟨dr n hp.1 hp.2.1 (by show A.units+1+n+1<cLine;lia) r1 r2,fun _=>ih lk (by show A.units+1+n+2<cLine;lia) r1 r2⟩
end L2
namespace L2
open PySem PySem.Spec PyProof.Rows PySem.W
variable{f_:List Value}{ds:List Im}
theorem rW{α:Type}{p q:α->Bool}:∀ {l:List α},(∀ x∈l,p x=true->q x=true)->(∃ x∈l,q x=true/\p x=false)->l.countP p<l.countP q
 | [],_,h=>by obtain⟨x,hx,_⟩:=h;cases hx
 | a::l,h,⟨x,hx,h1,h2⟩=>by
  rw[List.countP_cons,List.countP_cons];have le:l.countP p<=l.countP q:=List.countP_mono_left fun y hy=>h y (.tail _ hy);rcases ZG.mp hx with rfl | hx
  ·rw[h1,h2];simp;lia
  ·have:=rW (fun y hy=>h y<|.tail _ hy) ⟨x,hx,h1,h2⟩;have ha:=h a (.head _);cases e1:p a<;>cases e2:q a<;>rw[e1,e2] at ha<;>simp at ha ⊢<;>lia
structure F_(ds:List Im):Prop where
 Ld:ds.length<=1000
 GY:∀ a∈ds,∀ b∈ds,cj 6 a b=true
 nd:ds.Nodup
def Kr(ds:List Im)(x:Im):Nat:=ds.countP fun d=>z_ d x
theorem lg(o:F_ ds){x y:Im}(hx:x∈ds)(hy:y∈ds)(h:z_ x y=true):Kr ds x<Kr ds y:=
 rW (fun z hz e=>lc (o.GY z hz x hx) (o.GY x hx y hy) e h) ⟨x,hx,h,nk x⟩
theorem rX(o:F_ ds){x y:Im}(hx:x∈ds)(hy:y∈ds):decide ((Kr ds x:Int)<(Kr ds y:Int))=z_ x y:=by
 cases e:z_ x y with
 | true=>exact Zu (by have:=lg o hx hy e;lia)
 | false=>
  refine Zs fun z=>?_;by_cases h:x=y
  ·subst h;lia
  ·have t:=ir (o.GY x hx y hy) h;rw[e] at t;have t':z_ y x=true:=by cases q:z_ y x<;>rw[q] at t<;>simp at t ⊢
   have:=lg o hy hx t';lia
theorem AB(o:F_ ds){x y:Im}(hx:x∈ds)(hy:y∈ds)(h:Kr ds x=Kr ds y):x=y:=by
 by_cases e:x=y
 ·exact e
 ·have t:=ir (o.GY x hx y hy) e;cases q:z_ x y with
  | true=>have:=lg o hx hy q;lia
  | false=>
   rw[q] at t;have t':z_ y x=true:=by cases q:z_ y x<;>rw[q] at t<;>simp at t ⊢
   have:=lg o hy hx t';lia
def d8(ds:List Im)(i:Nat):Int:=Kr ds (ds.getD i .l_)
theorem iz{i:Nat}(h:i<ds.length):ds.getD i .l_∈ds:=by
 rw[Z5,Z0 h];exact WE h
theorem lh(o:F_ ds):∀ i j,i<ds.length->j<ds.length->d8 ds i=d8 ds j->i=j:=fun i j hi hj e=>by
 have:=AB o (iz hi) (iz hj) (by unfold d8 at e;lia);rw[Z5,Z0 hi,Z5,Z0 hj] at this;exact (VJ o.nd).mp this
theorem O6(o:F_ ds){p:Array Nat}(hp:Rg ds.length p)(up:Up (d8 ds) p ds.length):(p.toList.map fun i=>ds.getD i .l_).Pairwise (fun a b=>z_ a b=true):=by
 rw[YQ];intro i j hi hj Gp;have hs:=hp.size;have GG:i<ds.length:=by simpa [hs] using hi
 have Kk:j<ds.length:=by simpa [hs] using hj
 have ne:=hp.ne (lh o) Gp Kk;have le:=up i j (by lia) Kk;have g:∀ k (hk:k<(p.toList.map fun i=>ds.getD i .l_).length),(p.toList.map fun i=>ds.getD i .l_)[k]=ds.getD (p.getD k 0) .l_:=fun k hk=>by
  have F9:k<p.size:=by simpa using hk
  rw[List.getElem_map,Array.getElem_toList];simp[Array.getD,F9]
 rw[g i hi,g j hj];rw[<- rX o (iz<|hp.lt GG) (iz<|hp.lt Kk)];refine Zu ?_;have e:∀ k,(Kr ds (ds.getD (p.getD k 0) .l_):Int)=B_ (d8 ds) p k:=fun _=>rfl;rw[e i,e j];lia
theorem rY:∀ {l m:List Im},l.Perm m->l.Pairwise (fun a b=>z_ a b=true)->m.Pairwise (fun a b=>z_ a b=true)->(∀ a∈l,∀ b∈l,z_ a b=true->z_ b a=false)->l=m
 | [],m,p,_,_,_=>(List.nil_perm.mp p).symm
 | a::l,m,p,h1,h2,as=>by
  cases m with
  | nil=>exact absurd p.length_eq (by simp)
  | cons b m=>
   have e:a=b:=by
    by_cases e:a=b
    ·exact e
    ·have ha:a∈m:=by
      rcases ZG.mp (p.mem_iff.mp<|.head _) with z | z
      ·exact absurd z e
      ·exact z
     have hb:b∈l:=by
      rcases ZG.mp (p.mem_iff.mpr<|.head _) with z | z
      ·exact absurd z.symm e
      ·exact z
     have q1:=(Zf.mp h1).1 b hb;have q2:=(Zf.mp h2).1 a ha;rw[as a (.head _) b (.tail _ hb) q1] at q2;cases q2
   subst e;rw[rY (List.Perm.cons_inv p) (Zf.mp h1).2 (Zf.mp h2).2 fun x hx y hy=>as x (.tail _ hx) y<|.tail _ hy]
theorem nt(x:Im):∀ l:List Im,(fR z_ x l).Perm (x::l)
 | []=>ZC _
 | y::r=>by
  rw[fR];split
  ·exact ZC _
  ·exact (List.Perm.cons y<|nt x r).trans (List.Perm.swap x y r)
theorem iA:∀ l:List Im,(b6 z_ l).Perm l
 | []=>ZC _
 | x::r=>(nt x _).trans (List.Perm.cons x<|iA r)
theorem rZ{x:Im}:∀ {l:List Im},l.Pairwise (fun a b=>z_ a b=true)->(∀ y∈l,x≠y)->(∀ a∈x::l,∀ b∈x::l,cj 6 a b=true)->(fR z_ x l).Pairwise (fun a b=>z_ a b=true)
 | [],_,_,_=>Zz _ _
 | y::r,h,n,lk=>by
  have h':=Zf.mp h;rw[fR];split
  ·rename_i e;refine Zf.mpr ⟨fun z hz=>?_,h⟩;rcases ZG.mp hz with rfl | hz
   ·exact e
   ·exact lc (lk x (.head _) y<|.tail _<|.head _) (lk y (.tail _<|.head _) z<|.tail _<|.tail _ hz) e (h'.1 z hz)
  ·rename_i e;refine Zf.mpr ⟨fun z hz=>?_,rZ h'.2 (fun z hz=>n z<|.tail _ hz) fun a ha b hb=>lk a ?_ b ?_⟩
   ·rcases ZG.mp ((nt x r).mem_iff.mp hz) with rfl | hz
    ·have t:=ir (lk z (.head _) y<|.tail _<|.head _) (n y<|.head _);cases q:z_ y z with
     | true=>rfl
     | false=>rw[q] at t;exact absurd t e
    ·exact h'.1 z hz
   ·rcases ZG.mp ha with rfl | ha
    ·exact .head _
    ·exact .tail _ (.tail _ ha)
   ·rcases ZG.mp hb with rfl | hb
    ·exact .head _
    ·exact .tail _ (.tail _ hb)
theorem nu:∀ {l:List Im},l.Nodup->(∀ a∈l,∀ b∈l,cj 6 a b=true)->(b6 z_ l).Pairwise (fun a b=>z_ a b=true)
 | [],_,_=>.nil
 | x::r,nd,lk=>by
  have Ja:=YO.mp nd;refine rZ (nu Ja.2 fun a ha b hb=>lk a (.tail _ ha) b<|.tail _ hb) (fun y hy e=>Ja.1 (by rw[e];exact (iA r).mem_iff.mp hy)) fun a ha b hb=>lk a ?_ b ?_
  ·rcases ZG.mp ha with rfl | ha
   ·exact .head _
   ·exact .tail _ ((iA r).mem_iff.mp ha)
  ·rcases ZG.mp hb with rfl | hb
   ·exact .head _
   ·exact .tail _ ((iA r).mem_iff.mp hb)
theorem lj{l:List Im}(o:F_ ds)(p:l.Perm ds)(h:l.Pairwise (fun a b=>z_ a b=true)):l=b6 z_ ds:=by
 refine rY (p.trans (iA ds).symm) h (nu o.nd o.GY) fun a ha b hb e=>?_;have t:=ir (o.GY a (p.mem_iff.mp ha) b<|p.mem_iff.mp hb) (fun z=>by subst z;rw[nk] at e;cases e);rw[e] at t;cases q:z_ b a with
 | false=>rfl
 | true=>rw[q] at t;cases t
def c8:Im->Bool
 | .tup (.int _::_)=>true
 | _=>false
def gG:Im->Bool
 | .tup (.tup _::_)=>true
 | _=>false
section
variable{prog:Program}{w:World}{A:Around}{E:Value->Shared->Prop}{s:Shared}
theorem r6{b:Bool}(n:Nat)(hu:A.units+n+2<cLine){Q:Bool->Shared->Prop}:∀ {ds es:List Im}{vs ws:List Value}{i:Nat},bN n ds es=true->aU s.heap ds vs->aU s.heap es ws->(b=true->i=0->∃ k r,ds=.int k::r)->Q (cx ds es) s->KatLex prog w A b false Q (vs.zip ws) i s
 | [],[],vs,ws,i,_,h1,h2,_,q=>by
  rw[show vs=[] from h1];exact kat_nil q
 | d::ds,e::es,vs,ws,i,h,h1,h2,hb,q=>by
  rw[bN,ZU] at h;obtain⟨v,vs,rfl,a1,a2⟩:=h1;obtain⟨u,ws,rfl,b1,b2⟩:=h2;rw[V4];obtain⟨p1,p2,p3⟩:=k9 h.1;refine kat_cons (dr n p1 p2 (by lia) a1 b1 prog w _ _ ?_);rw[p3];rw[cx] at q;cases hq:Im.beq d e with
  | true=>
   rw[hq,ZY rfl] at q;exact kat_yes (r6 n hu h.2 a2 b2 (fun _ z=>by lia) q)
  | false=>
   rw[hq,ZW ZM] at q;refine kat_no ?_;by_cases hf:(b && i == 0)=true
   ·rw[hf];rw[ZU] at hf;obtain⟨k,r,z⟩:=hb hf.1 (by simpa using hf.2);cases z;rcases nq h.1 with ⟨i',j,z1,z2⟩ | ⟨_,_,_,_,z1,_⟩
    ·cases z1;cases z2;obtain⟨t,rfl⟩:=a1;obtain⟨t',rfl⟩:=b1;rw[z_] at q;exact oneLt_int q
    ·cases z1
   ·rw[show (b && i == 0)=false by simpa using hf];exact kat_one _ _ (rV n h.1 hu a1 b1 prog w _ _ q)
 | [],_::_,_,_,_,h,_,_,_,_=>by cases h
 | _::_,[],_,_,_,h,_,_,_,_=>by cases h
theorem nv{b:Bool}(o:F_ ds)(iv:aU s.heap ds f_)(ht:∀ d∈ds,∃ r,d=.tup r)(hb:b=true->∀ d∈ds,c8 d=true)(hu:A.units+9<cLine):
  cz f_.length (d8 ds) (kas_cmp prog w A (tuples' b)<|f_.toArray.zip f_.toArray) s:=by
 intro i j C hi hj q;have hl:=iv.length;have mi:=iz (ds:=ds) (i:=i) (by lia);have mj:=iz (ds:=ds) (i:=j) (by lia);unfold d8 at q;rw[rX o mi mj] at q;obtain⟨d1,e1,r1⟩:=iv.get (j:=i) (v:=f_[i]) (by simp);obtain⟨d2,e2,r2⟩:=iv.get (j:=j) (v:=f_[j]) (by simp);rw[Z5,e1,Z5,e2] at q;rw[Z5,e1] at mi;rw[Z5,e2] at mj;obtain⟨a,ea⟩:=ht d1 mi;obtain⟨b',eb⟩:=ht d2 mj;subst ea eb;have lk:bN 5 a b'=true:=o.GY _ mi _ mj;unfold kas_cmp;rw[kat_item rfl,kat_item rfl,Z5,Z5,Z0 hi,Z0 hj];show wpAny _ _ (keyLt' (tuples' b) f_[i] f_[j]) _ _ _;obtain⟨x,ox,xs,n1,z1,g1,g2,g3,g4⟩:=r1;obtain⟨y,oy,ys,n2,z2,k1,k2,k3,k4⟩:=r2;rw[z1,z2];refine kat_lt (b:=b) g1 g3 k1 k3 ?_;have l1:a.length=xs.size:=by rw[g4.length,ZN]
 have l2:b'.length=ys.size:=by rw[k4.length,ZN]
 rw[show decide (xs.size<ys.size)=false from Zs (by have:=nj lk;lia)];refine r6 5 (by lia) lk g4 k4 (fun GZ _=>?_) (by have q':C (z_ (.tup a)<|.tup b') s:=q;rw[z_] at q';exact q');have:=hb GZ _ mi;unfold c8 at this;split at this
 ·rename_i h;cases h;exact⟨_,_,rfl⟩
 ·cases this
theorem se:∀ {ds:List Im}{f_:List Value},aU s.heap ds f_->(∀ d∈ds,c8 d=true)\/(∀ d∈ds,gG d=true)->∃ fs,KatTups s.heap f_ fs/\fs.length=f_.length/\
  ((∀ d∈ds,c8 d=true)->∀ v∈fs,∃ i t,v=Value.int i t)/\((∀ d∈ds,gG d=true)->∀ v∈fs,∃ a ob,v=Value.ref a/\s.heap.get? a=some ob/\ob.cls=.type "tuple")
 | [],f_,h,_=>by
  rw[show f_=[] from h];exact⟨[],trivial,rfl,(fun _ _ h=>nomatch h),(fun _ _ h=>nomatch h)⟩
 | d::ds,f_,h,hf=>by
  obtain⟨v,r,rfl,h1,h2⟩:=h;obtain⟨fs,t1,t2,t3,t4⟩:=se h2 (hf.imp (fun z x hx=>z x<|.tail _ hx) fun z x hx=>z x<|.tail _ hx);have sh:∃ f r',d=.tup (f::r'):=by
   rcases hf with z | z
   ·have:=z d (.head _);unfold c8 at this;split at this
    ·exact⟨_,_,rfl⟩
    ·cases this
   ·have:=z d (.head _);unfold gG at this;split at this
    ·exact⟨_,_,rfl⟩
    ·cases this
  obtain⟨f,r',rfl⟩:=sh;obtain⟨a,o,items,n,rfl,g1,g2,g3,g4⟩:=h1;obtain⟨fv,rv,e,g5,g6⟩:=g4;have MC:items[0]?=some fv:=by
   rw[<- ZD,e];rfl
  refine⟨fv::fs,KatTups.cons g1 g2 g3 MC t1,by simp[t2],fun z u hu=>?_,fun z u hu=>?_⟩
  ·rcases ZG.mp hu with rfl | hu
   ·have:=z _ (.head _);unfold c8 at this;split at this
    ·rename_i q;cases q;exact⟨_,g5⟩
    ·cases this
   ·exact t3 (fun x hx=>z x<|.tail _ hx) u hu
  ·rcases ZG.mp hu with rfl | hu
   ·have:=z _ (.head _);unfold gG at this;split at this
    ·rename_i q;cases q;obtain⟨a',o',_,_,e',k1,k2,_⟩:=g5;exact⟨a',o',e',k1,k2⟩
    ·cases this
   ·exact t4 (fun x hx=>z x<|.tail _ hx) u hu
end
section
variable{X:Cx}
theorem am.pick{H:Hp}{ys:List V}(h:am H ds ys):∀ {p:List Nat},(∀ k∈p,k<ds.length)->am H (p.map fun i=>ds.getD i .l_) (p.map fun i=>ys.getD i .l_)
 | [],_=>rfl
 | k::p,hp=>by
  obtain⟨v,e1,e2⟩:=h.get (i:=k) (d:=ds.getD k .l_) (by
   have:=hp k (.head _);rw[Z5,Z0 this];rfl)
  refine⟨v,_,?_,e2,h.pick fun j hj=>hp j<|.tail _ hj⟩;rw[ZF,Z5,e1];rfl
structure Fh(ds:List Im):Prop where
 ord:F_ ds
 fst:(∀ d∈ds,c8 d=true)\/(∀ d∈ds,gG d=true)
theorem Fh.tup(o:Fh ds):∀ d∈ds,∃ r,d=.tup r:=fun d hd=>by
 rcases o.fst with z | z
 ·have:=z d hd;unfold c8 at this;split at this
  ·exact⟨_,rfl⟩
  ·cases this
 ·have:=z d hd;unfold gG at this;split at this
  ·exact⟨_,rfl⟩
  ·cases this
theorem aU.FE{h h':Heap}(k:∀ b o,h.get? b=some o->h'.get? b=some o){ds:List Im}{vs:List Value}(x:aU h ds vs):aU h' ds vs:=x.keep fun a o _ _ e _ _=>k a o e
theorem nw{h:Heap}{s:Shared}(o:Fh ds)(h2:2<=f_.length)(iv:aU s.heap ds f_)(A:Around)(E:Value->Shared->Prop)(Q:SortKind->Shared->Prop)(hq:Q (tuples'<|decide (∀ d∈ds,c8 d=true)) s):
  wpAny (model X.prog X.w) A (keyKind' f_.toArray) Q E s:=by
 obtain⟨fs,t1,t2,t3,t4⟩:=se iv o.fst;have hl:=iv.length;by_cases hf:∀ d∈ds,c8 d=true
 ·rw[Zu hf] at hq;refine kat_kind (T:=Value.type "int") t1 (by lia) (fun v hv=>?_) rfl ?_
  ·obtain⟨i,t,rfl⟩:=t3 hf v hv;exact Looks.of_pure rfl
  ·rw[show (Value.type "int" != Value.type "tuple")=true by decide];exact hq
 ·rw[Zs hf] at hq;have Su:=o.fst.resolve_left hf;refine kat_kind (T:=Value.type "tuple") t1 (by lia) (fun v hv=>?_) rfl ?_
  ·obtain⟨a,ob,rfl,g1,g2⟩:=t4 Su v hv;have:Looks (model X.prog X.w) s.heap (typeOf<|.ref a) ob.cls:=(Looks.ld g1).andThen .now;rw[g2] at this;exact this
  ·rw[show (Value.type "tuple" != Value.type "tuple")=false by decide];exact hq
theorem sf(hc:X.calm=true)(hu:X.A.units+20<cLine):bt X (.builtin "sorted") (fun xs H Q=>∃ (a:Addr) (ds:List Im) (ys:List V),xs=[.ref a]/\(Fd X.K H a ys\/E1 X.K H a ys)/\am H ds ys/\Fh ds/\
  ∀ l zs,H l=none->am H (b6 z_ ds) zs->Q (.ref l) (upd H l<|.lst zs)):=by
 intro pins s σ H xs us Q I r h;obtain⟨a,ds,ys,rfl,hs,hi,o,q⟩:=h;obtain⟨u,rfl,ru⟩:=cK r;cases ru;have hz:ys.length<=1000:=by rw[<- hi.length];exact o.ord.Ld
 have go:∀ {T:String}{f_:List Value}{n:Nat}{ob:Obj},(T = "list" \/ T = "tuple")->au ys f_->s.heap.get? a=some ob->ob.cls=.type T->ob.data=.seq f_.toArray n->wpAny (model X.prog X.w) X.A (call (.builtin "sorted") [.ref a]) (EP X pins σ Q) X.xe s:=by
  intro T f_ n ob hT rv e eC eD;have iv:=hi.Gh I.n_ rv;have li:f_.length=ds.length:=iv.length.symm;refine rb hc (d8 ds) (tuples'<|decide (∀ d∈ds,c8 d=true)) I rv hT e eC eD hz (fun h2 h6 tk k A E Q hq=>nw (h:=h6) o h2 (iv.FE k) A E Q hq) (fun h6 tk k=>?_) (by rw[li];exact lh o.ord) (.inl (by have:=o.ord.Ld;lia)) fun p l r1 r2 fl=>?_
  ·refine nv (s:={ s with heap:=h6,toks:=tk }) o.ord (iv.FE k) o.tup (fun hb=>?_) (by show X.A.units+1+1+9<cLine;lia);exact Y8 hb
  ·rw[li] at r1 r2;have e1:(p.toList.map fun i=>ds.getD i .l_)=b6 z_ ds:=lj o.ord (kS r1) (O6 o.ord r1 r2);refine q l _ fl ?_;rw[<- e1];exact hi.pick fun k hk=>Zi.mp (r1.mem_iff.mp hk)
 rcases hs with hs | hs
 ·obtain⟨f_,rv,p,_⟩:=I.list hs;obtain⟨ob,e,eC,n,eD⟩:=p.isList;exact go (.inl rfl) rv e eC eD
 ·obtain⟨f_,rv,p,_⟩:=I.tuple hs;obtain⟨ob,e,eC,n,eD⟩:=p;exact go (.inr rfl) rv e eC eD
end
section
variable{X:Cx}
theorem si{H:Hp}:∀ {kvs:List (List Im×V)}{es:List (List Im×Addr×Value)},Paired (fun (p:List Im×V) (q:List Im×Addr×Value)=>p.1=q.1/\H_ H p.1 q.2.1/\ay p.2 q.2.2) kvs es->
  am H (kvs.map fun p=>.tup p.1) (es.map fun x=>V.ref x.2.1)/\au (es.map fun x=>V.ref x.2.1) (es.map fun x=>Value.ref x.2.1)
 | _,_,.nil=>⟨rfl,.nil⟩
 | _,_,.cons r t=>by
  obtain⟨h1,h2⟩:=si t;exact⟨⟨_,_,rfl,r.2.1.2,h1⟩,.cons rfl h2⟩
theorem AC(hc:X.calm=true)(hu:X.A.units+20<cLine):bt X (.builtin "sorted") (fun xs H Q=>∃ (d:Addr) (kvs:List (List Im×V)),xs=[.ref d]/\H d=some (.dT kvs)/\Fh (kvs.map fun p=>.tup p.1)/\
  ∀ l zs,H l=none->am H (b6 z_<|kvs.map fun p=>.tup p.1) zs->Q (.ref l) (upd H l<|.lst zs)):=by
 intro pins s σ H xs us Q I r h;obtain⟨d,kvs,rfl,hd,so,q⟩:=h;obtain⟨u,rfl,ru⟩:=cK r;cases ru;obtain⟨z,lo,es,rel,o,Sv,ep,e1,e2,e3,e4,nd⟩:=I.n_ d _ hd;obtain⟨hi,rv⟩:=si rel;have Qu:Ih s.heap d (es.map fun x=>Value.ref x.2.1) ep:=⟨o,Sv,e1,e2,e3,by rw[e4,YK];rfl⟩;generalize (es.map fun x=>Value.ref x.2.1)=f_ at rv Qu;generalize (es.map fun x=>V.ref x.2.1)=ys at hi rv;generalize IR:(kvs.map fun p=>Im.tup p.1)=ds at hi so q;have iv:=hi.Gh I.n_ rv;have li:f_.length=ds.length:=iv.length.symm;have Ld:=so.ord.Ld;have hl:ys.length=f_.length:=rv.length;have My:f_.length<=sizeLine:=Zn (by lia) (show 1000<=sizeLine by decide);refine Xf kind_sorted plain_sorted entry_sorted (args_sorted1 _) ?z
 case z=>
  unfold Builtin.«sorted»;refine Z9 (m:=checkCount "sorted" 1 1 _) (Z6<|Z9<|kdu_collect (A:=X.A.in1) (yE lo) (I.ok.hd hc) Qu My fun h' tk acc JZ Gv=>?_);have ea:acc.toList=f_:=by
   apply VD
   ·rw[ZN];exact Gv.1
   ·intro i h1 h2;have:=Gv.2 i acc.toList[i] (by rw[<- ZD];exact Z0 h1);have this:f_[i]?=some acc.toList[i]:=this;rw[Z0 h2] at this;exact (Zq this).symm
  rw[ea];refine Z9 (VM ?_ My);have oB:(h'.push<|seqObj "list" f_.toArray 0).get? h'.objs.size=some (seqObj "list" f_.toArray 0):=ZS _ rfl;have kB:∀ b o,s.heap.get? b=some o->(h'.push<|seqObj "list" f_.toArray 0).get? b=some o:=fun b o e=>Z7 _ (JZ b o e);have I1:Inv X pins σ H { s with heap:=h',toks:=tk }:=I.kept JZ;have nB:∀ b o,s.heap.get? b=some o->b≠h'.objs.size:=fun b o e=>Zx (ZP<|JZ b o e);refine Z9 (YY<|Zj slot_list_sort ⟨_,oB,rfl⟩ entry_list_sort ?y<|args_list_sort _)
  case y=>
   refine mW (s:={ s with heap:=h'.push (seqObj "list" f_.toArray 0),toks:=tk }) (d8 ds) (tuples'<|decide (∀ d∈ds,c8 d=true)) oB
    (fun h2 h6 k6 Q hq=>nw (X:=X) (h:=h6) so h2 (iv.FE fun b o eb=>k6 b o (nB b o eb)<|kB b o eb) _ _ Q hq)
    (fun h6 k6=>nv (s:={ s with heap:=h6,toks:=tk }) so.ord (iv.FE fun b o eb=>k6 b o (nB b o eb)<|kB b o eb) so.tup (fun hb=>Y8 hb) (by show X.A.units+1+1+9<cLine;lia))
    (by rw[li];exact lh so.ord) (.inl (by lia)) (by lia) fun p h2 r1 r2 k2 ⟨e9,Mz⟩=>⟨_,rfl,Z6 ⟨_,rfl,?_⟩⟩;have fB:H h'.objs.size=none:=I1.n_.fresh (ZV _);have OZ:∀ b o,h'.get? b=some o->b≠h'.objs.size:=fun b o e=>Zx (ZP e);rw[li] at r1 r2;refine⟨.ref h'.objs.size,upd H h'.objs.size<|.lst<|p.toList.map fun i=>ys.getD i .l_,?_,rfl,q _ _ fB ?_⟩
   ·refine I1.laid (t':=tk) (fun b u e=>k2 b u (OZ b u e)<|Z7 _ e) (ZV _) ⟨?_,_,e9,?_,Mz⟩
    ·rw[Z3,ZN,r1.size];lia
    ·refine kT (by simp) fun i v u h1 h2=>?_;rw[ZB] at h1 h2;cases Jd:p.toList[i]? with
     | none=>rw[Jd] at h1;cases h1
     | some k=>
      rw[Jd] at h1 h2;cases h1;cases h2;have hk:k<f_.length:=by rw[li];exact Zi.mp (r1.mem_iff.mp<|Zr Jd)
      obtain⟨u,h3,h4⟩:=rv.get (i:=k) (x:=ys[k]'(by lia)) (by simp[show k<ys.length by lia]);rw[Z0 hk] at h3;have h3:=Zq h3;simp only[List.getD,Z0 hk,Z0 (show k<ys.length by lia),WB];rw[h3];exact h4
   ·rw[<- lj so.ord (kS r1) (O6 so.ord r1 r2)];exact hi.pick fun k hk=>Zi.mp (r1.mem_iff.mp hk)
def jq(ds:List Im):Bool:=decide (ds.length<=1000) && ds.all (fun a=>ds.all fun b=>cj 6 a b) && decide ds.Nodup && (ds.all c8 || ds.all gG)
theorem iB:jq ds=true↔Fh ds:=by
 unfold jq;rw[ZU,ZU,ZU,Vt,YW,YW,YD,YD,YD];constructor
 ·rintro⟨⟨⟨h1,h2⟩,h3⟩,h4⟩;exact⟨⟨h1,fun a ha b hb=>YD.mp (h2 a ha) b hb,h3⟩,h4⟩
 ·rintro⟨⟨h1,h2,h3⟩,h4⟩;exact⟨⟨⟨h1,fun a ha=>YD.mpr fun b hb=>h2 a ha b hb⟩,h3⟩,h4⟩
def dQ(ds:List Im):Option Vl:=if jq ds=true then some (.lst<|b6 z_ ds) else none
def Fk:OpN:=fun ds=>match ds with
 | [.lst x]=>match Fz x with
  | some ns=>vSorted [.lst x]
  | none=>dQ x
 | [.im (.tup x)]=>dQ x
 | [.dT kvs]=>dQ (kvs.map fun p=>.tup p.1)
 | _=>none
theorem ny{d:Vl}(h:dQ ds=some d):Fh ds/\d=.lst (b6 z_ ds):=by
 unfold dQ at h;split at h
 ·rename_i e;cases h;exact⟨iB.mp e,rfl⟩
 ·cases h
theorem sj{H:Hp}:∀ {kvs:List (List Im×Im)}{Fv:List (List Im×V)},GH H kvs Fv->(kvs.map fun p=>Im.tup p.1)=Fv.map fun p=>Im.tup p.1
 | _,_,.nil=>rfl
 | _,_,.cons r t=>by rw[ZF,ZF,sj t,r.1]
theorem nz(hc:X.calm=true)(hu:X.A.units+20<cLine):c6 X (.builtin "sorted") Fk:=by
 intro pins s σ H xs us Q I r ⟨ds,d,rd,e,q⟩;unfold Fk at e;split at e
 ·rename_i x;split at e
  ·exact zR hc hu pins s σ H xs us Q I r ⟨_,d,rd,e,q⟩
  ·obtain⟨so,rfl⟩:=ny e;obtain⟨v,rfl,_,p,ys,rfl,h1,h2,_⟩:=bZ rd;exact sf hc hu pins s σ H _ us Q I r ⟨p,x,ys,rfl,.inl<|Fd.of h1,h2,so,fun l zs fl hz=>Out.l q fl hz⟩
 ·rename_i x;obtain⟨so,rfl⟩:=ny e;obtain⟨v,rfl,hv⟩:=bZ rd;obtain⟨p,ys,rfl,h1,h2⟩:=hv.i;exact sf hc hu pins s σ H _ us Q I r ⟨p,x,ys,rfl,.inr<|E1.of h1,h2,so,fun l zs fl hz=>Out.l q fl hz⟩
 ·rename_i kvs;obtain⟨so,rfl⟩:=ny e;obtain⟨v,rfl,_,p,Fv,rfl,h1,h2,_⟩:=bZ rd;rw[sj h2] at so q;exact AC hc hu pins s σ H _ us Q I r ⟨p,Fv,rfl,h1,so,fun l zs fl hz=>Out.l q fl hz⟩
 ·cases e
end
end L2
namespace PySem
open Sem (wp)
end PySem
namespace PySem
namespace F
end F
end PySem
namespace L2
open PySem PySem.Spec PyProof.Rows PySem.W
section
variable{X:Cx}{pins:List (Addr×Obj)}{σ:L2.St}{H:Hp}{s0:Shared}
end
section
variable{X:Cx}
def AD(tk tv:TE):TE:=fun σ H Q=>∀ p,H p=none->tk σ (upd H p<|.dT []) fun x H1=>tv σ H1 fun y H2=>∃ b k,x=.ref b/\H_ H2 k b/\H2 p=some (.dT [])/\Q (.ref p) (upd H2 p<|.dT [(k,y)])
variable{k v:Expr}{pos:Pos}
theorem AE{tk tv:TE}(hu:X.A.units+20<cLine)(hk:PE X k tk)(hv:PE X v tv):PE X (.Dict [some k] [v] pos) (AD tk tv):=by
 intro pins s σ H Q I q;have hn:=I.n_.fresh (ZV s.heap.objs.size);have I1:=I.laid (a:=s.heap.objs.size) (o:=.dT []) (h':=s.heap.push { cls:=.type "dict",data:=.dict #[] }) (t':=s.toks) (fun _ _ q=>Z7 _ q) (ZV _) (pZ s.heap I.big);refine wpAny_Dict_any rfl rfl (by simp) (by simp) ?_;refine pairTrees_cons_walk (y_ (hk pins _ σ _ _ I1<|q _ hn) fun u s1 ⟨x,H1,I2,rx,q1⟩=>y_ (hv pins s1 σ H1 _ I2 q1) fun w2 s2 ⟨y,H2,I3,ry,b,c,ex,hb,hp,q2⟩=>pairTrees_nil_walk ?_);subst ex;cases rx;obtain⟨z,O7,xs,kt,dd⟩:=pX I3.n_ hp;cases kt;unfold storeAll;rw[Xx];refine Z9 (Z9 (wpAny_dictSet_heap (k:=c) (knd:=bD X.prog X.w) (show X.A.units+10<cLine by lia) (gX I3.n_ hb) dd (fun h' Kc sb=>Z6 ?_)<|Yz _));refine Z6 ⟨.ref s.heap.objs.size,_,?_,rfl,q2⟩;obtain⟨q',es,ep,hq,h2,h3,h4,_,h5⟩:=Kc;refine mq (s:=s2) I3 (by rw[hp];exact True.intro) sb ⟨q',hq⟩ ⟨(show 1<=sizeLine by decide),O7,_,KT.keeps (KT.put (kvs:=[]) (xs:=[]) .nil c (b:=b) hb ry) fun cc ys ec=>?_,q',es,ep,hq,h2,h3,h4,h5⟩;rw[aD (oW ec hp<|fun z=>nomatch z)];exact ec
@[simp] def sk(gk gv:M Vl):M Vl:=fun D=>(gk D).bind fun p=>(gv p.2).bind fun q=>match p.1,q.1 with
 | .im (.tup k),.im d=>if Im.keys 7 k=true then some (.dT [(k,d)],q.2) else none
 | _,_=>none
theorem AF{gk gv:M Vl}(hu:X.A.units+20<cLine)(hk:VE X k gk)(hv:VE X v gv):VE X (.Dict [some k] [v] pos) (sk gk gv):=by
 refine be (AE hu hk hv) fun σ H Q ⟨D,F,r,D',st,nd,Gc,q⟩ p hp=>?_;obtain⟨⟨d1,D1⟩,h1,h2⟩:=Z8.mp Gc;obtain⟨⟨d2,D2⟩,h3,h4⟩:=Z8.mp h2;have s:aH H (L2.upd H p<|.dT []):=(aH.refl H).upd hp;have hF:p∉F:=fun z=>by obtain⟨o,e,_⟩:=st.chg p z;rw[hp] at e;cases e
 refine⟨D,F,d1,D1,st.mono s.tupS fun a _ o e=>s a o e,nd,h1,fun x H1 F1 R1 q_ o1 s1=>?_⟩;have K9:=ZH.mp s1.nd;refine⟨D1,F1,d2,D2,q_,K9.1,h3,fun y H2 F2 R2 p_ o2 s2=>?_⟩;dsimp only at h4;split at h4
 ·rename_i kk dd;split at h4
  ·rename_i Sw;cases h4;obtain⟨w1,rfl⟩:=o1;obtain⟨w2,rfl⟩:=o2;rw[ZO] at s1 s2;have Lc:=s1.seq s2;have JT:H1 p=some (.dT []):=s1.keep p _ bm hF;have Qw:p∉F1:=fun z=>by
    rcases s1.sub p z with h | h
    ·exact hF h
    ·rw[bm] at h;cases h
   have Ig:H2 p=some (.dT []):=s2.keep p _ JT Qw;have NT:p∉F2:=fun z=>by
    rcases s2.sub p z with h | h
    ·exact Qw h
    ·rw[JT] at h;cases h
   obtain⟨b,xs,rfl,k1,k2⟩:=(show E7 H2 (.tup kk) x from w1.mono s2.tup.tup);refine⟨b,kk,rfl,⟨Sw,b,xs,rfl,k1,k2⟩,Ig,?_⟩;have Fr:w_ H2 (L2.upd H2 p<|.dT [(kk,y)]):=w_.of (fun a xs e=>by
    have:a≠p:=fun z=>by subst z;rw[Ig] at e;cases e
    rw[aD this];exact e) fun a o u e=>by
    have:a≠p:=fun z=>by subst z;rw[Ig] at e;cases e
    rw[aD this];exact e
   refine q _ _ F2 [p] (p_.mono Fr fun a ha o e=>by
    have ne:a≠p:=fun z=>by subst z;exact NT ha
    rw[aD ne];exact e) ⟨p,[(kk,y)],rfl,bm,.cons ⟨rfl,w2.mono Fr.tup⟩ .nil,rfl⟩ ?_
   refine⟨fun a o e ha=>?_,fun a ha=>?_,?_,?_,fun a o e=>?_⟩
   ·have:a≠p:=fun z=>by subst z;rw[hp] at e;cases e
    rw[aD this];exact Lc.keep a o (by rw[aD this];exact e) ha
   ·rcases ZA.mp ha with h | h
    ·rcases Lc.sub a h with h' | h'
     ·exact .inl h'
     ·by_cases e:a=p
      ·exact .inr (e ▸ hp)
      ·rw[aD e] at h';exact .inr h'
    ·exact .inr (by rw[ZZ.mp h];exact hp)
   ·exact ZH.mpr ⟨s2.nd,Zz _ _,fun a ha b hb e=>NT (by rw[ZZ.mp hb] at e;rw[<- e];exact ha)⟩
   ·exact (s.tupS.trans Lc.tup).trans Fr
   ·by_cases z:a=p
    ·exact⟨_,by rw[z];exact bm⟩
    ·obtain⟨o',e'⟩:=Lc.grow a o (by rw[aD z];exact e);exact⟨o',by rw[aD z];exact e'⟩
  ·cases h4
 ·cases h4
end
section
variable{prog:Program}{w:World}{A:Around}{E:Value->Shared->Prop}{s:Shared}
end
section
variable{prog:Program}{w:World}{A:Around}{E:Value->Shared->Prop}{s:Shared}
end
section
open PySem.SeqAt
open PySem.AutoSeq1 (wpAny_loadPart')
open PySem.MeetsSeq PySem.MeetsSeq2 PySem.MeetsSeq3
end
section
variable{X:Cx}
end
section
variable{prog:Program}{w:World}{A:Around}{E:Value->Shared->Prop}{s:Shared}
end
section
variable{prog:Program}{w:World}{A:Around}{E:Value->Shared->Prop}{s:Shared}
end
section
variable{X:Cx}
end
section
variable{X:Cx}
end
mutual
def MH:Im->PyData
 | .int i=>.int i
 | .bl b=>.bool b
 | .str x=>.str x
 | .tup ds=>.tuple (f6 ds)
 | _=>.none
def f6:List Im->List PyData
 | []=>[]
 | d::r=>MH d::f6 r
end
mutual
theorem AG{h:Heap}:∀ {n:Nat}{d:Im}{u:Value},Im.pl n d=true->FF h d u->Reads h u (MH d) []
 | _,.l_,u,_,e=>by cases (show u=.none from e);exact .none
 | _,.bl b,u,_,e=>by cases (show u=.bool b from e);exact .bool b
 | _,.int i,u,_,e=>by obtain⟨t,rfl⟩:=e;exact .int i t
 | _,.str x,u,_,e=>by obtain⟨t,rfl⟩:=e;exact .str x t
 | n+1,.tup ds,u,k,e=>by
  obtain⟨a,o,items,m,rfl,h1,h2,h3,h4⟩:=e;exact .tuple h1 h2 h3 (sn (n:=n) k h4)
 | 0,.tup ds,u,k,e=>by cases k
 | n,.fn a,u,k,e=>by cases n<;>cases k
 | n,.fl a,u,k,e=>by cases n<;>cases k
 | n,.fd,u,k,e=>by cases n<;>cases k
theorem sn{h:Heap}:∀ {n:Nat}{ds:List Im}{us:List Value},Im.pls n ds=true->aU h ds us->ReadsAll h us (f6 ds) []
 | _,[],us,_,e=>by rw[show us=[] from e];exact .nil
 | n,d::ds,us,k,e=>by
  obtain⟨v,r,rfl,h1,h2⟩:=e;rw[Im.pls,ZU] at k;exact .cons (AG k.1 h1) (sn k.2 h2)
end
mutual
theorem AH:∀ d:Im,PyData.hasDict (MH d)=false
 | .l_=>rfl
 | .bl _=>rfl
 | .int _=>rfl
 | .str _=>rfl
 | .fn _=>rfl
 | .fl _=>rfl
 | .fd=>rfl
 | .tup ds=>sq ds
theorem sq:∀ ds:List Im,PyData.hasDictAll (f6 ds)=false
 | []=>rfl
 | d::r=>by
  show (PyData.hasDict (MH d) || PyData.hasDictAll (f6 r))=false;rw[AH d,sq r];rfl
end
def AI(ds:List Im):Bool:=Im.pls 7 ds && PyData.showableAll (f6 ds) && decide (PyData.depthAll (f6 ds)<=8) && decide ((tupleText<|PyData.shownAll<|f6 ds).length<=100000)
@[simp] def EX:OpN:=fun ds=>match ds with
 | [.im (.tup x)]=>if AI x=true then some (.im<|.str (MH<|.tup x).shown) else none
 | _=>none
section
variable{X:Cx}
def ll(ns:List Int):Int:=preSum (fun i=>(ns[i]?).getD 0) ns.length
@[simp] def vSum:OpN:=fun ds=>match ds with
 | [.lst x]=>(Fz x).map fun ns=>.im (.int<|ll ns)
 | _=>none
theorem AJ(hc:X.calm=true):c6 X (.builtin "sum") vSum:=by
 intro pins s σ H xs us Q I r ⟨ds,d,rd,e,q⟩;unfold vSum at e;split at e
 ·rename_i x;obtain⟨ns,e1,e2⟩:=Z2.mp e;cases e2;obtain⟨v,rfl,_,l,ys,rfl,h1,h2,_⟩:=bZ rd;cases m6 e1;cases m7 h2;obtain⟨u,rfl,ru⟩:=cK r;cases ru;obtain⟨z,f_,n,rv,e⟩:=I.n_ l _ h1;have Kp:s.heap.IsList l f_.toArray:=⟨_,e,rfl,n,rfl⟩;have hl:f_.length=ns.length:=by rw[<- rv.length,Z3]
  refine call_sum_walkAnyS (wpAny_pyIter_list Kp ⟨s.heap.objs.size,[s.heap.objs.size,l],[s.heap.objs.size],_,f_.toArray.size,_,_,fun i=>(ns[i]?).getD 0,rfl,(Walks.list (A:=X.A.in1) (I.ok.hd hc) _ l (Zx<|ZP e) f_.toArray).toS,
   ⟨⟨_,ZS _ rfl,rfl,rfl⟩,Kp.push _⟩,fun b hb=>?_,fun i v hv=>Aj rv i v (by simpa using hv),fun s' t' hm=>?_⟩)
  ·show b<(s.heap.push _).objs.size;rw[YZ];rcases ZG.mp hb with rfl | hb
   ·exact XI _
   ·rw[ZZ.mp hb];exact VX (ZP e)
  ·have hk:∀ b o,s.heap.get? b=some o->s'.heap.get? b=some o:=fun b o eb=>
    hm.heap b o (fun hI=>absurd (ZP eb) (by rw[ZZ.mp hI];exact Ym _)) (Z7 _ eb);rw[Moved.eq_with hm,ZQ,hl];exact⟨.int _,H,I.kept hk,⟨_,rfl⟩,Out.i q rfl⟩
 ·cases e
end
section
variable{prog:Program}{w:World}{A:Around}{E:Value->Shared->Prop}{s:Shared}
end
section
variable{X:Cx}
end
end L2
namespace G
open PySem L2
variable{ks:List (Int×Int)}{b a:Int×Int}
abbrev iI(i:Int):Vl:=.im (.int i)
def cM(p:Int×Int):Im:=.tup [.int p.1,.int p.2]
abbrev cT(ps:List (Int×Int)):Vl:=.im (.tup<|ps.map cM)
abbrev cL(ps:List (Int×Int)):Vl:=.lst (ps.map cM)
abbrev lf(d s t:Int):Vl:=.lst [.int d,.int s,.int t]
def kM(p:Int×Int):List Im:=[.int p.1,.int p.2]
theorem sr(p:Int×Int):cM p=.tup (kM p):=rfl
theorem nA(h:kM a=kM b):a=b:=by
 unfold kM at h;simp at h;exact Prod.ext h.1 h.2
theorem AK(h:cM a=cM b):a=b:=by
 rw[sr,sr] at h;exact nA (by injection h)
theorem AL(p:Int×Int):Im.keys 7 (kM p)=true:=rfl
def uC:Im->Int×Int
 | .tup [.int a,.int b]=>(a,b)
 | _=>(0,0)
theorem ss(p:Int×Int):uC (cM p)=p:=rfl
theorem jr(p:Int×Int):Im.pl 8 (cM p)=true:=rfl
theorem js:∀ ps:List (Int×Int),Im.pls 8 (ps.map cM)=true
 | []=>rfl
 | p::r=>by rw[ZF,Im.pls,jr,js r];rfl
theorem lm(a b:Int×Int):aA (cM a) (cM b)=decide (a=b):=by
 show ((a.1 == b.1) && ((a.2 == b.2) && true))=_;obtain⟨a1,a2⟩:=a;obtain⟨b1,b2⟩:=b;by_cases h1:a1=b1<;>by_cases h2:a2=b2<;>simp[h1,h2]
theorem AM(ps:List (Int×Int))(c:Int×Int):((ps.map cM).any fun x=>aA x<|cM c)=decide (c∈ps):=by
 rw[Vc,W7,XD,YW];constructor
 ·rintro⟨x,hx,e⟩;have:decide (x=c)=true:=by rw[<- lm];exact e
  rw[<- Y8 this];exact hx
 ·intro h;refine⟨c,h,?_⟩;show aA (cM c) (cM c)=true;rw[lm];exact Zu rfl
theorem su:∀ (l:List Im) (ks:List (Int×Int)),(∀ x∈l,x∈ks.map cM)->l=(l.map uC).map cM
 | [],_,_=>rfl
 | x::l,ks,h=>by
  obtain⟨p,_,e⟩:=Zl.mp (h x<|.head _);rw[ZF,ZF,<- su l ks fun y hy=>h y<|.tail _ hy,<- e,ss]
theorem AN{l:List Im}(h:l.Perm (ks.map cM)):∃ ms:List (Int×Int),ms.Perm ks/\l=ms.map cM:=by
 refine⟨l.map uC,?_,su l ks fun x hx=>h.mem_iff.mp hx⟩;have:=Vj uC h;rw[YK] at this;have e:(uC ∘ cM:Int×Int->Int×Int)=id:=funext ss;rw[e,Vn] at this;exact this
theorem iC(nd:ks.Nodup)(hl:ks.length<=1000):Fh (ks.map cM):=by
 refine⟨⟨by rw[Z3];exact hl,fun a ha b hb=>?_,?_⟩,.inl fun d hd=>?_⟩
 ·obtain⟨x,_,rfl⟩:=Zl.mp ha;obtain⟨y,_,rfl⟩:=Zl.mp hb;rfl
 ·exact List.Pairwise.map cM (fun a b n e=>n<|AK e) nd
 ·obtain⟨x,_,rfl⟩:=Zl.mp hd;rfl
theorem AO{kvs:List (List Im×Im)}{k:List Im}:(bH kvs k).isSome=kvs.any fun p=>decide (p.1=k):=by
 unfold bH;rw[WX,List.isSome_find?]
def mt(ks:List (Int×Int)):List (List Im×Im):=ks.map fun c=>(kM c,.bl true)
theorem nE(ks:List (Int×Int))(c:Int×Int):((mt ks).any fun p=>decide (p.1=kM c))=decide (c∈ks):=by
 unfold mt;rw[Vc,W7,XD,YW];constructor
 ·rintro⟨x,hx,e⟩;have:kM x=kM c:=Y8 e;rw[<- nA this];exact hx
 ·intro h;exact⟨c,h,Zu rfl⟩
theorem AQ(ks:List (Int×Int))(c:Int×Int):(bH (mt ks)<|kM c).isSome=decide (c∈ks):=by rw[AO,nE]
theorem AR{c:Int×Int}(h:c∉ks):fX (mt ks) (kM c) (.bl true)=mt (ks++[c]):=by
 unfold fX;rw[ZW (by rw[nE];simpa using h)];unfold mt;rw[Y7];rfl
theorem AS(ks:List (Int×Int)):((mt ks).map fun p=>Im.tup p.1)=ks.map cM:=by
 unfold mt;rw[YK];rfl
noncomputable def sv:MS:=(ak (az 2<|eC<|.int 0)<|ak (sIf (kB<|ae vLt (oSl 1)<|oV<|aw vLen<|aa (oSl 0) aNil) (az 2<|ae vIx (oSl 0)<|oSl 1) sNil)<|ak (az 3<|ae vMul (oV<|ae vMul (oV<|ae vPow (oV<|eC<|.int 10)<|oV<|eC<|.int 60)<|oV<|ae vPow (oV<|eC<|.int 10)<|oV<|eC<|.int 60)<|oV<|ae vPow (oV<|eC<|.int 10)<|oV<|eC<|.int 60)<|ak (az 4<|ae vMul (oV<|ae vMod (oSl 2)<|oSl 3)<|oV<|aw vInt<|aa (oV<|ae vGe (oSl 2)<|oV<|ae vPow (oV<|eC<|.int 10)<|oV<|eC<|.int 18) aNil)<|aQ<|aZ<|aa (oSl 4)<|aa (oV<|ae vAdd (oV<|ae vAdd (oV<|ae vMod (oSl 2)<|oV<|eC<|.int 2305843009213693951)<|oV<|ae vMul (oV<|eC<|.int 7919)<|oSl 1)<|oV<|eC<|.int 3)<|aa (oV<|eC<|.int 0) aNil)
noncomputable def jt:Fn:=bj 2 5 [0,1] sv
noncomputable def sw:MS:=(ak (sIf (kB<|ae vGt (oV<|ae vIx (oSl 0)<|oV<|eC<|.int 0)<|oV<|eC<|.int 0) (ak (az 2<|ae vMod (oV<|ae vIx (oSl 0)<|oV<|eC<|.int 0)<|oSl 1)<|ak (cF (ae vDiv (oV<|ae vIx (oSl 0)<|oV<|eC<|.int 0)<|oSl 1)<|gIx 0 (eC<|.int 0) putV)<|aQ<|bB 2) sNil)<|ak (cF (ae vAdd (oV<|ae vIx (oSl 0)<|oV<|eC<|.int 2)<|oV<|eC<|.int 1)<|gIx 0 (eC<|.int 2) putV)<|ak (az 3<|ae vIx (oSl 0)<|oV<|eC<|.int 2)<|ak (az 4<|ae vMod (oV<|ae vMul (oV<|ae vIx (oSl 0)<|oV<|eC<|.int 1)<|oV<|ae vAdd (oV<|ae vAdd (oV<|eC<|.int 48271)<|oV<|ae vMul (oV<|ae vMul (oV<|eC<|.int 2)<|oSl 3)<|oSl 3)<|oV<|ae vMul (oV<|eC<|.int 65537)<|oSl 3)<|oV<|eC<|.int 2305843009213693921)<|ak (az 5<|ae vAdd (oV<|ae vAdd (oV<|ae vMod (oSl 4)<|oV<|eC<|.int 1000003)<|oV<|ae vMul (oSl 3)<|oV<|eC<|.int 99991)<|oV<|eC<|.int 11)<|ak (az 4<|ae vMod (oV<|ae vMul (oSl 4)<|oSl 5)<|oV<|eC<|.int 2305843009213693907)<|aQ<|ae vMod (oV<|ae vAdd (oV<|ae vDiv (oSl 4)<|oV<|eC<|.int 97)<|oV<|ae vDiv (oSl 4)<|oV<|eC<|.int 1000033)<|oSl 1)
noncomputable def br:Fn:=bj 2 6 [0,1] sw
noncomputable def nF:MS:=(aQ<|ae vIx (oSl 1)<|oV<|av 2 G.br<|aa (oSl 0)<|aa (oV<|aw vLen<|aa (oSl 1) aNil) aNil)
noncomputable def bO:Fn:=bj 2 2 [0,1] nF
end G
namespace L2
open PySem PySem.Spec PyProof.Rows PySem.W
section
variable{X:Cx}
end
section
variable{X:Cx}{kt:List (Addr×List Im)}{kd:List (Addr×List (List Im×Addr))}
end
variable{K:PySem.W.Frag}{P:Program}{w:World}
end L2
namespace L2
open PySem PySem.Spec PyProof.Rows PySem.W
def Sx(D:SD)(i:Nat)(ds:List Im):Bool:=match D[i]? with
 | some (some<|.lst y)=>decide (y=ds)
 | _=>false
section
variable{X:Cx}
end
def uzV:Vl->Vl
 | .im (.fl x)=>.fz x
 | d=>d
@[simp] theorem EY(x:List Im):uzV (.im<|.fl x)=.fz x:=rfl
@[simp] theorem EZ(x:List Im):uzV (.im<|.tup x)=.im (.tup x):=rfl
@[simp] def eUz(g:M Vl):M Vl:=fun D=>(g D).map fun p=>(uzV p.1,p.2)
section
variable{X:Cx}
theorem sx{e:Expr}{g:M Vl}(h:VE X e g):VE X e (eUz g):=by
 refine be h fun σ H Q ⟨D,F,r,D',st,nd,hg,q⟩=>?_;obtain⟨⟨r0,D1⟩,h1,h2⟩:=Z2.mp hg;cases h2;refine⟨D,F,r0,D1,st,nd,h1,fun v H1 F1 R q_ ow s1=>q v H1 F1 R q_ ?_ s1⟩;cases r0 with
 | im d=>
  cases d with
  | fl x=>
   obtain⟨⟨a,xs,o,rfl,k1,k2⟩,rfl⟩:=ow;exact⟨a,xs,o,rfl,k1,k2,rfl⟩
  | _=>exact ow
 | _=>exact ow
end
end L2
namespace L2
open PySem
section
variable{D D1 D2:SD}
variable{d:Vl}
theorem v_{g:M Vl}(h:g D=some (d,D1)):oV g D=some (.vl d,D1):=by unfold oV;rw[h];rfl
variable{x:Opd}
theorem a_{g:M Opd}{h:M (List Opd)}{xs:List Opd}(e1:g D=some (x,D1))(e2:h D1=some (xs,D2)):aa g h D=some (x::xs,D2):=by unfold aa;rw[e1];show (h D1).map _=_;rw[e2];rfl
variable{d1 d2:Vl}
theorem b_{op:Vl->Vl->Option Vl}{ga gb:M Opd}{y:Opd}(e1:ga D=some (x,D1))(e2:gb D1=some (y,D2))(e3:rsl D2 x=some d1)(e4:rsl D2 y=some d2)(e5:op d1 d2=some d):ae op ga gb D=some (d,D2):=by
 unfold ae;rw[e1];show (gb D1).bind _=_;rw[e2];show (rsl D2 x).bind _=_;rw[e3];show (rsl D2 y).bind _=_;rw[e4];show (op d1 d2).map _=_;rw[e5];rfl
variable{g:M (List Opd)}{n:Nat}{os:List Opd}{ds outs:List Vl}
theorem c_{G:Fn}{r:Vl}(e1:g D=some (os,D1))(e0:os.length=n)(e2:bi os D1=some (ds,D2))(e3:G ds=some (r,outs)):av n G g D=some (r,wb os outs D2):=by
 unfold av;rw[e1];show (if os.length=n then _ else _)=_;rw[ZY e0];show (bi os D1).bind _=_;rw[e2];show (G ds).map _=_;rw[e3];rfl
theorem Fi{op:List Vl->Option Vl}(e1:g D=some (os,D1))(e2:ce D1 os=some ds)(e3:op ds=some d):aw op g D=some (d,D1):=by
 unfold aw;rw[e1];show (ce D1 os).bind _=_;rw[e2];show (op ds).map _=_;rw[e3];rfl
variable{b:Bool}
theorem Fu{g:M Vl}(e:g D=some (.im<|.bl b,D1)):kB g D=some (b,D1):=by unfold kB;rw[e];rfl
theorem NU{g:M Bool}(e:g D=some (b,D1)):ca g D=some (!b,D1):=by unfold ca;rw[e];rfl
theorem GN{g:M Opd}(e:g D=some (x,D1))(e2:rsl D1 x=some d)(e3:ji d=some b):bd g D=some (b,D1):=by
 unfold bd;rw[e];show (rsl D1 x).bind _=_;rw[e2];show (ji d).map _=_;rw[e3];rfl
theorem J1{g:M Vl}{h:MG}(e:g D=some (d,D1))(e2:h d D1=some D2):cF g h D=some (.nx,D2):=by unfold cF;rw[e];show (h d D1).map _=_;rw[e2];rfl
theorem NV{g:M Vl}(e:g D=some (d,D1)):fK g D=some (.nx,D1):=by unfold fK;rw[e];rfl
variable{D3:SD}
theorem MJ{ty:Vl->Bool}{i:Nat}{mt:Vl->List Vl->Option (Vl×Vl)}{c0 c r c':Vl}(e0:D[i]?=some (some c0))(e1:ty c0=true)(e2:g D=some (os,D1))(e3:bi os D1=some (ds,D2))(e4:D2[i]?=some (some c))(e5:mt c ds=some (r,c'))(k:D2.set i (some c')=D3):dz ty i mt g D=some (r,D3):=by
 subst k;unfold dz;rw[e0];show (if ty c0=true then _ else _)=_;rw[ZY e1,e2];show (bi os D1).bind _=_;rw[e3];show (match D2[i]? with | some (some c)=>_ | _=>none)=_;rw[e4];show (mt c ds).map _=_;rw[e5];rfl
theorem IF(e1:g D=some (os,D1))(e2:bi os D1=some (ds,D2))(e3:ds.length<=100000)(k:mkT ds=d):aE g D=some (d,D2):=by
 unfold aE;rw[e1];show (bi os D1).bind _=_;rw[e2];show (if _ then _ else _)=_;rw[ZY e3,k]
theorem IG(e1:g D=some (os,D1))(e2:bi os D1=some (ds,D2))(e3:ds.length<=100000)(k:mkL ds=d):aZ g D=some (d,D2):=by
 unfold aZ;rw[e1];show (bi os D1).bind _=_;rw[e2];show (if _ then _ else _)=_;rw[ZY e3,k]
variable{i:Int}
theorem O8{g:M Vl}(e:g D=some (.im<|.int i,D1)):eU g D=some (.im<|.int<|-i,D1):=by unfold eU;rw[e];rfl
variable{x:List Im}
theorem NW{d:Im}(h:x.length<100000):mAppend (.lst x) [.im d]=some (.im .l_,.lst<|x++[d]):=ZY h
theorem dR(i j:Int):vEq (.im<|.int i) (.im<|.int j)=some (.im<|.bl<|decide (i=j)):=by
 show some (Vl.im<|.bl<|i == j)=_;by_cases h:i=j<;>simp[h]
theorem AT(i j:Int):vNe (.im<|.int i) (.im<|.int j)=some (.im<|.bl<|!decide (i=j)):=by
 show some (Vl.im<|.bl<|!(i == j))=_;by_cases h:i=j<;>simp[h]
variable{j:Int}
theorem dk(h:dO i j=true):vMul (.im<|.int i) (.im<|.int j)=some (.im<|.int<|i * j):=ZY h
theorem eZ(h:0<j):vMod (.im<|.int i) (.im<|.int j)=some (.im<|.int<|i % j):=ZY (Zu h)
theorem lq(h:0<j)(h2:j<1073741824):vDiv (.im<|.int i) (.im<|.int j)=some (.im<|.int<|i / j):=ZY (Zu (⟨h,h2⟩:0<j/\j<1073741824))
theorem sy(h:decide (0<=j/\j<=1000000/\i.natAbs<2 ^ 64)=true):vPow (.im<|.int i) (.im<|.int j)=some (.im<|.int<|i ^ j.toNat):=ZY h
variable{r:Option (Fl×SD)}{b:MS}{c:M Bool}
theorem cH{a:MS}(e:c D=some (true,D1))(h:a D1=r):sIf c a b D=r:=(zY e).trans h
theorem bI{a:MS}(e:c D=some (false,D1))(h:b D1=r):sIf c a b D=r:=(zZ e).trans h
theorem A_{g h:MS}(e:g D=some (.nx,D1))(k:h D1=r):ak g h D=r:=(rp e).trans k
variable{i:Nat}
theorem aM{g:M Vl}(e:g D=some (d,D1))(h:i<D1.length)(k:D1.set i (some d)=D2):az i g D=some (.nx,D2):=(rq e h).trans (by rw[k])
variable{xs:List Im}{tg:MG}{o:Option (Nat×Vl)}
theorem dA{g:MI}{fl:Fl}(e:g D=some ((xs,o),D1))(h:bx tg b xs D1=some (fl,D2))(k:rst o D2=D3):cf g tg b D=some (fl,D3):=(zW e h).trans (by rw[k])
theorem Jy{own:Nat}{caps:List Nat}{gi:MI}{e:M Vl}{C':SD}{ds:List Im}(h1:gi D=some ((xs,o),D1))(h2:cG own tg c e xs [] (d6 caps D1)=some (ds,C'))(k:rst o (df caps C' D1)=D3):a9 own caps gi tg c e D=some (.lst ds,D3):=(m9 h1 h2).trans (by rw[k])
variable{b a:M Bool}
theorem lr(e:a D=some (true,D1)):kOr a b D=some (true,D1):=by unfold kOr;rw[e];rfl
variable{r:Option (Bool×SD)}
theorem ck(e:a D=some (false,D1))(h:b D1=r):kOr a b D=r:=by unfold kOr;rw[e];exact h
theorem dB(e:a D=some (true,D1))(h:b D1=r):cq a b D=r:=by unfold cq;rw[e];exact h
theorem gH(e:a D=some (false,D1)):cq a b D=some (false,D1):=by unfold cq;rw[e];rfl
theorem sE{j:Nat}(e1:g D=some (os,D1))(e2:bi os D1=some ([d1,d2],D2))(hi:i<D2.length)(hj:j<D2.length)(k:(D2.set i<|some d1).set j (some d2)=D3):fL i j g D=some (.nx,D3):=by
 unfold fL;rw[e1];show (bi os D1).bind _=_;rw[e2];show (if i<D2.length/\j<D2.length then _ else _)=_;rw[ZY ⟨hi,hj⟩,k]
theorem Jz{g:M Bool}{b:Bool}(e:g D=some (b,D1)):eB g D=some (.im<|.bl b,D1):=by unfold eB;rw[e];rfl
variable{r:Vl}
theorem d_{G:Fn}(e1:g D=some (os,D1))(e0:os.length=n)(e2:bi os D1=some (ds,D2))(e3:G ds=some (r,outs))(k:wb os outs D2=D3):av n G g D=some (r,D3):=by rw[<- k];exact c_ e1 e0 e2 e3
theorem Ik{g:M Bool}(e:g D=some (true,D1)):ca g D=some (false,D1):=NU e
theorem Sy{g:M Bool}(e:g D=some (false,D1)):ca g D=some (true,D1):=NU e
variable{y:List Im}
theorem Qx(e1:g D=some (os,D1))(e2:ce D1 os=some [.im (.tup x),.im<|.tup y]):iZ g D=some ((bp x y,none),D1):=by
 unfold iZ;rw[e1];show (ce D1 os).bind _=_;rw[e2];rfl
theorem Qy{o1 o2:Opd}(e1:g D=some ([o1,o2],D1))(e2:bi [o1,o2] D1=some ([d1,d2],D2))(e3:cg d1=some x)(e4:cg d2=some y)(e5:d2.cp=true)(k:(if d1.cp=true then none else jm o1 d1)=o):iZm g D=some ((bp x y,o),D2):=by
 unfold iZm;rw[e1];show (bi [o1,o2] D1).bind _=_;rw[e2];show (cg d1).bind _=_;rw[e3];show (cg d2).bind _=_;rw[e4];show (if d2.cp=true then _ else _)=_;rw[ZY e5,k]
theorem Il{g:M Opd}{l h:M (Option Int)}{x:Opd}{lo hi:Option Int}{d':Vl}(e1:g D=some (x,D1))(e2:l D1=some (lo,D2))(e3:h D2=some (hi,D3))(e4:rsl D3 x=some d)(e5:vSl d lo hi=some d'):eSl g l h D=some (d',D3):=by
 unfold eSl;rw[e1];show (l D1).bind _=_;rw[e2];show (h D2).bind _=_;rw[e3];show (rsl D3 x).bind _=_;rw[e4];show (vSl d lo hi).map _=_;rw[e5];rfl
theorem NX{g:M Vl}(e:g D=some (d,D1)):eFz g D=some (k7 d,D1):=by unfold eFz;rw[e];rfl
theorem Qz{g:M Vl}(e:g D=some (d,D1)):eUz g D=some (uzV d,D1):=by unfold eUz;rw[e];rfl
theorem Le(e1:g D=some (os,D1))(e2:ce D1 os=some [.im (.int j)])(h:fN j):iR1 g D=some ((bo 0 j.toNat,none),D1):=by
 unfold iR1;rw[e1];show (ce D1 os).bind _=_;rw[e2];show (if fN j then _ else _)=_;rw[ZY h]
theorem bz{m:Nat}{fix:List Nat}{g:MS}(hl:ds.length=n)(e:g (ds.map some++List.replicate (m - n) none)=some (.rt r,D))(ho:dv fix ds D 0=outs):bj n m fix g ds=some (r,outs):=rz D hl e ho
end
end L2
namespace G
open PySem L2
variable{h:Vl}{n:Nat}{m:Int}
def ju(s u:Int):Int:=s * (48271+2 * u * u+65537 * u) % 2305843009213693921
def sF(s u:Int):Int:=ju s u * (ju s u % 1000003+u * 99991+11) % 2305843009213693907 / 97+ju s u * (ju s u % 1000003+u * 99991+11) % 2305843009213693907 / 1000033
abbrev hd(d s t:Int):Vl:=.lst [.int d,.int s,.int t]
abbrev iJ(i:Int):Vl:=.im (.int i)
theorem AU{d s t:Int}(QA:0<=d)(Tt:0<=s)(O9:s<2 ^ 63)(Tu:0<=t)(Tv:t<2 ^ 60)(Lf:0<m)(O':m<1073741824):
  ∃ v d' t',br [hd d s t,.im<|.int m]=some (.im<|.int v,[hd d' s t',.im<|.int m])/\0<=v/\v<m/\0<=d'/\t<=t'/\t'<=t+1:=by
 have i0:∀ d t:Int,vIx (hd d s t) (iJ 0)=some (iJ d):=fun _ _=>rfl;have i1:∀ d t:Int,vIx (hd d s t) (iJ 1)=some (iJ s):=fun _ _=>rfl;have i2:∀ d t:Int,vIx (hd d s t) (iJ 2)=some (iJ t):=fun _ _=>rfl;have k1:kB (ae vGt (oV<|ae vIx (oSl 0)<|oV<|eC<|.int 0)<|oV<|eC<|.int 0) [some (hd d s t),some<|iJ m,none,none,none,none]=some (decide (0<d),[some (hd d s t),some<|iJ m,none,none,none,none]):=Fu (b_ (v_<|b_ rfl rfl rfl rfl<|i0 d t) rfl rfl rfl rfl);unfold br sw;by_cases h:0<d
 ·refine⟨d % m,d / m,t,?_,Xv _ (by lia),Xz _ Lf,Int.ediv_nonneg QA (by lia),by lia,by lia⟩;rw[Zu h] at k1;refine bz (D:=[some (hd (d / m) s t),some<|iJ m,some<|iJ<|d % m,none,none,none]) rfl (fV (cH k1 (A_ (D1:=[some (hd d s t),some<|iJ m,some<|iJ<|d % m,none,none,none]) (aM (b_ (v_<|b_ rfl rfl rfl rfl<|i0 d t) rfl rfl rfl<|eZ Lf) (by exact ZK rfl) rfl)<|A_ (J1 (b_ (v_<|b_ rfl rfl rfl rfl<|i0 d t) rfl rfl rfl<|lq Lf O') rfl) rfl))) rfl
 ·have e2:dO (2 * (t+1)) (t+1)=true:=m8 (by lia) (by lia);refine⟨sF s (t+1) % m,d,t+1,?_,Xv _ (by lia),Xz _ Lf,QA,by lia,by lia⟩;rw[Zs h] at k1;unfold sF;generalize hx:ju s (t+1)=x;have x0:0<=x:=by rw[<- hx];exact Xv _ (by decide)
  have x1:x<2305843009213693921:=by rw[<- hx];exact Xz _ (by decide)
  refine bz (D:=[some (hd d s<|t+1),some<|iJ m,none,some<|iJ<|t+1,some<|iJ<|x * (x % 1000003+(t+1) * 99991+11) % 2305843009213693907,some<|iJ<|x % 1000003+(t+1) * 99991+11]) rfl (A_ (bI k1 rfl) (A_ (D1:=[some (hd d s<|t+1),some<|iJ m,none,none,none,none]) (J1 (b_ (v_<|b_ rfl rfl rfl rfl<|i2 d t) rfl rfl rfl rfl) rfl) (A_ (D1:=[some (hd d s<|t+1),some<|iJ m,none,some<|iJ<|t+1,none,none]) (aM (b_ rfl rfl rfl rfl<|i2 d<|t+1) (by exact ZK rfl) rfl)<|A_ (D1:=[some (hd d s<|t+1),some<|iJ m,none,some<|iJ<|t+1,some<|iJ x,none]) ?_<|A_ (D1:=[some (hd d s<|t+1),some<|iJ m,none,some<|iJ<|t+1,some<|iJ x,some<|iJ<|x % 1000003+(t+1) * 99991+11]) ?_<|A_ (D1:=[some (hd d s<|t+1),some<|iJ m,none,some<|iJ<|t+1,some<|iJ<|x * (x % 1000003+(t+1) * 99991+11) % 2305843009213693907,some<|iJ<|x % 1000003+(t+1) * 99991+11]) ?_<|bM ?_))) rfl
  ·rw[<- hx];exact aM (b_ (v_ (b_ (v_<|b_ rfl rfl rfl rfl<|i1 d<|t+1) (v_ (b_ (v_ (b_ rfl (v_ (b_ (v_ (b_ rfl rfl rfl rfl (dk (fU (by decide) (by decide))))) rfl rfl rfl<|dk e2)) rfl rfl rfl)) (v_ (b_ rfl rfl rfl rfl (dk (fU (by decide) (by decide))))) rfl rfl rfl)) rfl rfl (dk (fU (by lia) (by lia))))) rfl rfl rfl (eZ (by decide))) (by exact ZK rfl) rfl
  ·exact aM (b_ (v_ (b_ (v_ (b_ rfl rfl rfl rfl (eZ (by decide)))) (v_ (b_ rfl rfl rfl rfl (dk (m8 (by decide) (by decide))))) rfl rfl rfl)) rfl rfl rfl rfl) (by exact ZK rfl) rfl
  ·exact aM (b_ (v_ (b_ rfl rfl rfl rfl (dk (fU (by lia) (by lia))))) rfl rfl rfl (eZ (by decide))) (by exact ZK rfl) rfl
  ·exact b_ (v_ (b_ (v_ (b_ rfl rfl rfl rfl (lq (by decide) (by decide)))) (v_ (b_ rfl rfl rfl rfl (lq (by decide) (by decide)))) rfl rfl rfl)) rfl rfl rfl (eZ Lf)
def aT(n:Nat)(h:Vl):Prop:=∃ d s t,h=hd d s t/\0<=d/\0<=s/\s<2 ^ 63/\0<=t/\t+n<2 ^ 60
theorem aT.mono{m:Nat}(x:aT n h)(e:m<=n):aT m h:=by
 obtain⟨d,s,t,rfl,h1,h2,h3,h4,h5⟩:=x;exact⟨d,s,t,rfl,h1,h2,h3,h4,by omega⟩
theorem dS(x:aT (n+1) h)(Lf:0<m)(O':m<1073741824):∃ v h',br [h,.im<|.int m]=some (.im<|.int v,[h',.im<|.int m])/\0<=v/\v<m/\aT n h':=by
 obtain⟨d,s,t,rfl,h1,h2,h3,h4,h5⟩:=x;obtain⟨v,d',t',e,e1,e2,e3,e4,e5⟩:=AU (m:=m) h1 h2 h3 h4 (by omega) Lf O';exact⟨v,hd d' s t',e,e1,e2,d',s,t',rfl,e3,h2,h3,by omega,by omega⟩
theorem aW(x:aT n h):∃ ds,h=.lst ds:=by
 obtain⟨d,s,t,rfl,_⟩:=x;exact⟨_,rfl⟩
theorem AV{ns:List Int}{k:Int}(hk:0<=k)(G':k<1000):∃ h,jt [.fz (ns.map .int),.im<|.int k]=some (h,[.fz (ns.map .int),.im<|.int k])/\aT 1000000 h:=by
 have key:∀ c:Int,aT 1000000 (hd (c % (10 ^ 60 * 10 ^ 60 * 10 ^ 60) * (if decide (10 ^ 18<=c) then 1 else 0)) (c % 2305843009213693951+7919 * k+3) 0):=fun c=>by
  have h1:=Xv c (show (10 ^ 60 * 10 ^ 60 * 10 ^ 60:Int)≠0 by decide);have h2:=Xv c (show (2305843009213693951:Int)≠0 by decide);have h3:=Xz c (show (0:Int)<2305843009213693951 by decide);refine⟨_,_,_,rfl,?_,by lia,by lia,Xm 0,by decide⟩;split
  ·rw[Int.mul_one];exact h1
  ·rw[Int.mul_zero];exact Xm 0
 have p0:vPow (iJ 10) (iJ 60)=some (iJ<|10 ^ 60):=sy (by decide);have p9:vPow (iJ 10) (iJ 18)=some (iJ<|10 ^ 18):=sy (by decide);have p1:dO (10 ^ 60) (10 ^ 60)=true:=by decide +kernel
 have p2:dO (10 ^ 60 * 10 ^ 60) (10 ^ 60)=true:=by decide +kernel
 have p3:∀ (x:Int) (b:Bool),dO x (if b then 1 else 0)=true:=fun x b=>m8 (by cases b<;>decide) (by cases b<;>decide);have q1:(0:Int)<10 ^ 60 * 10 ^ 60 * 10 ^ 60:=by decide
 obtain⟨c,ec⟩:∃ c:Int,sIf (kB<|ae vLt (oSl 1)<|oV<|aw vLen<|aa (oSl 0) aNil) (az 2<|ae vIx (oSl 0)<|oSl 1) sNil [some (.fz<|ns.map .int),some<|iJ k,some<|iJ 0,none,none]=some (.nx,[some (.fz<|ns.map .int),some<|iJ k,some<|iJ c,none,none]):=by
  have kk:kB (ae vLt (oSl 1)<|oV<|aw vLen<|aa (oSl 0) aNil) [some (.fz<|ns.map .int),some<|iJ k,some<|iJ 0,none,none]=some (decide (k<((ns.map Im.int).length:Int)),[some (.fz<|ns.map .int),some<|iJ k,some<|iJ 0,none,none]):=Fu (b_ rfl (v_<|Fi (a_ rfl rfl) rfl rfl) rfl rfl rfl);rw[Z3] at kk;by_cases hl:k<(ns.length:Int)
  ·rw[Zu hl] at kk;have hj:k.toNat<ns.length:=by lia
   have MK:FS (ns.map Im.int) k=some (.int ns[k.toNat]):=ik hk (by rw[ZB,Z0 hj];rfl);have hv:vIx (.fz<|ns.map .int) (iJ k)=some (iJ ns[k.toNat]):=by
    show (FS (ns.map Im.int) k).map Vl.im=_;rw[MK];rfl
   exact⟨ns[k.toNat],cH kk<|aM (b_ rfl rfl rfl rfl hv) (ZK rfl) rfl⟩
  ·rw[Zs hl] at kk;exact⟨0,bI kk rfl⟩
 refine⟨_,?_,key c⟩;unfold jt sv;generalize ns.map Im.int=L at *;refine bz (D:=[some (.fz L),some<|iJ k,some<|iJ c,some<|iJ<|10 ^ 60 * 10 ^ 60 * 10 ^ 60,some<|iJ<|c % (10 ^ 60 * 10 ^ 60 * 10 ^ 60) * (if decide (10 ^ 18<=c) then 1 else 0)]) rfl (A_ (D1:=[some (.fz L),some<|iJ k,some<|iJ 0,none,none]) rfl (A_ ec (A_ (D1:=[some (.fz L),some<|iJ k,some<|iJ c,some<|iJ<|10 ^ 60 * 10 ^ 60 * 10 ^ 60,none]) (aM (b_ (v_<|b_ (v_<|b_ rfl rfl rfl rfl p0) (v_<|b_ rfl rfl rfl rfl p0) rfl rfl<|dk p1) (v_<|b_ rfl rfl rfl rfl p0) rfl rfl<|dk p2) (ZK rfl) rfl) (A_ (aM (b_ (v_<|b_ rfl rfl rfl rfl<|eZ q1) (v_<|Fi (a_ (v_<|b_ rfl (v_<|b_ rfl rfl rfl rfl p9) rfl rfl rfl) rfl) rfl rfl) rfl rfl<|dk<|p3 _ _) (ZK rfl) rfl) (bM (IG (a_ rfl (a_ (v_ (b_ (v_ (b_ (v_ (b_ rfl rfl rfl rfl (eZ (by decide)))) (v_ (b_ rfl rfl rfl rfl (dk (fU (by decide) (by decide))))) rfl rfl rfl)) rfl rfl rfl rfl))<|a_ rfl rfl)) rfl (ZK rfl) rfl)))))) rfl
theorem iD{xs:List Im}(x:aT (n+1) h)(h0:xs≠[])(h1:xs.length<1073741824):∃ d h',bO [h,.lst xs]=some (.im d,[h',.lst xs])/\d∈xs/\aT n h':=by
 have hl:0<xs.length:=Xd.mpr h0;obtain⟨v,h',e,e1,e2,e3⟩:=dS (m:=xs.length) x (by omega) (by omega);obtain⟨d,hd⟩:∃ d,xs[v.toNat]?=some d:=⟨xs[v.toNat]'(by omega),by simp⟩;have MK:FS xs v=some d:=ik e1 hd;obtain⟨q,rfl⟩:=aW x;obtain⟨q',rfl⟩:=aW e3;refine⟨d,.lst q',?_,Zr hd,e3⟩;have hv:vIx (.lst xs) (iJ v)=some (.im d):=by
  show (FS xs v).map Vl.im=_;rw[MK];rfl
 unfold bO nF;exact bz (D:=[some (.lst q'),some<|.lst xs]) rfl (bM<|b_ rfl (v_<|d_ (os:=[.sl 0,.vl<|iJ xs.length]) (a_ rfl<|a_ (v_<|Fi (a_ rfl rfl) rfl rfl) rfl) rfl rfl e rfl) rfl rfl hv) rfl
end G
namespace L2
open PySem PySem.Spec PyProof.Rows
variable{g nl n2 slot ep n i m:Nat}{items pl:Array Value}{l a2 S I a:Addr}{P:List Im->Addr->Prop}{w:World}{o2 o:Obj}{f0 x:Value}{h' h:Heap}{ks:List (List Im)}{Q:Option Value->Shared->Prop}{s:Shared}{es:Array (Int×Value)}{ps:List Nat}{ow:Array (Option Nat)}{β α:Type}{hs:List Int}{k:List Im}{led:Bool}{t:SetTable}{xs:Array Nat}
abbrev cV(xs:Array Nat):Prop:=xs.toList.Pairwise (· < ·)
theorem jv(r:cV xs){i k:Nat}{d:Nat}(h:i<k)(hk:k<xs.size):xs.getD i d<xs.getD k d:=by
 have hi:i<xs.size:=Wh h hk;have e:∀ m (hm:m<xs.size),xs.getD m d=xs.toList[m]'(by simpa using hm):=fun m hm=>by simp[Array.getD,hm]
 rw[e i hi,e k hk];exact YQ.mp r i k _ _ h
theorem nG(xs:Array Nat)(r:cV xs)(j:Nat):∀ (fuel lo hi:Nat),hi - lo<=fuel->lo<=hi->hi<=xs.size->(∀ i,i<lo->xs.getD i j<j)->(∀ i,hi<=i->i<xs.size->j<=xs.getD i j)->
  (SetTable.below.go xs j fuel lo hi<=xs.size/\(∀ i,i<SetTable.below.go xs j fuel lo hi->xs.getD i j<j)/\∀ i,SetTable.below.go xs j fuel lo hi<=i->i<xs.size->j<=xs.getD i j)
 | 0,lo,hi,h1,h2,h3,a,b=>by
  have e:lo=hi:=by lia
  subst e;exact⟨h3,a,b⟩
 | fuel+1,lo,hi,h1,h2,h3,a,b=>by
  unfold SetTable.below.go;by_cases h:lo<hi
  ·rw[ZY h];dsimp only;by_cases hm:xs.getD ((lo+hi) / 2) j<j
   ·rw[ZY hm];refine nG xs r j fuel _ _ (by lia) (by lia) h3 (fun i GG=>?_) b;rcases YJ i ((lo+hi) / 2) with h' | h'
    ·exact Wh (jv r h' (by lia)) hm
    ·have:i=(lo+hi) / 2:=by lia
     rw[this];exact hm
   ·rw[ZW hm];refine nG xs r j fuel _ _ (by lia) (by lia) (by lia) a (fun i GG FN=>?_);rcases YJ ((lo+hi) / 2) i with h' | h'
    ·exact Xi (W2 (V5.mp hm)<|jv r h' FN)
    ·have:i=(lo+hi) / 2:=by lia
     rw[this];exact V5.mp hm
  ·rw[ZW h];have e:lo=hi:=by lia
   subst e;exact⟨h3,a,b⟩
theorem ls(r:cV xs)(j:Nat):SetTable.below xs j<=xs.size/\(∀ i,i<SetTable.below xs j->xs.getD i j<j)/\∀ i,SetTable.below xs j<=i->i<xs.size->j<=xs.getD i j:=
 nG xs r j xs.size 0 xs.size (by lia) (by lia) (by lia) (fun i h=>absurd h<|W5 _) fun i h h'=>absurd h' (by lia)
theorem nH(r:cV xs){i j:Nat}(h:xs[i]?=some j):SetTable.below xs j=i:=by
 obtain⟨a,b,c⟩:=ls r j;obtain⟨hi,e⟩:=YT.mp h;have ei:xs.getD i j=j:=by simp[Array.getD,hi,e]
 rcases WP (SetTable.below xs j) i with h1 | h1 | h1
 ·have h2:=c _ (ZV _) (Wh h1 hi);have h3:=jv r (d:=j) h1 hi;lia
 ·exact h1
 ·have:=b i h1;lia
theorem AW(r:cV xs){i j:Nat}(h:xs[i]?=some j):SetTable.below xs (j+1)=i+1:=by
 obtain⟨a,b,c⟩:=ls r (j+1);obtain⟨hi,e⟩:=YT.mp h;have ei:xs.getD i (j+1)=j:=by simp[Array.getD,hi,e]
 rcases WP (SetTable.below xs<|j+1) (i+1) with h1 | h1 | h1
 ·have:=c i (by lia) hi;lia
 ·exact h1
 ·have h2:=b (i+1) h1;have h3:=jv r (d:=j+1) (XI i) (by lia);lia
theorem AX(r:cV xs):SetTable.below xs 0=0:=by
 obtain⟨a,b,c⟩:=ls r 0;rcases Nat.eq_zero_or_pos (SetTable.below xs 0) with h | h
 ·exact h
 ·exact absurd (b 0 h) (W5 _)
theorem AY(r:cV xs){j:Nat}(h:¬ (xs[SetTable.below xs j]?=some j)):cV (SetTable.insertAt xs (SetTable.below xs j) j):=by
 obtain⟨a,b,c⟩:=ls r j;unfold cV;rw[SetTable.toList_insertAt];refine List.pairwise_append.mpr ⟨List.Pairwise.sublist (XW _ _) r,Zf.mpr ⟨fun y hy=>?_,List.Pairwise.sublist (Xq _ _) r⟩,fun x hx y hy=>?_⟩
 ·obtain⟨k,hk,rfl⟩:=Yd.mp hy;rw[XV];have hs:SetTable.below xs j+k<xs.size:=by simp at hk;lia
  have h1:=c (SetTable.below xs j+k) (YN _ _) hs;have e:xs.getD (SetTable.below xs j+k) j=xs.toList[SetTable.below xs j+k]:=by simp[Array.getD,hs]
  rw[e] at h1;refine Nat.lt_of_le_of_ne h1 fun he=>?_;rcases Nat.eq_zero_or_pos k with h0 | h0
  ·subst h0;apply h;rw[YT];exact⟨by lia,by simpa using he.symm⟩
  ·have h2:=jv r (d:=j) (Nat.lt_add_of_pos_right (n:=SetTable.below xs j) h0) hs;have h3:=c (SetTable.below xs j) (ZV _) (by lia);rw[e] at h2;exact absurd he (Zx<|W2 h3 h2)
 ·obtain⟨k,hk,rfl⟩:=Yd.mp hx;rw[WV];have F9:k<SetTable.below xs j:=by simp at hk;lia
  have hs:k<xs.size:=by lia
  have h1:=b k F9;have e:xs.getD k j=xs.toList[k]:=by simp[Array.getD,hs]
  rw[e] at h1;rcases ZG.mp hy with rfl | hy
  ·exact h1
  ·obtain⟨m,hm,rfl⟩:=Yd.mp hy;rw[XV];have GV:SetTable.below xs j+m<xs.size:=by simp at hm;lia
   have h2:=c (SetTable.below xs j+m) (YN _ _) GV;have e2:xs.getD (SetTable.below xs j+m) j=xs.toList[SetTable.below xs j+m]:=by simp[Array.getD,GV]
   rw[e2] at h2;exact Zt h1 h2
structure FI(t:SetTable)(led:Bool):Prop where
 rise:cV t.place
 LJ:t.dummies=#[]
 led:t.led=led
theorem FI.Jf(h:FI t led)(b:Bool):FI { t with plain:=b } led:=⟨h.rise,h.LJ,h.led⟩
theorem sG(j:Nat):SetTable.has #[] j=false:=rfl
theorem AZ(hd:t.dummies=#[])(j:Nat):(∃ i,t.slot j=.live i)\/(t.slot j=.empty/\¬ (t.place[SetTable.below t.place j]?=some j)):=by
 unfold SetTable.slot;dsimp only;by_cases h:(t.place[SetTable.below t.place j]? == some j)=true
 ·rw[ZY h];exact .inl ⟨_,rfl⟩
 ·rw[ZW h,hd,sG];exact .inr ⟨rfl,fun e=>h (by rw[e];exact Yp _)⟩
theorem FI.put(h:FI t led){j:Nat}(hj:¬ (t.place[SetTable.below t.place j]?=some j)):FI (t.put j).1 led:=by
 refine⟨AY h.rise hj,?_,h.led⟩;show (if SetTable.has t.dummies j=true then _ else t.dummies)=#[];rw[h.LJ,sG];rfl
theorem A3{mask finger moves:Nat}{plain:Bool}{hs:Array Int}{o:Array Nat}(e:SetTable.laid mask finger moves led plain hs=some (t,o)):FI t led:=by
 unfold SetTable.laid at e;cases h:SetTable.layClean mask hs with
 | none=>rw[h] at e;cases e
 | some ow=>
  rw[h] at e;cases e;refine⟨?_,rfl,rfl⟩;show (List.map (fun x:Nat×Nat=>x.1)<|List.filterMap (fun j=>Option.map (fun x=>(j,x))<|ow.getD j none)<|range<|mask+1).Pairwise (· < ·);rw[List.map_filterMap];refine List.Pairwise.filterMap _ (R:=(· < ·)) (fun a b ML x hx y hy=>?_) List.pairwise_lt_range;cases ha:ow.getD a none with
  | none=>rw[ha] at hx;cases hx
  | some u=>
   cases hb:ow.getD b none with
   | none=>rw[hb] at hy;cases hy
   | some v=>
    rw[ha] at hx;rw[hb] at hy;cases hx;cases hy;exact ML
def iE(m:Nat)(p:SetTable.Probe):SetTable.Probe:=
 if p.more > 0 then { p with j:=p.j+1,more:=p.more - 1 } else
 { p with j:=(SetTable.leap m p.i p.perturb).1,more:=SetTable.runEnd m (SetTable.leap m p.i p.perturb).1 - (SetTable.leap m p.i p.perturb).1,i:=(SetTable.leap m p.i p.perturb).1,perturb:=(SetTable.leap m p.i p.perturb).2 }
def LK(m i pt:Nat):SetTable.Probe:={ j:=i,more:=SetTable.runEnd m i - i,i:=i,perturb:=pt,dummy:=none }
def E3(m:Nat)(h:Int):Nat->SetTable.Probe
 | 0=>LK m (SetTable.bits h % (m+1)) (SetTable.bits h)
 | k+1=>iE m (E3 m h k)
def Fb(m:Nat)(h:Int):Nat->Nat×Nat
 | 0=>(SetTable.bits h % (m+1),SetTable.bits h)
 | q+1=>SetTable.leap m (Fb m h q).1 (Fb m h q).2
theorem nJ(m:Nat)(h:Int):∀ k,(E3 m h k).dummy=none
 | 0=>rfl
 | k+1=>by
  rw[E3,iE];split
  ·exact nJ m h k
  ·exact nJ m h k
theorem A4(m i:Nat):SetTable.runEnd m i - i<=9:=by
 unfold SetTable.runEnd;split<;>lia
theorem iF{m:Nat}{h:Int}{k i pt:Nat}(e:E3 m h k=LK m i pt):∀ r,r<=SetTable.runEnd m i - i->E3 m h (k+r)={ LK m i pt with j:=i+r,more:=SetTable.runEnd m i - i - r }
 | 0,_=>e
 | r+1,hr=>by
  show iE m (E3 m h<|k+r)=_;rw[iF e r (by lia),iE,ZY (show SetTable.runEnd m i - i - r > 0 by lia)];rfl
theorem A5{h:Int}{k pt:Nat}(e:E3 m h k=LK m i pt):E3 m h (k+(SetTable.runEnd m i - i)+1)=LK m (SetTable.leap m i pt).1 (SetTable.leap m i pt).2:=by
 show iE m (E3 m h<|k+(SetTable.runEnd m i - i))=_;rw[iF e _ (ZV _),iE,ZW (show ¬ (SetTable.runEnd m i - i - (SetTable.runEnd m i - i) > 0) by lia)];rfl
def kq(m:Nat)(h:Int):Nat->Nat
 | 0=>0
 | q+1=>kq m h q+(SetTable.runEnd m (Fb m h q).1 - (Fb m h q).1)+1
theorem iG(m:Nat)(h:Int):∀ q,E3 m h (kq m h q)=LK m (Fb m h q).1 (Fb m h q).2
 | 0=>rfl
 | q+1=>A5 (iG m h q)
theorem sH(m:Nat)(h:Int):∀ q,kq m h q<=10 * q
 | 0=>ZV _
 | q+1=>by
  have:=sH m h q;have:=A4 m (Fb m h q).1;show kq m h q+_+1<=_;lia
theorem sI(m:Nat)(h:Int):∀ k,∃ q r,k=kq m h q+r/\r<=SetTable.runEnd m (Fb m h q).1 - (Fb m h q).1
 | 0=>⟨0,0,rfl,Yz _⟩
 | k+1=>by
  obtain⟨q,r,e,hr⟩:=sI m h k;by_cases z:r+1<=SetTable.runEnd m (Fb m h q).1 - (Fb m h q).1
  ·exact⟨q,r+1,by lia,z⟩
  ·exact⟨q+1,0,by show _=kq m h q+_+1+0;lia,Yz _⟩
def Io(m:Nat):Nat->Nat->Nat
 | 0,x=>x
 | k+1,x=>(Io m k x * 5+1) % (m+1)
theorem jw(m:Nat)(a x:Nat):∀ b,Io m (a+b) x=Io m b (Io m a x)
 | 0=>rfl
 | b+1=>by
  show (Io m (a+b) x * 5+1) % (m+1)=_;rw[jw m a x b];rfl
def NY(m:Nat):Nat->Nat->Nat->Nat
 | 0,_,acc=>acc
 | k+1,x,acc=>NY m k ((x * 5+1) % (m+1)) (acc ||| 2 ^ x)
theorem A6(m k x:Nat):Io m k ((x * 5+1) % (m+1))=Io m (k+1) x:=by
 rw[Vw k 1,jw];rfl
theorem sJ{m:Nat}:∀ {n x y acc:Nat},(NY m n x acc).testBit y=true->acc.testBit y=true\/∃ k,k<n/\Io m k x=y
 | 0,_,_,_,h=>.inl h
 | n+1,x,y,acc,h=>by
  rcases sJ (n:=n) h with h | ⟨k,h1,h2⟩
  ·rw[Nat.testBit_or,Vt] at h;rcases h with h | h
   ·exact .inl h
   ·rw[Nat.testBit_two_pow,YW] at h;exact .inr ⟨0,Wf _,h⟩
  ·exact .inr ⟨k+1,Nat.succ_lt_succ h1,by rw[<- A6];exact h2⟩
def nK(m:Nat):Bool:=beq (NY m (m+1) 0 0) (2 ^ (m+1) - 1) && beq (Io m (m+1) 0) 0
theorem A7(c:nK m=true){a x:Nat}(ha:a<=m)(hx:x<=m):∃ k,k<=m/\Io m k a=x:=by
 rw[nK,ZU] at c;have z:=Nat.eq_of_beq_eq_true c.2;have all:∀ y,y<=m->∃ k,k<m+1/\Io m k 0=y:=fun y hy=>by
  have q:(NY m (m+1) 0 0).testBit y=true:=by
   rw[Nat.eq_of_beq_eq_true c.1,Nat.testBit_two_pow_sub_one];exact Zu (Nat.lt_succ_of_le hy)
  rcases sJ q with h | h
  ·rw[Nat.zero_testBit] at h;cases h
  ·exact h
 obtain⟨ka,h1,rfl⟩:=all a ha;obtain⟨kx,h2,rfl⟩:=all x hx;rcases YJ kx ka with h | h
 ·refine⟨kx+(m+1 - ka),by lia,?_⟩;rw[<- jw,show ka+(kx+(m+1 - ka))=(m+1)+kx by lia,jw,z]
 ·refine⟨kx - ka,by lia,?_⟩;rw[<- jw,show ka+(kx - ka)=kx by lia]
def GM(m:Nat):Prop:=m=7\/m=31\/m=127\/m=511
theorem GM.Sz(g:GM m):nK m=true:=by
 rcases g with rfl | rfl | rfl | rfl<;>decide +kernel
theorem A8(h:Int):SetTable.bits h<2 ^ 64:=by
 unfold SetTable.bits;have h1:=Xv h (show (2 ^ 64:Int)≠0 by decide);have h2:=Xz h (show (0:Int)<2 ^ 64 by decide);lia
theorem sK(m:Nat)(h:Int):∀ q,(Fb m h q).2=SetTable.bits h / 32 ^ q
 | 0=>by rw[Nat.pow_zero,Nat.div_one];rfl
 | q+1=>by
  show (Fb m h q).2 / 32=_;rw[sK m h q,Nat.div_div_eq_div_mul];rfl
theorem nL(m:Nat)(h:Int):∀ q,(Fb m h q).1<=m
 | 0=>Xo (Vi _<|Wf _)
 | q+1=>Xo (Vi _<|Wf _)
theorem sL(m:Nat)(h:Int):∀ k,Fb m h (13+k)=(Io m k (Fb m h 13).1,0)
 | 0=>by
  have e:(Fb m h 13).2=0:=by
   rw[sK];exact Nat.div_eq_of_lt (Wh (A8 h) (by decide))
  show Fb m h 13=((Fb m h 13).1,0);rw[<- e]
 | k+1=>by
  show SetTable.leap m (Fb m h<|13+k).1 (Fb m h<|13+k).2=_;rw[sL m h k];show ((Io m k (Fb m h 13).1 * 5+1+0 / 32) % (m+1),0 / 32)=_;rw[Nat.zero_div,Vf];rfl
theorem sM(g:GM m)(h:Int){x:Nat}(hx:x<=m):∃ q,q+1<SetTable.turns m/\(Fb m h q).1=x:=by
 obtain⟨k,h1,h2⟩:=A7 g.Sz (nL m h 13) hx;exact⟨13+k,by unfold SetTable.turns;lia,by rw[sL];exact h2⟩
theorem A9(g:GM m)(h:Int){x:Nat}(hx:x<=m):∃ k,k<10 * SetTable.turns m/\(E3 m h k).j=x:=by
 obtain⟨q,h1,h2⟩:=sM g h hx;refine⟨kq m h q,by have:=sH m h q;lia,?_⟩;rw[iG];exact h2
theorem sN(h:i<=m):SetTable.runEnd m i<=m:=by unfold SetTable.runEnd;split<;>lia
theorem sO(m:Nat)(h:Int)(k:Nat):(E3 m h k).j<=m:=by
 obtain⟨q,r,rfl,hr⟩:=sI m h k;rw[iF (iG m h q) r hr];have:=sN (nL m h q);have e:SetTable.runEnd m (Fb m h q).1 >= (Fb m h q).1:=by unfold SetTable.runEnd;split<;>lia
 show (Fb m h q).1+r<=m;lia
theorem jx{α:Type}[DecidableEq α]:∀ {l m:List α},l.Nodup->(∀ x∈l,x∈m)->l.length<=m.length
 | [],m,_,_=>Yz _
 | a::l,m,nd,h=>by
  have Ja:=YO.mp nd;have q:=jx (l:=l) (m:=m.erase a) Ja.2 fun x hx=>(List.mem_erase_of_ne (fun e:x=a=>Ja.1<|e ▸ hx)).mpr (h x<|.tail _ hx);have ha:=h a (.head _);rw[VL ha] at q;have:=Vv ha;rw[ZJ];lia
def J2(m:Nat)(HQ:Nat->Prop)(h:Int)(j:Nat):Prop:=∃ k,(E3 m h k).j=j/\∀ k',k'<k->HQ (E3 m h k').j
theorem J2.mono{HQ MM:Nat->Prop}{h:Int}{j:Nat}(r:J2 m HQ h j)(i:∀ x,HQ x->MM x):J2 m MM h j:=let ⟨k,e,a⟩:=r;⟨k,e,fun k' z=>i _<|a k' z⟩
structure Ip(t:SetTable)(hs:List Int):Prop where
 gm:GM t.mask
 len:t.place.size=hs.length
 loose:t.place.size * 5<t.mask * 3
 le:∀ j∈t.place.toList,j<=t.mask
 Lg:∀ p∈t.place.toList.zip hs,J2 t.mask (·∈t.place.toList) p.2 p.1
theorem GM.pos(g:GM m):7<=m/\m<=511/\m % 2=1:=by rcases g with rfl | rfl | rfl | rfl<;>decide
theorem Ba(r:cV t.place){j:Nat}(h:j∈t.place.toList):∃ i,t.slot j=.live i/\t.place[i]?=some j:=by
 obtain⟨i,hi,e⟩:=Yd.mp h;have e':t.place[i]?=some j:=by
  rw[<- ZD,Z0 hi,e]
 refine⟨i,?_,e'⟩;unfold SetTable.slot;dsimp only;rw[nH r e',e',ZY<|Yp _]
theorem Bb(hd:t.dummies=#[]){j:Nat}(h:j∉t.place.toList):t.slot j=.empty:=by
 rcases AZ hd j with ⟨i,e⟩ | ⟨e,_⟩
 ·unfold SetTable.slot at e;dsimp only at e;split at e
  ·next q=>
   have q':=eq_of_beq q;refine absurd ?_ h;rw[<- ZD] at q';exact Zr q'
  ·split at e<;>cases e
 ·exact e
theorem Ip.some(H:Ip t hs)(h:Int):∃ k,k<10 * SetTable.turns t.mask/\(E3 t.mask h k).j∉t.place.toList:=by
 have:∃ x,x<=t.mask/\x∉t.place.toList:=by
  refine X0 fun c=>?_;have q:=jx (l:=range (t.mask+1)) (m:=t.place.toList) WF fun x hx=>X0 fun z=>c ⟨x,Xo<|Zi.mp hx,z⟩;rw[Zk,ZN] at q;have:=H.loose;lia
 obtain⟨x,h1,h2⟩:=this;obtain⟨k,k1,k2⟩:=A9 H.gm h h1;exact⟨k,k1,by rw[k2];exact h2⟩
theorem sP{t : SetTable}(r : cV t.place)(hd : t.dummies = #[])(hA : Nat -> Int)(h : Int): ∀ (fuel k0 : Nat), (∃ k, k0 <= k /\ k < k0 + fuel /\ (E3 t.mask h k).j ∉ t.place.toList) ->
    ∃ k1, k0 <= k1 /\ (∀ k, k0 <= k -> k < k1 -> ∃ i, t.place[i]? = some (E3 t.mask h k).j /\ hA i ≠ h) /\
      ((SetTable.probe.go t hA h fuel (E3 t.mask h k0) = some (.empty (E3 t.mask h k1).j none) /\ (E3 t.mask h k1).j ∉ t.place.toList) \/
        ∃ i, SetTable.probe.go t hA h fuel (E3 t.mask h k0) = some (.candidate (E3 t.mask h k1).j i<|E3 t.mask h<|k1 + 1) /\ t.slot (E3 t.mask h k1).j = .live i /\ t.place[i]? = some (E3 t.mask h k1).j /\ hA i = h)
  | 0, k0, ⟨k, a, b, _⟩ => absurd a (by lia)
  | fuel + 1, k0, ⟨k, a, b, c⟩ => by
    by_cases z : (E3 t.mask h k0).j ∈ t.place.toList
    · obtain ⟨i, e1, e2⟩ := Ba r z
      by_cases q : hA i = h
      · refine ⟨k0, ZV _, fun k h1 h2 => absurd h1 (by lia), .inr ⟨i, ?_, e1, e2, q⟩⟩
        unfold SetTable.probe.go;rw [e1];dsimp only;rw [ZY (by rw [q]; exact Yp _)];rfl
      · have ne : k ≠ k0 := fun e => c (e ▸ z)
        obtain ⟨k1, h1, h2, h3⟩ := sP r hd hA h fuel (k0 + 1) ⟨k, by lia, by lia, c⟩;have e : SetTable.probe.go t hA h (fuel + 1) (E3 t.mask h k0) = SetTable.probe.go t hA h fuel (E3 t.mask h<|k0 + 1) := by
          rw [SetTable.probe.go, e1];dsimp only;rw [ZW (by rw [WH]; exact q)];rfl
        refine ⟨k1, by lia, fun k g1 g2 => ?_, by rw [e]; exact h3⟩;rcases YJ k0 k with g | g
        · exact h2 k g g2
        · rw [show k = k0 by lia]; exact ⟨i, e2, q⟩
    · refine ⟨k0, ZV _, fun k h1 h2 => absurd h1 (by lia), .inl ⟨?_, z⟩⟩
      unfold SetTable.probe.go;rw [Bb hd z];dsimp only;rw [nJ]
theorem nM(xs:Array α)(p:Nat)(x:α):(SetTable.insertAt xs p x).toList=xs.toList.take p++x::xs.toList.drop p:=SetTable.toList_insertAt xs p x
theorem jy{l:List α}{p:Nat}{x y:α}:y∈l.take p++x::l.drop p↔y=x\/y∈l:=by
 constructor
 ·intro h;rcases ZA.mp h with h | h
  ·exact .inr (Yo h)
  ·rcases ZG.mp h with h | h
   ·exact .inl h
   ·exact .inr (YS h)
 ·rintro (rfl | h)
  ·exact ZI _ (.head _)
  ·rw[<- Zy p l] at h;rcases ZA.mp h with h | h
   ·exact Zw _ h
   ·exact ZI _ (.tail _ h)
theorem Bc{a:List α}{b:List β}(hl:a.length=b.length)(p:Nat)(x:α)(y:β):(a.take p++x::a.drop p).zip (b.take p++y::b.drop p)=(a.zip b).take p++(x,y)::(a.zip b).drop p:=by
 rw[List.zip_append (by rw[Zc,Zc,hl]),V4];have e1:∀ (p:Nat) (a:List α) (b:List β),(a.take p).zip (b.take p)=(a.zip b).take p:=fun p=>by
  induction p with
  | zero=>intro a b;rfl
  | succ p ih=>intro a b;cases a with
   | nil=>rfl
   | cons x a=>cases b with
    | nil=>rfl
    | cons y b=>exact congrArg ((x,y)::·) (ih a b)
 have e2:∀ (p:Nat) (a:List α) (b:List β),(a.drop p).zip (b.drop p)=(a.zip b).drop p:=fun p=>by
  induction p with
  | zero=>intro a b;rfl
  | succ p ih=>intro a b;cases a with
   | nil=>rfl
   | cons x a=>cases b with
    | nil=>show (a.drop p).zip []=_;rw[List.zip_nil_right];rfl
    | cons y b=>exact ih a b
 rw[e1,e2]
theorem Ip.put(H:Ip t hs){h:Int}{k:Nat}(hk:(E3 t.mask h k).j∉t.place.toList)(ha:∀ k',k'<k->(E3 t.mask h k').j∈t.place.toList):
  (∀ j∈(t.put (E3 t.mask h k).j).1.place.toList,j<=t.mask)/\∀ p∈(t.put (E3 t.mask h k).j).1.place.toList.zip (hs.take (t.put (E3 t.mask h k).j).2++h::hs.drop (t.put (E3 t.mask h k).j).2),J2 t.mask (·∈(t.put (E3 t.mask h k).j).1.place.toList) p.2 p.1:=by
 have e:(t.put (E3 t.mask h k).j).1.place.toList=t.place.toList.take (t.put (E3 t.mask h k).j).2++(E3 t.mask h k).j::t.place.toList.drop (t.put (E3 t.mask h k).j).2:=nM _ _ _;rw[e];refine⟨fun j hj=>?_,fun p hp=>?_⟩
 ·rcases jy.mp hj with rfl | hj
  ·exact sO _ _ _
  ·exact H.le j hj
 ·rw[Bc (by rw[ZN];exact H.len)] at hp;rcases jy.mp hp with rfl | hp
  ·exact⟨k,rfl,fun k' z=>jy.mpr<|.inr<|ha k' z⟩
  ·exact (H.Lg p hp).mono fun x hx=>jy.mpr (.inr hx)
def fb(ow:Array (Option Nat))(j:Nat):Prop:=(ow.getD j<|some 0).isSome=true
theorem sQ{m:Nat}(ow:Array (Option Nat))(h:Int):∀ (fuel q:Nat),(∀ k',k'<kq m h q->fb ow (E3 m h k').j)->(∃ q',q<=q'/\q'<q+fuel/\¬ fb ow (Fb m h q').1)->
  ∃ j,SetTable.layClean.free m ow fuel (Fb m h q).1 (Fb m h q).2=some j/\j<=m/\¬ fb ow j/\J2 m (fb ow) h j
 | 0,q,_,⟨q',a,b,_⟩=>absurd a (by lia)
 | fuel+1,q,hk,⟨q',a,b,c⟩=>by
  unfold SetTable.layClean.free;have le:SetTable.runEnd m (Fb m h q).1<=m:=sN (nL m h q);have ge:(Fb m h q).1<=SetTable.runEnd m (Fb m h q).1:=by unfold SetTable.runEnd;split<;>lia
  cases hf:(range<|SetTable.runEnd m (Fb m h q).1+1 - (Fb m h q).1).find? (fun k=>(ow.getD ((Fb m h q).1+k)<|some 0).isNone) with
  | some k=>
   dsimp only;rw[List.find?_range_eq_some] at hf;obtain⟨h1,h2,h3⟩:=hf;have Kn:k<SetTable.runEnd m (Fb m h q).1+1 - (Fb m h q).1:=Zi.mp h2;refine⟨_,rfl,by lia,?_,kq m h q+k,?_,fun k' F9=>?_⟩
   ·unfold fb;intro z;rw[Option.isNone_iff_eq_none] at h1;rw[h1] at z;cases z
   ·rw[iF (iG m h q) k (by lia)]
   ·rcases YJ k' (kq m h q) with z | z
    ·exact hk k' z
    ·have e:k'=kq m h q+(k' - kq m h q):=by lia
     rw[e,iF (iG m h q) (k' - kq m h q) (by lia)];have:=h3 (k' - kq m h q) (by lia);show (ow.getD ((Fb m h q).1+(k' - kq m h q))<|some 0).isSome=true;cases w:ow.getD ((Fb m h q).1+(k' - kq m h q)) (some 0) with
     | none=>rw[w] at this;cases this
     | some _=>rfl
  | none=>
   dsimp only;rw[List.find?_range_eq_none] at hf;have HQ:∀ k,k<SetTable.runEnd m (Fb m h q).1+1 - (Fb m h q).1->fb ow ((Fb m h q).1+k):=fun k hk=>by
    have:=hf k hk;unfold fb;cases w:ow.getD ((Fb m h q).1+k) (some 0) with
    | none=>rw[w] at this;cases this
    | some _=>rfl
   have ne:q'≠q:=fun e=>c (by rw[e];exact HQ 0 (by lia));refine sQ ow h fuel (q+1) (fun k' F9=>?_) ⟨q',by lia,by lia,c⟩;rcases YJ k' (kq m h q) with z | z
   ·exact hk k' z
   ·have G':k'<kq m h q+(SetTable.runEnd m (Fb m h q).1 - (Fb m h q).1)+1:=F9;have e:k'=kq m h q+(k' - kq m h q):=by lia
    rw[e,iF (iG m h q) (k' - kq m h q) (by lia)];exact HQ _ (by lia)
structure G0(m:Nat)(ow:Array (Option Nat))(ps:List Nat)(hs:List Int):Prop where
 size:ow.size=m+1
 len:ps.length=hs.length
 nd:ps.Nodup
 le:∀ j∈ps,j<=m
 own:∀ (j k:Nat),ow[j]?=some (some k)↔ps[k]?=some j
 Lg:∀ p∈ps.zip hs,J2 m (·∈ps) p.2 p.1
theorem G0.HQ(I:G0 m ow ps hs){j:Nat}(hj:j<=m):fb ow j↔j∈ps:=by
 have hl:j<ow.size:=by rw[I.size];lia
 unfold fb;rw[show ow.getD j (some 0)=ow[j] by simp[Array.getD,hl]];have e:ow[j]?=some ow[j]:=Zd hl;constructor
 ·intro z;obtain⟨k,hk⟩:=VN.mp z;rw[hk] at e;exact Zr ((I.own j k).mp e)
 ·intro z;obtain⟨k,hk⟩:=Xk z;have:=(I.own j k).mpr hk;rw[e] at this;rw[Zq this];rfl
theorem G0.step(g:GM m){ow:Array (Option Nat)}{ps:List Nat}{hs:List Int}(I:G0 m ow ps hs)(hl:hs.length<=m)(h:Int):
  ∃ j,SetTable.layClean.free m ow (SetTable.turns m) (SetTable.bits h % (m+1)) (SetTable.bits h)=some j/\G0 m (ow.setIfInBounds j<|some hs.length) (ps++[j]) (hs++[h]):=by
 have room:∃ x,x<=m/\x∉ps:=by
  refine X0 fun c=>?_;have q:=jx (l:=range (m+1)) (m:=ps) WF fun x hx=>X0 fun z=>c ⟨x,Xo<|Zi.mp hx,z⟩;rw[Zk,I.len] at q;lia
 obtain⟨x,QB,SA⟩:=room;obtain⟨q,Tw,SB⟩:=sM g h QB;obtain⟨j,f1,f2,f3,f4⟩:=sQ (m:=m) ow h (SetTable.turns m) 0 (fun k' F9=>absurd F9<|W5 _) ⟨q,Yz _,by lia,by rw[SB];exact fun z=>SA<|(I.HQ QB).mp z⟩;have hj:j∉ps:=fun z=>f3 ((I.HQ f2).mpr z);have SC:j<ow.size:=by rw[I.size];lia
 refine⟨j,f1,by rw[Array.size_setIfInBounds,I.size],by rw[ZR,ZR,I.len];rfl,?_,?_,fun j' k=>?_,?_⟩
 ·exact ZH.mpr ⟨I.nd,Zz _ _,fun a ha b hb e=>hj (by rw[<- ZZ.mp hb,<- e];exact ha)⟩
 ·intro a ha;rcases ZA.mp ha with ha | ha
  ·exact I.le a ha
  ·rw[ZZ.mp ha];exact f2
 ·rw[Array.getElem?_setIfInBounds];by_cases e:j=j'
  ·subst e;rw[ZY rfl,ZY SC];constructor
   ·intro z;cases z;rw[<- I.len,Y6<|ZV _,Ve];rfl
   ·intro z;rcases YJ k ps.length with w | w
    ·rw[Y4 w] at z;exact absurd (Zr z) hj
    ·rw[Y6 w] at z;have:k - ps.length=0:=by
      have:=(Zv.mp z).1;rw[Zp] at this;lia
     rw[show k=hs.length by rw[<- I.len];lia]
  ·rw[ZW e,I.own j' k];rcases YJ k ps.length with w | w
   ·rw[Y4 w]
   ·rw[Y6 w,YV w];constructor
    ·intro z;cases z
    ·intro z;have:=Zr z;exact absurd (ZZ.mp this) (fun z=>e z.symm)
 ·intro p hp;rw[List.zip_append I.len] at hp;rcases ZA.mp hp with hp | hp
  ·exact (I.Lg p hp).mono fun x hx=>Zw _ hx
  ·rw[V4,List.zip_nil_left] at hp;rw[ZZ.mp hp];obtain⟨k,e,a⟩:=f4;exact⟨k,e,fun k' F9=>Zw _<|(I.HQ<|sO _ _ _).mp<|a k' F9⟩
theorem sR{m:Nat}(g:GM m):∀ (rest hs:List Int) (ow:Array (Option Nat)) (ps:List Nat),G0 m ow ps hs->(hs++rest).length<=m->
  ∃ NZ O_,rest.foldl (fun (acc:Option (Array (Option Nat)×Nat)) h=>do
   let (owner,k) <- acc
   let j <- SetTable.layClean.free m owner (SetTable.turns m) (SetTable.bits h % (m+1)) (SetTable.bits h)
   pure (owner.setIfInBounds j<|some k,k+1)) (some (ow,hs.length))=some (NZ,(hs++rest).length)/\G0 m NZ O_ (hs++rest)
 | [],hs,ow,ps,I,_=>⟨ow,ps,by rw[ZO];rfl,by rw[ZO];exact I⟩
 | h::rest,hs,ow,ps,I,hl=>by
  obtain⟨j,e,I'⟩:=I.step g (by rw[ZR] at hl;lia) h;obtain⟨NZ,O_,e2,I2⟩:=sR g rest (hs++[h]) _ _ I' (by rw[Z4];exact hl);rw[Z4] at e2 I2;refine⟨NZ,O_,?_,I2⟩;rw[XY];rw[show (hs++[h]).length=hs.length+1 from ZR] at e2;refine Eq.trans (congrArg (fun z=>List.foldl _ z rest) ?_) e2;show (SetTable.layClean.free m ow (SetTable.turns m) (SetTable.bits h % (m+1))<|SetTable.bits h).bind _=_;rw[e];rfl
theorem Bd(g:GM m)(hs:Array Int)(hl:hs.size<=m):∃ ow ps,SetTable.layClean m hs=some ow/\G0 m ow ps hs.toList:=by
 have I0:G0 m (Array.replicate (m+1) none) [] []:=by
  refine⟨Array.size_replicate,rfl,YG,fun _ h=>(YB h).elim,fun j k=>⟨fun z=>?_,fun z=>?_⟩,fun _ h=>(YB h).elim⟩
  ·have:=(YT.mp z).2;rw[Array.getElem_replicate] at this;cases this
  ·simp at z
 obtain⟨ow,ps,e,I⟩:=sR g hs.toList [] _ _ I0 (by rw[Vr,ZN];exact hl);refine⟨ow,ps,?_,I⟩;unfold SetTable.layClean;rw[<- Array.foldl_toList];exact congrArg (Option.map (·.1)) e
theorem Be{p:Nat×Nat}:p∈(range<|m+1).filterMap (fun j=>(ow.getD j none).map (j,·))↔p.1<=m/\ow[p.1]?=some (some p.2):=by
 rw[W3];constructor
 ·rintro⟨j,h1,h2⟩;obtain⟨k,e1,rfl⟩:=Z2.mp h2;refine⟨Xo<|Zi.mp h1,?_⟩;show ow[j]?=some (some k);by_cases z:j<ow.size
  ·rw[show ow.getD j none=ow[j] by simp[Array.getD,z]] at e1;rw[Zd z,e1]
  ·rw[show ow.getD j none=none by simp[Array.getD,z]] at e1;cases e1
 ·rintro⟨h1,h2⟩;refine⟨p.1,Zi.mpr<|Nat.lt_succ_of_le h1,?_⟩;obtain⟨z,e⟩:=YT.mp h2;rw[show ow.getD p.1 none=ow[p.1] by simp[Array.getD,z],e];rfl
theorem sS{α β:Type}:∀ {l:List (α×β)},(l.map (·.1)).Nodup->(∀ a∈l,∀ b∈l,a.2=b.2->a.1=b.1)->(l.map (·.2)).Nodup
 | [],_,_=>YG
 | x::l,h,i=>by
  rw[ZF] at h ⊢;have h':=YO.mp h;refine YO.mpr ⟨fun z=>?_,sS h'.2 fun a ha b hb=>i a (.tail _ ha) b<|.tail _ hb⟩;obtain⟨y,hy,e⟩:=Zl.mp z;have:=i y (.tail _ hy) x (.head _) e;exact h'.1 (by rw[<- this];exact Wj hy)
theorem sT{α β γ:Type}(f:α->β)(g:α->γ):∀ l:List α,(l.map f).zip (l.map g)=l.map fun x=>(f x,g x)
 | []=>rfl
 | x::l=>congrArg (_::·) (sT f g l)
theorem Bf{wanted:Nat}(g:GM (SetTable.sizeAbove wanted - 1))(hl:es.size * 5<(SetTable.sizeAbove wanted - 1) * 3){led:Bool}(k:t.led=led):
  ∃ t' order,t.relaid (es.map (·.1)) wanted=some (t',order)/\order.toList.Perm (range es.size)/\FI t' led/\Ip t' ((order.filterMap (es[·]?)).toList.map (·.1)):=by
 obtain⟨ow,ps,e,I⟩:=Bd g (es.map (·.1)) (by rw[Vm];lia);generalize hm:SetTable.sizeAbove wanted - 1=m at *;have hL:t.relaid (es.map (·.1)) wanted=some ({ mask:=m,place:=(((range<|m+1).filterMap fun j=>(ow.getD j none).map (j,·)).map (·.1)).toArray,dummies:=#[],finger:=t.finger,led:=t.led,moves:=t.movedTo m,plain:=t.plain },(((range<|m+1).filterMap fun j=>(ow.getD j none).map (j,·)).map (·.2)).toArray):=by
  unfold SetTable.relaid SetTable.laid;rw[hm,e];rfl
 have GO:=fun (p:Nat×Nat)=>Be (m:=m) (ow:=ow) (p:=p);have rise:(((range<|m+1).filterMap fun j=>(ow.getD j none).map (j,·)).map (·.1)).Pairwise (· < ·):=by
  have:=(A3 (t:=_) (o:=_) hL);exact this.rise
 generalize SE:(range<|m+1).filterMap (fun j=>(ow.getD j none).map (j,·))=L at hL GO rise;have pos:∀ p∈L,ps[p.2]?=some p.1:=fun p hp=>(I.own _ _).mp ((GO p).mp hp).2;have lt:∀ p∈L,p.2<es.size:=fun p hp=>by
  have:=(Zv.mp<|pos p hp).1;rw[I.len,ZN,Vm] at this;exact this
 have K9:(L.map (·.1)).Nodup:=rise.imp fun h=>Zx h;have Hn:(L.map (·.2)).Nodup:=sS K9 fun a ha b hb e=>by
  have h1:=pos a ha;have h2:=pos b hb;rw[e] at h1;exact Zq (h1.symm.trans h2)
 have perm:(L.map (·.2)).Perm (range es.size):=by
  refine (V3 Hn WF).mpr fun x=>?_;rw[Zi];constructor
  ·intro h;obtain⟨p,hp,rfl⟩:=Zl.mp h;exact lt p hp
  ·intro h;have hx:x<ps.length:=by rw[I.len,ZN,Vm];exact h
   have h1:ps[x]?=some ps[x]:=Z0 hx;exact Zl.mpr ⟨(ps[x],x),(GO _).mpr ⟨I.le _<|WE hx,(I.own _ _).mpr h1⟩,rfl⟩
 have hlen:L.length=es.size:=by
  have:=perm.length_eq
  rwa [Z3,Zk] at this
 have QC:((L.map (·.2)).filterMap (es[·]?)).map (·.1)=L.map fun p=>(es.getD p.2 (0,.none)).1:=by
  clear GO rise pos K9 Hn perm hlen hL SE;induction L with
  | nil=>rfl
  | cons p L ih=>
   have hp:=lt p (.head _);rw[ZF,W9<|Zd hp,ZF,ZF,ih fun q hq=>lt q<|.tail _ hq];congr 1;simp[Array.getD,hp]
 refine⟨_,_,hL,?_,⟨?_,rfl,k⟩,⟨g,?_,?_,?_,?_⟩⟩
 ·exact perm
 ·exact rise
 ·rw[WO];show (L.map (·.1)).toArray.size=(((L.map (·.2)).filterMap (es[·]?)).map (·.1)).length;rw[QC,ZQ,Z3,Z3]
 ·show (L.map (·.1)).toArray.size * 5<m * 3;rw[ZQ,Z3,hlen];exact hl
 ·intro j hj;obtain⟨p,hp,rfl⟩:=Zl.mp hj;exact ((GO p).mp hp).1
 ·rw[WO];show ∀ p∈(L.map (·.1)).zip (((L.map (·.2)).filterMap (es[·]?)).map (·.1)),J2 m (·∈L.map (·.1)) p.2 p.1;rw[QC,sT];intro p hp;obtain⟨q,hq,rfl⟩:=Zl.mp hp;have h1:=pos q hq;have h2:((es.map (·.1)).toList)[q.2]?=some (es.getD q.2 (0,.none)).1:=by
   have:=lt q hq;rw[ZD,Array.getElem?_map,Zd this];simp[Array.getD,this]
  have hz:(q.1,(es.getD q.2 (0,.none)).1)∈ps.zip (es.map (·.1)).toList:=by
   refine Zr (i:=q.2) ?_;rw[Xe];exact⟨h1,h2⟩
  refine (I.Lg _ hz).mono fun x hx=>?_;obtain⟨k,hk⟩:=Xk hx;exact Zl.mpr ⟨(x,k),(GO _).mpr ⟨I.le x hx,(I.own _ _).mpr hk⟩,rfl⟩
theorem Bg(g:GM m)(h1:n * 5<m * 3)(h2:(n+1) * 5 >= m * 3)(h3:n+1<=300):GM (SetTable.sizeAbove (SetTable.grown<|n+1) - 1)/\(n+1) * 5<(SetTable.sizeAbove (SetTable.grown<|n+1) - 1) * 3/\SetTable.sizeAbove (SetTable.grown<|n+1)<=512:=by
 rcases g with rfl | rfl | rfl | rfl
 ·rw[show n=4 by lia];exact⟨.inr (.inl (by decide)),by decide,by decide⟩
 ·rw[show n=18 by lia];exact⟨.inr (.inr (.inl (by decide))),by decide,by decide⟩
 ·rw[show n=76 by lia];exact⟨.inr (.inr (.inr (by decide))),by decide,by decide⟩
 ·lia
section
variable{prog:Program}{w:World}{A:Around}{E:Value->Shared->Prop}{s:Shared}
end
section
variable{prog:Program}{w:World}
theorem sU:∀ (n:Nat) {A:Around}{E:Value->Shared->Prop}{s:Shared}{d:Im}{v:Value}{Q:Bool->Shared->Prop},Im.key n d=true->FF s.heap d v->(∀ b,Q b s)->wpAny (model prog w) A (hashByValue n v) Q E s
 | n,A,E,s,.int i,v,Q,_,hv,h=>by
  obtain⟨t,rfl⟩:=hv;rw[show hashByValue n (.int i t)=pure true from by cases n<;>rfl];exact Z6 (h _)
 | n,A,E,s,.str i,v,Q,_,hv,h=>by
  obtain⟨t,rfl⟩:=hv;rw[show hashByValue n (.str i t)=pure false from by cases n<;>rfl];exact Z6 (h _)
 | n+1,A,E,s,.tup ds,v,Q,k,hv,h=>by
  obtain⟨a,o,items,m,rfl,ho,hc,hd,hi⟩:=hv;have hT:s.TypeIs (.ref a) "tuple" := ⟨o,ho,hc⟩;unfold hashByValue;refine Z9 (W8 hT Xs.lookup ?_);show wpAny _ _ (seqItems? (.ref a) >>= _) _ _ s;refine Z9 (Y9 ho hd ?_);refine Z9 ?_;show wpAny _ _ (forIn items _ _) _ _ s;rw[<- W4];rw[Im.key] at k;refine XL _ (fun rest r s'=>s'=s/\∃ left,Im.keys n left=true/\aU s.heap left rest) _ ?_ ?_ _ _ ⟨rfl,ds,k,hi⟩
  ·rintro v rest r s' ⟨rfl,left,hk,hl⟩;cases left with
   | nil=>cases (show v::rest=[] from hl)
   | cons d left=>
    obtain⟨v',r',e,h1,Gn⟩:=hl;cases e;rw[Im.keys,ZU] at hk;refine Z9 (sU n hk.1 h1 fun b=>?_);cases b
    ·show wpAny _ _ (pure<|ForInStep.done _) _ _ _;exact Z6 (Z6<|h _)
    ·show wpAny _ _ (pure<|ForInStep.yield _) _ _ _;exact Z6 ⟨rfl,left,hk.2,Gn⟩
  ·rintro⟨r1,r2⟩ s' ⟨rfl,_⟩;cases r1 with
   | none=>exact Z6 (h _)
   | some b=>exact Z6 (h _)
 | _,_,_,_,.l_,_,_,k,_,_=>by cases ‹Nat›<;>cases k
 | _,_,_,_,.bl _,_,_,k,_,_=>by cases ‹Nat›<;>cases k
 | _,_,_,_,.fn _,_,_,k,_,_=>by cases ‹Nat›<;>cases k
 | _,_,_,_,.fl _,_,_,k,_,_=>by cases ‹Nat›<;>cases k
 | _,_,_,_,.fd,_,_,k,_,_=>by cases ‹Nat›<;>cases k
 | 0,_,_,_,.tup _,_,_,k,_,_=>by cases k
theorem nN:∀ (n:Nat) {A:Around}{E:Value->Shared->Prop}{s:Shared}{d:Im}{v:Value}{Q:Bool->Shared->Prop},Im.key n d=true->FF s.heap d v->Q false s->wpAny (model prog w) A (ofAClassStatement n v) Q E s
 | n,A,E,s,.int i,v,Q,_,hv,h=>by
  obtain⟨t,rfl⟩:=hv;rw[show ofAClassStatement n (.int i t)=pure false from by cases n<;>rfl];exact Z6 h
 | n,A,E,s,.str i,v,Q,_,hv,h=>by
  obtain⟨t,rfl⟩:=hv;rw[show ofAClassStatement n (.str i t)=pure false from by cases n<;>rfl];exact Z6 h
 | n+1,A,E,s,.tup ds,v,Q,k,hv,h=>by
  obtain⟨a,o,items,m,rfl,ho,hc,hd,hi⟩:=hv;have hT:s.TypeIs (.ref a) "tuple" := ⟨o,ho,hc⟩;unfold ofAClassStatement;refine Z9 (Xh hT ?_);dsimp only;rw[ZY (show ("tuple" == "tuple")=true by decide)];refine Z9 (Z6 ?_);simp only[Xb,Zg,Yr];refine Z9 (Y9 ho hd ?_);dsimp only;refine Z9 ?_;show wpAny _ _ (forIn items _ _) _ _ s;rw[<- W4];rw[Im.key] at k;refine XL _ (fun rest r s'=>r.1=none/\s'=s/\∃ left,Im.keys n left=true/\aU s.heap left rest) _ ?_ ?_ _ _ ⟨rfl,rfl,ds,k,hi⟩
  ·rintro v rest r s' ⟨hr,rfl,left,hk,hl⟩;cases left with
   | nil=>cases (show v::rest=[] from hl)
   | cons d left=>
    obtain⟨v',r',e,h1,Gn⟩:=hl;cases e;rw[Im.keys,ZU] at hk;refine Z9 (nN n hk.1 h1 ?_);simp only[Zg,Yr];exact Z6 ⟨rfl,rfl,left,hk.2,Gn⟩
  ·rintro⟨r1,r2⟩ s' ⟨hr,rfl,_⟩;simp only at hr;subst hr;exact Z6 h
 | _,_,_,_,.l_,_,_,k,_,_=>by cases ‹Nat›<;>cases k
 | _,_,_,_,.bl _,_,_,k,_,_=>by cases ‹Nat›<;>cases k
 | _,_,_,_,.fn _,_,_,k,_,_=>by cases ‹Nat›<;>cases k
 | _,_,_,_,.fl _,_,_,k,_,_=>by cases ‹Nat›<;>cases k
 | _,_,_,_,.fd,_,_,k,_,_=>by cases ‹Nat›<;>cases k
 | 0,_,_,_,.tup _,_,_,k,_,_=>by cases k
theorem Bh{A:Around}{E:Value->Shared->Prop}{x:Addr}{Q:Bool->Shared->Prop}(hx:(bD prog w).is s.heap k x){vs:List Value}(hv:∀ v∈vs,∃ b k',v=.ref b/\(bD prog w).is s.heap k' b)(h:Q false s):
  wpAny (model prog w) A (searchCouldBeSeen (.ref x) vs) Q E s:=by
 unfold searchCouldBeSeen;refine Z9 ?_;refine XL _ (fun rest r s'=>r.1=none/\s'=s/\∀ v∈rest,∃ b k',v=.ref b/\(bD prog w).is s.heap k' b) _ ?_ ?_ _ _ ⟨rfl,rfl,hv⟩
 ·rintro v rest r s' ⟨hr,rfl,hl⟩;obtain⟨b,k',rfl,hb⟩:=hl v (.head _);have Gn:∀ v∈rest,∃ b k',v=.ref b/\(bD prog w).is s'.heap k' b:=fun v hv=>hl v (.tail _ hv);dsimp only;cases Tx:(x == b) with
  | true=>
   simp only[Bool.true_or,Xr];exact Z6 ⟨rfl,rfl,Gn⟩
  | false=>
   simp only[Bool.false_or];rw[ZW (show ¬ ((carriedByValue (Value.ref x) && carriedByValue (Value.ref b))=true) from fun z=>ZM z)];refine Z9 (j9 8 (d:=.tup _) hx.1 hx.2 ?_);simp only[Xb,Zg,Yr];refine Z9 (j9 8 (d:=.tup _) hb.1 hb.2 ?_);simp only[Xb,Zg,Yr];refine Z9 (nN 8 (d:=.tup _) hx.1 hx.2 ?_);simp only[Zg,Yr];refine Z9 (nN 8 (d:=.tup _) hb.1 hb.2 ?_);simp only[Zg,Yr];exact Z6 ⟨rfl,rfl,Gn⟩
 ·rintro⟨r1,r2⟩ s' ⟨hr,rfl,_⟩;simp only at hr;subst hr;exact Z6 h
end
section
variable(w:World)(P:List Im->Addr->Prop)
def lu(z:List Im×Int×Value):Prop:=∃ b,z.2.2=.ref b/\z.2.1=Fm w (.tup z.1)/\P z.1 b
structure FQ(es:Array (Int×Value))(t:SetTable)(led:Bool)(ks:List (List Im)):Prop where
 LL:∃ zs:List (List Im×Int×Value),zs.map (·.2)=es.toList/\(zs.map (·.1)).Perm ks/\∀ z∈zs,lu w P z
 tab:FI t led
 ht:Ip t (es.toList.map (·.1))
 nd:ks.Nodup
def bE(h:Heap)(a:Addr)(led:Bool)(ks:List (List Im)):Prop:=∃ o es ep t,h.get? a=some o/\o.ExactSet/\o.data=.set es ep t/\FQ w P es t led ks
end
section
variable{prog:Program}{w:World}{P:List Im->Addr->Prop}{A:Around}{E:Value->Shared->Prop}
theorem FQ.size(D:FQ w P es t led ks):t.place.size=es.size:=by
 rw[D.ht.len,Z3,ZN]
theorem FQ.fit(D:FQ w P es t led ks):t.fits es.size=true:=by
 have:=D.ht.loose;unfold SetTable.fits SetTable.fill;rw[D.tab.LJ,D.size,ZU,WH,YW];rw[D.size] at this;exact⟨rfl,by show es.size+0<=_;lia⟩
theorem FQ.num(D:FQ w P es t led ks):es.size=ks.length:=by
 obtain⟨zs,h1,h2,_⟩:=D.LL;rw[<- h2.length_eq,Z3,<- ZN,<- h1,Z3]
theorem sV(r:cV xs){i i' j:Nat}(a:xs[i]?=some j)(b:xs[i']?=some j):i=i':=by
 rw[<- nH r a,<- nH r b]
theorem Bi{M:Model}{c:Bool}{m:Sem Bool}{u r:Sem α}{Q:α->Shared->Prop}(h1:∀ Q':Bool->Shared->Prop,Q' false s->wpAny M A m Q' E s)(h2:wpAny M A r Q E s):
  wpAny M A (if c=true then (do let b <- m;if b=true then u else r) else r) Q E s:=by
 cases c
 ·rw[ZW ZM];exact h2
 ·rw[ZY rfl];refine Z9 (h1 _ ?_);rw[ZW ZM];exact h2
theorem sW{a x:Addr}{k:List Im}{led:Bool}{ks:List (List Im)}{o:Obj}{es:Array (Int×Value)}{ep:Nat}{t:SetTable}{s:Shared}{Q:SetFound->Shared->Prop}{zs:List (List Im×Int×Value)}(hu:A.units+20<cLine)(ho:s.heap.get? a=some o)(hd:o.data=.set es ep t)(D:FQ w P es t led ks)(hx:(bD prog w).is s.heap k x)(Iq:∀ q b,P q b->(bD prog w).is s.heap q b)(z1:zs.map (·.2)=es.toList)(z2:(zs.map (·.1)).Perm ks)(z3:∀ z∈zs,lu w P z)(Jg:k∈ks->Q (.there none) s)(He:k∉ks->∀ kk,(E3 t.mask (Fm w<|.tup k) kk).j∉t.place.toList->(∀ k',k'<kk->(E3 t.mask (Fm w<|.tup k) k').j∈t.place.toList)->Q (.free (E3 t.mask (Fm w<|.tup k) kk).j false) s){kE:Nat}(hE:(E3 t.mask (Fm w<|.tup k) kE).j∉t.place.toList)(N0:kE<10 * SetTable.turns t.mask):
  ∀ (fuel k0:Nat) (st:Option SetTable.Probe),st.getD (t.probeStart<|Fm w<|.tup k)=E3 t.mask (Fm w<|.tup k) k0->kE<k0+fuel->(∀ k',k'<k0->(E3 t.mask (Fm w<|.tup k) k').j∈t.place.toList)->
   (∀ (i k':Nat),k'<k0->t.place[i]?=some (E3 t.mask (Fm w<|.tup k) k').j->(zs.map (·.1))[i]?≠some k)->
   wpAny (model prog w) A (setSearchFrom a (.ref x) (Fm w<|.tup k) true fuel st) Q E s
 | 0,k0,st,_,hf,hk,_=>by
  refine absurd (hk kE (by lia)) hE
 | fuel+1,k0,st,JE,hf,hk,hs=>by
  have SF:k0<=kE:=by
   rcases YJ kE k0 with z | z
   ·exact absurd (hk kE z) hE
   ·exact z
  have hz:zs.length=es.size:=by rw[<- ZN,<- z1,Z3]
  have hash:∀ (i:Nat) (q:List Im),(zs.map (·.1))[i]?=some q->∃ e b,es[i]?=some e/\e.2=.ref b/\e.1=Fm w (.tup q)/\(bD prog w).is s.heap q b:=fun i q hq=>by
   obtain⟨z,e1,e2⟩:=Z2.mp (by rw[ZB] at hq;exact hq);obtain⟨b,c1,c3,c2⟩:=z3 z (Zr e1);subst e2;refine⟨z.2,b,?_,c1,c3,Iq _ _ c2⟩;rw[<- ZD,<- z1,ZB,e1];rfl
  unfold setSearchFrom;refine Z9 (YI ho hd D.fit ?_);dsimp only;rw[ZW (by unfold SetTable.gaveWay;rw[WH];have:=D.ht.gm.pos;lia)];rw[JE];unfold SetTable.probe;obtain⟨k1,g1,g2,g3⟩:=sP D.tab.rise D.tab.LJ (fun i=>(es[i]?.map (·.1)).getD 0) (Fm w<|.tup k) (10 * SetTable.turns t.mask) k0 ⟨kE,SF,by lia,hE⟩;have HQ:∀ k',k'<k1->(E3 t.mask (Fm w<|.tup k) k').j∈t.place.toList:=fun k' F9=>by
   rcases YJ k' k0 with z | z
   ·exact hk k' z
   ·obtain⟨i,h1,_⟩:=g2 k' z F9;rw[<- ZD] at h1;exact Zr h1
  have Ks:∀ (i k':Nat),k'<k1->t.place[i]?=some (E3 t.mask (Fm w<|.tup k) k').j->(zs.map (·.1))[i]?≠some k:=fun i k' F9 hp hq=>by
   rcases YJ k' k0 with z | z
   ·exact hs i k' z hp hq
   ·obtain⟨i',h1,h2⟩:=g2 k' z F9;have:=sV D.tab.rise hp h1;subst this;obtain⟨e,b,c1,c2,c3,c4⟩:=hash i k hq;rw[c1] at h2;exact h2 c3
  generalize hg:SetTable.probe.go t _ (Fm w<|.tup k) _ (E3 t.mask (Fm w<|.tup k) k0)=g;rcases g3 with ⟨e,hn⟩ | ⟨i,e,e2,e3,e4⟩
  ·cases hg.symm.trans e;refine Z6 (He (fun SG=>?_) k1 hn HQ);have Pa:=z2.mem_iff.mpr SG;obtain⟨i,hi⟩:=Xk Pa;obtain⟨e,b,c1,c2,c3,c4⟩:=hash i k hi;have GG:i<es.size:=(YT.mp c1).1;have hp:t.place[i]?=some (t.place[i]'(by rw[D.size];exact GG)):=Zd (by rw[D.size];exact GG);have hm:(t.place[i]'(by rw[D.size];exact GG),Fm w<|.tup k)∈t.place.toList.zip (es.toList.map (·.1)):=by
    refine Zr (i:=i) ?_;rw[Xe];refine⟨by rw[ZD];exact hp,?_⟩;rw[ZB,ZD,c1,<- c3];rfl
   obtain⟨ki,r1,r2⟩:=D.ht.Lg _ hm;have Gb:ki<k1:=by
    rcases WP ki k1 with z | z | z
    ·exact z
    ·refine absurd ?_ hn;rw[<- z,r1];exact Array.getElem_mem_toList ..
    ·exact absurd (r2 k1 z) hn
   exact Ks i ki Gb (by rw[hp,r1]) hi
  ·cases hg.symm.trans e;have GG:i<zs.length:=by rw[hz,<- D.size];exact (YT.mp e3).1
   have QD:(zs.map (·.1))[i]?=some zs[i].1:=by rw[ZB,Z0 GG];rfl
   obtain⟨en,b,c1,c2,c3,c4⟩:=hash i _ QD;dsimp only;refine Bi (fun Q' q=>Bh hx (fun v hv=>?_) q) ?_
   ·obtain⟨e',SH,rfl⟩:=Zl.mp hv;have ME:e'∈es.toList:=Array.mem_toList_iff.mpr (Array.mem_filter.mp<|Array.mem_toList_iff.mp SH).1;rw[<- z1] at ME;obtain⟨z,SI,rfl⟩:=Zl.mp ME;obtain⟨b',d1,_,d2⟩:=z3 z SI;exact⟨b',z.1,d1,Iq _ _ d2⟩
   ·obtain⟨eh,ev⟩:=en;cases c2;rw[c1];dsimp only;refine Z9 (YY ((bD prog w).eqBool (show A.units+10<cLine by lia) c4 hx ?_));refine Z9 (YI ho hd D.fit ?_);by_cases hq:zs[i].1=k
    ·rw[Zu hq,ZY<|show (true && true)=true from rfl];exact Z6 (Jg (z2.mem_iff.mp (by rw[<- hq];exact Wj (WE GG))))
    ·rw[Zs hq,ZW (by decide)];dsimp only;rw[show t.sameMemory t.moves t.mask=some true by unfold SetTable.sameMemory;rw[ZY (Yp _)]];dsimp only;rw[ZY rfl,e2];dsimp only;rw[c1];dsimp only;refine Z9 (wpAny_isSame_ref_self<|Z9<|Z6 ?_);rw[ZY rfl];dsimp only;rw[ZW ZM];refine sW hu ho hd D hx Iq z1 z2 z3 Jg He hE N0 fuel (k1+1) _ rfl (by lia) (fun k' F9=>?_) fun i' k' F9 hp=>?_
     ·rcases YJ k' k1 with z | z
      ·exact HQ k' z
      ·rw[show k'=k1 by lia];rw[<- ZD] at e3;exact Zr e3
     ·rcases YJ k' k1 with z | z
      ·exact Ks i' k' z hp
      ·rw[show k'=k1 by lia] at hp;have:=sV D.tab.rise hp e3;subst this;rw[QD];exact fun e=>hq (Zq e)
end
def cJ(ks:List (List Im))(k:List Im):List (List Im):=if k∈ks then ks else ks++[k]
section
variable{prog:Program}{w:World}{P:List Im->Addr->Prop}{A:Around}{E:Value->Shared->Prop}{s:Shared}
structure Ir(w:World)(P:List Im->Addr->Prop)(es:Array (Int×Value))(t:SetTable)(led:Bool)(ks:List (List Im))(n:Nat):Prop where
 LL:∃ zs:List (List Im×Int×Value),zs.map (·.2)=es.toList/\(zs.map (·.1)).Perm ks/\∀ z∈zs,lu w P z
 tab:FI t led
 gm:GM t.mask
 len:t.place.size=es.size
 le:∀ j∈t.place.toList,j<=t.mask
 Lg:∀ p∈t.place.toList.zip (es.toList.map (·.1)),J2 t.mask (·∈t.place.toList) p.2 p.1
 nd:ks.Nodup
 sz:es.size=n+1
 QE:n * 5<t.mask * 3
theorem Ir.Ld(D:Ir w P es t led ks n):t.fits es.size=true:=by
 have:=D.QE;have:=D.gm.pos;unfold SetTable.fits SetTable.fill;rw[D.tab.LJ,D.len,D.sz,ZU,WH,YW];exact⟨rfl,by show n+1+0<=_;lia⟩
theorem Ir.done(D:Ir w P es t led ks n)(hf:¬ ((n+1) * 5 >= t.mask * 3)):FQ w P es t led ks:=
 ⟨D.LL,D.tab,⟨D.gm,by rw[D.len,Z3,ZN],by rw[D.len,D.sz];lia,D.le,D.Lg⟩,D.nd⟩
theorem sX{es':Array (Int×Value)}{t':SetTable}(ho:h.get? a=some o)(hd:o.data=.set es ep t):
  (h.update a<|Obj.putSet es' t').get? a=some { o with data:=.set es' (ep+1) t' }:=by
 have:=Yy (Obj.putSet es' t') ho (by rw[putSet_of es' t' hd];rfl);rw[putSet_of es' t' hd] at this;exact this
theorem nO{α β:Type}(f:α->β)(l:List α)(m:List β)(hm:l.map f=m):∀ is:List Nat,(is.filterMap (l[·]?)).map f=is.filterMap (m[·]?)
 | []=>rfl
 | i::is=>by
  subst hm;rw[Yg,Yg,ZB];cases l[i]? with
  | none=>exact nO f l _ rfl is
  | some x=>exact congrArg (f x::·) (nO f l _ rfl is)
theorem sY(l:List α):(range l.length).filterMap (l[·]?)=l:=by
 have:=filterMap_getElem?_range l.toArray;simpa using this
theorem nP{es HR : Array (Int × Value)}{t1:SetTable}{R : Bool -> Shared -> Prop}(ho : s.heap.get? a = some o)(hex : o.ExactSet)(hd : o.data = .set es ep t)(hn : es.size = n)(hl : n + 1 <= 300)(D : Ir w P HR t1 led ks n)(h : ∀ h', Heap.SameBut a s.heap h' -> bE w P h' a led ks -> R true { s with heap := h' }):
    wpAny (model prog w) A (do
        storeSet a HR t1
        if (!false && t1.tooFull) = true then do
            setRelay a (SetTable.grown<|es.size + 1)
            pure true
          else pure true) R E s := by
  refine Z9 (wpAny_storeSet_of ho hd ?_ (by rw [D.sz]; exact Zn hl (by decide)));have Kq := sX (es' := HR) (t' := t1) ho hd;have O9 := YM s.heap a (Obj.putSet HR t1);have ef : t1.tooFull = decide ((n + 1) * 5 >= t1.mask * 3) := by
    unfold SetTable.tooFull SetTable.fill;rw [D.tab.LJ, D.len, D.sz];rfl
  by_cases hf : (n + 1) * 5 >= t1.mask * 3
  · rw [ef, Zu hf, ZY<|show (!false && true) = true from rfl]
    obtain ⟨g1, g2, g3⟩ := Bg D.gm D.QE hf hl;unfold setRelay;refine Z9 (Z9<|YI Kq rfl D.Ld ?_);dsimp only;rw [hn, ZW (fun z => absurd (Zt z g3) (by decide))];obtain ⟨t', order, r1, r2, r3, r4⟩ := Bf (t := t1) (es := HR) (wanted := SetTable.grown (n + 1)) g1 (by rw [D.sz]; exact g2) D.tab.led;rw [r1];have eo : (order.filterMap (HR[·]?)).toList = order.toList.filterMap (HR.toList[·]?) := by
      rw [WO];simp
    have hp : (order.filterMap (HR[·]?)).toList.Perm HR.toList := by
      rw [eo];refine (r2.filterMap _).trans ?_;rw [<- ZN, sY]
    have hsz : (order.filterMap (HR[·]?)).size = HR.size := by rw [<- ZN, hp.length_eq, ZN]
    refine Z9 (m := if ((order.filterMap (HR[·]?)).size != HR.size) = true then _ else _) ?_;rw [hsz, ZW (by simp)];refine Z6 ?_;dsimp only;refine wpAny_storeSet_of Kq rfl ?_ (by rw [hsz, D.sz]; exact Zn hl (by decide));refine Z6 (h _ (O9.trans<|YM _ a _) ⟨_, _, _, _, sX Kq rfl, hex, rfl, ?_, r3, r4, D.nd⟩);obtain ⟨zs, z1, z2, z3⟩ := D.LL;refine ⟨order.toList.filterMap (zs[·]?), ?_, ?_, fun z hz => ?_⟩
    · rw [eo]
      exact nO (·.2) zs _ z1 _
    · refine (Vj _ ?_).trans z2
      refine (r2.filterMap _).trans ?_;rw [show HR.size = zs.length by rw [<- ZN, <- z1, Z3], sY]
    · obtain ⟨i, _, e⟩ := W3.mp hz
      exact z3 z (Zr e)
  · rw [ef, Zs hf, ZW (show ¬ ((!false && false) = true) from by decide)]
    refine Z6 (h _ O9 ⟨_, _, _, _, Kq, hex, rfl, D.done hf⟩)
theorem Bj{x:Addr}{Q:Bool->Shared->Prop}(hu:A.units+20<cLine)(S:bE w P s.heap a led ks)(hx:(bD prog w).is s.heap k x)(hP:P k x)(Iq:∀ q b,P q b->(bD prog w).is s.heap q b)(hl:ks.length+1<=300)(h:∀ b h',Heap.SameBut a s.heap h'->bE w P h' a led (cJ ks k)->Q b { s with heap:=h' }):
  wpAny (model prog w) A (setAddHashed a (.ref x)<|Fm w<|.tup k) Q E s:=by
 obtain⟨o,es,ep,t,ho,hex,hd,D⟩:=S;have D0:=D;obtain⟨zs,z1,z2,z3⟩:=D.LL;obtain⟨kE,N0,hE⟩:=D.ht.some (Fm w<|.tup k);have QF:=D.ht.gm.pos;unfold setAddHashed setAddHashedIn;refine YY (Z9<|YI ho hd D.fit ?_);dsimp only;rw[ZW (show ¬ (byScan (Value.ref x) es=true) from fun z=>ZM z)];unfold setSearch;refine Z9 (sW hu ho hd D hx Iq z1 z2 z3 (fun hk=>?_) (fun hk kk hn ha=>?_) hE N0 100000 0 none rfl (by unfold SetTable.turns at N0;lia) (fun k' z=>absurd z<|W5 _) fun i k' z=>absurd z<|W5 _)
 ·refine Z6 ?_;have e:s={ s with heap:=s.heap }:=by cases s;rfl
  rw[e];refine h _ _ (Heap.SameBut.refl a s.heap) ?_;rw[cJ,ZY hk];exact⟨o,es,ep,t,ho,hex,hd,D⟩
 ·dsimp only;refine Z9 (YI ho hd D.fit ?_);dsimp only;obtain⟨p1,p2⟩:=D.ht.put (h:=Fm w (.tup k)) hn ha;have SJ:¬ (t.place[SetTable.below t.place (E3 t.mask (Fm w<|.tup k) kk).j]?=some (E3 t.mask (Fm w<|.tup k) kk).j):=fun z=>hn (by rw[<- ZD] at z;exact Zr z);have Pb:=D.tab.put SJ;have hD:∀ b:Bool,Ir w P (SetTable.insertAt es (t.put (E3 t.mask (Fm w<|.tup k) kk).j).2 (Fm w<|.tup k,.ref x)) { (t.put (E3 t.mask (Fm w<|.tup k) kk).j).1 with plain:=b } led (ks++[k]) es.size:=fun b=>by
   have e1:(SetTable.insertAt es (t.put (E3 t.mask (Fm w<|.tup k) kk).j).2 (Fm w<|.tup k,Value.ref x)).toList=_:=nM _ _ _;have e2:(t.put (E3 t.mask (Fm w<|.tup k) kk).j).1.place.toList=_:=nM _ _ _;have hsz:(SetTable.insertAt es (t.put (E3 t.mask (Fm w<|.tup k) kk).j).2 (Fm w<|.tup k,Value.ref x)).size=es.size+1:=by
    rw[<- ZN,e1,ZR,ZJ,Zc,Zm,ZN];lia
   refine⟨⟨zs.take (t.put (E3 t.mask (Fm w<|.tup k) kk).j).2++(k,Fm w<|.tup k,.ref x)::zs.drop (t.put (E3 t.mask (Fm w<|.tup k) kk).j).2,?_,?_,fun z hz=>?_⟩,Pb.Jf b,D.ht.gm,?_,p1,?_,?_,hsz,?_⟩
   ·rw[e1,<- z1,Y7,ZF,Yx,YE]
   ·rw[Y7,ZF,Yx,YE];refine List.perm_middle.trans ?_;rw[Zy];exact (z2.cons k).trans (ZT (l₁:=[k]))
   ·rcases jy.mp hz with rfl | hz
    ·exact⟨x,rfl,rfl,hP⟩
    ·exact z3 z hz
   ·show (t.put (E3 t.mask (Fm w<|.tup k) kk).j).1.place.size=_;rw[hsz,<- ZN,e2,ZR,ZJ,Zc,Zm,ZN,D.size];lia
   ·rw[e1,Y7,ZF,Yx,YE];exact p2
   ·exact ZH.mpr ⟨D.nd,Zz _ k,fun y hy z hz=>by cases ZZ.mp hz;exact fun e=>hk<|e ▸ hy⟩
   ·have:=D.ht.loose;rw[D.size] at this;exact this
  have FW:∀ h',Heap.SameBut a s.heap h'->bE w P h' a led (ks++[k])->Q true { s with heap:=h' }:=fun h' MN hS=>h true h' MN (by rw[cJ,ZW hk];exact hS);have LY:es.size+1<=300:=by rw[D.num];exact hl
  split
  ·refine Z9 (sU 8 (d:=.tup k) hx.1 hx.2 fun b=>?_);cases b
   ·exact nP ho hex hd rfl LY (hD false) FW
   ·exact nP ho hex hd rfl LY (hD _) FW
  ·refine Z9 (Z6 ?_);exact nP ho hex hd rfl LY (hD _) FW
end
def cW(w:World):Bool:=!w.params.followText "set-order"
def fc(led:Bool):Obj:={ cls:=.type "set",dict:=none,data:=.set #[] 0 (.fresh 0 0 led) }
theorem Bk:isSubtype (.type "tuple") (.type "set")=pure false:=by rw[WN];kernel_rfl
theorem Bl:isSubtype (.type "tuple") (.type "frozenset")=pure false:=by rw[WN];kernel_rfl
section
variable{prog:Program}{w:World}{A:Around}{E:Value->Shared->Prop}{s:Shared}
theorem Bm(a:Value){Q₁:Value->Shared->Prop}(h:Q₁ (.ref s.heap.objs.size) { s with heap:=s.heap.push (fc<|cW w) }):
  codeAny (model prog w) A (.call (.builtin "set.__new__") ⟨[.type "set",a],[]⟩) (wants Q₁ E) s:=by
 refine codeAny_of_tree ?_;show wpAny _ A.in1 (do checkBuiltinCall "set.__new__" ⟨[.type "set",a],[]⟩;again (.builtin "set.__new__" ⟨[.type "set",a],[]⟩)) _ _ s;refine Z9 (Vo (PySem.F.newCall_set_1 a)<|Z6 ⟨Wu PySem.F.plain_set_new _,Xu PySem.F.entry_set_new ?_⟩);rw[XU PySem.F.plain_set_new _];unfold Builtin.«set.__new__» Builtin.Frozenset.newClass;have K8:=sub_set_self;obtain⟨hp,g,d,tk,os⟩:=s;dsimp only
 wp_walk
 refine VC (Z6 ?_);dsimp only;simp only[newObj];refine Z9 (wpAny_alloc<|Z6 ?_);exact Z6 h
end
section
variable{prog:Program}{w:World}{A:Around}{E:Value->Shared->Prop}{s:Shared}
end
theorem jz:Slot "set_iterator" "__next__" "set_iterator.__next__" :=
 .of (owner := "set_iterator") (n := "__next__") (by rw[typeLookup_type,builtinLookup_eq_fast];kernel_rfl) (by decide +kernel) (by decide +kernel) (by decide +kernel)
  (by first | exact .inl (by decide +kernel) | exact .inr (by decide +kernel)) (by rw[WN];kernel_rfl)
theorem Bn:entryFor table "set_iterator.__next__" = some Builtin.«set_iterator.__next__»:=entryFor_of_tree (by kernel_rfl)
theorem sZ:Manifest.owners.lookup (String.ofList ['r','o','t','a','r','e','t','i','_','t','e','s'].reverse)=some Manifest.sig_set_iterator:=by kernel_rfl
theorem Bo(a:Value):argsOk "set_iterator.__next__" ⟨[a],[]⟩:=by
 unfold argsOk;rw[signature?_of (id := "set_iterator.__next__") (n:=['_','_','t','x','e','n','_','_']) (o:=['r','o','t','a','r','e','t','i','_','t','e','s']) (by kernel_rfl) sZ];kernel_rfl
theorem Bp:entryFor table "set.__iter__" = some Builtin.«frozenset.__iter__»:=
 entryFor_alias (id' := "frozenset.__iter__") (by kernel_rfl) rfl (by decide +kernel) (by kernel_rfl)
theorem tj:Slot "set_iterator" "__iter__" "set_iterator.__iter__" :=
 .of (owner := "set_iterator") (n := "__iter__") (by rw[typeLookup_type,builtinLookup_eq_fast];kernel_rfl) (by decide +kernel) (by decide +kernel) (by decide +kernel)
  (by first | exact .inl (by decide +kernel) | exact .inr (by decide +kernel)) (by rw[WN];kernel_rfl)
theorem Bq(a:Value):argsOk "set_iterator.__iter__" ⟨[a],[]⟩:=by
 unfold argsOk;rw[signature?_of (id := "set_iterator.__iter__") (n:=['_','_','r','e','t','i','_','_']) (o:=['r','o','t','a','r','e','t','i','_','t','e','s']) (by kernel_rfl) sZ];kernel_rfl
theorem Br:entryFor table "set_iterator.__iter__" = some Builtin.«dict_keyiterator.__iter__»:=
 entryFor_alias (id' := "dict_keyiterator.__iter__") (by kernel_rfl) (by first | rfl | decide +kernel | (unfold String.splitOn;simp +decide [String.splitOnAux])) (by decide +kernel) (by kernel_rfl)
def G7(h:Heap)(I:Addr)(f0:Value)(i:Nat)(S:Addr)(n ep:Nat):Prop:=∃ o,h.get? I=some o/\o.cls=.type "set_iterator" /\ o.data=.fields #[f0,.int i 0,.ref S,.int n 0,.int ep 0]
def Is(h:Heap)(S:Addr)(es:Array (Int×Value))(ep:Nat)(t:SetTable):Prop:=∃ o,h.get? S=some o/\o.ExactSet/\o.data=.set es ep t
theorem G7.go(x:G7 h I f0 i S n ep)(k:∀ o,h.get? I=some o->h'.get? I=some o):G7 h' I f0 i S n ep:=let ⟨o,e,r⟩:=x;⟨o,k o e,r⟩
theorem Is.go(x:Is h S es ep t)(k:∀ o,h.get? S=some o->h'.get? S=some o):Is h' S es ep t:=let ⟨o,e,r⟩:=x;⟨o,k o e,r⟩
section
variable{prog:Program}{w:World}{A:Around}{E:Value->Shared->Prop}{s:Shared}
theorem G7.ty(x:G7 s.heap I f0 i S n ep):s.TypeIs (.ref I) "set_iterator" := let ⟨o,e,c,_⟩:=x;⟨o,e,c⟩
theorem Bs{M:Model}{src:Source}{Q:Nat->Shared->Prop}(hn:0<n)(h:∀ i,i<n->Q i { s with drawn:=s.drawn.bump src }):wpAny M A (choose src n) Q E s:=
 fun _ _ _=>⟨X6 hn,h _<|Vi _ hn⟩
theorem nQ{α:Type}:∀ (l:List α) (i:Nat) (h:i<l.length),(l[i]::l.eraseIdx i).Perm l
 | x::xs,0,_=>.refl _
 | x::xs,i+1,h=>(List.Perm.swap x _ _).trans (List.Perm.cons x<|nQ xs i<|Vu h)
theorem tm{α:Type}{M:Model}:∀ (n:Nat) (xs:List α) (s:Shared) (Q:List α->Shared->Prop),xs.length=n->(∀ d ys,List.Perm ys xs->Q ys { s with drawn:=d })->wpAny M A (drawOrder n xs) Q E s
 | 0,xs,s,Q,hl,h=>by
  have e:xs=[]:=YR hl;subst e;unfold drawOrder;exact Z6 (h s.drawn [] .nil)
 | n+1,[],s,Q,hl,h=>by cases hl
 | n+1,x::xs,s,Q,hl,h=>by
  unfold drawOrder;refine Z9 (Bs (by rw[hl];exact Wf _) fun i hi=>?_);have e:(x::xs)[i]?=some (x::xs)[i]:=Z0 hi;rw[e];dsimp only;refine Z9 (tm n _ _ _ (by rw[V2 hi,hl];rfl) fun d ys hp=>?_);refine Z6 (h d _ ?_);refine (List.Perm.cons _ hp).trans ?_;exact nQ _ i hi
theorem lv(hit:G7 s.heap I f0 i S n ep)(h:wpAny (model prog w) A.in1 (Builtin.«set_iterator.__next__» ⟨[.ref I],[]⟩) (fun fin s'=>∃ v,fin=.done (.ret v)/\Q (some v) s') (fun e s'=>wpAny (model prog w) A (do let b <- isInstance e (.type "StopIteration");if b=true then pure none else throw e) Q E s') s):
  wpAny (model prog w) A (pyNext<|.ref I) Q E s:=by
 unfold pyNext;refine Z9 (XT<|Zb (name:=Str.ofString "__next__") hit.ty jz<|Zj jz hit.ty Bn ?z<|Bo _)
 case z=>
  refine YA h (fun fin s' ⟨v,e,q⟩=>⟨v,e,Z6 q⟩) fun e s' q=>q
theorem ly{f0':Value}{i':Nat}{Q:Unit->Shared->Prop}{k:Nat}(hit:G7 s.heap I f0 i S n ep)(hk:k<5)(he:(#[f0,.int i 0,.ref S,.int n 0,.int ep 0]:Array Value).setIfInBounds k x=#[f0',.int i' 0,.ref S,.int n 0,.int ep 0])(q:∀ h',G7 h' I f0' i' S n ep->Heap.SameBut I s.heap h'->Q () { s with heap:=h' }):wpAny (model prog w) A (setField (.ref I) k x) Q E s:=by
 obtain⟨o,f1,f2,f3⟩:=hit;refine XH f1 f3 hk (q _ ⟨_,Yy _ f1<|WK<|X4 f3 _,(VR ..).trans f2,?_⟩<|YM ..);rw[X4 f3,he]
theorem tq(hh:A.handled=none)(q:∀ h',Heap.ExtBut I s.heap h'->Q none { s with heap:=h' }):
  wpAny (model prog w) A.in1 (newExc (.type "StopIteration") [] >>= fun x=>(raiseNew x:Sem PySem.Fin)) (fun fin s'=>∃ v,fin=.done (.ret v)/\Q (some v) s') (fun e s'=>wpAny (model prog w) A (do let b <- isInstance e (.type "StopIteration");if b=true then pure none else throw e) Q E s') s:=by
 apply Z9;simp only[newExc,newTuple];refine Z9 (Zo (Z9 (m:=firstArgMember _ _) (Vo (a:=Value.none) (by first | rfl | (simp only[firstArgMember];rfl)) (Zo ?_ (by size_fits)))) (by size_fits));simp only[raiseNew];apply Z9;apply wpAny_handled;rw[show A.in1.handled=none from hh];refine Z9 (m:=pure _) (Z6<|wpAny_throw ?_);apply Z9;refine XJ (T := "StopIteration") (b:=true) ⟨_,ZS _ rfl,rfl⟩ Wc ?_;exact Z6 (q _<|fun b o _ e=>Z7 _<|Z7 _ e)
theorem tu{next:Nat}(hit:G7 s.heap I (.int slot 0) i S n ep)(hS:Is s.heap S es ep t)(hf:t.fits es.size=true)(hn:es.size=n)(hx:∀ (Q':Option (Value×Nat)->Shared->Prop) (E':Value->Shared->Prop),Q' (some (x,next)) s->wpAny (model prog w) A.in1 (setNext S slot i ep) Q' E' s)(q:∀ h',G7 h' I (.int next 0) (i+1) S n ep->Heap.SameBut I s.heap h'->Q (some x) { s with heap:=h' }):wpAny (model prog w) A (pyNext<|.ref I) Q E s:=by
 refine lv hit ?_;obtain⟨o,f1,f2,f3⟩:=id hit;obtain⟨oS,e1,e2,e3⟩:=hS;unfold Builtin.«set_iterator.__next__»;refine Z9 (Z6<|Z9<|Xn f1 f3 ?_);show wpAny _ _ (setEntries S >>= _) _ _ _;refine Z9 (XM e1 e3 hf ?_);dsimp only;rw[ZW (by rw[hn];simp)];refine Z9 (m:=setNext S _ _ _) (hx _ _ ?_);dsimp only;refine Z9 (ly (f0':=.int next 0) (i':=i) hit (by decide) rfl fun h1 Jh MO=>?_);refine Z9 (ly (s:={ s with heap:=h1 }) (f0':=.int next 0) (i':=i+1) Jh (by decide) rfl fun h2 Pc SK=>?_);exact Z6 ⟨_,rfl,q h2 Pc<|MO.trans SK⟩
theorem tw(hh:A.handled=none)(hit:G7 s.heap I (.int slot 0) i S n ep)(hS:Is s.heap S es ep t)(hf:t.fits es.size=true)(hn:es.size=n)(hx:∀ (Q':Option (Value×Nat)->Shared->Prop) (E':Value->Shared->Prop),Q' none s->wpAny (model prog w) A.in1 (setNext S slot i ep) Q' E' s)(q:∀ h',Heap.ExtBut I s.heap h'->Q none { s with heap:=h' }):wpAny (model prog w) A (pyNext<|.ref I) Q E s:=by
 refine lv hit ?_;obtain⟨o,f1,f2,f3⟩:=id hit;obtain⟨oS,e1,e2,e3⟩:=hS;unfold Builtin.«set_iterator.__next__»;refine Z9 (Z6<|Z9<|Xn f1 f3 ?_);show wpAny _ _ (setEntries S >>= _) _ _ _;refine Z9 (XM e1 e3 hf ?_);dsimp only;rw[ZW (by rw[hn];simp)];refine Z9 (m:=setNext S _ _ _) (hx _ _ ?_);dsimp only;refine Z9 (XH f1 f3 (show 2<5 by decide) ?_);exact tq (I:=I) hh fun h' hb=>q h' fun b o Jw e=>hb b o Jw ((YM ..).extBut b o Jw e)
theorem Bt{place:Nat}{tk:Tok}{x:Int×Value}(hit:G7 s.heap I (.ref a2) i S n ep)(hS:Is s.heap S es ep t)(hf:t.fits es.size=true)(hn:es.size=n)(h2:s.heap.get? a2=some o2)(d2:o2.data=.seq pl n2)(hp:pl[i]?=some (.int place tk))(hx:es[place]?=some x)(q:∀ h',G7 h' I (.ref a2) (i+1) S n ep->Heap.SameBut I s.heap h'->Q (some x.2) { s with heap:=h' }):wpAny (model prog w) A (pyNext<|.ref I) Q E s:=by
 refine lv hit ?_;obtain⟨o,f1,f2,f3⟩:=id hit;obtain⟨oS,e1,e2,e3⟩:=hS;unfold Builtin.«set_iterator.__next__»;refine Z9 (Z6<|Z9<|Xn f1 f3 ?_);show wpAny _ _ (setEntries S >>= _) _ _ _;refine Z9 (XM e1 e3 hf ?_);dsimp only;rw[ZW (by rw[hn];simp)];show wpAny _ _ (seqItems? (.ref a2) >>= _) _ _ _;refine Z9 (Y9 h2 d2 ?_);dsimp only;rw[Yj,hp];dsimp only;show wpAny _ _ (setNextDrawn S _ _ >>= _) _ _ _;unfold setNextDrawn;refine Z9 (Z9<|YI e1 e3 hf ?_);dsimp only;rw[ZW (by simp),Yj,hx];dsimp only;refine Z6 ?_;refine Z9 (ly (f0':=.ref a2) (i':=i+1) hit (by decide) rfl fun h1 Jh MO=>?_);exact Z6 ⟨_,rfl,q h1 Jh MO⟩
theorem Bu(hh:A.handled=none)(hit:G7 s.heap I (.ref a2) i S n ep)(hS:Is s.heap S es ep t)(hf:t.fits es.size=true)(hn:es.size=n)(h2:s.heap.get? a2=some o2)(d2:o2.data=.seq pl n2)(hp:pl[i]?=none)(q:∀ h',Heap.ExtBut I s.heap h'->Q none { s with heap:=h' }):wpAny (model prog w) A (pyNext<|.ref I) Q E s:=by
 refine lv hit ?_;obtain⟨o,f1,f2,f3⟩:=id hit;obtain⟨oS,e1,e2,e3⟩:=hS;unfold Builtin.«set_iterator.__next__»;refine Z9 (Z6<|Z9<|Xn f1 f3 ?_);show wpAny _ _ (setEntries S >>= _) _ _ _;refine Z9 (XM e1 e3 hf ?_);dsimp only;rw[ZW (by rw[hn];simp)];show wpAny _ _ (seqItems? (.ref a2) >>= _) _ _ _;refine Z9 (Y9 h2 d2 ?_);dsimp only;rw[Yj,hp];dsimp only;refine Z9 (ly (f0':=.int 0 0) (i':=i) hit (by decide) rfl fun h1 Jh MO=>?_);obtain⟨o',g1,g2,g3⟩:=Jh;refine Z9 (XH (s:={ s with heap:=h1 }) g1 g3 (show 2<5 by decide) ?_);exact tq (I:=I) hh fun h' hb=>q h' fun b o Jw e=>hb b o Jw ((YM ..).extBut b o Jw<|MO.extBut b o Jw e)
end
def dl(val:Nat->List Im):Nat->List (List Im)
 | 0=>[]
 | i+1=>cJ (dl val i) (val i)
theorem bE.fresh(led:Bool):bE w P (h.push<|fc led) h.objs.size led []:=
 ⟨_,#[],0,_,ZS _ rfl,⟨rfl,rfl,rfl⟩,rfl,⟨[],rfl,.nil,fun z hz=>(YB hz).elim⟩,⟨List.Pairwise.nil,rfl,rfl⟩,⟨.inl rfl,rfl,show 0 * 5<7 * 3 by decide,fun j hj=>(YB hj).elim,fun p hp=>(YB hp).elim⟩,YG⟩
theorem bE.at(S:bE w P h a led ks)(k:∀ o,h.get? a=some o->h'.get? a=some o):bE w P h' a led ks:=by
 obtain⟨o,es,ep,t,ho,r⟩:=S;exact⟨o,es,ep,t,k o ho,r⟩
section
variable{prog:Program}{w:World}{P:List Im->Addr->Prop}{A:Around}{E:Value->Shared->Prop}{s:Shared}
theorem Bv{R:Result->Shared->Prop}{fp wr:List Addr}{Pi:Nat->Value->Prop}{St:Nat->Heap->Prop}{h0:Heap}(hu:A.units+25<cLine)(W:Walks prog w A.in1 I fp wr n Pi St)(QG:S∉fp)(val:Nat->List Im)(Pd:∀ i v,Pi i v->∃ b,v=.ref b/\P (val i) b)(Iq:∀ q b,P q b->(bD prog w).is h0 q b)(hw:∀ b o,h0.get? b=some o->b∉wr)(Pe:∀ u items m,h0.get? S=some u->u.data=.seq items m->False)(hN:∀ i,i<n->(dl val i).length+1<=300):
  ∀ (k i:Nat) (s:Shared),n - i=k->i<=n->j6 h0 s.heap->St i s.heap->bE w P s.heap S led (dl val i)->
   (∀ h' tk,(∀ b o,b≠S->b∉wr->s.heap.get? b=some o->h'.get? b=some o)->bE w P h' S led (dl val n)->R (.ok<|.ret .none) { s with heap:=h',toks:=tk })->
   codeAny (model prog w) A (.builtin "set.update.loop" ⟨[.ref S,.ref I],[]⟩) R s:=by
 have QH:S∉wr:=fun h=>QG (W.sub _ h);intro k;induction k with
 | zero=>
  intro i s hk hi T JE hS hR;have SL:i=n:=by lia
  subst SL;refine Xu Xc ?_;rw[XU X8 _];show wpAny _ A.in1 (pyNext (.ref I) >>= _) _ _ s;refine Z9 (W.done s _ _ JE fun h' tk hm=>?_);show wpAny _ A.in1 (ret Value.none) _ _ _;exact Z6 (hR h' tk (fun b o _ hw e=>hm b o hw e)<|hS.at fun o e=>hm S o QH e)
 | succ k ih=>
  intro i s hk hi T JE hS hR;have Gb:i<n:=by lia
  refine Xu Xc ?_;rw[XU X8 _];show wpAny _ A.in1 (pyNext (.ref I) >>= _) _ _ s;refine Z9 (W.item i s _ _ Gb JE fun v h1 Ty hP Pf hm=>?_);obtain⟨x,rfl,Pg⟩:=Pd i v hP;have T1:j6 h0 h1:=fun b o items m e1 e2 e3=>hm b o (hw b o e1) (T b o items m e1 e2 e3);have Lh:∀ q b,P q b->(bD prog w).is h1 q b:=fun q b z=>⟨(Iq q b z).1,(Iq q b z).2.keep T1⟩;show wpAny _ A.in1 (holding [Value.ref x] (setAdd S<|.ref x) >>= _) _ _ _;refine Z9 (YY ?_);unfold setAdd;refine YY ?_;refine Z9 ((bD prog w).pyHash (k:=val i) (show A.units+1+10<cLine by lia) (Lh _ _ Pg) ?_);refine Bj (s:={ s with heap:=h1,toks:=_ }) (show A.units+1+20<cLine by lia) (hS.at fun o e=>hm S o QH e) (Lh _ _ Pg) Pg Lh (hN i Gb) fun b h2 MN MP=>?_;refine Z6 ⟨Wu X8 _,ih (i+1) _ (by lia) Gb (fun b o items m e1 e2 e3=>?_) (W.frame _ h1 h2 Pf fun b hb o e=>?_) MP fun h3 SM Ii N1=>?_⟩
  ·show h2.get? b=some o;rw[MN.2 b (fun h:b=S=>Pe o items m (h ▸ e1) e3)];exact T1 b o items m e1 e2 e3
  ·rw[MN.2 b (fun h:b=S=>QG (by rw[<- h];exact hb))];exact e
  ·refine hR h3 SM (fun b o hb hw e=>Ii b o hb hw ?_) N1;show h2.get? b=some o;rw[MN.2 b hb];exact hm b o hw e
end
section
variable{prog:Program}{w:World}{P:List Im->Addr->Prop}{A:Around}{E:Value->Shared->Prop}{s:Shared}
variable{Q:Value->Shared->Prop}
theorem Bw(hh:A.handled=none)(MQ:s.heap.get? l=some o)(Ko:o.cls=.type "tuple")(LG:o.data=.seq items nl)(hu:A.units+28<cLine)(hi:∀ i v,items[i]?=some v->∃ b,v=.ref b/\P (ks.getD i []) b)(Iq:∀ q b,P q b->(bD prog w).is s.heap q b)(hb:∀ i,i<items.size->(dl (fun i=>ks.getD i []) i).length+1<=300)(N4:l≠S)(hS:s.heap.get? S=some (fc led))(Pe:bE w P s.heap S led [])(h:∀ h' tk,bE w P h' S led (dl (fun i=>ks.getD i []) items.size)->(∀ b o,b≠S->s.heap.get? b=some o->h'.get? b=some o)->Q .none { s with heap:=h',toks:=tk }):
  wpAny (model prog w) A (Builtin.«set.__init__» ⟨[.ref S,.ref l],[]⟩) (fun fin s'=>∃ r,fin=.done (.ret r)/\Q r s') E s:=by
 obtain⟨SN,QI,QJ,Ph⟩:=o;simp only at Ko LG;subst Ko;subst LG;have SO:=Bk;have SQ:=Bl;have SR:(Value.type "tuple" == Value.type "dict")=false:=by decide
 unfold fc at hS;have ID:s.heap.IsTuple l items:=⟨_,MQ,rfl,nl,rfl⟩;unfold Builtin.«set.__init__» noKeywords Builtin.Frozenset.updateFrom;generalize SS:pyIter=PI
 wp_walk
 subst SS;refine wpAny_pyIter_tuple ID ?_;refine Z9 (wpAny_runValue ?_);have ST:l<s.heap.objs.size:=ZP MQ;have SU:S<s.heap.objs.size:=ZP hS;have SV:A.in1.handled=none:=by simp[hh]
 refine Bv (led:=led) (P:=P) (h0:=s.heap) (show A.units+25<cLine by lia) (Walks.tuple SV _ l (Zx ST) items) ?_ (fun i=>ks.getD i []) hi Iq ?_ ?_ hb (items.size - 0) 0 _ (by lia) (Yz _) ?_ ⟨⟨_,ZS _ rfl,rfl,rfl⟩,?_⟩ ?_ fun h' tk hk MR=>?_
 ·simp only[ZG,YB,Xl,not_or];exact⟨Zx SU,fun e=>N4 e.symm⟩
 ·intro b o e;rw[ZZ];exact Zx (ZP e)
 ·intro u items m e1 e2;rw[hS] at e1;cases e1;cases e2
 ·intro b o items m e1 e2 e3;exact Z7 _ e1
 ·obtain⟨o,ho,r⟩:=ID;exact⟨o,Z7 _ ho,r⟩
 ·exact Pe.at fun o e=>Z7 _ e
 ·show wpAny _ _ _ _ _ _;refine Z6 ?_;show wpAny _ _ (ret Value.none) _ _ _;refine Z6 ⟨_,rfl,h h' tk MR fun b o hb e=>hk b o hb ?_<|Z7 _ e⟩;rw[ZZ];exact Zx (ZP e)
theorem Bx(hh:A.handled=none)(MQ:s.heap.get? l=some o)(Ko:o.cls=.type "tuple")(LG:o.data=.seq items nl)(hu:A.units+30<cLine)(hi:∀ i v,items[i]?=some v->∃ b,v=.ref b/\P (ks.getD i []) b)(Iq:∀ q b,P q b->(bD prog w).is s.heap q b)(hb:∀ i,i<items.size->(dl (fun i=>ks.getD i []) i).length+1<=300)(h:∀ h' tk,bE w P h' s.heap.objs.size (cW w) (dl (fun i=>ks.getD i []) items.size)->(∀ b o,s.heap.get? b=some o->h'.get? b=some o)->Q (.ref s.heap.objs.size) { s with heap:=h',toks:=tk }):
  wpAny (model prog w) A (call (.type "set") [.ref l]) Q E s:=by
 obtain⟨c,tl,SW⟩:=Ys.mro;have QK:=Ys.made;have K8:=Ys.sub;refine wpAny_call (codeAny_of_tree ?_);show wpAny _ _ (callAny (.type "set") _) _ _ _;refine Z6 ⟨Code.quiet_builtin _ (by decide +kernel),Xu F.entry_type_call ?_⟩;rw[Around.under_plain (weight_type_call_type "set" [.ref l] []) rfl];have h1:=Ys.notType;have h2:=Ys.canCreate;have Tz:=PySem.F.typeCall_set_1 (.ref l);repeat (any_goals (first | assumption | wp_step))
 refine Wi (Bm (.ref l) (E:=E) (Q₁:=fun obj s₁=>obj=.ref s.heap.objs.size/\s₁={ s with heap:=s.heap.push (fc<|cW w) }) ⟨rfl,rfl⟩) fun r s₁ hr=>?_;cases r with
 | error e=>exact hr
 | ok fl=>
  cases fl with
  | ret obj=>
   obtain⟨rfl,rfl⟩:=hr;have hS:(s.heap.push<|fc<|cW w).get? s.heap.objs.size=some (fc<|cW w):=ZS _ rfl;have hT:Shared.TypeIs { s with heap:=s.heap.push (fc<|cW w) } (.ref s.heap.objs.size) "set" := ⟨_,hS,rfl⟩;have TB:=Ys.init.lookup;have TC:=Ys.init.bind (.ref s.heap.objs.size);repeat (any_goals (first | assumption | wp_step))
   refine Wi (codeAny_call_builtin (R:=wants (fun r s₂=>r=.none/\∃ h' tk,s₂={ s with heap:=h',toks:=tk }/\
     bE w P h' s.heap.objs.size (cW w) (dl (fun i=>ks.getD i []) items.size)/\(∀ b o,s.heap.get? b=some o->h'.get? b=some o)) E) Ys.init.plain PySem.F.entry_set_init<|check_set_init_1 hT ?_) fun r₂ s₂ Ji=>?_
   ·refine YA (Bw (s:={ s with heap:=s.heap.push (fc<|cW w) }) (by simp[hh]) (Z7 _ MQ) Ko LG (by show A.in1.in1.units+28<cLine;show A.units+1+1+28<cLine;lia) hi (fun q b z=>⟨(Iq q b z).1,(Iq q b z).2.keep fun b o _ _ e _ _=>Z7 _ e⟩) hb (Zx<|ZP MQ) hS (bE.fresh _) (Q:=fun r s₂=>r=.none/\∃ h' tk,s₂={ s with heap:=h',toks:=tk }/\
     bE w P h' s.heap.objs.size (cW w) (dl (fun i=>ks.getD i []) items.size)/\(∀ b o,s.heap.get? b=some o->h'.get? b=some o)) fun h' tk MR hk=>⟨rfl,h',tk,rfl,MR,fun b o e=>hk b o (Zx<|ZP e)<|Z7 _ e⟩) (fun fin s' hq=>?_) fun _ _ e=>e;obtain⟨r,rfl,hq⟩:=hq;exact hq
   ·cases r₂ with
    | error e=>exact Ji
    | ok MT=>
     cases MT with
     | ret r=>
      obtain⟨rfl,h',tk,rfl,MR,F9⟩:=Ji;repeat (any_goals (first | assumption | wp_step))
      exact h _ _ MR F9
     | _=>exact Ji.elim
  | _=>exact hr.elim
end
section
variable{prog:Program}{w:World}{A:Around}{E:Value->Shared->Prop}{s:Shared}
theorem tz{α:Type}(next:Nat->Nat):∀ (fuel k:Nat) (left:List α) (out:Array α),left.length=fuel->(pickOrder.go next fuel k left out).toList.Perm (out.toList++left)
 | 0,k,left,out,h=>by
  have e:left=[]:=YR h;subst e;unfold pickOrder.go;rw[ZO]
 | fuel+1,k,left,out,h=>by
  unfold pickOrder.go;have hi:next k % left.length<left.length:=Vi _ (by rw[h];exact Wf _)
  rw[Z0 hi];dsimp only;refine (tz next fuel (k+1) _ _ (by rw[V2 hi,h];rfl)).trans ?_;rw[Xp,Z4];exact ZL _ (nQ _ _ hi)
theorem By(next:Nat->Nat)(xs:Array α):(pickOrder next xs).toList.Perm xs.toList:=tz next xs.size 0 xs.toList #[] (by rw[ZN])
theorem lD{Q:Bool->Shared->Prop}(h:Q (w.params.followText "set-order") s):wpAny (model prog w) A setsByText Q E s:=by
 unfold setsByText;exact Z9 (VC<|Z6 h)
variable{Q:Option (Value×Nat)->Shared->Prop}
theorem tB(hS:Is s.heap S es ep t)(hf:t.fits es.size=true)(GZ:w.params.followText "set-order" = false)(LM:(!t.plain && decide (es.size > 1))=false)(hl:t.led=true)(hb:SetTable.below t.place slot=i)(q:Q (match es[i]?,t.place[i]? with | some (_,x),some j=>some (x,j+1) | _,_=>none) s):wpAny (model prog w) A (setNext S slot g ep) Q E s:=by
 obtain⟨o,e1,e2,e3⟩:=hS;unfold setNext;refine Z9 (YI e1 e3 hf ?_);dsimp only;refine Z9 (lD ?_);rw[GZ,ZW ZM];show wpAny _ _ (if (!t.plain && decide (es.size > 1))=true then _ else _) _ _ _;rw[LM,ZW ZM];show wpAny _ _ ((if (!t.led && !es.isEmpty)=true then (unsupported "set:maker-not-led" : Sem Unit) else pure ()) >>= _) _ _ _;rw[hl];refine Z9 (m:=pure ()) (Z6 ?_);rw[hb];exact Z6 q
theorem tD(hS:Is s.heap S es ep t)(hf:t.fits es.size=true)(GZ:w.params.followText "set-order" = true)(q:Q (((pickOrder (w.params.setOrder S ep) es)[g]?).map fun e=>(e.2,slot)) s):wpAny (model prog w) A (setNext S slot g ep) Q E s:=by
 obtain⟨o,e1,e2,e3⟩:=hS;unfold setNext;refine Z9 (YI e1 e3 hf ?_);dsimp only;refine Z9 (lD ?_);rw[GZ,ZY rfl,ZW (by simp)];unfold setWalk;refine Z9 (Z9<|YI e1 e3 hf ?_);dsimp only;refine Z9 (lD ?_);rw[GZ,ZY rfl];exact Z9 (VC<|Z6<|Z6 q)
theorem nR{Q:Value->Shared->Prop}(hit:G7 s.heap I f0 i S n ep)(q:Q (.ref I) s):wpAny (model prog w) A (pyIter<|.ref I) Q E s:=by
 refine VV hit.ty tj (Zj tj hit.ty Br ?_<|Bq _);show wpAny _ _ (ret<|.ref I) _ _ s;exact Z6 ⟨_,rfl,"set_iterator",_,hit.ty,jz.lookup,q⟩
def nS(place:Array Nat):Nat->Nat
 | 0=>0
 | i+1=>place.getD i 0+1
theorem tE{place:Array Nat}(r:cV place):∀ {i:Nat},i<=place.size->SetTable.below place (nS place i)=i
 | 0,_=>AX r
 | i+1,h=>by
  have e:place[i]?=some (place.getD i 0):=by simp[Array.getD,show i<place.size from h]
  exact AW r e
def d9(es:Array (Int×Value)):List Value:=es.toList.map (·.2)
theorem lE(es:Array (Int×Value)):(d9 es).length=es.size:=by rw[d9,Z3,ZN]
theorem Bz(hh:A.handled=none)(ne:S≠I)(hf:t.fits es.size=true)(GZ:w.params.followText "set-order" = false)(LM:(!t.plain && decide (es.size > 1))=false)(hl:t.led=true)(r:cV t.place):
  Walks prog w A I [I,S] [I] (d9 es).length (fun i v=>(d9 es)[i]?=some v) (fun i h=>G7 h I (.int (nS t.place i) 0) i S es.size ep/\Is h S es ep t) where
 sub:=fun b hb=>by
  have:b=I:=by simpa using hb
  simp[this]
 frame:=fun i h h' st k=>⟨st.1.go (k I (by simp)),st.2.go (k S (by simp))⟩
 item:=fun i s Q E hi st hQ=>by
  rw[lE] at hi;have hp:t.place.size=es.size:=by
   simp only[SetTable.fits,ZU,WH] at hf;exact hf.1
  have e1:es[i]?=some es[i]:=Zd hi;have e2:t.place[i]?=some (t.place.getD i 0):=by simp[Array.getD,show i<t.place.size by lia]
  have hv:(d9 es)[i]?=some es[i].2:=by rw[d9,ZB,ZD,e1];rfl
  refine tu (next:=nS t.place (i+1)) (x:=es[i].2) st.1 st.2 hf rfl (fun Q' E' q=>tB st.2 hf GZ LM hl (tE r (by lia)) ?_) fun h' a b=>hQ _ h' s.toks hv ⟨a,st.2.go fun o e=>b.extBut S o ne e⟩ fun c o hc e=>b.extBut c o (by simpa using hc) e;rw[e1,e2];exact q
 done:=fun s Q E st hQ=>by
  rw[lE] at st;have hp:t.place.size=es.size:=by
   simp only[SetTable.fits,ZU,WH] at hf;exact hf.1
  refine tw hh st.1 st.2 hf rfl (fun Q' E' q=>tB st.2 hf GZ LM hl (tE r (by lia)) ?_) fun h' b=>hQ h' s.toks fun c o hc e=>b c o (by simpa using hc) e;rw[WW (ZV _)];exact q
 self:=fun i s Q E st hQ=>nR st.1 hQ
theorem BA(hh:A.handled=none)(ne:S≠I)(hf:t.fits es.size=true)(GZ:w.params.followText "set-order" = true):
  Walks prog w A I [I,S] [I] (d9<|pickOrder (w.params.setOrder S ep) es).length (fun i v=>(d9<|pickOrder (w.params.setOrder S ep) es)[i]?=some v) (fun i h=>G7 h I (.int (0:Nat) 0) i S es.size ep/\Is h S es ep t) where
 sub:=fun b hb=>by
  have:b=I:=by simpa using hb
  simp[this]
 frame:=fun i h h' st k=>⟨st.1.go (k I (by simp)),st.2.go (k S (by simp))⟩
 item:=fun i s Q E hi st hQ=>by
  rw[lE] at hi;have e1:(pickOrder (w.params.setOrder S ep) es)[i]?=some (pickOrder (w.params.setOrder S ep) es)[i]:=Zd hi;have hv:(d9<|pickOrder (w.params.setOrder S ep) es)[i]?=some (pickOrder (w.params.setOrder S ep) es)[i].2:=by rw[d9,ZB,ZD,e1];rfl
  refine tu (next:=0) (x:=(pickOrder (w.params.setOrder S ep) es)[i].2) st.1 st.2 hf rfl (fun Q' E' q=>tD st.2 hf GZ ?_) fun h' a b=>hQ _ h' s.toks hv ⟨a,st.2.go fun o e=>b.extBut S o ne e⟩ fun c o hc e=>b.extBut c o (by simpa using hc) e;rw[e1];exact q
 done:=fun s Q E st hQ=>by
  rw[lE] at st;refine tw hh st.1 st.2 hf rfl (fun Q' E' q=>tD st.2 hf GZ ?_) fun h' b=>hQ h' s.toks fun c o hc e=>b c o (by simpa using hc) e;rw[WW (ZV _)];exact q
 self:=fun i s Q E st hQ=>nR st.1 hQ
def gI(ps:List Nat):List Value:=ps.map fun (i:Nat)=>rawInt i
def ed(es:Array (Int×Value))(ps:List Nat):List Value:=ps.filterMap fun i=>es[i]?.map (·.2)
theorem tF{es:Array (Int×Value)}:∀ {ps:List Nat},(∀ p∈ps,p<es.size)->∀ (i:Nat) (h:i<ps.length),∃ x,es[ps[i]]?=some x/\(ed es ps)[i]?=some x.2
 | [],_,i,h=>by cases h
 | p::ps,hp,i,h=>by
  have JT:p<es.size:=hp p (.head _);have e:es[p]?=some es[p]:=Zd JT;have e2:ed es (p::ps)=es[p].2::ed es ps:=by rw[ed,W9 (b:=es[p].2) (by rw[e];rfl)];rfl
  rw[e2];cases i with
  | zero=>exact⟨es[p],e,rfl⟩
  | succ i=>
   obtain⟨x,h1,h2⟩:=tF (fun p h=>hp p<|.tail _ h) i (Vu h);exact⟨x,h1,h2⟩
theorem nU{es:Array (Int×Value)}:∀ {ps:List Nat},(∀ p∈ps,p<es.size)->(ed es ps).length=ps.length
 | [],_=>rfl
 | p::ps,hp=>by
  have JT:p<es.size:=hp p (.head _);have e:es[p]?=some es[p]:=Zd JT;rw[ed,W9 (b:=es[p].2) (by rw[e];rfl),ZJ,ZJ];exact congrArg (·+1) (nU fun p h=>hp p<|.tail _ h)
theorem BB(hh:A.handled=none)(ne:S≠I)(ne2:a2≠I)(hf:t.fits es.size=true)(hp:∀ p∈ps,p<es.size):
  Walks prog w A I [I,S,a2] [I] (ed es ps).length (fun i v=>(ed es ps)[i]?=some v) (fun i h=>G7 h I (.ref a2) i S es.size ep/\Is h S es ep t/\∃ o,h.get? a2=some o/\o.data=.seq (gI ps).toArray n2) where
 sub:=fun b hb=>by
  have:b=I:=by simpa using hb
  simp[this]
 frame:=fun i h h' st k=>⟨st.1.go (k I (by simp)),st.2.1.go (k S (by simp)),let ⟨o,e,r⟩:=st.2.2;⟨o,k a2 (by simp) o e,r⟩⟩
 item:=fun i s Q E hi st hQ=>by
  obtain⟨q_,p_,o,e,r⟩:=st;rw[nU hp] at hi;obtain⟨x,h1,h2⟩:=tF hp i hi;refine Bt (x:=x) (place:=ps[i]) (tk:=0) q_ p_ hf rfl e r ?_ h1 fun h' a b=>hQ _ h' s.toks h2 ⟨a,p_.go fun o e=>b.extBut S o ne e,o,b.extBut a2 o ne2 e,r⟩ fun c o hc e=>b.extBut c o (by simpa using hc) e;rw[WJ,gI,ZB,Z0 hi];rfl
 done:=fun s Q E st hQ=>by
  obtain⟨q_,p_,o,e,r⟩:=st;refine Bu hh q_ p_ hf rfl e r ?_ fun h' b=>hQ h' s.toks fun c o hc e=>b c o (by simpa using hc) e;rw[WJ,gI,ZB,YV (by rw[nU hp];exact ZV _)];rfl
 self:=fun i s Q E st hQ=>nR st.1 hQ
end
section
variable{prog:Program}{w:World}{A:Around}{E:Value->Shared->Prop}{s:Shared}
theorem BC{r:Addr}{Q:Bool->Shared->Prop}(hT:s.TypeIs (.ref r) "set")(h:Q false s):wpAny (model prog w) A (Builtin.List.listLengthHint<|.ref r) Q E s:=by
 unfold Builtin.List.listLengthHint;refine Z9 (W8 hT PySem.F.slot_set_len.lookup ?_);generalize QL:("set.__len__" : String)=SX
 wp_delta
 rw[show splitId SX=some ("set","__len__") from by subst QL;decide +kernel];subst QL;refine Z9 (XJ (T := "set") (b:=true) hT (by rw[WN];kernel_rfl) ?_);refine Vp (fun ML=>absurd ML (by decide)) (fun _=>?_);refine Vp (fun _=>?_) (fun ML=>absurd (by decide +kernel) ML);refine Z9 (Xh hT ?_);exact Z6 h
theorem BD(hp:ps.Perm (range es.size)):ed es ps=(ps.filterMap fun i=>es[i]?).map (·.2)/\(ps.filterMap fun i=>es[i]?).Perm es.toList:=by
 refine⟨?_,(hp.filterMap _).trans (by rw[filterMap_getElem?_range])⟩;rw[List.map_filterMap];rfl
end
section
variable{prog:Program}{w:World}{A:Around}{E:Value->Shared->Prop}{s:Shared}
end
theorem BE{f:α->β}:∀ {l' l:List β},l'.Perm l->∀ zs:List α,zs.map f=l->∃ LN:List α,LN.Perm zs/\LN.map f=l':=by
 intro l' l p;induction p with
 | nil=>intro zs e;cases X7.mp e;exact⟨[],.nil,rfl⟩
 | cons x p ih=>
  intro zs e;obtain⟨a,r,rfl,rfl,e2⟩:=Wq.mp e;obtain⟨LN,p1,p2⟩:=ih r e2;exact⟨a::LN,p1.cons a,by rw[ZF,p2]⟩
 | swap x y l=>
  intro zs e;obtain⟨a,r,rfl,rfl,e2⟩:=Wq.mp e;obtain⟨b,r2,rfl,rfl,e3⟩:=Wq.mp e2;exact⟨b::a::r2,.swap a b r2,by rw[ZF,ZF,e3]⟩
 | trans p1 p2 SY SZ=>
  intro zs e;obtain⟨z2,q1,q2⟩:=SZ zs e;obtain⟨z1,q3,q4⟩:=SY z2 q2;exact⟨z1,q3.trans q1,q4⟩
theorem tH{w:World}{P:List Im->Addr->Prop}:∀ zs:List (List Im×Int×Value),(∀ z∈zs,lu w P z)->∃ ws:List (List Im×Addr),zs.map (fun z=>z.2.2)=ws.map (fun z=>Value.ref z.2)/\ws.map (·.1)=zs.map (·.1)/\∀ z∈ws,P z.1 z.2
 | [],_=>⟨[],rfl,rfl,fun _ h=>(YB h).elim⟩
 | z::zs,h=>by
  obtain⟨b,e1,e2,e3⟩:=h z (.head _);obtain⟨ws,w1,w2,w3⟩:=tH zs fun z hz=>h z (.tail _ hz);refine⟨(z.1,b)::ws,by rw[ZF,ZF,w1,e1],by rw[ZF,ZF,w2],fun y hy=>?_⟩;rcases ZG.mp hy with rfl | hy
  ·exact e3
  ·exact w3 y hy
section
variable{prog:Program}{w:World}{P:List Im->Addr->Prop}{A:Around}{E:Value->Shared->Prop}{s:Shared}
theorem BF{Q:Value->Shared->Prop}(hh:A.handled=none)(hS:bE w P s.heap S (cW w) ks)(hz:ks.length<=300)(h:∀ (h1:Heap) (d:_) (I:Addr) (fp:List Addr) (vs:List Value) (ws:List (List Im×Addr)) (St:Nat->Heap->Prop),(∀ b o,s.heap.get? b=some o->h1.get? b=some o)->s.heap.objs.size<=I->(∀ b∈fp,b=S\/s.heap.objs.size<=b)->
   Walks prog w A I fp [I] vs.length (fun i v=>vs[i]?=some v) St->St 0 h1->vs=ws.map (fun z=>Value.ref z.2)->(ws.map (·.1)).Perm ks->(∀ z∈ws,P z.1 z.2)->Q (.ref I) { s with heap:=h1,drawn:=d }):
  wpAny (model prog w) A (pyIter<|.ref S) Q E s:=by
 obtain⟨o,es,ep,t,e1,e2,e3,D⟩:=hS;have ty:s.TypeIs (.ref S) "set" := ⟨o,e1,e2.1⟩;have LO:S<s.heap.objs.size:=ZP e1;have hsz:es.size<=sizeLine:=by rw[D.num];exact Zn hz (by decide)
 have give:∀ l:List (Int×Value),l.Perm es.toList->∃ ws:List (List Im×Addr),l.map (·.2)=ws.map (fun z=>Value.ref z.2)/\(ws.map (·.1)).Perm ks/\∀ z∈ws,P z.1 z.2:=fun l pl=>by
  obtain⟨zs,z1,z2,z3⟩:=D.LL;obtain⟨LN,p1,p2⟩:=BE pl zs z1;obtain⟨ws,w1,w2,w3⟩:=tH (w:=w) (P:=P) LN fun z hz=>z3 z (p1.mem_iff.mp hz);refine⟨ws,?_,?_,w3⟩
  ·rw[<- p2,YK];exact w1
  ·rw[w2];exact (p1.map _).trans z2
 refine VV ty PySem.F.slot_set_iter (Zj PySem.F.slot_set_iter ty Bp ?z<|PySem.F.args_set_iter_1 _)
 case z=>
  unfold Builtin.«frozenset.__iter__» Builtin.Frozenset.slot0 Builtin.Frozenset.addrOf Builtin.Frozenset.sizeOf;refine Z9 (Z9<|Z6<|Z6 ?_);refine Z9 (Z9<|XM e1 e3 D.fit<|Z6 ?_);refine Z9 ?_;unfold setDrawn;refine Z9 (YI e1 e3 D.fit ?_);dsimp only;refine Z9 (lD<|Z6 ?_);have Pj:w.params.followText "set-order" = true\/(!t.plain && decide (es.size > 1))=false->
    wpAny (model prog w) A.in1 (do let ep <- setEpoch S;let r <- newFields "set_iterator" [rawInt 0,rawInt 0,.ref S,rawInt es.size,rawInt ep];ret r) (fun fin s'=>∃ r,fin=PySem.Fin.done (.ret r)/\∃ T' q,s'.TypeIs r T'/\typeLookup (.type T') "__next__" = pure (some q)/\Q r s') E s:=by
   intro hc;refine Z9 (wpAny_setEpoch_of e1 e3 D.fit<|Z9<|Zo<|Z6 ⟨_,rfl,"set_iterator",_,⟨_,ZS _ rfl,rfl⟩,jz.lookup,?_⟩);have kp:∀ b o,s.heap.get? b=some o->(s.heap.push { cls:=.type "set_iterator",dict:=none,data:=.fields [rawInt 0,rawInt 0,.ref S,rawInt es.size,rawInt ep].toArray }).get? b=some o:=fun b o e=>Z7 _ e;have QM:G7 (s.heap.push { cls:=.type "set_iterator",dict:=none,data:=.fields [rawInt 0,rawInt 0,.ref S,rawInt es.size,rawInt ep].toArray }) s.heap.objs.size (.int (0:Nat) 0) 0 S es.size ep:=⟨_,ZS _ rfl,rfl,rfl⟩;have sat:Is (s.heap.push { cls:=.type "set_iterator",dict:=none,data:=.fields [rawInt 0,rawInt 0,.ref S,rawInt es.size,rawInt ep].toArray }) S es ep t:=⟨o,kp _ _ e1,e2,e3⟩;have fp:∀ b∈[s.heap.objs.size,S],b=S\/s.heap.objs.size<=b:=fun b hb=>by
    rcases ZG.mp hb with rfl | hb
    ·exact .inr (ZV _)
    ·exact .inl (ZZ.mp hb)
   cases GZ:w.params.followText "set-order" with
   | true=>
    have hp:=By (w.params.setOrder S ep) es;obtain⟨ws,w1,w2,w3⟩:=give _ hp;exact h _ s.drawn _ _ _ _ _ kp (ZV _) fp (BA hh (Zx LO) D.fit GZ) ⟨QM,sat⟩ w1 w2 w3
   | false=>
    have LM:=hc.resolve_left (by rw[GZ];exact ZM);obtain⟨ws,w1,w2,w3⟩:=give _ (.refl _);exact h _ s.drawn _ _ _ _ _ kp (ZV _) fp (Bz hh (Zx LO) D.fit GZ LM (by rw[D.tab.led,cW,GZ];rfl) D.tab.rise) ⟨QM,sat⟩ w1 w2 w3
  show wpAny _ _ (if (!w.params.followText "set-order" && (!t.plain && decide (es.size > 1)))=true then _ else _) _ _ _;cases hd:(!w.params.followText "set-order" && (!t.plain && decide (es.size > 1))) with
  | false=>
   rw[ZW ZM];refine Z9 (m:=pure (rawInt 0)) (Z6<|Pj ?_);cases GZ:w.params.followText "set-order" with
   | true=>exact .inl rfl
   | false=>rw[GZ] at hd;exact .inr hd
  | true=>
   rw[ZY rfl];refine Z9 (tm es.size (range es.size) s _ Zk fun d ps hp=>?_);have NN:∀ p∈ps,p<es.size:=fun p h=>Zi.mp (hp.mem_iff.mp h);have Kh:ps.length=es.size:=by rw[hp.length_eq,Zk]
   refine Z9 (m:=newObj (.type "tuple") (.seq (gI ps).toArray)) (Zo ?_ (show (gI ps).toArray.size<=sizeLine by rw[ZQ,gI,Z3,Kh];exact hsz));refine Z9 (wpAny_setEpoch_of (Z7 _ e1) e3 D.fit<|Z9<|Zo<|Z6 ⟨_,rfl,"set_iterator",_,⟨_,ZS _ rfl,rfl⟩,jz.lookup,?_⟩);obtain⟨q1,q2⟩:=BD hp;obtain⟨ws,w1,w2,w3⟩:=give _ q2;have hI:({ s with heap:=s.heap.push { cls:=.type "tuple",dict:=none,data:=.seq (gI ps).toArray },drawn:=d }:Shared).heap.objs.size=s.heap.objs.size+1:=YZ ..;refine h _ d _ [_,S,s.heap.objs.size] (ed es ps) ws _ (fun b o e=>Z7 _<|Z7 _ e) ?_ ?_ (BB (ep:=ep) (t:=t) (n2:=0) hh ?_ ?_ D.fit NN) ⟨⟨_,ZS _ rfl,rfl,rfl⟩,⟨o,Z7 _<|Z7 _ e1,e2,e3⟩,⟨_,Z7 _<|ZS _ rfl,rfl⟩⟩ (q1.trans w1) w2 w3
   ·exact Xi (by rw[YZ];exact XI _)
   ·intro b hb;rcases ZG.mp hb with rfl | hb
    ·exact .inr (by rw[YZ];exact Nat.le_succ _)
    ·rcases ZG.mp hb with rfl | hb
     ·exact .inl rfl
     ·exact .inr (by rw[ZZ.mp hb];exact ZV _)
   ·rw[YZ];exact Zx (VX LO)
   ·rw[YZ];exact Zx (XI _)
theorem BG{Q:List Value->Shared->Prop}(hh:A.handled=none)(hS:bE w P s.heap S (cW w) ks)(hl:ks.length<=300)(h:∀ (h':Heap) (tk:Nat) (d:_) (ws:List (List Im×Addr)),(∀ b o,s.heap.get? b=some o->h'.get? b=some o)->(ws.map (·.1)).Perm ks->(∀ z∈ws,P z.1 z.2)->Q (ws.map fun z=>Value.ref z.2) { s with heap:=h',toks:=tk,drawn:=d }):
  wpAny (model prog w) A (collect<|.ref S) Q E s:=by
 have LO:S<s.heap.objs.size:=let ⟨_,_,_,_,e,_⟩:=hS;ZP e
 unfold collect;refine Z9 (wpAny_runValue<|Xu entry_proto_collect' ?_);rw[XU PySem.F.plain_proto_collect _];show wpAny _ A.in1 (newList [] >>= fun l=>again<|.builtin "list.__iadd__" ⟨[l,.ref S],[]⟩) _ _ s;refine Z9 (Zo ?_);refine Z6 ⟨Wu VB _,Xu entry_list_iadd' ?_⟩;rw[XU VB _];generalize hH:s.heap.push { cls:=.type "list",dict:=none,data:=.seq ([]:List Value).toArray }=H1;have kH:∀ b o,s.heap.get? b=some o->H1.get? b=some o:=fun b o e=>by rw[<- hH];exact Z7 _ e
 have hB:H1.get? s.heap.objs.size=some { cls:=.type "list",dict:=none,data:=.seq #[] }:=by rw[<- hH];exact ZS _ rfl
 have QN:s.heap.objs.size<H1.objs.size:=ZP hB;have QO:bE w P H1 S (cW w) ks:=hS.at fun o e=>kH S o e;have ty:Shared.TypeIs { s with heap:=H1 } (.ref S) "set" := let ⟨o,_,_,_,e,x,_⟩:=QO;⟨o,e,x.1⟩
 show wpAny _ A.in1 (Builtin.List.listExtendWith (.ref s.heap.objs.size) (.ref S)<|.ref s.heap.objs.size) _ _ _;unfold Builtin.List.listExtendWith;refine Z9 (Xh (T := "set") ty ?_);have h1:Builtin.List.listSameRef (.ref s.heap.objs.size) (.ref S)=false:=by simp[Builtin.List.listSameRef,X6 LO]
 have h2:(Value.type "set" == Value.type "list")=false:=by decide
 have h3:(Value.type "set" == Value.type "tuple")=false:=by decide
 simp only[h1,h2,h3,Bool.or_false,Zg,Yr];refine Z9 (BF (s:={ s with heap:=H1 }) hh QO hl fun h2 d I fp vs ws St k2 hI S0 W st ev pm iv=>?_);have hn:vs.length<=sizeLine:=by rw[ev,Z3,<- Z3 (f:=(·.1)),pm.length_eq];exact Zn hl (by decide)
 have QP:s.heap.objs.size∉fp:=fun hm=>by
  rcases S0 _ hm with e | e
  ·exact absurd e (X6 LO)
  ·exact absurd QN (V5.mpr e)
 have MP:h2.get? s.heap.objs.size=some { cls:=.type "list",dict:=none,data:=.seq #[] }:=k2 _ _ hB;have S3:Shared.TypeIs { s with heap:=h2,drawn:=d } (.ref S) "set" := let ⟨o,e,c⟩:=ty;⟨o,k2 _ _ e,c⟩
 have key:∀ (hp:Heap) (c:Nat) (R:Result->Shared->Prop),St 0 hp->(∀ b o,b≠s.heap.objs.size->h2.get? b=some o->hp.get? b=some o)->hp.get? s.heap.objs.size=some { cls:=.type "list",dict:=none,data:=.seq #[] c }->
   (∀ (h':Heap) (tk:Nat) (c':Nat),(∀ b o,s.heap.get? b=some o->h'.get? b=some o)->h'.get? s.heap.objs.size=some { cls:=.type "list",dict:=none,data:=.seq vs.toArray c' }->R (.ok<|.ret<|.ref s.heap.objs.size) { s with heap:=h',toks:=tk,drawn:=d })->
   codeAny (model prog w) A (.builtin "list.extend.loop" ⟨[.ref s.heap.objs.size,.ref I,.ref s.heap.objs.size],[]⟩) R { s with heap:=hp,drawn:=d }:=fun hp c R st kp S4 hR=>
  codeAny_extend_loopS W.toS hn s.heap.objs.size QP (.ref s.heap.objs.size) vs.length 0 _ #[] c rfl (Yz _) st S4 (ItemsOf.nil _) fun s' acc c' hm QQ Gv=>by
   rw[show s'={ s with heap:=s'.heap,toks:=s'.toks,drawn:=d } from by obtain⟨_,hg,hd2,ho,_⟩:=hm;cases s';cases hg;cases hd2;cases ho;rfl];have ea:acc=vs.toArray:=by
    apply Array.toList_inj.mp;apply VD
    ·rw[ZN];exact Gv.1
    ·intro i g1 g2;have:=Gv.2 i acc.toList[i] (by rw[<- ZD];exact Z0 g1);have this:vs[i]?=some acc.toList[i]:=this;rw[Z0 g2] at this;exact (Zq this).symm
   rw[ea] at QQ;refine hR s'.heap s'.toks c' (fun b o e=>hm.heap b o (fun GO=>?_)<|kp b o (Zx<|ZP e)<|k2 b o<|kH b o e) QQ;rcases ZG.mp GO with e' | GO
   ·exact absurd (ZP e) (by rw[e'];exact Ym _)
   ·have e3:=ZP e;rw[ZZ.mp GO] at e3;have:s.heap.objs.size<=I:=Zn (Xi QN) hI;exact absurd e3 (V5.mpr this)
 refine Z9 (YY<|BC (s:={ s with heap:=h2,drawn:=d }) S3 ?_);refine Vp (fun _=>?_) (fun _=>Z6 ⟨Wu V1 _,key _ 0 _ st (fun b o _ e=>e) MP fun h' tk c' k3 Pk=>Z9 (wpAny_load Pk (Z6 (by rw[ev];exact h h' tk d ws k3 pm iv)))⟩);refine Z9 (Yl ?_);refine Z9 ?_;show wpAny _ _ (updateSeq s.heap.objs.size (·.push .none) >>= fun _=>updateSeq s.heap.objs.size (·.pop)) _ _ _;refine Z9 (wpAny_updateSeq (s:={ s with heap:=h2,drawn:=d }) MP rfl ?_);have N1:=Yy (Obj.mapSeq (·.push Value.none)) MP rfl;refine wpAny_updateSeq (hz:=by seq_fits) N1 rfl ?_;have S5:=Yy (Obj.mapSeq (·.pop)) N1 rfl;refine Z6 ⟨Wu V1 _,key _ _ _ ?_ (fun b o hb e=>?_) S5 fun h' tk c' k3 Pk=>Z9 (wpAny_load Pk (Z6 (by rw[ev];exact h h' tk d ws k3 pm iv)))⟩
 ·refine W.frame 0 _ _ st fun b hb o e=>?_;have QR:b≠s.heap.objs.size:=fun h=>QP (h ▸ hb);exact (Y0 _ _<|Yb QR).trans ((Y0 _ _<|Yb QR).trans e)
 ·exact (Y0 _ _<|Yb hb).trans ((Y0 _ _<|Yb hb).trans e)
end
end L2
namespace L2
open PySem PySem.Spec PyProof.Rows PySem.W
section
variable{X:Cx}{pins:List (Addr×Obj)}{σ:St}{H:Hp}{s:Shared}
theorem Inv.Jj(I:Inv X pins σ H s)(d:Drawn):Inv X pins σ H { s with drawn:=d }:=⟨I.ok,I.os,I.bare,I.base,I.loc,I.cell,I.free,I.Ff,I.pin,I.n_,I.len⟩
end
section
variable{X:Cx}
end
variable{MU pos p2 p:Pos}{a:Expr}{ks:List (List Im)}
theorem Fh.perm{ds es:List Im}(o:Fh ds)(p:es.Perm ds):Fh es:=
 ⟨⟨by rw[p.length_eq];exact o.ord.Ld,fun a ha b hb=>o.ord.GY a (p.mem_iff.mp ha) b<|p.mem_iff.mp hb,p.nodup_iff.mpr o.ord.nd⟩,o.fst.imp (fun h d hd=>h d<|p.mem_iff.mp hd) fun h d hd=>h d<|p.mem_iff.mp hd⟩
theorem tJ{H:Hp}:∀ {ws:List (List Im×Addr)},(∀ z∈ws,E7 H (.tup z.1)<|.ref z.2)->am H ((ws.map (·.1)).map .tup) (ws.map fun z=>V.ref z.2)
 | [],_=>rfl
 | z::ws,h=>⟨_,_,rfl,h z<|.head _,tJ fun y hy=>h y<|.tail _ hy⟩
theorem nV:∀ ws:List (List Im×Addr),au (ws.map fun z=>V.ref z.2) (ws.map fun z=>Value.ref z.2)
 | []=>.nil
 | z::ws=>.cons rfl (nV ws)
section
variable{X:Cx}{pins:List (Addr×Obj)}{σ:St}{H:Hp}{s:Shared}{P:List Im->Addr->Prop}
theorem BH(hc:X.calm=true)(hu:X.A.units+20<cLine){S:Addr}{ks:List (List Im)}{Q:VK}(I:Inv X pins σ H s)(hS:bE X.w P s.heap S (cW X.w) ks)(hP:∀ k b,P k b->E7 H (.tup k) (.ref b))(o:Fh (ks.map .tup))(hz:ks.length<=300)(q:∀ l zs,H l=none->am H (b6 z_<|ks.map .tup) zs->Q (.ref l) (upd H l<|.lst zs)):
  wpAny (model X.prog X.w) X.A (call (.builtin "sorted") [.ref S]) (EP X pins σ Q) X.xe s:=by
 refine Xf kind_sorted plain_sorted entry_sorted (args_sorted1 _) ?z
 case z=>
  unfold Builtin.«sorted»;refine Z9 (m:=checkCount "sorted" 1 1 _) (Z6<|Z9<|BG (A:=X.A.in1) (I.ok.hd hc) hS hz fun h' tk d ws JZ pm hw=>?_);have I1:Inv X pins σ H { s with heap:=h',toks:=tk,drawn:=d }:=(I.Jj d).kept (t':=tk) JZ;have hi:am H ((ws.map (·.1)).map .tup) (ws.map fun z=>V.ref z.2):=tJ fun z hz=>hP _ _ (hw z hz);have iv:aU h' ((ws.map (·.1)).map .tup) (ws.map fun z=>Value.ref z.2):=hi.Gh I1.n_ (nV ws);have Pl:((ws.map (·.1)).map Im.tup).Perm (ks.map .tup):=pm.map _;have o2:=o.perm Pl;have lw:ws.length<=300:=by rw[<- Z3 (f:=(·.1)),pm.length_eq];exact hz
  generalize IR:(ws.map (·.1)).map Im.tup=ds at hi iv Pl o2;generalize NP:ws.map (fun z=>V.ref z.2)=ys at hi;have rv:au ys (ws.map fun z=>Value.ref z.2):=NP ▸ nV ws;generalize hits:ws.map (fun z=>Value.ref z.2)=f_ at iv rv ⊢;have li:f_.length=ds.length:=iv.length.symm;have lz:f_.length<=300:=by rw[<- hits,Z3];exact lw
  show wpAny _ _ (newList f_ >>= _) _ _ _;refine Z9 (VM ?_ (Zn lz (by decide)));have oB:(h'.push<|seqObj "list" f_.toArray 0).get? h'.objs.size=some (seqObj "list" f_.toArray 0):=ZS _ rfl;refine Z9 (YY<|Zj slot_list_sort ⟨_,oB,rfl⟩ entry_list_sort ?y<|args_list_sort _)
  case y=>
   have Li:∀ h6:Heap,(∀ b ob,b≠h'.objs.size->(h'.push<|seqObj "list" f_.toArray 0).get? b=some ob->h6.get? b=some ob)->∀ b ob,h'.get? b=some ob->h6.get? b=some ob:=fun h6 k6 b ob e=>k6 b ob (Zx<|ZP e) (Z7 _ e);refine mW (s:={ s with heap:=h'.push (seqObj "list" f_.toArray 0),toks:=tk,drawn:=d }) (d8 ds) (tuples'<|decide (∀ d∈ds,c8 d=true)) oB (fun h2 h6 k6 Q hq=>nw (h:=h6) (s:={ s with heap:=h6,toks:=tk,drawn:=d }) o2 h2 (iv.FE<|Li h6 k6) _ _ Q hq) (fun h6 k6=>?_) (by rw[li];exact lh o2.ord) (.inl (by lia)) (by lia) fun p h2 r1 r2 k2 ⟨e9,Mz⟩=>⟨_,rfl,Z6 ⟨_,rfl,?_⟩⟩
   ·refine nv (s:={ s with heap:=h6,toks:=tk,drawn:=d }) o2.ord (iv.FE<|Li h6 k6) o2.tup (fun hb=>Y8 hb) (by show X.A.units+1+1+9<cLine;lia)
   ·have fB:H h'.objs.size=none:=I1.n_.fresh (ZV _);rw[li] at r1 r2;have e1:(p.toList.map fun i=>ds.getD i .l_)=b6 z_ (ks.map .tup):=lj o.ord ((kS r1).trans Pl) (O6 o2.ord r1 r2);have hp:=hi.pick (p:=p.toList) fun k hk=>Zi.mp (r1.mem_iff.mp hk);rw[e1] at hp;refine⟨.ref h'.objs.size,upd H h'.objs.size<|.lst<|p.toList.map fun i=>ys.getD i .l_,?_,rfl,q _ _ fB hp⟩;refine I1.laid (t':=tk) (fun b u e=>Li h2 k2 b u e) (ZV _) ⟨?_,_,e9,?_,Mz⟩
    ·rw[Z3,ZN,r1.size];exact Zn (by lia:ds.length<=300) (by decide)
    ·refine kT (by simp) fun i v u h1 h2=>?_;rw[ZB] at h1 h2;cases Jd:p.toList[i]? with
     | none=>rw[Jd] at h1;cases h1
     | some k=>
      rw[Jd] at h1 h2;cases h1;cases h2;have hk:k<ds.length:=Zi.mp (r1.mem_iff.mp<|Zr Jd);have G':k<ys.length:=by rw[rv.length,li];exact hk
      obtain⟨u,h3,h4⟩:=rv.get (i:=k) (x:=ys[k]) (Z0 G');show ay (ys.getD k .l_) (f_.getD k .none);rw[Z5,Z0 G',Z5,h3];exact h4
def bJ(ks:List (List Im)):List (List Im):=ks.foldl cJ []
theorem nW(ks:List (List Im)):∀ i,i<=ks.length->dl (fun i=>ks.getD i []) i=(ks.take i).foldl cJ []
 | 0,_=>by rw[V9];rfl
 | i+1,h=>by
  rw[List.take_succ_eq_append_getElem (show i<ks.length from h),List.foldl_append,<- nW ks i (Nat.le_of_succ_le h)];show cJ _ (ks.getD i [])=cJ _ ks[i];rw[Z5,Z0<|show i<ks.length from h];rfl
theorem BI(l:List (List Im)):∀ (acc:List (List Im)) (x:List Im),x∈l.foldl cJ acc↔x∈acc\/x∈l:=by
 induction l with
 | nil=>intro acc x;simp
 | cons k r ih=>
  intro acc x;rw[XY,ih];unfold cJ;by_cases hk:k∈acc
  ·rw[ZY hk,ZG];constructor
   ·rintro (h | h)
    ·exact .inl h
    ·exact .inr (.inr h)
   ·rintro (h | h | h)
    ·exact .inl h
    ·exact .inl (h ▸ hk)
    ·exact .inr h
  ·rw[ZW hk,ZA,ZZ,ZG,or_assoc]
theorem BJ{x:List Im}:x∈bJ ks↔x∈ks:=by
 rw[bJ,BI];simp
theorem BK(l:List (List Im)):∀ acc:List (List Im),acc.Nodup->(l.foldl cJ acc).Nodup:=by
 induction l with
 | nil=>intro acc h;exact h
 | cons k r ih=>
  intro acc h;refine ih _ ?_;unfold cJ;split
  ·exact h
  ·next hn=>exact ZH.mpr ⟨h,Zz _ k,fun x hx y hy=>by cases ZZ.mp hy;exact fun e=>hn<|e ▸ hx⟩
theorem BL(ks:List (List Im)):(bJ ks).Nodup:=BK ks [] YG
theorem BM(l:List (List Im)):∀ acc:List (List Im),acc.length<=(l.foldl cJ acc).length:=by
 induction l with
 | nil=>intro acc;exact ZV _
 | cons k r ih=>
  intro acc;refine Zn ?_ (ih _);unfold cJ;split
  ·exact ZV _
  ·rw[ZR];exact YN _ _
theorem BN{i:Nat}(h:i<=ks.length):(dl (fun i=>ks.getD i []) i).length<=(bJ ks).length:=by
 rw[nW ks i h];have e:bJ ks=(ks.drop i).foldl cJ ((ks.take i).foldl cJ []):=by
  rw[bJ,<- List.foldl_append,Zy]
 rw[e];exact BM _ _
theorem BO(ks:List (List Im)):dl (fun i=>ks.getD i []) ks.length=bJ ks:=by
 rw[nW ks _ (ZV _),XE];rfl
def BP(ta:TA):TE:=fun σ H Q=>ta σ H fun vs H1=>∃ (a:Addr) (ks:List (List Im)) (ys:List V),vs=[.ref a]/\H1 a=some (.tup ys)/\am H1 (ks.map .tup) ys/\(∀ k∈ks,Im.keys 7 k=true)/\Fh ((bJ ks).map .tup)/\(bJ ks).length<300/\
 ∀ l zs,H1 l=none->am H1 (b6 z_<|(bJ ks).map .tup) zs->Q (.ref l) (upd H1 l<|.lst zs)
theorem am.at{H:Hp}:∀ {ds:List Im}{vs:List V}{i:Nat}{v:V},am H ds vs->vs[i]?=some v->∃ d,ds[i]?=some d/\E7 H d v
 | [],vs,i,v,h,e=>by rw[show vs=[] from h] at e;simp at e
 | d::ds,vs,0,v,h,e=>by
  obtain⟨u,r,rfl,h1,h2⟩:=h;cases e;exact⟨d,rfl,h1⟩
 | d::ds,vs,i+1,v,h,e=>by
  obtain⟨u,r,rfl,h1,h2⟩:=h;obtain⟨d',e1,e2⟩:=am.at (i:=i) h2 (by simpa using e);exact⟨d',by simpa using e1,e2⟩
theorem BQ(hc:X.calm=true)(hu:X.A.units+30<cLine){l:Addr}{ks:List (List Im)}{ys:List V}{Q:Value->Shared->Prop}(I:Inv X pins σ H s)(hl:H l=some (.tup ys))(hi:am H (ks.map .tup) ys)(hk:∀ k∈ks,Im.keys 7 k=true)(hz:(bJ ks).length<300)(h:∀ h' tk S,Inv X pins σ H { s with heap:=h',toks:=tk }->bE X.w (fun k b=>Im.keys 7 k=true/\E7 H (.tup k) (.ref b)) h' S (cW X.w) (bJ ks)->Q (.ref S) { s with heap:=h',toks:=tk }):
  wpAny (model X.prog X.w) X.A (call (.type "set") [.ref l]) Q X.xe s:=by
 obtain⟨z,f_,rv,o,e1,e2,n,e3⟩:=I.n_ l _ hl;have li:f_.length=ks.length:=by rw[<- rv.length,<- hi.length,Z3]
 have hb:f_.toArray.size=ks.length:=by rw[ZQ,li]
 refine Bx (P:=fun k b=>Im.keys 7 k=true/\E7 H (.tup k) (.ref b)) (items:=f_.toArray) (ks:=ks) (I.ok.hd hc) e1 e2 e3 hu (fun i v hv=>?_) (fun q b z=>⟨z.1,z.2.Gh I.n_ rfl⟩) (fun i hi=>?_) fun h' tk hS kp=>?_
 ·rw[WJ] at hv;have GG:i<ys.length:=by rw[rv.length];exact (Zv.mp hv).1
  obtain⟨u,g1,g2⟩:=rv.get (i:=i) (x:=ys[i]) (Z0 GG);rw[hv] at g1;cases g1;obtain⟨d,g3,g4⟩:=hi.at (i:=i) (v:=ys[i]) (Z0 GG);rw[ZB] at g3;obtain⟨k,g5,rfl⟩:=Z2.mp g3;obtain⟨b,xs,g6,g7,g8⟩:=id g4;rw[g6] at g2 g4;refine⟨b,g2,?_⟩;rw[Z5,g5];exact⟨hk k<|Zr g5,g4⟩
 ·rw[hb] at hi;have:=BN (ks:=ks) (Xi hi);lia
 ·rw[hb,BO] at hS;exact h h' tk _ (I.kept (t':=tk) kp) hS
theorem BR{ta:TA}(hc:X.calm=true)(hu:X.A.units+30<cLine)(hl:Gl X "sorted")(Pm:X.mg "sorted" = none)(hg:Gl X "set")(hm:X.mg "set" = none)(ha:PA X [a] ta)(hs:starEach [a] X.env=[(false,eval a X.env)]:=by rfl):
  PE X (.Call (.Name "sorted" p2) [.Call (.Name "set" p) [a] [] pos] [] MU) (BP ta):=by
 intro pins s σ H Q I h;refine XB (eE I hl Pm (show bootBuiltins "sorted" = some (.builtin "sorted") by decide +kernel) (WI ?_ rfl rfl) (by decide) (by decide));refine Calls.spliced_cons ?_;refine Call_ (eE I hg hm (show bootBuiltins "set" = some (.type "set") by decide +kernel)<|YL (y_ (ha pos pins s σ H _ I h) fun us s1 ⟨vs,H1,I1,r1,q1⟩=>?_) hs rfl);obtain⟨l,ks,ys,rfl,Jt,hi,hk,ho,hz,q⟩:=q1;obtain⟨u,rfl,ru⟩:=cK r1;cases ru;exact BQ hc hu I1 Jt hi hk hz fun h' tk S I2 hS=>Calls.spliced_nil (BH hc (by lia) I2 hS (fun k b z=>z.2) ho (by lia) q)
end
def GS:List Im->Option (List<|List Im)
 | []=>some []
 | .tup a::r=>(GS r).map (a::·)
 | _=>none
theorem tK:∀ {x:List Im}{ks:List (List Im)},GS x=some ks->x=ks.map .tup
 | [],ks,h=>by cases h;rfl
 | .tup a::r,ks,h=>by
  obtain⟨k,h1,rfl⟩:=Z2.mp h;rw[tK h1];rfl
 | .l_::_,_,h=>by cases h
 | .bl _::_,_,h=>by cases h
 | .int _::_,_,h=>by cases h
 | .str _::_,_,h=>by cases h
 | .fn _::_,_,h=>by cases h
 | .fl _::_,_,h=>by cases h
 | .fd::_,_,h=>by cases h
theorem tL:∀ ks:List (List Im),GS (ks.map .tup)=some ks
 | []=>rfl
 | k::ks=>by
  show (GS<|ks.map .tup).map (k::·)=_;rw[tL ks];rfl
def lF(ks:List (List Im)):Bool:=ks.all (Im.keys 7) && decide ((bJ ks).length<300)
def lG(g:M (List Opd)):M Vl:=fun D=>(g D).bind fun p=>(ce p.2 p.1).bind fun ds=>match ds with
 | [.im (.tup x)]=>(GS x).bind fun ks=>if lF ks=true/\jq ((bJ ks).map .tup)=true then some (.lst<|b6 z_<|(bJ ks).map .tup,p.2) else none
 | _=>none
theorem tM:lF ks=true↔(∀ k∈ks,Im.keys 7 k=true)/\(bJ ks).length<300:=by
 unfold lF;rw[ZU,YD,YW]
section
variable{X:Cx}
theorem BS{g:M (List Opd)}(hu:X.A.units+30<cLine)(hl:Gl X "sorted")(Pm:X.mg "sorted" = none)(hg:Gl X "set")(hm:X.mg "set" = none)(ha:VA X [a] g)(hs:starEach [a] X.env=[(false,eval a X.env)]:=by rfl)(hc:X.calm=true:=by rfl):
  VE X (.Call (.Name "sorted" p2) [.Call (.Name "set" p) [a] [] pos] [] MU) (lG g):=by
 refine be (BR hc hu hl Pm hg hm ha hs) fun σ H Q ⟨D,F,r,D',st,nd,Gc,q⟩=>?_;obtain⟨⟨os,D1⟩,h1,h2⟩:=Z8.mp Gc;obtain⟨ds,h3,h4⟩:=Z8.mp h2;refine⟨D,F,os,D1,st,nd,h1,fun vs H1 F1 R1 q_ o1 s1=>?_⟩;have rd:=o1.read q_ h3;split at h4
 ·rename_i x;obtain⟨ks,e1,e2⟩:=Z8.mp h4;split at e2
  ·rename_i hn;cases e2;obtain⟨v,rfl,e⟩:=mN rd;obtain⟨b,xs,rfl,hb,hi⟩:=(show ∃ a xs,v=V.ref a/\H1 a=some (.tup xs)/\am H1 x xs from e);cases tK e1;obtain⟨k1,k2⟩:=tM.mp hn.1;refine⟨b,ks,xs,rfl,hb,hi,k1,iB.mp hn.2,k2,fun l zs fl hz=>?_⟩;have s2:aH H1 (upd H1 l<|.lst zs):=(aH.refl H1).upd fl;exact q _ _ F1 [l] (q_.mono s2.tupS fun a _ o e=>s2 a o e) ⟨l,_,rfl,bm,hz.mono s2.tupS.tup,rfl⟩ (s1.new s2 (Zz _ _) (fun a ha=>by rw[ZZ.mp ha];exact fl) q_.chg)
  ·cases e2
 ·cases h4
end
end L2
namespace L2
open PySem PySem.Spec PyProof.Rows
def Lj:Op2:=fun a b=>match a,b with
 | .im x,.im y=>if cj 6 x y=true then some (.im<|.bl<|z_ x y) else none
 | _,_=>none
section
variable{X:Cx}
theorem BT(hu:X.A.units+20<cLine):Gj X (compareOp .Lt) Lj:=by
 intro pins s σ H x y v u Q I rx ry ⟨d1,d2,d,r1,r2,e,q⟩;unfold Lj at e;split at e
 ·split at e
  ·rename_i hp;cases e;exact rV 6 hp (by lia) (r1.i.Gh I.n_ rx) (r2.i.Gh I.n_ ry) X.prog X.w _ _ ⟨.bl _,H,I,rfl,Out.i q rfl⟩
  ·cases e
 ·cases e
end
end L2
namespace G
open PySem L2
variable{o9 o13 o12 o11 o10 o1:Option Vl}{way c r sd tp wd hg:Int}{h:Vl}{ks:List (Int×Int)}{n:Nat}
noncomputable def BU:MS:=(aQ<|eB<|cq (kB<|ci "int"<|oSl 0)<|kB<|eB<|ca<|kB<|ci "bool"<|oSl 0)
noncomputable def gJ:Fn:=bj 1 1 [0] BU
noncomputable def tN:MS:=(aQ<|eB<|cq (kB<|ci "tuple"<|oSl 0)<|cq (kB<|ae vEq (oV<|aw vLen<|aa (oSl 0) aNil)<|oV<|eC<|.int 2)<|cq (kB<|av 1 G.gJ<|aa (oV<|ae vIx (oSl 0)<|oV<|eC<|.int 0) aNil)<|kB<|av 1 G.gJ<|aa (oV<|ae vIx (oSl 0)<|oV<|eC<|.int 1) aNil)
noncomputable def fe:Fn:=bj 1 1 [0] tN
noncomputable def tQ:MS:=(aQ<|eB<|cq (kB<|av 1 G.fe<|aa (oSl 0) aNil)<|cq (kB<|fY vLe vLe (oV<|eC<|.int 0) (oV<|ae vIx (oSl 0)<|oV<|eC<|.int 0)<|oV<|eC<|.int 30)<|kB<|fY vLe vLe (oV<|eC<|.int 0) (oV<|ae vIx (oSl 0)<|oV<|eC<|.int 1)<|oV<|eC<|.int 30)
noncomputable def ff:Fn:=bj 1 1 [0] tQ
noncomputable def lH(e_:Addr):M Vl:=(k8 1 e_ 1 G.ff<|aa (oSl 0) aNil)
noncomputable def tR(e_:Addr):M Vl:=(ae Lj (oSl 0)<|oSl 1)
noncomputable def tT(e_:Addr):MS:=(ak (sIf (kOr (ca<|bd<|oV<|ci "tuple"<|oSl 0)<|ca<|bd<|oV<|aw vAll<|aa (oV<|a9 1 [1] (bu<|oSl 0) (gN 0) kYes<|G.lH e_) aNil) (aQ<|eC<|.bl false) sNil)<|aQ<|aw vAll<|aa (oV<|a9 2 [] (iZ<|aa (oSl 0)<|aa (oV<|eSl (oSl 0) (bY<|eC<|.int 1) pNone) aNil) (gT 2<|bh (gN 0)<|bh (gN 1) gNil') kYes<|G.tR e_) aNil)
noncomputable def jA(e_:Addr):Fn:=bj 2 2 [0,1] (tT e_)
noncomputable def tU(e_:Addr):MS:=(aQ<|av 2 (G.jA e_)<|aa (oSl 0)<|aa (oV<|eC<|.fn e_) aNil)
noncomputable def iH(e_:Addr):Fn:=bj 1 1 [0] (tU e_)
noncomputable def lI:MS:=(ak (az 10<|aZ<|aa (oV<|ae vEq (oV<|av 2 G.br<|aa (oSl 0)<|aa (oV<|eC<|.int 2) aNil)<|oV<|eC<|.int 0)<|aa (oV<|ae vGt (oV<|av 2 G.br<|aa (oSl 0)<|aa (oV<|eC<|.int 6) aNil)<|oV<|eC<|.int 0)<|aa (oV<|eC<|.bl true) aNil)<|ak (fK<|dz gz 10 mAppend<|aa (oV<|eB<|kOr (kB<|ae vEq (oV<|ae vMod (oSl 8)<|oV<|eC<|.int 2)<|oV<|eC<|.int 0)<|kB<|ae vEq (oSl 9)<|oV<|ae vMod (oV<|ae vDiv (oSl 8)<|oV<|eC<|.int 2)<|oSl 3) aNil)<|ak (az 10<|ae vAdd (oSl 10)<|oV<|aZ<|aa (oV<|eB<|kOr (kB<|ae vIn (oSl 8)<|oV<|aE<|aa (oV<|eC<|.int 0)<|aa (oV<|ae vSub (oSl 2)<|oV<|eC<|.int 1) aNil)<|kB<|ae vIn (oSl 9)<|oV<|aE<|aa (oV<|eC<|.int 0)<|aa (oV<|ae vSub (oSl 3)<|oV<|eC<|.int 1) aNil)<|aa (oV<|eC<|.bl false) aNil)<|sIf (bd<|oV<|ae vIx (oSl 10)<|oSl 6) (cF (eC<|.bl true)<|gIx 7 (aE<|aa (oV<|ae vAdd (oSl 8)<|oSl 4)<|aa (oV<|ae vAdd (oSl 9)<|oSl 5) aNil) putA) sNil)
noncomputable def lJ:MS:=(cf (iR1<|aa (oSl 3) aNil) (gN 9) G.lI)
noncomputable def jB:MS:=(ak (cF (eC<|.bl true)<|gIx 7 (aE<|aa (oV<|ae vAdd (oSl 8)<|oSl 4)<|aa (oV<|ae vAdd (oSl 9)<|oSl 5) aNil) putA)<|ak (cF (av 2 G.bO<|aa (oSl 0)<|aa (oV<|aZ<|aa (oV<|aE<|aa (oV<|eC<|.int 1)<|aa (oV<|eC<|.int 0) aNil)<|aa (oV<|aE<|aa (oV<|eC<|.int 0)<|aa (oV<|eC<|.int 1) aNil)<|aa (oV<|aE<|aa (oV<|eC<|.int 0)<|aa (oV<|eC<|.int 1) aNil)<|aa (oV<|aE<|aa (oV<|eU<|eC<|.int 1)<|aa (oV<|eC<|.int 0) aNil)<|aa (oV<|aE<|aa (oV<|eC<|.int 0)<|aa (oV<|eU<|eC<|.int 1) aNil)<|aa (oV<|aE<|aa (oV<|eC<|.int 1)<|aa (oV<|eC<|.int 0) aNil) aNil) aNil)<|gT 2<|bh (gN 12)<|bh (gN 13) gNil')<|ak (az 8<|aw vMin2<|aa (oV<|ae vSub (oSl 2)<|oV<|eC<|.int 1)<|aa (oV<|aw vMax2<|aa (oV<|eC<|.int 0)<|aa (oV<|ae vAdd (oSl 8)<|oSl 12) aNil) aNil)<|az 9<|aw vMin2<|aa (oV<|ae vSub (oSl 3)<|oV<|eC<|.int 1)<|aa (oV<|aw vMax2<|aa (oV<|eC<|.int 0)<|aa (oV<|ae vAdd (oSl 9)<|oSl 13) aNil) aNil)
noncomputable def tW:MS:=(ak (az 1<|eC<|.int 8)<|ak (sIf (kB<|ae vEq (oV<|av 2 G.br<|aa (oSl 0)<|aa (oV<|eC<|.int 8) aNil)<|oV<|eC<|.int 0) (az 1<|eC<|.int 12) sNil)<|ak (fL 2 3<|aa (oV<|ae vAdd (oV<|eC<|.int 1)<|oV<|av 2 G.br<|aa (oSl 0)<|aa (oSl 1) aNil)<|aa (oV<|ae vAdd (oV<|eC<|.int 1)<|oV<|av 2 G.br<|aa (oSl 0)<|aa (oSl 1) aNil) aNil)<|ak (fL 4 5<|aa (oV<|av 2 G.bO<|aa (oSl 0)<|aa (oV<|aZ<|aa (oV<|eC<|.int 0)<|aa (oV<|eC<|.int 0)<|aa (oV<|eC<|.int 1)<|aa (oV<|ae vSub (oV<|eC<|.int 31)<|oSl 2) aNil) aNil)<|aa (oV<|av 2 G.bO<|aa (oSl 0)<|aa (oV<|aZ<|aa (oV<|eC<|.int 0)<|aa (oV<|eC<|.int 0)<|aa (oV<|eC<|.int 2)<|aa (oV<|ae vSub (oV<|eC<|.int 31)<|oSl 3) aNil) aNil) aNil)<|ak (az 6<|av 2 G.br<|aa (oSl 0)<|aa (oV<|eC<|.int 6) aNil)<|ak (az 7 eDict0T)<|ak (cf (iR1<|aa (oSl 2) aNil) (gN 8) G.lJ)<|ak (cF (aE<|aa (oV<|eC<|.int 0)<|aa (oV<|eC<|.int 0) aNil)<|gT 2<|bh (gN 8)<|bh (gN 9) gNil')<|ak (cf (iR1<|aa (oV<|ae vMul (oV<|eC<|.int 40)<|oV<|aw vInt<|aa (oV<|ae vEq (oSl 6)<|oV<|eC<|.int 5) aNil) aNil) (gN 11) G.jB)<|aQ<|aw vTuple<|aa (oV<|aw Fk<|aa (oSl 7) aNil) aNil)
noncomputable def jC:Fn:=bj 1 14 [0] tW
theorem FA{m:Nat}(h:Nat.ble (n+1) m=true):n<m:=ZK h
abbrev bV(b:Bool):Vl:=.im (.bl b)
def bK(ks:List (Int×Int))(c:Int×Int):List (Int×Int):=if c∈ks then ks else ks++[c]
theorem nX(ks:List (Int×Int))(c:Int×Int):fX (mt ks) (kM c) (.bl true)=mt (bK ks c):=by
 unfold bK;by_cases h:c∈ks
 ·rw[ZY h];unfold fX;rw[ZY (by rw[nE];simpa using h)];unfold mt;rw[YK];refine Wk fun x _=>?_;show (if kM x=kM c then (kM x,Im.bl true) else (kM x,Im.bl true))=_;split<;>rfl
 ·rw[ZW h];exact AR h
structure Hy(hg wd tp sd:Int)(ks:List (Int×Int)):Prop where
 nd:ks.Nodup
 Iu:∀ c∈ks,tp<=c.1/\c.1<tp+hg/\sd<=c.2/\c.2<sd+wd
theorem Hy.add(R:Hy hg wd tp sd ks){r c:Int}(r0:0<=r)(r1:r<hg)(c0:0<=c)(c1:c<wd):Hy hg wd tp sd (bK ks (r+tp,c+sd)):=by
 unfold bK;split
 ·exact R
 ·next h=>
  refine⟨ZH.mpr ⟨R.nd,Zz _ _,fun a ha b hb e=>h (by rw[<- ZZ.mp hb,<- e];exact ha)⟩,fun x hx=>?_⟩;rcases ZA.mp hx with hx | hx
  ·exact R.Iu x hx
  ·rw[ZZ.mp hx];dsimp only;lia
theorem Hy.len(R:Hy hg wd tp sd ks)(h1:hg<=12)(h2:wd<=12):ks.length<=144:=by
 have n1:(ks.map fun c=>((c.1 - tp) * 12+(c.2 - sd)).toNat).Nodup:=by
  refine WM.mpr (List.Pairwise.imp_of_mem (fun {a b} ha hb ne e=>ne ?_) R.nd);have i1:=R.Iu a ha;have i2:=R.Iu b hb;have:a.1=b.1/\a.2=b.2:=by lia
  exact Prod.ext this.1 this.2
 have q:=jx (m:=range 144) n1 fun x hx=>by
  obtain⟨c,hc,rfl⟩:=Zl.mp hx;have i1:=R.Iu c hc;rw[Zi];lia
 rwa [Z3,Zk] at q
theorem tX{D:SD}(h4:D[4]?=some (some<|iI tp))(h5:D[5]?=some (some<|iI sd))(h7:D[7]?=some (some<|.dT<|mt ks))(h8:D[8]?=some (some<|iI r))(h9:D[9]?=some (some<|iI c))(hl:ks.length<100000):
  cF (eC<|.bl true) (gIx 7 (aE<|aa (oV<|ae vAdd (oSl 8)<|oSl 4)<|aa (oV<|ae vAdd (oSl 9)<|oSl 5) aNil) putA) D=some (.nx,D.set 7<|some<|.dT<|mt<|bK ks (r+tp,c+sd)):=by
 have hp:putA (.dT<|mt ks) (.im<|.tup<|kM (r+tp,c+sd)) (bV true)=some (.dT<|mt<|bK ks (r+tp,c+sd)):=by
  rw[<- nX];exact ZY ⟨rfl,by unfold mt;rw[Z3];exact hl⟩
 have s4:oSl 4 D=some (.sl 4,D):=by unfold oSl;rw[h4]
 have s5:oSl 5 D=some (.sl 5,D):=by unfold oSl;rw[h5]
 have s8:oSl 8 D=some (.sl 8,D):=by unfold oSl;rw[h8]
 have s9:oSl 9 D=some (.sl 9,D):=by unfold oSl;rw[h9]
 have r4:rsl D (.sl 4)=some (iI tp):=by show (D[4]?).getD none=_;rw[h4];rfl
 have r5:rsl D (.sl 5)=some (iI sd):=by show (D[5]?).getD none=_;rw[h5];rfl
 have r8:rsl D (.sl 8)=some (iI r):=by show (D[8]?).getD none=_;rw[h8];rfl
 have r9:rsl D (.sl 9)=some (iI c):=by show (D[9]?).getD none=_;rw[h9];rfl
 have t:aE (aa (oV<|ae vAdd (oSl 8)<|oSl 4)<|aa (oV<|ae vAdd (oSl 9)<|oSl 5) aNil) D=some (.im<|.tup<|kM (r+tp,c+sd),D):=
  IF (a_ (v_<|b_ s8 s4 r8 r4 rfl)<|a_ (v_<|b_ s9 s5 r9 r5 rfl) rfl) rfl (ZK rfl) rfl;refine J1 rfl ?_;unfold gIx;rw[h7];show (aE _ D).bind _=_;rw[t];show (match D[7]? with | some (some c)=>_ | _=>none)=_;rw[h7];show (putA _ _ _).map _=_;rw[hp];rfl
theorem BV(H:aT (n+2) h)(w0:0<=way)(w1:way<6)(hw:0<wd)(hl:ks.length<100000):
  ∃ h' FZ F7,lI [some h,o1,some<|iI hg,some<|iI wd,some<|iI tp,some<|iI sd,some<|iI way,some<|.dT<|mt ks,some<|iI r,some<|iI c,o10,o11,o12,o13]=some (.nx,[some h',o1,some<|iI hg,some<|iI wd,some<|iI tp,some<|iI sd,some<|iI way,some<|.dT<|mt F7,some<|iI r,some<|iI c,FZ,o11,o12,o13])/\aT n h'/\(F7=ks\/F7=bK ks (r+tp,c+sd)):=by
 obtain⟨v1,h1,e1,_,_,H1⟩:=dS (n:=n+1) (m:=2) H (by decide) (by decide);obtain⟨v2,h2,e2,_,_,H2⟩:=dS (n:=n) (m:=6) H1 (by decide) (by decide);obtain⟨q,rfl⟩:=aW H;obtain⟨q1,rfl⟩:=aW H1;obtain⟨q2,rfl⟩:=aW H2;obtain⟨b3,S6⟩:∃ b3:Bool,eB (kOr (kB<|ae vEq (oV<|ae vMod (oSl 8)<|oV<|eC<|.int 2)<|oV<|eC<|.int 0)<|kB<|ae vEq (oSl 9)<|oV<|ae vMod (oV<|ae vDiv (oSl 8)<|oV<|eC<|.int 2)<|oSl 3) [some (.lst q2),o1,some<|iI hg,some<|iI wd,some<|iI tp,some<|iI sd,some<|iI way,some<|.dT<|mt ks,some<|iI r,some<|iI c,some<|.lst [.bl (decide (v1=0)),.bl<|decide (0<v2),.bl true],o11,o12,o13]=some (bV b3,[some (.lst q2),o1,some<|iI hg,some<|iI wd,some<|iI tp,some<|iI sd,some<|iI way,some<|.dT<|mt ks,some<|iI r,some<|iI c,some<|.lst [.bl (decide (v1=0)),.bl<|decide (0<v2),.bl true],o11,o12,o13]):=by
  have z1:kB (ae vEq (oV<|ae vMod (oSl 8)<|oV<|eC<|.int 2)<|oV<|eC<|.int 0) [some (.lst q2),o1,some<|iI hg,some<|iI wd,some<|iI tp,some<|iI sd,some<|iI way,some<|.dT<|mt ks,some<|iI r,some<|iI c,some<|.lst [.bl (decide (v1=0)),.bl<|decide (0<v2),.bl true],o11,o12,o13]=some (decide (r % 2=0),_):=Fu (b_ (v_ (b_ rfl rfl rfl rfl (eZ (by decide)))) rfl rfl rfl<|dR _ _);cases hb:decide (r % 2=0) with
  | true=>rw[hb] at z1;exact⟨true,Jz<|lr z1⟩
  | false=>rw[hb] at z1;exact⟨_,Jz (ck z1 (Fu (b_ rfl (v_ (b_ (v_ (b_ rfl rfl rfl rfl (lq (by decide) (by decide)))) rfl rfl rfl<|eZ hw)) rfl rfl<|dR _ _)))⟩
 obtain⟨b4,S7⟩:∃ b4:Bool,eB (kOr (kB<|ae vIn (oSl 8)<|oV<|aE<|aa (oV<|eC<|.int 0)<|aa (oV<|ae vSub (oSl 2)<|oV<|eC<|.int 1) aNil)<|kB<|ae vIn (oSl 9)<|oV<|aE<|aa (oV<|eC<|.int 0)<|aa (oV<|ae vSub (oSl 3)<|oV<|eC<|.int 1) aNil) [some (.lst q2),o1,some<|iI hg,some<|iI wd,some<|iI tp,some<|iI sd,some<|iI way,some<|.dT<|mt ks,some<|iI r,some<|iI c,some<|.lst [.bl (decide (v1=0)),.bl<|decide (0<v2),.bl true,.bl b3],o11,o12,o13]=some (bV b4,[some (.lst q2),o1,some<|iI hg,some<|iI wd,some<|iI tp,some<|iI sd,some<|iI way,some<|.dT<|mt ks,some<|iI r,some<|iI c,some<|.lst [.bl (decide (v1=0)),.bl<|decide (0<v2),.bl true,.bl b3],o11,o12,o13]):=by
  obtain⟨x,hx⟩:∃ x:Bool,vIn (iI r) (.im<|.tup [.int 0,.int<|hg - 1])=some (bV x):=⟨_,rfl⟩;obtain⟨y,hy⟩:∃ y:Bool,vIn (iI c) (.im<|.tup [.int 0,.int<|wd - 1])=some (bV y):=⟨_,rfl⟩;cases x with
  | true=>exact⟨true,Jz<|lr<|Fu<|b_ rfl (v_<|IF (a_ rfl<|a_ (v_<|b_ rfl rfl rfl rfl rfl) rfl) rfl (ZK rfl) rfl) rfl rfl hx⟩
  | false=>exact⟨y,Jz<|ck (Fu<|b_ rfl (v_<|IF (a_ rfl<|a_ (v_<|b_ rfl rfl rfl rfl rfl) rfl) rfl (ZK rfl) rfl) rfl rfl hx)<|Fu<|b_ rfl (v_<|IF (a_ rfl<|a_ (v_<|b_ rfl rfl rfl rfl rfl) rfl) rfl (ZK rfl) rfl) rfl rfl hy⟩
 obtain⟨b,hb⟩:∃ b:Bool,FS [Im.bl (decide (v1=0)),.bl<|decide (0<v2),.bl true,.bl b3,.bl b4,.bl false] way=some (.bl b):=by
  have:way=0\/way=1\/way=2\/way=3\/way=4\/way=5:=by lia
  rcases this with rfl | rfl | rfl | rfl | rfl | rfl<;>exact⟨_,rfl⟩
 have g2:vGt (iI v2) (iI 0)=some (bV<|decide (0<v2)):=rfl;have vi:vIx (.lst [.bl (decide (v1=0)),.bl<|decide (0<v2),.bl true,.bl b3,.bl b4,.bl false]) (iI way)=some (bV b):=congrArg (Option.map Vl.im) hb;unfold lI;have s1:az 10 (aZ<|aa (oV<|ae vEq (oV<|av 2 G.br<|aa (oSl 0)<|aa (oV<|eC<|.int 2) aNil)<|oV<|eC<|.int 0)<|aa (oV<|ae vGt (oV<|av 2 G.br<|aa (oSl 0)<|aa (oV<|eC<|.int 6) aNil)<|oV<|eC<|.int 0)<|aa (oV<|eC<|.bl true) aNil) [some (.lst q),o1,some<|iI hg,some<|iI wd,some<|iI tp,some<|iI sd,some<|iI way,some<|.dT<|mt ks,some<|iI r,some<|iI c,o10,o11,o12,o13]=some (.nx,[some (.lst q2),o1,some<|iI hg,some<|iI wd,some<|iI tp,some<|iI sd,some<|iI way,some<|.dT<|mt ks,some<|iI r,some<|iI c,some<|.lst [.bl (decide (v1=0)),.bl<|decide (0<v2),.bl true],o11,o12,o13]):=
  aM (IG (a_ (v_<|b_ (v_<|d_ (a_ rfl<|a_ rfl rfl) rfl rfl e1 rfl) rfl rfl rfl<|dR _ _)<|a_ (v_<|b_ (v_<|d_ (a_ rfl<|a_ rfl rfl) rfl rfl e2 rfl) rfl rfl rfl g2) rfl) rfl (ZK rfl) rfl) (FA rfl) rfl;have s2:fK (dz gz 10 mAppend<|aa (oV<|eB<|kOr (kB<|ae vEq (oV<|ae vMod (oSl 8)<|oV<|eC<|.int 2)<|oV<|eC<|.int 0)<|kB<|ae vEq (oSl 9)<|oV<|ae vMod (oV<|ae vDiv (oSl 8)<|oV<|eC<|.int 2)<|oSl 3) aNil) [some (.lst q2),o1,some<|iI hg,some<|iI wd,some<|iI tp,some<|iI sd,some<|iI way,some<|.dT<|mt ks,some<|iI r,some<|iI c,some<|.lst [.bl (decide (v1=0)),.bl<|decide (0<v2),.bl true],o11,o12,o13]=some (.nx,[some (.lst q2),o1,some<|iI hg,some<|iI wd,some<|iI tp,some<|iI sd,some<|iI way,some<|.dT<|mt ks,some<|iI r,some<|iI c,some<|.lst [.bl (decide (v1=0)),.bl<|decide (0<v2),.bl true,.bl b3],o11,o12,o13]):=
  NV (MJ rfl rfl (a_ (v_ S6) rfl) rfl rfl (NW (by show 3<100000;decide)) rfl);have s3:az 10 (ae vAdd (oSl 10)<|oV<|aZ<|aa (oV<|eB<|kOr (kB<|ae vIn (oSl 8)<|oV<|aE<|aa (oV<|eC<|.int 0)<|aa (oV<|ae vSub (oSl 2)<|oV<|eC<|.int 1) aNil)<|kB<|ae vIn (oSl 9)<|oV<|aE<|aa (oV<|eC<|.int 0)<|aa (oV<|ae vSub (oSl 3)<|oV<|eC<|.int 1) aNil)<|aa (oV<|eC<|.bl false) aNil) [some (.lst q2),o1,some<|iI hg,some<|iI wd,some<|iI tp,some<|iI sd,some<|iI way,some<|.dT<|mt ks,some<|iI r,some<|iI c,some<|.lst [.bl (decide (v1=0)),.bl<|decide (0<v2),.bl true,.bl b3],o11,o12,o13]=some (.nx,[some (.lst q2),o1,some<|iI hg,some<|iI wd,some<|iI tp,some<|iI sd,some<|iI way,some<|.dT<|mt ks,some<|iI r,some<|iI c,some<|.lst [.bl (decide (v1=0)),.bl<|decide (0<v2),.bl true,.bl b3,.bl b4,.bl false],o11,o12,o13]):=
  aM (b_ rfl (v_<|IG (a_ (v_ S7) rfl) rfl (ZK rfl) rfl) rfl rfl rfl) (FA rfl) rfl;cases b with
 | true=>exact⟨.lst q2,_,bK ks (r+tp,c+sd),A_ s1<|A_ s2<|A_ s3<|cH (GN (v_<|b_ rfl rfl rfl rfl vi) rfl rfl)<|(tX rfl rfl rfl rfl rfl hl).trans rfl,H2,.inr rfl⟩
 | false=>exact⟨.lst q2,_,ks,A_ s1<|A_ s2<|A_ s3<|bI (GN (v_<|b_ rfl rfl rfl rfl vi) rfl rfl) rfl,H2,.inl rfl⟩
theorem iK{i:Nat}{x:Im}(h:(bo 0 n)[i]?=some x):i<n/\x=.int (0+(i:Int)):=by
 have hi:i<n:=by
  have:=(Zv.mp h).1
  rwa [bo,Z3,Zk] at this
 rw[bo,ZB,XN hi] at h;exact⟨hi,(Zq h).symm⟩
theorem nY(lo:Int)(n:Nat):(bo lo n).length=n:=by rw[bo,Z3,Zk]
abbrev fD(h:Vl)(o1:Option Vl)(hg wd tp sd way:Int)(ks:List (Int×Int))(o8 o9 o10 o11 o12 o13:Option Vl):SD:=[some h,o1,some<|iI hg,some<|iI wd,some<|iI tp,some<|iI sd,some<|iI way,some<|.dT<|mt ks,o8,o9,o10,o11,o12,o13]
structure MV(hg wd way:Int):Prop where
 h0:0<hg
 h1:hg<=12
 w0:0<wd
 w1:wd<=12
 y0:0<=way
 y1:way<6
theorem BW{M:Nat}(H:aT (M+24) h)(d:MV hg wd way)(R:Hy hg wd tp sd ks)(r0:0<=r)(r1:r<hg):
  ∃ h' F7 Hz FZ,lJ (fD h o1 hg wd tp sd way ks (some<|iI r) o9 o10 o11 o12 o13)=some (.nx,fD h' o1 hg wd tp sd way F7 (some<|iI r) Hz FZ o11 o12 o13)/\aT M h'/\Hy hg wd tp sd F7:=by
 have:=d.w0;have:=d.w1;obtain⟨D',l1,h',F7,Hz,FZ,rfl,l2,l3⟩:=gC (tg:=gN 9) (b:=lI) (xs:=bo 0 wd.toNat) (fun i D=>∃ h ks o9 o10,D=fD h o1 hg wd tp sd way ks (some<|iI r) o9 o10 o11 o12 o13/\aT (M+24 - 2 * i) h/\Hy hg wd tp sd ks) (D:=fD h o1 hg wd tp sd way ks (some<|iI r) o9 o10 o11 o12 o13)
  ⟨h,ks,o9,o10,rfl,H,R⟩ (fun i x D hx hI=>by
   obtain⟨h,ks,o9,o10,rfl,H,R⟩:=hI;obtain⟨hi,rfl⟩:=iK hx;have hl:=R.len d.h1 d.w1;obtain⟨h',FZ,F7,e,H',k⟩:=BV (n:=M+24 - 2 * (i+1)) (hg:=hg) (tp:=tp) (sd:=sd) (r:=r) (c:=0+(i:Int)) (ks:=ks) (o1:=o1) (o10:=o10) (o11:=o11) (o12:=o12) (o13:=o13) (H.mono (by lia)) d.y0 d.y1 d.w0 (by lia);refine⟨_,_,_,rfl,e,.inl rfl,h',F7,_,FZ,rfl,H',?_⟩;rcases k with rfl | rfl
   ·exact R
   ·exact R.add r0 r1 (by lia) (by lia))
 rw[nY] at l2;refine⟨h',F7,Hz,FZ,dA (o:=none) (Le (a_ rfl rfl) rfl ⟨by lia,by lia⟩) l1 rfl,l2.mono (by lia),l3⟩
theorem BX{M:Nat}{o8:Option Vl}(H:aT (M+300) h)(d:MV hg wd way):
  ∃ h' F7 J3 Hz FZ,cf (iR1<|aa (oSl 2) aNil) (gN 8) G.lJ (fD h o1 hg wd tp sd way [] o8 o9 o10 o11 o12 o13)=some (.nx,fD h' o1 hg wd tp sd way F7 J3 Hz FZ o11 o12 o13)/\aT M h'/\Hy hg wd tp sd F7:=by
 have:=d.h0;have:=d.h1;obtain⟨D',l1,h',F7,J3,Hz,FZ,rfl,l2,l3⟩:=gC (tg:=gN 8) (b:=lJ) (xs:=bo 0 hg.toNat) (fun i D=>∃ h ks o8 o9 o10,D=fD h o1 hg wd tp sd way ks o8 o9 o10 o11 o12 o13/\aT (M+300 - 24 * i) h/\Hy hg wd tp sd ks) (D:=fD h o1 hg wd tp sd way [] o8 o9 o10 o11 o12 o13)
  ⟨h,[],o8,o9,o10,rfl,H,YG,fun _ h=>(YB h).elim⟩ (fun i x D hx hI=>by
   obtain⟨h,ks,o8,o9,o10,rfl,H,R⟩:=hI;obtain⟨hi,rfl⟩:=iK hx;obtain⟨h',F7,Hz,FZ,e,H',R'⟩:=BW (M:=M+300 - 24 * (i+1)) (r:=0+(i:Int)) (o1:=o1) (o9:=o9) (o10:=o10) (o11:=o11) (o12:=o12) (o13:=o13) (H.mono (by lia)) d R (by lia) (by lia);exact⟨_,_,_,rfl,e,.inl rfl,h',F7,_,Hz,FZ,rfl,H',R'⟩)
 rw[nY] at l2;exact⟨h',F7,J3,Hz,FZ,dA (o:=none) (Le (a_ rfl rfl) rfl ⟨by lia,by lia⟩) l1 rfl,l2.mono (by lia),l3⟩
theorem QS{x m:Int}(h:0<m):0<=(if (if x > 0 then x else 0)<m - 1 then (if x > 0 then x else 0) else m - 1)/\(if (if x > 0 then x else 0)<m - 1 then (if x > 0 then x else 0) else m - 1)<m:=by
 split<;>split<;>lia
theorem BY{M:Nat}(H:aT (M+1) h)(d:MV hg wd way)(R:Hy hg wd tp sd ks)(r0:0<=r)(r1:r<hg)(c0:0<=c)(c1:c<wd):
  ∃ h' F7 r' c' Gx Gy,jB (fD h o1 hg wd tp sd way ks (some<|iI r) (some<|iI c) o10 o11 o12 o13)=some (.nx,fD h' o1 hg wd tp sd way F7 (some<|iI r') (some<|iI c') o10 o11 Gx Gy)/\aT M h'/\Hy hg wd tp sd F7/\0<=r'/\r'<hg/\0<=c'/\c'<wd:=by
 obtain⟨x,h',e,hx,H'⟩:=iD (n:=M) (xs:=[cM (1,0),cM (0,1),cM (0,1),cM (-1,0),cM (0,-1),cM (1,0)]) H (by simp) (by decide);obtain⟨dn,rt,rfl⟩:∃ dn rt:Int,x=cM (dn,rt):=by
  simp at hx;rcases hx with rfl | rfl | rfl | rfl | rfl<;>exact⟨_,_,rfl⟩
 obtain⟨q,rfl⟩:=aW H;obtain⟨q1,rfl⟩:=aW H';have hl:=R.len d.h1 d.w1;obtain⟨a1,a2⟩:=QS (x:=r+dn) d.h0;obtain⟨b1,b2⟩:=QS (x:=c+rt) d.w0;refine⟨.lst q1,bK ks (r+tp,c+sd),_,_,some<|iI dn,some<|iI rt,?_,H',R.add r0 r1 c0 c1,a1,a2,b1,b2⟩;unfold jB;refine A_ ((tX rfl rfl rfl rfl rfl (by lia)).trans rfl) (A_ (D1:=fD (.lst q1) o1 hg wd tp sd way (bK ks (r+tp,c+sd)) (some<|iI r) (some<|iI c) o10 o11 (some<|iI dn) (some<|iI rt)) (J1 (d:=.im (cM (dn,rt))) (d_ (os:=[.sl 0,.vl<|.lst [cM (1,0),cM (0,1),cM (0,1),cM (-1,0),cM (0,-1),cM (1,0)]]) (D1:=fD (.lst q) o1 hg wd tp sd way (bK ks (r+tp,c+sd)) (some<|iI r) (some<|iI c) o10 o11 o12 o13) rfl rfl rfl e rfl) rfl)<|A_ (aM (Fi (a_ (v_<|b_ rfl rfl rfl rfl rfl)<|a_ (v_<|Fi (a_ rfl<|a_ (v_<|b_ rfl rfl rfl rfl rfl) rfl) rfl rfl) rfl) rfl rfl) (FA rfl) rfl)<|aM (Fi (a_ (v_<|b_ rfl rfl rfl rfl rfl)<|a_ (v_<|Fi (a_ rfl<|a_ (v_<|b_ rfl rfl rfl rfl rfl) rfl) rfl rfl) rfl) rfl rfl) (FA rfl) rfl)
theorem BZ{M:Nat}(H:aT (M+40) h)(d:MV hg wd way)(R:Hy hg wd tp sd ks):
  ∃ h' F7 J3 Hz HA Gx Gy,cf (iR1<|aa (oV<|ae vMul (oV<|eC<|.int 40)<|oV<|aw vInt<|aa (oV<|ae vEq (oSl 6)<|oV<|eC<|.int 5) aNil) aNil) (gN 11) G.jB (fD h o1 hg wd tp sd way ks (some<|iI 0) (some<|iI 0) o10 o11 o12 o13)=some (.nx,fD h' o1 hg wd tp sd way F7 J3 Hz o10 HA Gx Gy)/\aT M h'/\Hy hg wd tp sd F7:=by
 obtain⟨k,hk,G'⟩:∃ k:Int,ae vMul (oV<|eC<|.int 40) (oV<|aw vInt<|aa (oV<|ae vEq (oSl 6)<|oV<|eC<|.int 5) aNil) (fD h o1 hg wd tp sd way ks (some<|iI 0) (some<|iI 0) o10 o11 o12 o13)=some (iI k,fD h o1 hg wd tp sd way ks (some<|iI 0) (some<|iI 0) o10 o11 o12 o13)/\0<=k/\k<=40:=by
  have z:aw vInt (aa (oV<|ae vEq (oSl 6)<|oV<|eC<|.int 5) aNil) (fD h o1 hg wd tp sd way ks (some<|iI 0) (some<|iI 0) o10 o11 o12 o13)=some (iI<|if decide (way=5) then 1 else 0,fD h o1 hg wd tp sd way ks (some<|iI 0) (some<|iI 0) o10 o11 o12 o13):=Fi (a_ (v_<|b_ rfl rfl rfl rfl<|dR _ _) rfl) rfl rfl;refine⟨_,b_ rfl (v_ z) rfl rfl (dk (fU (by decide) (by decide))),?_⟩;cases decide (way=5)<;>decide
 obtain⟨D',l1,h',F7,r',c',HA,Gx,Gy,rfl,l2,l3,_⟩:=gC (tg:=gN 11) (b:=jB) (xs:=bo 0 k.toNat) (fun i D=>∃ h ks r c o11 o12 o13,D=fD h o1 hg wd tp sd way ks (some<|iI r) (some<|iI c) o10 o11 o12 o13/\aT (M+40 - i) h/\Hy hg wd tp sd ks/\0<=r/\r<hg/\0<=c/\c<wd) (D:=fD h o1 hg wd tp sd way ks (some<|iI 0) (some<|iI 0) o10 o11 o12 o13)
  ⟨h,ks,0,0,o11,o12,o13,rfl,H,R,Xm _,d.h0,Xm _,d.w0⟩ (fun i x D hx hI=>by
   obtain⟨h,ks,r,c,o11,o12,o13,rfl,H,R,q1,q2,q3,q4⟩:=hI;obtain⟨hi,rfl⟩:=iK hx;obtain⟨h',F7,r',c',Gx,Gy,e,H',R',z⟩:=BY (M:=M+40 - (i+1)) (o1:=o1) (o10:=o10) (o11:=some (iI<|0+(i:Int))) (o12:=o12) (o13:=o13) (H.mono (by lia)) d R q1 q2 q3 q4;exact⟨_,_,_,rfl,e,.inl rfl,h',F7,r',c',_,Gx,Gy,rfl,H',R',z⟩)
 rw[nY] at l2;exact⟨h',F7,_,_,HA,Gx,Gy,dA (o:=none) (Le (a_ (v_ hk) rfl) rfl ⟨by lia,by lia⟩) l1 rfl,l2.mono (by lia),l3⟩
def Up(cs:List (Int×Int)):Prop:=cs.Pairwise fun a b=>z_ (cM a) (cM b)=true
theorem jD(nd:ks.Nodup)(hl:ks.length<=1000):∃ cs:List (Int×Int),b6 z_ (ks.map cM)=cs.map cM/\cs.Perm ks/\Up cs:=by
 have o:=iC nd hl;obtain⟨cs,h1,h2⟩:=AN (iA<|ks.map cM);refine⟨cs,h2,h1,?_⟩;have:=nu o.ord.nd o.ord.GY;rw[h2] at this;exact WM.mp this
structure Pn(cs:List (Int×Int)):Prop where
 up:Up cs
 Iu:∀ c∈cs,0<=c.1/\c.1<=30/\0<=c.2/\c.2<=30
 len:cs.length<=144
theorem B1{M:Nat}(H:aT (M+400) h):∃ cs h',jC [h]=some (cT cs,[h'])/\Pn cs/\aT M h':=by
 obtain⟨v0,h0,e0,_,_,H0⟩:=dS (n:=M+399) (m:=8) H (by decide) (by decide);obtain⟨ms,S8,QT,TD⟩:∃ ms:Int,(if decide (v0=0) then 12 else 8)=ms/\0<ms/\ms<=12:=by
  cases decide (v0=0)
  ·exact⟨8,rfl,by decide,by decide⟩
  ·exact⟨12,rfl,by decide,by decide⟩
 obtain⟨v1,h1,e1,a1,b1,H1⟩:=dS (n:=M+398) (m:=ms) H0 QT (by lia);obtain⟨v2,h2,e2,a2,b2,H2⟩:=dS (n:=M+397) (m:=ms) H1 QT (by lia);obtain⟨x3,h3,e3,i3,H3⟩:=iD (n:=M+396) (xs:=[.int 0,.int 0,.int 1,.int<|31 - (1+v1)]) H2 (by simp) (by simp);obtain⟨x4,h4,e4,i4,H4⟩:=iD (n:=M+395) (xs:=[.int 0,.int 0,.int 2,.int<|31 - (1+v2)]) H3 (by simp) (by simp);obtain⟨v5,h5,e5,a5,b5,H5⟩:=dS (n:=M+340) (m:=6) (H4.mono (by lia)) (by decide) (by decide);obtain⟨tp,rfl,t0,t1⟩:∃ tp:Int,x3=.int tp/\0<=tp/\tp+(1+v1)<=31:=by
  simp at i3;rcases i3 with rfl | rfl | rfl<;>exact⟨_,rfl,by lia,by lia⟩
 obtain⟨sd,rfl,s0,s1⟩:∃ sd:Int,x4=.int sd/\0<=sd/\sd+(1+v2)<=31:=by
  simp at i4;rcases i4 with rfl | rfl | rfl<;>exact⟨_,rfl,by lia,by lia⟩
 obtain⟨q,rfl⟩:=aW H;obtain⟨q0,rfl⟩:=aW H0;obtain⟨q1,rfl⟩:=aW H1;obtain⟨q2,rfl⟩:=aW H2;obtain⟨q3,rfl⟩:=aW H3;obtain⟨q4,rfl⟩:=aW H4;obtain⟨q5,rfl⟩:=aW H5;have d:MV (1+v1) (1+v2) v5:=⟨by lia,by lia,by lia,by lia,a5,b5⟩;obtain⟨h6,QU,o8,o9,o10,e6,H6,R6⟩:=BX (M:=M+40) (tp:=tp) (sd:=sd) (o1:=some (iI ms)) (o8:=none) (o9:=none) (o10:=none) (o11:=none) (o12:=none) (o13:=none) (H5.mono (by lia)) d;obtain⟨h7,MW,J3,Hz,HA,Gx,Gy,e7,H7,R7⟩:=BZ (M:=M) (o1:=some (iI ms)) (o10:=o10) (o11:=none) (o12:=none) (o13:=none) H6 d R6;have hl:=R7.len d.h1 d.w1;obtain⟨cs,c1,c2,c3⟩:=jD R7.nd (by lia);obtain⟨q6,rfl⟩:=aW H6;obtain⟨q7,rfl⟩:=aW H7;refine⟨cs,.lst q7,?_,⟨c3,fun c hc=>?_,by rw[c2.length_eq];exact hl⟩,H7⟩
 ·have hs:Fk [.dT (mt MW)]=some (cL cs):=by
   show dQ ((mt MW).map fun p=>Im.tup p.1)=_;rw[AS];unfold dQ;rw[ZY (iB.mpr (iC R7.nd (by lia))),c1]
  unfold jC tW;have z0:kB (ae vEq (oV<|av 2 G.br<|aa (oSl 0)<|aa (oV<|eC<|.int 8) aNil)<|oV<|eC<|.int 0) [some (.lst q),some<|iI 8,none,none,none,none,none,none,none,none,none,none,none,none]=some (decide (v0=0),[some (.lst q0),some<|iI 8,none,none,none,none,none,none,none,none,none,none,none,none]):=Fu (b_ (v_<|d_ (a_ rfl<|a_ rfl rfl) rfl rfl e0 rfl) rfl rfl rfl<|dR _ _);have z1:sIf (kB<|ae vEq (oV<|av 2 G.br<|aa (oSl 0)<|aa (oV<|eC<|.int 8) aNil)<|oV<|eC<|.int 0) (az 1<|eC<|.int 12) sNil [some (.lst q),some<|iI 8,none,none,none,none,none,none,none,none,none,none,none,none]=some (.nx,[some (.lst q0),some<|iI ms,none,none,none,none,none,none,none,none,none,none,none,none]):=by
   rw[<- S8];cases hb:decide (v0=0) with
   | true=>rw[hb] at z0;exact cH z0 rfl
   | false=>rw[hb] at z0;exact bI z0 rfl
  have z2:fL 2 3 (aa (oV<|ae vAdd (oV<|eC<|.int 1)<|oV<|av 2 G.br<|aa (oSl 0)<|aa (oSl 1) aNil)<|aa (oV<|ae vAdd (oV<|eC<|.int 1)<|oV<|av 2 G.br<|aa (oSl 0)<|aa (oSl 1) aNil) aNil) [some (.lst q0),some<|iI ms,none,none,none,none,none,none,none,none,none,none,none,none]=some (.nx,[some (.lst q2),some<|iI ms,some<|iI<|1+v1,some<|iI<|1+v2,none,none,none,none,none,none,none,none,none,none]):=
   sE (a_ (v_<|b_ rfl (v_<|d_ (os:=[.sl 0,.sl 1]) rfl rfl rfl e1 rfl) rfl rfl rfl)<|a_ (v_<|b_ rfl (v_<|d_ (os:=[.sl 0,.sl 1]) rfl rfl rfl e2 rfl) rfl rfl rfl) rfl) rfl (FA rfl) (FA rfl) rfl;have z3:fL 4 5 (aa (oV<|av 2 G.bO<|aa (oSl 0)<|aa (oV<|aZ<|aa (oV<|eC<|.int 0)<|aa (oV<|eC<|.int 0)<|aa (oV<|eC<|.int 1)<|aa (oV<|ae vSub (oV<|eC<|.int 31)<|oSl 2) aNil) aNil)<|aa (oV<|av 2 G.bO<|aa (oSl 0)<|aa (oV<|aZ<|aa (oV<|eC<|.int 0)<|aa (oV<|eC<|.int 0)<|aa (oV<|eC<|.int 2)<|aa (oV<|ae vSub (oV<|eC<|.int 31)<|oSl 3) aNil) aNil) aNil) [some (.lst q2),some<|iI ms,some<|iI<|1+v1,some<|iI<|1+v2,none,none,none,none,none,none,none,none,none,none]=some (.nx,[some (.lst q4),some<|iI ms,some<|iI<|1+v1,some<|iI<|1+v2,some<|iI tp,some<|iI sd,none,none,none,none,none,none,none,none]):=
   sE (a_ (v_<|d_ (os:=[.sl 0,.vl<|.lst [.int 0,.int 0,.int 1,.int<|31 - (1+v1)]]) (D1:=[some (.lst q2),some<|iI ms,some<|iI<|1+v1,some<|iI<|1+v2,none,none,none,none,none,none,none,none,none,none]) rfl rfl rfl e3 rfl)<|a_ (v_<|d_ (os:=[.sl 0,.vl<|.lst [.int 0,.int 0,.int 2,.int<|31 - (1+v2)]]) (D1:=[some (.lst q3),some<|iI ms,some<|iI<|1+v1,some<|iI<|1+v2,none,none,none,none,none,none,none,none,none,none]) rfl rfl rfl e4 rfl) rfl) rfl (FA rfl) (FA rfl) rfl;have z4:az 6 (av 2 G.br<|aa (oSl 0)<|aa (oV<|eC<|.int 6) aNil) [some (.lst q4),some<|iI ms,some<|iI<|1+v1,some<|iI<|1+v2,some<|iI tp,some<|iI sd,none,none,none,none,none,none,none,none]=some (.nx,[some (.lst q5),some<|iI ms,some<|iI<|1+v1,some<|iI<|1+v2,some<|iI tp,some<|iI sd,some<|iI v5,none,none,none,none,none,none,none]):=
   aM (d_ (os:=[.sl 0,.vl<|iI 6]) rfl rfl rfl e5 rfl) (FA rfl) rfl;have z5:az 7 eDict0T [some (.lst q5),some<|iI ms,some<|iI<|1+v1,some<|iI<|1+v2,some<|iI tp,some<|iI sd,some<|iI v5,none,none,none,none,none,none,none]=some (.nx,fD (.lst q5) (some<|iI ms) (1+v1) (1+v2) tp sd v5 [] none none none none none none):=rfl;have z6:cF (aE<|aa (oV<|eC<|.int 0)<|aa (oV<|eC<|.int 0) aNil) (gT 2<|bh (gN 8)<|bh (gN 9) gNil') (fD (.lst q6) (some<|iI ms) (1+v1) (1+v2) tp sd v5 QU o8 o9 o10 none none none)=some (.nx,fD (.lst q6) (some<|iI ms) (1+v1) (1+v2) tp sd v5 QU (some<|iI 0) (some<|iI 0) o10 none none none):=rfl;have z7:aQ (aw vTuple<|aa (oV<|aw Fk<|aa (oSl 7) aNil) aNil) (fD (.lst q7) (some<|iI ms) (1+v1) (1+v2) tp sd v5 MW J3 Hz o10 HA Gx Gy)=some (.rt<|cT cs,fD (.lst q7) (some<|iI ms) (1+v1) (1+v2) tp sd v5 MW J3 Hz o10 HA Gx Gy):=bM (Fi (a_ (v_<|Fi (a_ rfl rfl) rfl hs) rfl) rfl rfl);refine bz (D:=fD (.lst q7) (some<|iI ms) (1+v1) (1+v2) tp sd v5 MW J3 Hz o10 HA Gx Gy) rfl ?_ rfl;refine A_ (D1:=[some (.lst q),some<|iI 8,none,none,none,none,none,none,none,none,none,none,none,none]) rfl ?_;exact A_ z1 (A_ z2<|A_ z3<|A_ z4<|A_ z5<|A_ e6<|A_ z6<|A_ e7 z7)
 ·have:=R7.Iu c (c2.mem_iff.mp hc);lia
end G
namespace L2
open PySem PySem.Spec PyProof.Rows
section
variable{X:Cx}
end
end L2
namespace G
open PySem L2
variable{o1 o0:Option Vl}{f:Addr}{α:Type}{c:Int×Int}{D1 D:SD}{d:Im}
noncomputable def jE:MS:=(cF (eC<|.bl true)<|gIx 1 (bB 2) putA)
noncomputable def tY:MS:=(ak (az 1 eDict0T)<|ak (cf (bu<|oSl 0) (gN 2) G.jE)<|aQ<|bB 1)
noncomputable def f7:Fn:=bj 1 3 [0] tY
noncomputable def B2:MS:=(ak (az 1<|ae vIx (oSl 0)<|oV<|eC<|.int 0)<|ak (az 2<|ae vIx (oSl 0)<|oV<|eC<|.int 1)<|aQ<|aZ<|aa (oV<|aE<|aa (oV<|ae vSub (oSl 1)<|oV<|eC<|.int 1)<|aa (oSl 2) aNil)<|aa (oV<|aE<|aa (oSl 1)<|aa (oV<|ae vSub (oSl 2)<|oV<|eC<|.int 1) aNil)<|aa (oV<|aE<|aa (oSl 1)<|aa (oV<|ae vAdd (oSl 2)<|oV<|eC<|.int 1) aNil)<|aa (oV<|aE<|aa (oV<|ae vAdd (oSl 1)<|oV<|eC<|.int 1)<|aa (oSl 2) aNil) aNil)
noncomputable def iL:Fn:=bj 1 3 [0] B2
noncomputable def tZ:MS:=(aQ<|ae vEq (oV<|ae vAdd (oV<|aw vAbs<|aa (oV<|ae vSub (oV<|ae vIx (oSl 0)<|oV<|eC<|.int 0)<|oV<|ae vIx (oSl 1)<|oV<|eC<|.int 0) aNil)<|oV<|aw vAbs<|aa (oV<|ae vSub (oV<|ae vIx (oSl 0)<|oV<|eC<|.int 1)<|oV<|ae vIx (oSl 1)<|oV<|eC<|.int 1) aNil)<|oV<|eC<|.int 1)
noncomputable def fg:Fn:=bj 2 2 [0,1] tZ
noncomputable def t5:M Vl:=(bB 0)
noncomputable def t6:M Bool:=(kB<|ae vNe (oSl 0)<|oSl 1)
noncomputable def nZ:M Vl:=(av 2 G.fg<|aa (oSl 1)<|aa (oSl 0) aNil)
noncomputable def jF:MS:=(sIf (bd<|oV<|aw vAny<|aa (oV<|a9 1 [6] (bu<|oSl 3) (gN 0) kYes G.nZ) aNil) (fK<|dz gz 5 mAppend<|aa (oSl 6) aNil) sNil)
noncomputable def t7:M Vl:=(bB 0)
noncomputable def t9:M Bool:=(kB<|ae vNotIn (oSl 0)<|oSl 1)
noncomputable def n4:M Bool:=(kB<|ae vNe (oSl 3)<|oV<|aZ aNil)
noncomputable def lK:MS:=(ak (az 5<|aZ aNil)<|ak (cf (bu<|oSl 4) (gN 6) G.jF)<|ak (az 2<|ae vAdd (oSl 2)<|oSl 5)<|ak (az 4<|a9 1 [5] (bu<|oSl 4) (gN 0) G.t9 G.t7)<|az 3<|bB 5)
noncomputable def ua:MS:=(ak (fL 2 3<|aa (oV<|aZ<|aa (oSl 1) aNil)<|aa (oV<|aZ<|aa (oSl 1) aNil) aNil)<|ak (az 4<|a9 1 [1] (bu<|oSl 0) (gN 0) G.t6 G.t5)<|ak (d0 G.n4 G.lK 1000000)<|aQ<|aw vTuple<|aa (oV<|aw Fk<|aa (oSl 2) aNil) aNil)
noncomputable def jG:Fn:=bj 2 7 [0,1] ua
abbrev j_:=Int×Int
variable{left h_ part:List j_}{s:j_}
theorem uc(o0:Option Vl):∀ (cs ks:List j_) (o2:Option Vl),ks.length+cs.length<100000->∃ Po,bx (gN 2) jE (cs.map cM) [o0,some<|.dT<|mt ks,o2]=some (.nx,[o0,some<|.dT<|mt<|cs.foldl bK ks,Po])
 | [],ks,o2,_=>⟨o2,rfl⟩
 | c::cs,ks,o2,hl=>by
  have hp:putA (.dT<|mt ks) (.im<|.tup<|kM c) (bV true)=some (.dT<|mt<|bK ks c):=by
   rw[<- nX];exact ZY ⟨rfl,by unfold mt;rw[Z3];rw[ZJ] at hl;lia⟩
  have la:(bK ks c).length<=ks.length+1:=by
   unfold bK;split
   ·lia
   ·rw[ZR];exact ZV _
  obtain⟨Po,ih⟩:=uc o0 cs (bK ks c) (some<|.im<|cM c) (by rw[ZJ] at hl;lia);refine⟨Po,?_⟩;have e:jE [o0,some<|.dT<|mt ks,some<|.im<|cM c]=some (.nx,[o0,some<|.dT<|mt<|bK ks c,some<|.im<|cM c]):=by
   unfold jE;refine J1 rfl ?_;show (putA (.dT<|mt ks) (.im<|.tup<|kM c)<|bV true).map _=_;rw[hp];rfl
  rw[ZF,bx];show (jE [o0,some<|.dT<|mt ks,some<|.im<|cM c]).bind _=_;rw[e];exact ih
theorem ud:∀ (cs ks:List j_),(ks++cs).Nodup->cs.foldl bK ks=ks++cs
 | [],ks,_=>by rw[ZO];rfl
 | c::cs,ks,nd=>by
  have hc:c∉ks:=fun h=>by
   have:=(ZH.mp nd).2.2 c h c (.head _);exact this rfl
  rw[XY,bK,ZW hc,ud cs (ks++[c]) (by rw[Z4];exact nd),Z4];rfl
theorem ue{cs:List j_}(nd:cs.Nodup)(hl:cs.length<10000):f7 [cT cs]=some (.dT<|mt cs,[cT cs]):=by
 obtain⟨o,lp⟩:=uc (some<|cT cs) cs [] none (by show 0+_ < _;lia);rw[ud cs [] nd] at lp;unfold f7 tY;refine bz (D:=[some (cT cs),some .jk,o]) rfl (A_ (D1:=[some (cT cs),some<|.dT [],none]) rfl<|A_ (dA (o:=none) rfl lp rfl) rfl) rfl
def HB(c:j_):List j_:=[(c.1 - 1,c.2),(c.1,c.2 - 1),(c.1,c.2+1),(c.1+1,c.2)]
theorem uf(c:j_):iL [.im (cM c)]=some (cL<|HB c,[.im (cM c)]):=rfl
theorem n5(ks:List j_)(c:j_):vIn (.im<|cM c) (.dT<|mt ks)=some (bV<|decide (c∈ks)):=by
 rw[<- AQ];rfl
def Gk(d:Im):Prop:=∀ a,d≠.fn a
def JA(d:Im):Prop:=Gk d/\∀ es,d=.tup es->∀ y∈es,Gk y
def N2(d:Im):Prop:=Gk d/\∀ ds,d=.tup ds->ds.length<=290/\∀ x∈ds,JA x
def J4:Im->Bool
 | .int _=>true
 | _=>false
theorem ug(h:Gk d):gJ [.im d]=some (bV<|J4 d,[.im d]):=by
 cases d with
 | fn a=>exact absurd rfl (h a)
 | _=>rfl
def J5:Im->Bool
 | .tup [a,b]=>J4 a && J4 b
 | _=>false
theorem lL(h:J4 d=true):∃ i,d=.int i:=by
 cases d with
 | int i=>exact⟨i,rfl⟩
 | _=>cases h
theorem uh(h:JA d):fe [.im d]=some (bV<|J5 d,[.im d]):=by
 cases d with
 | fn a=>exact absurd rfl (h.1 a)
 | tup ds=>
  unfold fe tN
  match ds,h with
  | [],_=>rfl
  | [a],_=>rfl
  | [a,b],h=>
   have ha:=ug (h.2 _ rfl a<|.head _);have hb:=ug (h.2 _ rfl b<|.tail _<|.head _);refine bz (D:=[some (.im<|.tup [a,b])]) rfl (bM<|Jz<|dB (Fu rfl)<|dB (Fu rfl) ?_) rfl;show _=some (J4 a && J4 b,_);have ka:kB (av 1 G.gJ<|aa (oV<|ae vIx (oSl 0)<|oV<|eC<|.int 0) aNil) [some (.im<|.tup [a,b])]=some (J4 a,[some (.im<|.tup [a,b])]):=Fu (d_ (a_ (v_<|b_ (d:=.im a) rfl rfl rfl rfl rfl) rfl) rfl rfl ha rfl);have kb:kB (av 1 G.gJ<|aa (oV<|ae vIx (oSl 0)<|oV<|eC<|.int 1) aNil) [some (.im<|.tup [a,b])]=some (J4 b,[some (.im<|.tup [a,b])]):=Fu (d_ (a_ (v_<|b_ (d:=.im b) rfl rfl rfl rfl rfl) rfl) rfl rfl hb rfl);cases hz:J4 a with
   | false=>rw[hz] at ka;exact gH ka
   | true=>rw[hz] at ka;exact dB ka kb
  | a::b::c::r,_=>
   have e:vEq (iI ((a::b::c::r).length:Int)) (iI 2)=some (bV false):=(dR _ _).trans (congrArg (fun b=>some<|bV b) (Zs (by rw[ZJ,ZJ,ZJ];lia)));exact bz (D:=[some (.im<|.tup (a::b::c::r))]) rfl (bM<|Jz<|dB (Fu rfl)<|gH<|Fu<|b_ (v_<|Fi (a_ rfl rfl) rfl rfl) rfl rfl rfl e) rfl
 | _=>rfl
theorem QV{D2 D3:SD}{f f':Op2}{ga gb gc:M Opd}{x y z:Opd}{d1 d2 Lb d3:Vl}{b b':Bool}(e1:ga D=some (x,D1))(e2:gb D1=some (y,D2))(e3:rsl D2 x=some d1)(e4:rsl D2 y=some d2)(e5:f d1 d2=some (bV b))(e6:gc D2=some (z,D3))(e7:rsl D3 y=some Lb)(e8:rsl D3 z=some d3)(e9:f' Lb d3=some (bV b'))(hD:D3=D2):fY f f' ga gb gc D=some (bV<|b && b',D2):=by
 subst hD;unfold fY;rw[e1];show (gb D1).bind _=_;rw[e2];show (rsl D3 x).bind _=_;rw[e3];show (rsl D3 y).bind _=_;rw[e4];show (f d1 d2).bind _=_;rw[e5];cases b
 ·rfl
 ·show (gc D3).bind _=_;rw[e6];show (rsl D3 y).bind _=_;rw[e7];show (rsl D3 z).bind _=_;rw[e8];show (f' Lb d3).bind _=_;rw[e9];rfl
def HS:Im->Bool
 | .tup [.int i,.int j]=>(decide (0<=i) && decide (i<=30)) && (decide (0<=j) && decide (j<=30))
 | _=>false
theorem n6(h:HS d=true):∃ c:Int×Int,d=cM c/\0<=c.1/\c.1<=30/\0<=c.2/\c.2<=30:=by
 unfold HS at h;split at h
 ·next i j=>
  rw[ZU,ZU,ZU] at h;exact⟨(i,j),rfl,Y8 h.1.1,Y8 h.1.2,Y8 h.2.1,Y8 h.2.2⟩
 ·cases h
theorem B3(h:0<=c.1/\c.1<=30/\0<=c.2/\c.2<=30):HS (cM c)=true:=by
 show ((decide (0<=c.1) && decide (c.1<=30)) && (decide (0<=c.2) && decide (c.2<=30)))=true;rw[Zu h.1,Zu h.2.1,Zu h.2.2.1,Zu h.2.2.2];rfl
theorem B4(h:J5 d=false):HS d=false:=by
 cases hc:HS d with
 | false=>rfl
 | true=>
  obtain⟨c,rfl,_⟩:=n6 hc;cases h
theorem B5(h:JA d):ff [.im d]=some (bV<|HS d,[.im d]):=by
 have hp:=uh h;unfold ff tQ;refine bz (D:=[some (.im d)]) rfl (bM<|Jz ?_) rfl;have kp:kB (av 1 G.fe<|aa (oSl 0) aNil) [some (.im d)]=some (J5 d,[some (.im d)]):=Fu (d_ (a_ rfl rfl) rfl rfl hp rfl);cases hz:J5 d with
 | false=>rw[hz] at kp;rw[B4 hz];exact gH kp
 | true=>
  rw[hz] at kp;obtain⟨i,j,rfl⟩:∃ i j,d=.tup [.int i,.int j]:=by
   unfold J5 at hz;split at hz
   ·next a b=>
    rw[ZU] at hz;obtain⟨i,rfl⟩:=lL hz.1;obtain⟨j,rfl⟩:=lL hz.2;exact⟨i,j,rfl⟩
   ·cases hz
  refine dB kp ?_;have k1:kB (fY vLe vLe (oV<|eC<|.int 0) (oV<|ae vIx (oSl 0)<|oV<|eC<|.int 0)<|oV<|eC<|.int 30) [some (.im<|.tup [.int i,.int j])]=some (decide (0<=i) && decide (i<=30),[some (.im<|.tup [.int i,.int j])]):=Fu (QV rfl (v_<|b_ (d:=iI i) rfl rfl rfl rfl rfl) rfl rfl rfl rfl rfl rfl rfl rfl);have k2:kB (fY vLe vLe (oV<|eC<|.int 0) (oV<|ae vIx (oSl 0)<|oV<|eC<|.int 1)<|oV<|eC<|.int 30) [some (.im<|.tup [.int i,.int j])]=some (decide (0<=j) && decide (j<=30),[some (.im<|.tup [.int i,.int j])]):=Fu (QV rfl (v_<|b_ (d:=iI j) rfl rfl rfl rfl rfl) rfl rfl rfl rfl rfl rfl rfl rfl);show _=some ((decide (0<=i) && decide (i<=30)) && (decide (0<=j) && decide (j<=30)),_);cases hy:(decide (0<=i) && decide (i<=30)) with
  | false=>rw[hy] at k1;exact gH k1
  | true=>rw[hy] at k1;exact dB k1 k2
def fh(ds:List Im):Bool:=(ds.zip<|ds.drop 1).all fun p=>z_ p.1 p.2
def Pp:Im->Bool
 | .tup ds=>ds.all HS && fh ds
 | _=>false
theorem Pq{α:Type}(f:α->Bool):∀ xs:List α,bls (xs.map fun r=>.bl<|f r)=some (xs.map f)
 | []=>rfl
 | x::r=>by rw[ZF,bls,Pq f r];rfl
theorem jH(f:α->Bool)(xs:List α):vAll [.lst (xs.map fun r=>.bl<|f r)]=some (bV<|xs.all f):=by
 show (bls _).map _=_;rw[Pq,map_some,Vh];rfl
theorem ui(f:α->Bool)(xs:List α):vAny [.lst (xs.map fun r=>.bl<|f r)]=some (bV<|xs.any f):=by
 show (bls _).map _=_;rw[Pq,map_some,Vc];rfl
theorem n9:∀ ds es:List Im,bp ds es=(ds.zip es).map fun p=>.tup [p.1,p.2]
 | [],_=>rfl
 | _::_,[]=>rfl
 | d::ds,e::es=>congrArg (_::·) (n9 ds es)
theorem uj(a b:Int×Int):cj 6 (cM a) (cM b)=true:=rfl
theorem B6(h:N2 d):jA f [.im d,.im<|.fn f]=some (bV<|Pp d,[.im d,.im<|.fn f]):=by
 cases d with
 | fn a=>exact absurd rfl (h.1 a)
 | tup ds=>
  obtain⟨hl,hd⟩:=h.2 ds rfl;unfold jA tT;refine bz (D:=[some (.im<|.tup ds),some<|.im<|.fn f]) rfl ?_ rfl;show ak _ _ [some (.im<|.tup ds),some<|.im<|.fn f]=_;have c1:a9 1 [1] (bu<|oSl 0) (gN 0) kYes (lH f) [some (.im<|.tup ds),some<|.im<|.fn f]=some (.lst<|ds.map fun d=>.bl<|HS d,[some (.im<|.tup ds),some<|.im<|.fn f]):=by
   refine Jy (xs:=ds.map id) (o:=none) (D1:=[some (.im<|.tup ds),some<|.im<|.fn f]) (by rw[Vn];rfl) (fW id (fun d=>.bl<|HS d) _ (fun x hx=>?_) (by lia)) rfl;refine⟨[some (.im x),some<|.im<|.fn f],_,[some (.im x),some<|.im<|.fn f],rfl,rfl,?_,rfl⟩;unfold lH;show (if f=f then _ else _)=_;rw[ZY rfl];exact d_ (a_ rfl rfl) rfl rfl (B5<|hd x hx) rfl
  have c2:ca (bd<|oV<|aw vAll<|aa (oV<|a9 1 [1] (bu<|oSl 0) (gN 0) kYes<|lH f) aNil) [some (.im<|.tup ds),some<|.im<|.fn f]=some (!(ds.all HS),[some (.im<|.tup ds),some<|.im<|.fn f]):=NU (GN (v_<|Fi (a_ (v_ c1) rfl) rfl<|jH HS ds) rfl rfl);show _=some (Fl.rt<|bV<|ds.all HS && fh ds,_);cases ha:ds.all HS with
  | false=>
   rw[ha] at c2;exact fV (cH (ck (Ik<|GN rfl rfl rfl) c2) rfl)
  | true=>
   rw[ha] at c2;refine A_ (bI (ck (Ik<|GN rfl rfl rfl) c2) rfl) ?_;have JL:=YD.mp ha;have c3:a9 2 [] (iZ<|aa (oSl 0)<|aa (oV<|eSl (oSl 0) (bY<|eC<|.int 1) pNone) aNil) (gT 2<|bh (gN 0)<|bh (gN 1) gNil') kYes (tR f) [some (.im<|.tup ds),some<|.im<|.fn f]=some (.lst<|(ds.zip<|ds.drop 1).map fun p=>.bl<|z_ p.1 p.2,[some (.im<|.tup ds),some<|.im<|.fn f]):=by
    refine Jy (xs:=(ds.zip<|ds.drop 1).map fun p=>.tup [p.1,p.2]) (o:=none) (D1:=[some (.im<|.tup ds),some<|.im<|.fn f]) ?_ (fW (fun p:Im×Im=>.tup [p.1,p.2]) (fun p=>.bl<|z_ p.1 p.2) _ (fun p hp=>?_) ?_) rfl
    ·rw[<- n9];exact Qx (a_ rfl (a_ (v_ (Il (d':=.im (.tup<|ds.drop 1)) rfl rfl rfl rfl (by show some (Vl.im<|.tup<|aS ds (some ((1:Nat):Int)) none)=_;rw[kW]))) rfl)) rfl
    ·obtain⟨a,ea,_⟩:=n6 (JL p.1 (W6 hp).1);obtain⟨b,eb,_⟩:=n6 (JL p.2<|YS (W6 hp).2);obtain⟨x,y⟩:=p;dsimp only at ea eb ⊢;subst ea eb;exact⟨[some (.im<|cM a),some<|.im<|cM b],_,[some (.im<|cM a),some<|.im<|cM b],rfl,rfl,b_ rfl rfl rfl rfl rfl,rfl⟩
    ·rw[Vq,Zm];lia
   exact bM (Fi (a_ (v_ c3) rfl) rfl<|jH (fun p:Im×Im=>z_ p.1 p.2) _)
 | _=>rfl
theorem B7(h:N2 d):iH f [.im d]=some (bV<|Pp d,[.im d]):=by
 unfold iH tU;exact bz (D:=[some (.im d)]) rfl (bM<|d_ (a_ rfl<|a_ rfl rfl) rfl rfl (B6 h) rfl) rfl
def Sx:Im->Bool
 | .int i=>decide (0<=i) && decide (i<31)
 | _=>false
theorem B8{a b:Int×Int}(h1:z_ (cM a) (cM b)=true)(h2:z_ (cM b) (cM c)=true):z_ (cM a) (cM c)=true:=lc (uj a b) (uj b c) h1 h2
theorem uk:∀ {cs:List (Int×Int)},fh (cs.map cM)=true->Up cs
 | [],_=>List.Pairwise.nil
 | [a],_=>Zz _ _
 | a::b::r,h=>by
  have h':(z_ (cM a) (cM b) && fh ((b::r).map cM))=true:=h;rw[ZU] at h';have ih:=uk h'.2;refine Zf.mpr ⟨fun c hc=>?_,ih⟩;rcases ZG.mp hc with rfl | hc
  ·exact h'.1
  ·exact B8 h'.1 ((Zf.mp ih).1 c hc)
theorem og:∀ {cs:List (Int×Int)},Up cs->fh (cs.map cM)=true
 | [],_=>rfl
 | [a],_=>rfl
 | a::b::r,h=>by
  have h':=Zf.mp h;show (z_ (cM a) (cM b) && fh ((b::r).map cM))=true;rw[h'.1 b (.head _),og h'.2];rfl
theorem gK{cs:List (Int×Int)}(h:Up cs):cs.Nodup:=h.imp fun {a b} e z=>by rw[z,nk] at e;cases e
theorem ul(cs:List (Int×Int)):∃ dc:List (Int×Int),bJ (cs.map kM)=dc.map kM/\dc.Nodup/\∀ c,c∈dc↔c∈cs:=by
 have hm:=fun x=>BJ (ks:=cs.map kM) (x:=x);have nd:=BL (cs.map kM);have key:∀ l:List (List Im),(∀ x∈l,x∈cs.map kM)->l=(l.map fun x=>uC<|.tup x).map kM:=fun l=>by
  induction l with
  | nil=>intro _;rfl
  | cons x l ih=>
   intro h;obtain⟨c,_,rfl⟩:=Zl.mp (h x<|.head _);rw[ZF,ZF,<- ih fun y hy=>h y<|.tail _ hy];rfl
 have e:=key _ fun x hx=>(hm x).mp hx;refine⟨_,e,?_,fun c=>?_⟩
 ·rw[e] at nd;exact (WM.mp nd).imp fun {a b} h z=>h (by rw[z])
 ·have h1:kM c∈bJ (cs.map kM)↔kM c∈cs.map kM:=hm (kM c);rw[e] at h1;have h2:∀ l:List (Int×Int),kM c∈l.map kM↔c∈l:=fun l=>by
   constructor
   ·intro h;obtain⟨d,hd,hh⟩:=Zl.mp h;rw[<- nA hh];exact hd
   ·exact fun h=>Wj h
  rw[h2,h2] at h1;exact h1
theorem oh:∀ cs:List (Int×Int),Im.keys 8 (cs.map cM)=true
 | []=>rfl
 | c::r=>by rw[ZF,Im.keys,oh r];rfl
theorem B9{cs:List (Int×Int)}(hl:cs.length<=290):lF (cs.map kM)=true/\jq ((bJ<|cs.map kM).map .tup)=true/\bC (cs.map cM) (b6 z_<|(bJ<|cs.map kM).map .tup)=fh (cs.map cM)/\Im.pls 8 (b6 z_<|(bJ<|cs.map kM).map .tup)=true:=by
 obtain⟨dc,e,nd,hm⟩:=ul cs;have hlen:dc.length<=cs.length:=jx nd fun x hx=>(hm x).mp hx;have e2:(dc.map kM).map Im.tup=dc.map cM:=by rw[YK];rfl
 obtain⟨es,s1,s2,s3⟩:=jD nd (by lia);rw[e,e2,s1];refine⟨tM.mpr ⟨fun k hk=>?_,by rw[e,Z3];lia⟩,iB.mpr (iC nd (by lia)),?_,js es⟩
 ·obtain⟨c,_,rfl⟩:=Zl.mp hk;exact AL c
 ·rw[lY (oh cs) (oh es)];cases ha:fh (cs.map cM) with
  | true=>
   have up:=uk ha;have pm:cs.Perm dc:=(V3 (gK up) nd).mpr fun c=>(hm c).symm;have o:=iC nd (by lia);have:=lj o.ord (pm.map cM) (WM.mpr up);rw[s1] at this;exact Zu this
  | false=>
   refine Zs fun z=>?_;have:=og s3;rw[<- z,ha] at this;cases this
theorem S9{g:M Vl}{d:Vl}{xs:List Im}(e:g D=some (d,D1))(k:cg d=some xs):bu (oV g) D=some ((xs,none),D1):=by
 unfold bu;rw[v_ e];show (cg d).map _=_;rw[k];rfl
def aG(a b:j_):Bool:=decide ((if a.1 - b.1<0 then -(a.1 - b.1) else a.1 - b.1)+(if a.2 - b.2<0 then -(a.2 - b.2) else a.2 - b.2)=1)
theorem oj(a b:j_):fg [.im (cM a),.im<|cM b]=some (bV<|aG a b,[.im (cM a),.im<|cM b]):=by
 unfold fg tZ;refine bz (D:=[some (.im<|cM a),some<|.im<|cM b]) rfl (bM ?_) rfl;exact b_ (v_<|b_ (v_<|Fi (a_ (v_<|b_ (v_<|b_ (d:=iI a.1) rfl rfl rfl rfl rfl) (v_<|b_ (d:=iI b.1) rfl rfl rfl rfl rfl) rfl rfl rfl) rfl) rfl rfl) (v_<|Fi (a_ (v_<|b_ (v_<|b_ (d:=iI a.2) rfl rfl rfl rfl rfl) (v_<|b_ (d:=iI b.2) rfl rfl rfl rfl rfl) rfl rfl rfl) rfl) rfl rfl) rfl rfl rfl) rfl rfl rfl (dR _ _)
theorem om{a b:j_}:aG a b=true↔b∈HB a:=by
 obtain⟨a1,a2⟩:=a;obtain⟨b1,b2⟩:=b;unfold aG HB;rw[YW];simp only[ZG,YB,Xl,Prod.mk.injEq];lia
theorem um(ps:List j_)(c:j_):inB (cM c) (cL ps)=some (decide (c∈ps)):=by
 rw[Aw,jr,js,AM];rfl
theorem Ca(l:List j_)(c:j_):vNotIn (.im<|cM c) (cL l)=some (bV<|!decide (c∈l)):=by
 show (inB (cM c)<|cL l).map (fun r=>Vl.im<|.bl<|!r)=_;rw[um];rfl
theorem uo(l:List j_)(c:j_):vIn (.im<|cM c) (cL l)=some (bV<|decide (c∈l)):=by
 show (inB (cM c)<|cL l).map (fun r=>Vl.im<|.bl r)=_;rw[um];rfl
theorem oo(a b:j_):vNe (.im<|cM a) (.im<|cM b)=some (bV<|!decide (a=b)):=by
 show (if (Im.pl 8 (cM a) && Im.pl 8 (cM b))=true then some (Vl.im<|.bl<|!aA (cM a) (cM b)) else none)=_;rw[jr,jr,ZY<|show (true && true)=true from rfl,lm]
theorem uq(bs:List j_):vNe (cL bs) (.lst [])=some (bV<|!decide (bs=[])):=by
 show (if (Im.pls 8 (bs.map cM) && Im.pls 8 [])=true then some (Vl.im<|.bl<|!bC (bs.map cM) []) else none)=_;rw[js,ZY<|show (true && Im.pls 8 [])=true from rfl];cases bs with
 | nil=>rfl
 | cons a r=>rfl
theorem oq(a b:j_):aG a b=aG b a:=by
 unfold aG;rw[Vz];split<;>split<;>split<;>split<;>omega
inductive Cn (cs:List j_) (s:j_):j_->Prop
 | self:Cn cs s s
 | step {a b:j_}:Cn cs s a->b∈cs->aG a b=true->Cn cs s b
def Fp(es:List j_)(c:j_):Bool:=es.any fun e=>aG e c
abbrev pD(o0 o1:Option Vl)(part h_:List j_)(o4:Option Vl)(near:List j_)(o6:Option Vl):SD:=[o0,o1,some<|cL part,some<|cL h_,o4,some<|cL near,o6]
theorem Cb{o4:Option Vl}{near:List j_}{c:j_}(hl:near.length<10000)(he:h_.length<=10000):jF (pD o0 o1 part h_ o4 near<|some<|.im<|cM c)=some (.nx,pD o0 o1 part h_ o4 (if Fp h_ c then near++[c] else near)<|some<|.im<|cM c):=by
 have c1:a9 1 [6] (bu<|oSl 3) (gN 0) kYes G.nZ (pD o0 o1 part h_ o4 near<|some<|.im<|cM c)=some (.lst<|h_.map fun x=>.bl<|aG x c,pD o0 o1 part h_ o4 near<|some<|.im<|cM c):=by
  refine Jy (xs:=h_.map cM) (o:=some (3,cL h_)) (D1:=[o0,o1,some<|cL part,some .jk,o4,some<|cL near,some<|.im<|cM c]) rfl (fW cM (fun x=>.bl<|aG x c) _ (fun x hx=>?_) (by lia)) rfl;exact⟨[some (.im<|cM x),some<|.im<|cM c],_,[some (.im<|cM x),some<|.im<|cM c],rfl,rfl,d_ (a_ rfl<|a_ rfl rfl) rfl rfl ((oj c x).trans (by rw[oq])) rfl,rfl⟩
 have k:bd (oV<|aw vAny<|aa (oV<|a9 1 [6] (bu<|oSl 3) (gN 0) kYes G.nZ) aNil) (pD o0 o1 part h_ o4 near<|some<|.im<|cM c)=some (Fp h_ c,pD o0 o1 part h_ o4 near<|some<|.im<|cM c):=GN (v_<|Fi (a_ (v_ c1) rfl) rfl<|ui (fun x=>aG x c) h_) rfl rfl;unfold jF;cases hb:Fp h_ c with
 | false=>rw[hb] at k;exact bI k rfl
 | true=>
  rw[hb] at k;refine cH k (NV (MJ rfl rfl (a_ rfl rfl) rfl rfl (NW (by rw[Z3];lia)) ?_));rw[ZY rfl];show _=[o0,o1,some<|cL part,some<|cL h_,o4,some<|cL<|near++[c],some<|.im<|cM c];unfold cL;rw[Y7];rfl
theorem ur{o0 o1 o4:Option Vl}{part h_:List j_}(he:h_.length<=10000):∀ (cs near:List j_) (o6:Option Vl),near.length+cs.length<10000->∃ IH,bx (gN 6) jF (cs.map cM) (pD o0 o1 part h_ o4 near o6)=some (.nx,pD o0 o1 part h_ o4 (near++cs.filter (Fp h_)) IH)
 | [],near,o6,_=>⟨o6,by rw[List.filter_nil,ZO];rfl⟩
 | c::cs,near,o6,hl=>by
  rw[ZJ] at hl;have e:=Cb (o0:=o0) (o1:=o1) (o4:=o4) (part:=part) (near:=near) (c:=c) (by lia) he;obtain⟨IH,ih⟩:=ur he cs (if Fp h_ c then near++[c] else near) (some<|.im<|cM c) (by split<;>(try rw[ZR,Zp])<;>lia);refine⟨IH,?_⟩;rw[ZF,bx];show (jF<|pD o0 o1 part h_ o4 near<|some<|.im<|cM c).bind _=_;rw[e];refine ih.trans ?_;rw[WA];cases Fp h_ c with
  | true=>rw[ZY rfl,ZY rfl,Z4];rfl
  | false=>rw[ZW ZM,ZW ZM]
structure J6(cs:List j_)(s:j_)(part h_ left:List j_):Prop where
 nd:(part++left).Nodup
 len:(part++left).length<=cs.length+1
 sub:∀ x∈left,x∈cs
 Lk:s∈part
 con:∀ x∈part,Cn cs s x
 S':∀ x∈h_,x∈part
 Pr:h_.length<=cs.length+1
 all:∀ x∈cs,x∈part++left
 out:∀ a∈part,a∉h_->∀ b∈left,aG a b=false
theorem J6.next{cs:List j_}(P:J6 cs s part h_ left):J6 cs s (part++left.filter (Fp h_)) (left.filter<|Fp h_) (left.filter fun c=>!Fp h_ c):=by
 have pm:(part++left.filter (Fp h_)++left.filter fun c=>!Fp h_ c).Perm (part++left):=by
  rw[Z4];exact (Vy (Fp h_) left).append_left part
 refine⟨pm.nodup_iff.mpr P.nd,by rw[pm.length_eq];exact P.len,fun x hx=>P.sub x (Yw.mp hx).1,Zw _ P.Lk,fun x hx=>?_,fun x hx=>ZI _ hx,?_,fun x hx=>pm.mem_iff.mpr<|P.all x hx,fun a ha na b hb=>?_⟩
 ·rcases ZA.mp hx with h | h
  ·exact P.con x h
  ·obtain⟨h1,h2⟩:=Yw.mp h;obtain⟨e,he,hb⟩:=XD.mp h2;exact .step (P.con e<|P.S' e he) (P.sub x h1) hb
 ·have:=P.len;rw[ZR] at this;have:=X1 (Fp h_) left;lia
 ·obtain⟨b1,b2⟩:=Yw.mp hb;have ap:a∈part:=(ZA.mp ha).resolve_right na;cases hc:aG a b with
  | false=>rfl
  | true=>
   by_cases QW:a∈h_
   ·have:Fp h_ b=true:=XD.mpr ⟨a,QW,hc⟩;rw[this] at b2;cases b2
   ·rw[P.out a ap QW b b1] at hc;cases hc
theorem J6.done{cs:List j_}(P:J6 cs s part [] left)(x:j_):x∈part↔Cn cs s x:=by
 refine⟨P.con x,fun h=>?_⟩;induction h with
 | self=>exact P.Lk
 | step _ hb e ih=>
  rcases ZA.mp (P.all _ hb) with h | h
  ·exact h
  ·rw[P.out _ ih (fun z=>by cases z) _ h] at e;cases e
theorem Cc{cs:List j_}{o5 o6:Option Vl}(P:J6 cs s part h_ left)(hl:cs.length<=1000):∃ QX IH,lK [o0,o1,some<|cL part,some<|cL h_,some<|cL left,o5,o6]=some (.nx,[o0,o1,some<|cL<|part++left.filter (Fp h_),some<|cL<|left.filter<|Fp h_,some<|cL<|left.filter fun c=>!Fp h_ c,QX,IH]):=by
 have l1:part.length+left.length<=1001:=by have:=P.len;rw[ZR] at this;lia
 have l2:h_.length<=10000:=by have:=P.Pr;lia
 have l3:=X1 (Fp h_) left;obtain⟨IH,lp⟩:=ur (o0:=o0) (o1:=o1) (o4:=some .jk) (part:=part) l2 left [] o6 (by show 0+_ < _;lia);have ne:∀ c∈left,(!decide (c∈left.filter (Fp h_)))=!Fp h_ c:=fun c hc=>by
  congr 1;rw[W7,YW,Yw];exact⟨fun h=>h.2,fun h=>⟨hc,h⟩⟩
 have c1:a9 1 [5] (bu<|oSl 4) (gN 0) G.t9 G.t7 [o0,o1,some<|cL<|part++left.filter (Fp h_),some<|cL h_,some<|cL left,some<|cL<|left.filter<|Fp h_,IH]=some (cL<|left.filter fun c=>!Fp h_ c,[o0,o1,some<|cL<|part++left.filter (Fp h_),some<|cL h_,some<|cL left,some<|cL<|left.filter<|Fp h_,IH]):=by
  refine Jy (xs:=left.map cM) (o:=some (4,cL left)) (D1:=[o0,o1,some<|cL<|part++left.filter (Fp h_),some<|cL h_,some .jk,some<|cL<|left.filter<|Fp h_,IH]) rfl (gD cM (fun c=>!Fp h_ c) cM _ [] (fun x hx=>?_) (by rw[Xy];lia)) rfl;refine⟨[some (.im<|cM x),some<|cL<|left.filter<|Fp h_],[some (.im<|cM x),some<|cL<|left.filter<|Fp h_],rfl,?_,fun _=>rfl,fun _=>⟨[some (.im<|cM x),some<|cL<|left.filter<|Fp h_],rfl,rfl⟩⟩;rw[<- ne x hx];exact Fu (b_ rfl rfl rfl rfl<|Ca _ x)
 refine⟨some .jk,IH,?_⟩;unfold lK;refine A_ (D1:=pD o0 o1 part h_ (some<|cL left) [] o6) rfl ?_;refine A_ (dA (o:=some (4,cL left)) (D1:=pD o0 o1 part h_ (some .jk) [] o6) rfl lp rfl) ?_;refine A_ (D1:=[o0,o1,some<|cL<|part++left.filter (Fp h_),some<|cL h_,some<|cL left,some<|cL<|left.filter<|Fp h_,IH]) ?_ ?_
 ·refine aM (d:=cL (part++left.filter (Fp h_))) (b_ rfl rfl rfl rfl ?_) (FA rfl) rfl;show (if (part.map cM).length+((left.filter<|Fp h_).map cM).length<=100000 then some (Vl.lst<|part.map cM++(left.filter<|Fp h_).map cM) else none)=_;rw[ZY (by rw[Z3,Z3];lia),<- Y7]
 refine A_ (aM c1 (FA rfl) rfl) ?_;rfl
theorem Cd{cs:List j_}(nd:cs.Nodup)(hl:cs.length<=900):∃ pt,jG [cT cs,.im<|cM s]=some (cT pt,[cT cs,.im<|cM s])/\Up pt/\(∀ x,x∈pt↔Cn cs s x)/\pt.length<=cs.length+1:=by
 have hp:∀ x,(!decide (x=s))=true↔x≠s:=fun x=>by
  rw[WT,XF]
 have c1:a9 1 [1] (bu<|oSl 0) (gN 0) G.t6 G.t5 [some (cT cs),some<|.im<|cM s,some<|cL [s],some<|cL [s],none,none,none]=some (cL<|cs.filter fun c=>!decide (c=s),[some (cT cs),some<|.im<|cM s,some<|cL [s],some<|cL [s],none,none,none]):=by
  refine Jy (xs:=cs.map cM) (o:=none) (D1:=[some (cT cs),some<|.im<|cM s,some<|cL [s],some<|cL [s],none,none,none]) rfl (gD cM (fun c=>!decide (c=s)) cM _ [] (fun x hx=>?_) (by rw[Xy];lia)) rfl;exact⟨[some (.im<|cM x),some<|.im<|cM s],[some (.im<|cM x),some<|.im<|cM s],rfl,Fu<|b_ rfl rfl rfl rfl<|oo x s,fun _=>rfl,fun _=>⟨[some (.im<|cM x),some<|.im<|cM s],rfl,rfl⟩⟩
 have P0:J6 cs s [s] [s] (cs.filter fun c=>!decide (c=s)):=by
  have lf:=X1 (fun c=>!decide (c=s)) cs;refine⟨?_,by rw[ZR,Zp];lia,fun x hx=>(Yw.mp hx).1,.head _,fun x hx=>?_,fun x hx=>hx,by show 1<=_;lia,fun x hx=>?_,fun a ha na=>absurd ha na⟩
  ·refine YO.mpr ⟨fun h=>?_,nd.filter _⟩;exact (hp s).mp (Yw.mp h).2 rfl
  ·rw[ZZ.mp hx];exact .self
  ·by_cases h:x=s
   ·rw[h];exact .head _
   ·exact .tail _ (Yw.mpr ⟨hx,(hp x).mpr h⟩)
 obtain⟨D',w1,part,left,o4,o5,o6,rfl,P⟩:=rn (c:=n4) (b:=lK) (fun m D=>∃ part h_ left o5 o6,D=[some (cT cs),some<|.im<|cM s,some<|cL part,some<|cL h_,some<|cL left,o5,o6]/\J6 cs s part h_ left/\m=left.length+(if h_=[] then 0 else 1)) (fun D=>∃ part left o4 o5 o6,D=[some (cT cs),some<|.im<|cM s,some<|cL part,o4,some<|cL left,o5,o6]/\J6 cs s part [] left) (fun m D ⟨part,h_,left,o5,o6,e,P,em⟩=>by
  subst e;have k:n4 [some (cT cs),some<|.im<|cM s,some<|cL part,some<|cL h_,some<|cL left,o5,o6]=some (!decide (h_=[]),[some (cT cs),some<|.im<|cM s,some<|cL part,some<|cL h_,some<|cL left,o5,o6]):=Fu (b_ rfl rfl rfl rfl<|uq h_);refine⟨_,_,k,fun ht=>?_,fun hf=>?_⟩
  ·have he:h_≠[]:=fun z=>by rw[z] at ht;cases ht
   obtain⟨QX,IH,e⟩:=Cc (o0:=some (cT cs)) (o1:=some (.im<|cM s)) (o5:=o5) (o6:=o6) P (by lia);refine⟨_,_,e,.inl rfl,_,?_,_,_,_,_,_,rfl,P.next,rfl⟩;rw[em,ZW he];have hs:=(Vy (Fp h_) left).length_eq;rw[ZR] at hs;by_cases hn:left.filter (Fp h_)=[]
   ·rw[ZY hn];rw[hn,Xy] at hs;lia
   ·rw[ZW hn];have:=Xd.mpr hn;lia
  ·have he:h_=[]:=by
    by_cases z:h_=[]
    ·exact z
    ·rw[Zs z] at hf;cases hf
   subst he;exact⟨part,left,_,o5,o6,rfl,P⟩) 1000000 _ [some (cT cs),some<|.im<|cM s,some<|cL [s],some<|cL [s],some<|cL<|cs.filter fun c=>!decide (c=s),none,none] ⟨_,_,_,_,_,rfl,P0,rfl⟩ (by
    have lf:=X1 (fun c=>!decide (c=s)) cs;split<;>lia)
 have MX:part.Nodup:=(ZH.mp P.nd).1;have lp:part.length<=cs.length+1:=by have:=P.len;rw[ZR] at this;lia
 obtain⟨pt,s1,s2,s3⟩:=jD MX (by lia);refine⟨pt,?_,s3,fun x=>s2.mem_iff.trans<|P.done x,by rw[s2.length_eq];exact lp⟩;have hs:Fk [cL part]=some (cL pt):=by
  have hi:Fz (part.map cM)=none:=by
   cases part with
   | nil=>cases P.Lk
   | cons a r=>rfl
  show (match Fz (part.map cM) with | some ns=>vSorted [.lst (part.map cM)] | none=>dQ<|part.map cM)=_;rw[hi];dsimp only;unfold dQ;rw[ZY (iB.mpr (iC MX (by lia))),s1]
 unfold jG ua;refine bz (D:=[some (cT cs),some<|.im<|cM s,some<|cL part,o4,some<|cL left,o5,o6]) rfl ?_ rfl;refine A_ (D1:=[some (cT cs),some<|.im<|cM s,some<|cL [s],some<|cL [s],none,none,none]) rfl ?_;refine A_ (aM c1 (FA rfl) rfl) (A_ w1<|bM ?_);exact Fi (a_ (v_<|Fi (a_ rfl rfl) rfl hs) rfl) rfl rfl
theorem Ce(h:J5 d=true):∃ c:j_,d=cM c:=by
 unfold J5 at h;split at h
 ·next a b=>
  rw[ZU] at h;obtain⟨i,rfl⟩:=lL h.1;obtain⟨j,rfl⟩:=lL h.2;exact⟨(i,j),rfl⟩
 ·cases h
theorem Cf(ks:List j_)(c:j_):vNotIn (.im<|cM c) (.dT<|mt ks)=some (bV<|!decide (c∈ks)):=by
 have:=n5 ks c;show (inB (cM c)<|.dT<|mt ks).map (fun r=>Vl.im<|.bl<|!r)=_;have h2:(inB (cM c)<|.dT<|mt ks).map (fun r=>Vl.im<|.bl r)=some (bV<|decide (c∈ks)):=this;obtain⟨r,e1,e2⟩:=Z2.mp h2;rw[e1];cases e2;rfl
end G
namespace HT
def ev{α:Type}:List α->List α
 | []=>[]
 | [a]=>[a]
 | a::_::r=>a::ev r
open PySem PySem.Spec PyProof.Rows
section
variable{prog:Program}{w:World}{A:Around}{E:Value->Shared->Prop}{s:Shared}
end
end HT
namespace L2
open PySem PySem.Spec PyProof.Rows
section
variable{X:Cx}
end
end L2
namespace G
open PySem L2
variable{ds:List Im}{w f:List j_}{x s c:j_}{p:List j_×List j_}{o1:Option Vl}
noncomputable def jI:MS:=(sIf (cq (kB<|ae vIn (oSl 4)<|oSl 0)<|kB<|ae vNotIn (oSl 4)<|oSl 2) (ak (cF (eC<|.bl true)<|gIx 2 (bB 4) putA)<|fK<|dz gz 3 mAppend<|aa (oSl 4) aNil) sNil)
noncomputable def ut:M Bool:=(bd<|oSl 3)
noncomputable def lM:MS:=(cf (bu<|oV<|av 1 G.iL<|aa (oV<|dz gz 3 mPop aNil) aNil) (gN 4) G.jI)
noncomputable def uu:MS:=(ak (az 2<|sk (bB 1)<|eC<|.bl true)<|ak (az 3<|aZ<|aa (oSl 1) aNil)<|ak (d0 G.ut G.lM 1000000)<|aQ<|aw vTuple<|aa (oV<|aw Fk<|aa (oSl 2) aNil) aNil)
noncomputable def gL:Fn:=bj 2 5 [0,1] uu
noncomputable def uw(e_:Addr):MS:=(ak (sIf (kOr (ca<|bd<|oV<|av 1 (G.iH e_)<|aa (oSl 0) aNil)<|kB<|ae vEq (oV<|aw vLen<|aa (oSl 0) aNil)<|oV<|eC<|.int 0) (aQ<|eC<|.bl false) sNil)<|aQ<|ae vEq (oV<|aw vLen<|aa (oV<|av 2 G.gL<|aa (oV<|av 1 G.f7<|aa (oSl 0) aNil)<|aa (oV<|ae vIx (oSl 0)<|oV<|eC<|.int 0) aNil) aNil)<|oV<|aw vLen<|aa (oSl 0) aNil)
noncomputable def ee(e_:Addr):Fn:=bj 1 1 [0] (uw e_)
theorem iM{α:Type}[DecidableEq α]:∀ {l m:List α},l.Nodup->(∀ x∈l,x∈m)->l.length<=m.length
 | [],_,_,_=>Yz _
 | x::l,m,nd,h=>by
  have nx:=YO.mp nd;have:=iM (m:=m.erase x) nx.2 fun y hy=>(List.mem_erase_of_ne (fun e=>nx.1 (by rw[<- e];exact hy))).mpr (h y<|.tail _ hy);have e:=VL (h x<|.head _);have p:=Vv (h x<|.head _);rw[ZJ];lia
def Fw(cs:List j_)(p:List j_×List j_)(c:j_):List j_×List j_:=if c∈cs/\c∉p.1 then (p.1++[c],p.2++[c]) else p
abbrev rD(o1:Option Vl)(cs:List j_)(p:List j_×List j_)(o4:Option Vl):SD:=[some (.dT<|mt cs),o1,some<|.dT<|mt p.1,some<|cL p.2,o4]
theorem Cg{cs:List j_}(h1:p.1.length<10000)(h2:p.2.length<10000):jI (rD o1 cs p<|some<|.im<|cM c)=some (.nx,rD o1 cs (Fw cs p c)<|some<|.im<|cM c):=by
 have k1:kB (ae vIn (oSl 4)<|oSl 0) (rD o1 cs p<|some<|.im<|cM c)=some (decide (c∈cs),rD o1 cs p<|some<|.im<|cM c):=Fu (b_ rfl rfl rfl rfl<|n5 cs c);have k2:kB (ae vNotIn (oSl 4)<|oSl 2) (rD o1 cs p<|some<|.im<|cM c)=some (!decide (c∈p.1),rD o1 cs p<|some<|.im<|cM c):=Fu (b_ rfl rfl rfl rfl<|Cf p.1 c);unfold jI Fw;by_cases a:c∈cs
 ·rw[Zu a] at k1;by_cases b:c∈p.1
  ·rw[Zu b] at k2;rw[ZW fun z=>z.2 b];exact bI (dB k1 k2) rfl
  ·rw[Zs b] at k2;rw[ZY ⟨a,b⟩];have hp:putA (.dT<|mt p.1) (.im<|.tup<|kM c) (bV true)=some (.dT<|mt<|p.1++[c]):=by
    have e:bK p.1 c=p.1++[c]:=by unfold bK;rw[ZW b]
    rw[<- e,<- nX];exact ZY ⟨rfl,by unfold mt;rw[Z3];lia⟩
   refine cH (dB k1 k2) (A_ (D1:=[some (.dT<|mt cs),o1,some<|.dT<|mt<|p.1++[c],some<|cL p.2,some<|.im<|cM c]) ?_ ?_)
   ·refine J1 rfl ?_;show (putA (.dT<|mt p.1) (.im<|.tup<|kM c)<|bV true).map _=_;rw[hp];rfl
   ·refine NV (MJ rfl rfl (a_ rfl rfl) rfl rfl (NW (by rw[Z3];lia)) ?_);show _=[some (.dT<|mt cs),o1,some<|.dT<|mt<|p.1++[c],some<|cL<|p.2++[c],some<|.im<|cM c];unfold cL;rw[Y7];rfl
 ·rw[Zs a] at k1;rw[ZW fun z=>a z.1];exact bI (gH k1) rfl
theorem Ch(cs:List j_)(p:List j_×List j_)(c:j_):(Fw cs p c).1.length<=p.1.length+1/\(Fw cs p c).2.length<=p.2.length+1:=by
 unfold Fw;split
 ·rw[ZR,ZR];exact⟨ZV _,ZV _⟩
 ·exact⟨by lia,by lia⟩
theorem ux{o1:Option Vl}{cs:List j_}:∀ (xs:List j_) (p:List j_×List j_) (o4:Option Vl),p.1.length+xs.length<10000->p.2.length+xs.length<10000->∃ J7,bx (gN 4) jI (xs.map cM) (rD o1 cs p o4)=some (.nx,rD o1 cs (xs.foldl (Fw cs) p) J7)
 | [],p,o4,_,_=>⟨o4,rfl⟩
 | c::xs,p,o4,h1,h2=>by
  rw[ZJ] at h1 h2;have l:=Ch cs p c;obtain⟨J7,ih⟩:=ux (o1:=o1) xs (Fw cs p c) (some<|.im<|cM c) (by lia) (by lia);refine⟨J7,?_⟩;rw[ZF,bx];show (jI<|rD o1 cs p<|some<|.im<|cM c).bind _=_;rw[Cg (by lia) (by lia)];exact ih
structure Kt(cs:List j_)(s:j_)(p:List j_×List j_):Prop where
 nd:p.1.Nodup
 Lk:s∈p.1
 con:∀ x∈p.1,Cn cs s x
 sub:∀ x∈p.1,x=s\/x∈cs
 wt:∀ x∈p.2,x∈p.1
theorem Kt.step{cs:List j_}(P:Kt cs s p)(hx:x∈p.1){c:j_}(hc:c∈HB x):Kt cs s (Fw cs p c):=by
 unfold Fw;split
 ·rename_i h;refine⟨?_,Zw _ P.Lk,fun y hy=>?_,fun y hy=>?_,fun y hy=>?_⟩
  ·rw[ZH];exact⟨P.nd,Zz _ _,fun a ha b hb e=>h.2 (by rw[<- ZZ.mp hb,<- e];exact ha)⟩
  ·rcases ZA.mp hy with z | z
   ·exact P.con y z
   ·rw[ZZ.mp z];exact .step (P.con x hx) h.1 (om.mpr hc)
  ·rcases ZA.mp hy with z | z
   ·exact P.sub y z
   ·rw[ZZ.mp z];exact .inr h.1
  ·rcases ZA.mp hy with z | z
   ·exact Zw _ (P.wt y z)
   ·exact ZI _ z
 ·exact P
theorem Ci{cs:List j_}{y:j_}:(y∈p.1->y∈(Fw cs p c).1)/\(y∈p.2->y∈(Fw cs p c).2)/\(y∈(Fw cs p c).1->y∈p.1\/y∈(Fw cs p c).2)/\(c∈cs->c∈(Fw cs p c).1):=by
 unfold Fw;split
 ·rename_i h;refine⟨fun z=>Zw _ z,fun z=>Zw _ z,fun z=>?_,fun _=>ZI _<|.head _⟩;rcases ZA.mp z with z | z
  ·exact .inl z
  ·exact .inr (ZI _ z)
 ·rename_i h;refine⟨fun z=>z,fun z=>z,.inl,fun z=>?_⟩;by_cases q:c∈p.1
  ·exact q
  ·exact absurd ⟨z,q⟩ h
theorem uy{cs:List j_}{s x:j_}:∀ (xs:List j_) (p:List j_×List j_),(∀ c∈xs,c∈HB x)->x∈p.1->Kt cs s p->Kt cs s (xs.foldl (Fw cs) p)/\(∀ y,y∈p.1->y∈(xs.foldl (Fw cs) p).1)/\(∀ y,y∈p.2->y∈(xs.foldl (Fw cs) p).2)/\(∀ y,y∈(xs.foldl (Fw cs) p).1->y∈p.1\/y∈(xs.foldl (Fw cs) p).2)/\(∀ c∈xs,c∈cs->c∈(xs.foldl (Fw cs) p).1)/\(xs.foldl (Fw cs) p).1.length+p.2.length=(xs.foldl (Fw cs) p).2.length+p.1.length
 | [],p,_,_,P=>⟨P,fun _ h=>h,fun _ h=>h,fun _ h=>.inl h,fun c h=>(by cases h),Vw _ _⟩
 | c::xs,p,ha,hx,P=>by
  have m:=fun y=>Ci (cs:=cs) (p:=p) (c:=c) (y:=y);obtain⟨i1,i2,i3,i4,i5,i6⟩:=uy xs (Fw cs p c) (fun d hd=>ha d<|.tail _ hd) ((m x).1 hx) (P.step hx<|ha c<|.head _);refine⟨i1,fun y h=>i2 y<|(m y).1 h,fun y h=>i3 y<|(m y).2.1 h,fun y h=>?_,fun d hd h=>?_,?_⟩
  ·rcases i4 y h with z | z
   ·rcases (m y).2.2.1 z with w | w
    ·exact .inl w
    ·exact .inr (i3 y w)
   ·exact .inr z
  ·rcases ZG.mp hd with rfl | hd
   ·exact i2 d ((m d).2.2.2 h)
   ·exact i5 d hd h
  ·have e:(Fw cs p c).1.length+p.2.length=(Fw cs p c).2.length+p.1.length:=by
    unfold Fw;split
    ·rw[ZR,ZR,Zp];lia
    ·exact Vw _ _
   show (xs.foldl (Fw cs)<|Fw cs p c).1.length+p.2.length=(xs.foldl (Fw cs)<|Fw cs p c).2.length+p.1.length;lia
structure Ku(cs:List j_)(s:j_)(p:List j_×List j_):Prop where
 i:Kt cs s p
 done:∀ a∈p.1,a∉p.2->∀ b∈cs,aG a b=true->b∈p.1
theorem Kt.len{cs:List j_}(P:Kt cs s p):p.1.length<=cs.length+1:=
 iM (m:=s::cs) P.nd fun x hx=>by
  rcases P.sub x hx with h | h
  ·rw[h];exact .head _
  ·exact .tail _ h
theorem Ku.next{cs:List j_}(P:Ku cs s (f,w++[x])):Ku cs s ((HB x).foldl (Fw cs) (f,w))/\((HB x).foldl (Fw cs) (f,w)).1.length+w.length=((HB x).foldl (Fw cs) (f,w)).2.length+f.length:=by
 have hx:x∈f:=P.i.wt x (ZI _<|.head _);obtain⟨i1,i2,i3,i4,i5,i6⟩:=uy (cs:=cs) (s:=s) (HB x) (f,w) (fun _ h=>h) hx ⟨P.i.nd,P.i.Lk,P.i.con,P.i.sub,fun y hy=>P.i.wt y<|Zw _ hy⟩;refine⟨⟨i1,fun a ha na b hb e=>?_⟩,i6⟩;have af:a∈f:=(i4 a ha).resolve_right na;by_cases ax:a=x
 ·subst ax;exact i5 b (om.mp e) hb
 ·refine i2 b (P.done a af (fun z=>?_) b hb e);rcases ZA.mp z with z | z
  ·exact na (i3 a z)
  ·exact ax (ZZ.mp z)
theorem Ku.fin{cs:List j_}(P:Ku cs s (f,[]))(x:j_):x∈f↔Cn cs s x:=by
 refine⟨P.i.con x,fun h=>?_⟩;induction h with
 | self=>exact P.i.Lk
 | step _ hb e ih=>exact P.done _ ih (fun z=>by cases z) _ hb e
theorem Cj{cs:List j_}{s x:j_}{o4:Option Vl}(h1:f.length<5000)(h2:w.length<5000):∃ J7,lM (rD o1 cs (f,w++[x]) o4)=some (.nx,rD o1 cs ((HB x).foldl (Fw cs) (f,w)) J7):=by
 obtain⟨J7,lp⟩:=ux (o1:=o1) (cs:=cs) (HB x) (f,w) o4 (by show _+4 < _;lia) (by show _+4 < _;lia);refine⟨J7,?_⟩;unfold lM;refine dA (o:=none) (D1:=rD o1 cs (f,w) o4) (S9 (d:=cL (HB x)) (d_ (a_ (v_<|MJ (c:=cL (w++[x])) (c':=cL w) rfl rfl rfl rfl rfl ?_ rfl) rfl) rfl rfl (uf x) rfl) rfl) lp rfl;show (((w++[x]).map cM).getLast?).map (fun d=>(Vl.im d,Vl.lst ((w++[x]).map cM).dropLast))=some (.im<|cM x,cL w);rw[Y7,List.map_singleton,List.getLast?_concat,List.dropLast_concat];rfl
theorem Ck{cs:List j_}(hl:cs.length<=900):∃ pt,gL [.dT (mt cs),.im<|cM s]=some (cT pt,[.dT (mt cs),.im<|cM s])/\Up pt/\(∀ x,x∈pt↔Cn cs s x):=by
 have P0:Ku cs s ([s],[s]):=⟨⟨Zz _ _,.head _,fun x hx=>by rw[ZZ.mp hx];exact .self,fun x hx=>.inl<|ZZ.mp hx,fun x hx=>hx⟩,fun a ha na=>absurd ha na⟩;obtain⟨D',w1,f,o4,rfl,P⟩:=rn (c:=ut) (b:=lM) (fun m D=>∃ f w o4,D=rD (some<|.im<|cM s) cs (f,w) o4/\Ku cs s (f,w)/\w.length<=f.length/\m+f.length=cs.length+1+w.length) (fun D=>∃ f o4,D=rD (some<|.im<|cM s) cs (f,[]) o4/\Ku cs s (f,[])) (fun m D ⟨f,w,o4,e,P,lw,em⟩=>by
  subst e;have fl:=P.i.len;rcases List.eq_nil_or_concat w with rfl | ⟨w,x,rfl⟩
  ·exact⟨false,_,GN rfl rfl rfl,fun h=>(by cases h),fun _=>⟨f,o4,rfl,P⟩⟩
  ·rw[List.concat_eq_append] at *;refine⟨true,_,GN (d:=cL (w++[x])) rfl rfl ?_,fun _=>?_,fun h=>by cases h⟩
   ·show some (!((w++[x]).map cM).isEmpty)=some true;rw[Y7,V0.mpr (by simp)];rfl
   ·rw[ZR,Zp] at lw em;obtain⟨J7,e0⟩:=Cj (cs:=cs) (s:=s) (x:=x) (f:=f) (w:=w) (o1:=some (.im<|cM s)) (o4:=o4) (by show _ < _;dsimp only at fl;lia) (by dsimp only at fl;lia);obtain⟨N,nl⟩:=P.next;have l2:=N.i.len;generalize (HB x).foldl (Fw cs) (f,w)=p at e0 N nl l2;obtain⟨p1,p2⟩:=p;dsimp only at fl l2 nl;exact⟨.nx,_,e0,.inl rfl,m - 1,by omega,p1,p2,J7,rfl,N,by omega,by omega⟩) 1000000 (cs.length+1) (rD (some<|.im<|cM s) cs ([s],[s]) none) ⟨[s],[s],none,rfl,P0,ZV _,by show _=cs.length+1+1;rfl⟩ (by lia)
 have MX:=P.i.nd;have lp:=P.i.len;obtain⟨pt,s1,s2,s3⟩:=jD MX (by dsimp only at lp ⊢;lia);refine⟨pt,?_,s3,fun x=>s2.mem_iff.trans<|P.fin x⟩;have hs:Fk [.dT (mt f)]=some (cL pt):=by
  show dQ ((mt f).map fun p=>.tup p.1)=_;have e:((mt f).map fun p=>Im.tup p.1)=f.map cM:=by unfold mt;rw[YK];rfl
  rw[e];unfold dQ;rw[ZY (iB.mpr (iC MX (by dsimp only at lp ⊢;lia))),s1]
 unfold gL uu;refine bz (D:=rD (some<|.im<|cM s) cs (f,[]) o4) rfl (A_ (D1:=[some (.dT<|mt cs),some<|.im<|cM s,some<|.dT<|mt [s],none,none]) rfl<|A_ (D1:=rD (some<|.im<|cM s) cs ([s],[s]) none) rfl<|A_ w1 ?_) rfl;exact (bM<|Fi (a_ (v_<|Fi (a_ rfl rfl) rfl hs) rfl) rfl rfl)
theorem uz{x y:List Im}(h:x.length+y.length<=100000):vAdd (.im<|.tup x) (.im<|.tup y)=some (.im<|.tup<|x++y):=ZY h
theorem dm(i:Int):Gk (.int i):=fun a e=>by cases e
theorem uA(c:Int×Int):JA (cM c):=⟨(fun a e=>by cases e),fun es e y hy=>by
 cases e;rcases ZG.mp hy with rfl | hy
 ·exact dm _
 ·rw[ZZ.mp hy];exact dm _⟩
theorem Cl{cs:List (Int×Int)}{x:Im}(h:x∈cs.map cM):JA x:=by
 obtain⟨c,_,rfl⟩:=Zl.mp h;exact uA c
theorem Cm(h:∀ x∈ds,Gk x):JA (.tup ds):=⟨(fun a e=>by cases e),fun es e=>by cases e;exact h⟩
theorem Co{d:Im}(h:∀ ds,d≠.tup ds)(h0:Gk d):JA d:=⟨h0,fun es e=>absurd e<|h es⟩
theorem Cp(h:∀ x∈ds,JA x)(hl:ds.length<=290):N2 (.tup ds):=⟨(fun a e=>by cases e),fun es e=>by cases e;exact⟨hl,h⟩⟩
theorem dC{P:Im->Prop}:∀ x∈([]:List Im),P x:=fun _ h=>(YB h).elim
theorem all_cons{P:Im->Prop}{d:Im}{l:List Im}(h:P d)(k:∀ x∈l,P x):∀ x∈d::l,P x:=fun x hx=>by
 rcases ZG.mp hx with rfl | hx
 ·exact h
 ·exact k x hx
theorem uB(b:Bool):Gk (.bl b):=fun a e=>by cases e
theorem uD(x:Str):Gk (.str x):=fun a e=>by cases e
theorem uE:Gk .l_:=fun a e=>by cases e
theorem Cq(ds:List Im):Gk (.tup ds):=fun a e=>by cases e
theorem Cr(b:Bool):vNe (bV b) (bV b)=some (bV false):=by cases b<;>rfl
theorem ot{n:Nat}{h:Vl}{xs:List Im}(x:aT (n+1) h)(h0:xs≠[])(h1:xs.length<1073741824):∃ d h',bO [h,.im<|.tup xs]=some (.im d,[h',.im<|.tup xs])/\d∈xs/\aT n h':=by
 have hl:0<xs.length:=Xd.mpr h0;obtain⟨v,h',e,e1,e2,e3⟩:=dS (m:=xs.length) x (by lia) (by lia);obtain⟨d,hd⟩:∃ d,xs[v.toNat]?=some d:=⟨xs[v.toNat]'(by lia),by simp⟩;have MK:FS xs v=some d:=ik e1 hd;obtain⟨q,rfl⟩:=aW x;obtain⟨q',rfl⟩:=aW e3;refine⟨d,.lst q',?_,Zr hd,e3⟩;have hv:vIx (.im<|.tup xs) (iI v)=some (.im d):=by
  show (FS xs v).map Vl.im=_;rw[MK];rfl
 unfold bO nF;exact bz (D:=[some (.lst q'),some<|.im<|.tup xs]) rfl (bM<|b_ rfl (v_<|d_ (os:=[.sl 0,.vl<|iI xs.length]) (a_ rfl<|a_ (v_<|Fi (a_ rfl rfl) rfl rfl) rfl) rfl rfl e rfl) rfl rfl hv) rfl
theorem uF:∀ bs:List j_,Im.pls 7 (bs.map cM)=true
 | []=>rfl
 | b::bs=>by
  rw[ZF,Im.pls,uF bs];rfl
structure JB(cs:List j_):Prop where
 up:Up cs
 Iu:∀ c∈cs,0<=c.1/\c.1<=30/\0<=c.2/\c.2<=30
 len:cs.length<=200
theorem JB.th{cs:List j_}(F:JB cs):N2 (.tup<|cs.map cM):=Cp (fun x hx=>Cl hx) (by rw[Z3];have:=F.len;lia)
theorem JB.is{cs:List j_}(F:JB cs):Pp (.tup<|cs.map cM)=true:=by
 show ((cs.map cM).all HS && fh (cs.map cM))=true;rw[og F.up,Wv,YD];intro x hx;obtain⟨c,hc,rfl⟩:=Zl.mp hx;exact B3 (F.Iu c hc)
theorem Cs(a b:List j_):vEq (iI ((a.map cM).length:Int)) (iI ((b.map cM).length:Int))=some (bV<|decide (a.length=b.length)):=by
 rw[dR,Z3,Z3];have:decide ((a.length:Int)=(b.length:Int))=decide (a.length=b.length):=Vz.mpr ⟨fun h=>by lia,fun h=>by lia⟩;rw[this]
theorem Ct(s:j_)(r:List j_):vIx (cT (s::r)) (iI 0)=some (.im<|cM s):=by
 show (FS ((s::r).map cM) 0).map Vl.im=_;rw[ik (Xm 0) (d:=cM s) rfl];rfl
theorem Cu{f:Addr}{r p1:List j_}(F:JB (s::r))(r1:gL [.dT (mt (s::r)),.im<|cM s]=some (cT p1,[.dT (mt (s::r)),.im<|cM s])):ee f [cT (s::r)]=some (bV<|decide (p1.length=(s::r).length),[cT (s::r)]):=by
 have e:=B7 (f:=f) F.th;rw[F.is] at e;have fl:=F.len;have g:=ue (cs:=s::r) (gK F.up) (by lia);have ne:vEq (iI (((s::r).map cM).length:Int)) (iI 0)=some (bV false):=by
  rw[dR,Zs (by rw[Z3,ZJ];lia)]
 have k1:bd (oV<|av 1 (G.iH f)<|aa (oSl 0) aNil) [some (cT (s::r))]=some (true,[some (cT (s::r))]):=GN (v_<|d_ (os:=[.sl 0]) (outs:=[cT (s::r)]) (r:=bV true) rfl rfl rfl e rfl) rfl rfl;have k2:kB (ae vEq (oV<|aw vLen<|aa (oSl 0) aNil)<|oV<|eC<|.int 0) [some (cT (s::r))]=some (false,[some (cT (s::r))]):=Fu (b_ (v_<|Fi (a_ rfl rfl) rfl rfl) rfl rfl rfl ne);have k3:av 2 G.gL (aa (oV<|av 1 G.f7<|aa (oSl 0) aNil)<|aa (oV<|ae vIx (oSl 0)<|oV<|eC<|.int 0) aNil) [some (cT (s::r))]=some (cT p1,[some (cT (s::r))]):=d_ (os:=[.vl (.dT<|mt (s::r)),.vl<|.im<|cM s]) (a_ (v_<|d_ (os:=[.sl 0]) (outs:=[cT (s::r)]) rfl rfl rfl g rfl)<|a_ (v_<|b_ rfl rfl rfl rfl<|Ct s r) rfl) rfl rfl r1 rfl;unfold ee uw;exact bz (D:=[some (cT (s::r))]) rfl (A_ (bI (ck (Ik k1) k2) rfl)<|bM<|b_ (v_<|Fi (a_ (v_ k3) rfl) rfl rfl) (v_<|Fi (a_ rfl rfl) rfl rfl) rfl rfl<|Cs p1 (s::r)) rfl
theorem S_{D D1:SD}{g:M (List Opd)}{os:List Opd}{cs:List j_}(hl:cs.length<=290)(e1:g D=some (os,D1))(e2:ce D1 os=some [cT cs]):∃ es:List j_,lG g D=some (cL es,D1)/\es.length<=cs.length/\Up es/\∀ x,x∈es↔x∈cs:=by
 obtain⟨dc,e,nd,hm⟩:=ul cs;have hlen:dc.length<=cs.length:=iM nd fun x hx=>(hm x).mp hx;have e3:(dc.map kM).map Im.tup=dc.map cM:=by rw[YK];rfl
 obtain⟨es,s1,s2,s3⟩:=jD nd (by lia);obtain⟨q1,q2,_,_⟩:=B9 hl;refine⟨es,?_,by rw[s2.length_eq];exact hlen,s3,fun x=>s2.mem_iff.trans<|hm x⟩;unfold lG;rw[e1];show (ce D1 os).bind _=_;rw[e2];show (GS<|cs.map cM).bind _=_;rw[show cs.map cM=(cs.map kM).map .tup by rw[YK];rfl,tL];refine (ZY ⟨q1,q2⟩).trans ?_;rw[e,e3,s1]
theorem ou{α:Type}(W:List α)(lo hi:Option Int):(aS W lo hi).Sublist W:=(XW _ _).trans (Xq _ _)
end G
namespace L2
open PySem PySem.Spec PyProof.Rows
section
variable{X:Cx}
@[simp] def vEqN:Op2:=fun a b=>match a,b with
 | .im (.tup x),.im (.tup [])=>some (.im<|.bl x.isEmpty)
 | _,_=>none
theorem Cv(hu:X.A.units+20<cLine):Gj X (compareOp .Eq) vEqN:=by
 intro pins s σ H x y v u Q I rx ry ⟨d1,d2,d,r1,r2,e,q⟩;unfold vEqN at e;split at e
 ·rename_i a;cases e;obtain⟨p,o,items,m,rfl,h1,h2,h3,h4⟩:=r1.i.Gh I.n_ rx;obtain⟨p',o',s_,m',rfl,g1,g2,g3,g4⟩:=r2.i.Gh I.n_ ry;have l1:=h4.length;have l2:=g4.length;have l3:a.length=items.size:=l1.trans (by simp);have l4:([]:List Im).length=s_.size:=l2.trans (by simp);have z:s_.size=0:=l4.symm;have t:=VZ (A:=X.A) (e:=fun _=>true) (s:=s) ⟨o,h1,h2,m,h3⟩ ⟨o',g1,g2,m',g3⟩ (by lia) fun j j1 j2=>by lia
  refine t X.prog X.w _ _ ⟨.bl _,H,I,rfl,?_⟩;have e:((range<|min items.size s_.size).all (fun _=>true) && items.size == s_.size)=a.isEmpty:=by
   rw[z,<- l3,Nat.min_zero];cases a<;>rfl
  rw[e];exact Out.i q rfl
 ·cases e
end
end L2
namespace G
open PySem L2
variable{b a c:j_}{k n:Int}{es:List Im}{d x:Im}{f:Addr}{o8 o7 o6 o5 o4:Option Vl}{w pt:List j_}{R:SD->Prop}{D:SD}{h:Vl}{g:MS}
noncomputable def oz:M Vl:=(aE<|aa (oV<|ae vSub (oV<|ae vIx (oSl 1)<|oV<|eC<|.int 0)<|oV<|ae vIx (oSl 0)<|oV<|eC<|.int 0)<|aa (oV<|ae vSub (oV<|ae vIx (oSl 1)<|oV<|eC<|.int 1)<|oV<|ae vIx (oSl 0)<|oV<|eC<|.int 1) aNil)
noncomputable def uG:M Vl:=(eC<|.int 1)
noncomputable def uH:M Bool:=(kB<|ae vNe (oSl 0)<|oSl 1)
noncomputable def uI:MS:=(ak (az 1<|a9 2 [] (iZm<|aa (oSl 0)<|aa (oV<|eUz<|eFz<|eSl (oSl 0) (bY<|eC<|.int 1) pNone) aNil) (gT 2<|bh (gN 0)<|bh (gN 1) gNil') kYes G.oz)<|aQ<|aw vSum<|aa (oV<|a9 2 [] (iZm<|aa (oSl 1)<|aa (oV<|eUz<|eFz<|eSl (oSl 1) (bY<|eC<|.int 1) pNone) aNil) (gT 2<|bh (gN 0)<|bh (gN 1) gNil') G.uH G.uG) aNil)
noncomputable def fi:Fn:=bj 1 2 [0] uI
noncomputable def jJ(e_:Addr):M Vl:=(eB<|cq (kB<|av 1 G.fe<|aa (oSl 0) aNil)<|kB<|ae vIn (oSl 0)<|oSl 1)
noncomputable def uJ(e_:Addr):M Vl:=(ae vIn (oSl 1)<|oV<|av 1 G.iL<|aa (oSl 0) aNil)
noncomputable def oA(e_:Addr):MS:=(ak (sIf (kOr (ca<|bd<|oV<|av 1 (G.ee e_)<|aa (oSl 0) aNil)<|kOr (ca<|bd<|oV<|ci "tuple"<|oSl 1)<|kB<|ae vEq (oV<|aw vLen<|aa (oSl 1) aNil)<|oV<|eC<|.int 0) (aQ<|eC<|.bl false) sNil)<|ak (az 2<|av 1 G.f7<|aa (oSl 0) aNil)<|ak (sIf (ca<|bd<|oV<|aw vAll<|aa (oV<|a9 1 [2] (bu<|oSl 1) (gN 0) kYes<|G.jJ e_) aNil) (aQ<|eC<|.bl false) sNil)<|aQ<|aw vAll<|aa (oV<|a9 2 [] (iZ<|aa (oSl 1)<|aa (oV<|eSl (oSl 1) (bY<|eC<|.int 1) pNone) aNil) (gT 2<|bh (gN 0)<|bh (gN 1) gNil') kYes<|G.uJ e_) aNil)
noncomputable def fj(e_:Addr):Fn:=bj 2 3 [0,1] (oA e_)
noncomputable def uK:M Vl:=(bB 0)
noncomputable def uL:M Bool:=(bd<|oV<|av 2 G.fg<|aa (oSl 0)<|aa (oV<|ae vIx (oSl 1)<|oV<|eU<|eC<|.int 1) aNil)
noncomputable def lN:MS:=(ak (az 5<|a9 1 [3] (bu<|oSl 1) (gN 0) G.uL G.uK)<|ak (cF (ae vIx (oSl 3)<|oV<|aw vMax2<|aa (oV<|eC<|.int 0)<|aa (oV<|ae vSub (oV<|aw vLen<|aa (oSl 3) aNil)<|oV<|eC<|.int 2) aNil)<|gT 2<|bh (gN 6)<|bh (gN 7) gNil')<|ak (az 8<|aE<|aa (oV<|ae vSub (oV<|ae vMul (oV<|eC<|.int 2)<|oV<|ae vIx (oV<|ae vIx (oSl 3)<|oV<|eU<|eC<|.int 1)<|oV<|eC<|.int 0)<|oSl 6)<|aa (oV<|ae vSub (oV<|ae vMul (oV<|eC<|.int 2)<|oV<|ae vIx (oV<|ae vIx (oSl 3)<|oV<|eU<|eC<|.int 1)<|oV<|eC<|.int 1)<|oSl 7) aNil)<|ak (sIf (cq (kB<|ae vIn (oSl 8)<|oSl 5)<|kB<|ae vEq (oV<|av 2 G.br<|aa (oSl 0)<|aa (oV<|eC<|.int 2) aNil)<|oV<|eC<|.int 0) (az 5<|aZ<|aa (oSl 8) aNil) sNil)<|sIf (kB<|ae vNe (oSl 5)<|oV<|aZ aNil) (fK<|dz gz 3 mAppend<|aa (oV<|av 2 G.bO<|aa (oSl 0)<|aa (oSl 5) aNil) aNil) sNil)
noncomputable def uM:MS:=(ak (az 3<|aZ<|aa (oV<|av 2 G.bO<|aa (oSl 0)<|aa (oSl 1) aNil) aNil)<|ak (cf (iR1<|aa (oSl 2) aNil) (gN 4) G.lN)<|aQ<|aw vTuple<|aa (oSl 3) aNil)
noncomputable def jK:Fn:=bj 3 9 [0,1,2] uM
noncomputable def iN:MS:=(ak (sIf (kOr (ca<|bd<|oV<|ci "tuple"<|oSl 2)<|kB<|ae vNotIn (oSl 2)<|oSl 0) (aQ<|eC<|.bl false) sNil)<|sIf (kOr (bd<|oV<|ci "bool"<|oV<|ae vIx (oSl 2)<|oV<|eC<|.int 0)<|bd<|oV<|ci "bool"<|oV<|ae vIx (oSl 2)<|oV<|eC<|.int 1) (aQ<|eC<|.bl false) sNil)
noncomputable def uN:M Vl:=(av 2 G.fg<|aa (oV<|ae vIx (oSl 1)<|oSl 0)<|aa (oV<|ae vIx (oSl 1)<|oV<|ae vAdd (oSl 0)<|oV<|eC<|.int 1) aNil)
noncomputable def uO:MS:=(ak (sIf (kOr (ca<|bd<|oV<|ci "tuple"<|oSl 1)<|kB<|ae vEqN (oSl 1)<|oV<|aE aNil) (aQ<|eC<|.bl false) sNil)<|ak (cf (bu<|oSl 1) (gN 2) G.iN)<|aQ<|aw vAll<|aa (oV<|a9 1 [1] (iR1<|aa (oV<|ae vSub (oV<|aw vLen<|aa (oSl 1) aNil)<|oV<|eC<|.int 1) aNil) (gN 0) kYes G.uN) aNil)
noncomputable def jL:Fn:=bj 2 3 [0,1] uO
noncomputable def lO:MS:=(ak (cF (eSl (oSl 0) (bY<|ae vSub (oSl 2)<|oV<|eC<|.int 2)<|bY<|ae vAdd (oSl 2)<|oV<|eC<|.int 1)<|gT 3<|bh (gN 3)<|bh (gN 4)<|bh (gN 5) gNil')<|ak (az 6<|aE<|aa (oV<|ae vSub (oV<|ae vMul (oV<|eC<|.int 2)<|oV<|ae vIx (oSl 4)<|oV<|eC<|.int 0)<|oV<|ae vIx (oSl 3)<|oV<|eC<|.int 0)<|aa (oV<|ae vSub (oV<|ae vMul (oV<|eC<|.int 2)<|oV<|ae vIx (oSl 4)<|oV<|eC<|.int 1)<|oV<|ae vIx (oSl 3)<|oV<|eC<|.int 1) aNil)<|az 1<|ae vAdd (oSl 1)<|oV<|aw vInt<|aa (oV<|ae vNe (oSl 5)<|oSl 6) aNil)
noncomputable def uP:MS:=(ak (az 1<|eC<|.int 0)<|ak (cf (iR2<|aa (oV<|eC<|.int 2)<|aa (oV<|aw vLen<|aa (oSl 0) aNil) aNil) (gN 2) G.lO)<|aQ<|bB 1)
noncomputable def gM:Fn:=bj 1 7 [0] uP
noncomputable def uQ:MS:=(ak (az 3<|av 2 G.br<|aa (oSl 0)<|aa (oV<|aw vLen<|aa (oSl 2) aNil) aNil)<|ak (cF (ae vIx (oSl 2)<|oSl 3)<|gT 2<|bh (gN 4)<|bh (gN 5) gNil')<|ak (az 6<|aZ<|aa (oV<|av 2 G.bO<|aa (oSl 0)<|aa (oSl 1) aNil)<|aa (oV<|aE<|aa (oSl 4)<|aa (oV<|ae vAdd (oSl 5)<|oV<|eC<|.int 1) aNil)<|aa (oV<|eFz<|aZ<|aa (oSl 4)<|aa (oSl 5) aNil) aNil)<|ak (az 6<|ae vAdd (oSl 6)<|oV<|aZ<|aa (oV<|aE<|aa (oSl 4)<|aa (oSl 5)<|aa (oV<|eC<|.int 0) aNil)<|aa (oV<|eC .l_)<|aa (oV<|aE<|aa (oV<|eC<|.bl true)<|aa (oSl 5) aNil)<|aa (oV<|aE<|aa (oSl 4) aNil)<|aa (oV<|eC<|.int 3) aNil)<|ak (az 7<|av 2 G.bO<|aa (oSl 0)<|aa (oSl 6) aNil)<|ak (az 8<|aZ<|aa (oV<|ae vAdd (oV<|ae vAdd (oV<|eSl (oSl 2) pNone<|bY<|bB 3)<|oV<|aE<|aa (oSl 7) aNil)<|oV<|eSl (oSl 2) (bY<|ae vAdd (oSl 3)<|oV<|eC<|.int 1) pNone) aNil)<|ak (az 8<|ae vAdd (oSl 8)<|oV<|aZ<|aa (oV<|ae vAdd (oV<|ae vAdd (oV<|eSl (oSl 2) pNone<|bY<|bB 3)<|oV<|aE<|aa (oSl 7) aNil)<|oV<|eSl (oSl 2) (bY<|bB 3) pNone) aNil)<|ak (az 8<|ae vAdd (oSl 8)<|oV<|aZ<|aa (oV<|ae vAdd (oV<|eSl (oSl 2) pNone<|bY<|bB 3)<|oV<|eSl (oSl 2) (bY<|ae vAdd (oSl 3)<|oV<|eC<|.int 1) pNone)<|aa (oV<|eFz<|aw vList<|aa (oSl 2) aNil) aNil)<|ak (az 8<|ae vAdd (oSl 8)<|oV<|aZ<|aa (oV<|rK<|oSl 2)<|aa (oV<|ae vAdd (oSl 2)<|oSl 2)<|aa (oV<|aE<|aa (oSl 2) aNil)<|aa (oV<|eSl (oSl 2) (bY<|bB 3) pNone) aNil)<|ak (az 8<|ae vAdd (oSl 8)<|oV<|aZ<|aa (oV<|eSl (oSl 2) pNone<|bY<|bB 3) aNil)<|aQ<|av 2 G.bO<|aa (oSl 0)<|aa (oSl 8) aNil)
noncomputable def jM:Fn:=bj 3 9 [0,1,2] uQ
noncomputable def lP(e_:Addr):MS:=(ak (az 8<|av 3 G.jM<|aa (oSl 2)<|aa (oSl 4)<|aa (oSl 5) aNil)<|ak (az 9<|av 2 (G.fj e_)<|aa (oSl 4)<|aa (oSl 8) aNil)<|sIf (kOr (ca<|bd<|oV<|ci "bool"<|oSl 9)<|kB<|ae vNe (oSl 9)<|oV<|av 2 G.jL<|aa (oSl 4)<|aa (oSl 8) aNil) (aQ<|eC<|.bl false) sNil)
noncomputable def uR(e_:Addr):M Vl:=(av 2 (G.fj e_)<|aa (oSl 1)<|aa (oSl 0) aNil)
noncomputable def lQ(e_:Addr):MS:=(ak (az 2<|av 2 G.jt<|aa (oSl 0)<|aa (oSl 1) aNil)<|ak (az 3<|ae vAdd (oV<|av 1 G.jC<|aa (oSl 2) aNil)<|oV<|aE<|aa (oV<|aE<|aa (oV<|eC<|.int 30)<|aa (oV<|eC<|.int 30) aNil) aNil)<|ak (az 3<|aw vTuple<|aa (oV<|lG<|aa (oSl 3) aNil) aNil)<|ak (az 4<|av 2 G.jG<|aa (oSl 3)<|aa (oV<|av 2 G.bO<|aa (oSl 2)<|aa (oSl 3) aNil) aNil)<|ak (az 5<|av 3 G.jK<|aa (oSl 2)<|aa (oSl 4)<|aa (oV<|av 2 G.br<|aa (oSl 2)<|aa (oV<|eC<|.int 60) aNil) aNil)<|ak (az 6<|av 1 G.fi<|aa (oSl 5) aNil)<|ak (sIf (kOr (kB<|ae (oIs true) (oV<|av 2 (G.fj e_)<|aa (oSl 4)<|aa (oSl 5) aNil)<|oV<|eC<|.bl true)<|bd<|oV<|ci "bool"<|oSl 6) (aQ<|eC<|.bl false) sNil)<|ak (sIf (kB<|ae vNe (oSl 6)<|oV<|av 1 G.gM<|aa (oSl 5) aNil) (aQ<|eC<|.bl false) sNil)<|ak (cf (iR1<|aa (oV<|eC<|.int 5) aNil) (gN 7)<|G.lP e_)<|ak (az 10<|aZ<|aa (oV<|eC .l_)<|aa (oV<|eC<|.bl true)<|aa (oV<|eC<|.int 0)<|aa (oV<|eC<|.str "")<|aa (oV<|aE aNil)<|aa (oV<|eFz<|aZ aNil)<|aa (oV<|eFz eDict0T)<|aa (oV<|aE<|aa (oV<|eC<|.int 1)<|aa (oV<|eC<|.int 2) aNil)<|aa (oV<|aE<|aa (oV<|aE aNil) aNil)<|aa (oV<|eC<|.str "ab") aNil)<|sIf (bd<|oV<|aw vAny<|aa (oV<|a9 1 [4] (bu<|oSl 10) (gN 0) kYes<|G.uR e_) aNil) (aQ<|eC<|.bl false) sNil)
noncomputable def oC(e_:Addr):MS:=(ak (cf (iR1<|aa (oV<|aw vMax2<|aa (oV<|eC<|.int 1)<|aa (oV<|aw vMin2<|aa (oV<|eC<|.int 12)<|aa (oV<|aw vLen<|aa (oSl 0) aNil) aNil) aNil) aNil) (gN 1)<|G.lQ e_)<|aQ<|eB<|cq (kB<|ae vEq (oV<|av 1 G.fi<|aa (oV<|aE<|aa (oV<|aE<|aa (oV<|eC<|.int 0)<|aa (oV<|eC<|.int 0) aNil)<|aa (oV<|aE<|aa (oV<|eC<|.int 0)<|aa (oV<|eC<|.int 1) aNil)<|aa (oV<|aE<|aa (oV<|eC<|.int 0)<|aa (oV<|eC<|.int 0) aNil) aNil) aNil)<|oV<|eC<|.int 1)<|kB<|ae vEq (oV<|av 1 G.fi<|aa (oV<|aE<|aa (oV<|aE<|aa (oV<|eC<|.int 2)<|aa (oV<|eC<|.int 2) aNil) aNil) aNil)<|oV<|eC<|.int 0)
noncomputable def jN(e_:Addr):Fn:=bj 1 11 [0] (oC e_)
theorem uS{α:Type}(a b:α->Im):∀ l:List α,bp (l.map a) (l.map b)=l.map fun i=>.tup [a i,b i]
 | []=>rfl
 | x::l=>by rw[ZF,ZF,bp,uS a b l];rfl
theorem uT(ns:List Int):∀ j:Nat,preSum (fun i=>(ns[i]?).getD 0) j=(ns.take j).sum
 | 0=>rfl
 | j+1=>by
  rw[preSum,uT ns j,List.take_add_one,List.sum_append];cases ns[j]? with
  | none=>rfl
  | some x=>show _+x=_+(x+0);lia
theorem Cw(ns:List Int):ll ns=ns.sum:=by
 have:=uT ns ns.length;rw[XE] at this;exact this
def sp(c:Nat->j_)(i:Nat):j_:=((c<|i+1).1 - (c i).1,(c<|i+1).2 - (c i).2)
def J8(c:Nat->j_)(m:Nat):Nat:=((range m).filter fun i=>!decide (sp c i=sp c (i+1))).length
theorem uU:∀ (xs ys zs:List Im),xs.length=zs.length->bp (xs++ys) zs=bp xs zs
 | [],ys,[],_=>by cases ys<;>rfl
 | x::xs,ys,z::zs,h=>by rw[Xj,bp,bp,uU xs ys zs (by simpa using h)]
 | [],_,_::_,h=>by simp at h
 | _::_,_,[],h=>by simp at h
theorem uV(g:Nat->Im)(n:Nat):bp ((range<|n+1).map g) (((range<|n+1).map g).drop 1)=(range n).map fun i=>.tup [g i,g<|i+1]:=by
 have e1:(range<|n+1).map g=(range n).map g++[g n]:=by rw[List.range_succ,Y7];rfl
 have e2:((range<|n+1).map g).drop 1=(range n).map fun i=>g (i+1):=by
  rw[W0,ZF,YK];rfl
 rw[e2,e1,uU _ _ _ (by simp)];exact uS _ _ _
abbrev cs(c:Nat->j_)(n:Nat):List j_:=(range n).map c
theorem oD(c:Nat->j_)(n:Nat):(cs c n).map cM=(range n).map fun i=>cM (c i):=by rw[YK];rfl
theorem Cy(a b:j_):oz [some (.im<|cM a),some<|.im<|cM b]=some (.im<|cM (b.1 - a.1,b.2 - a.2),[some (.im<|cM a),some<|.im<|cM b]):=by
 have a0:vIx (.im<|cM a) (iI 0)=some (iI a.1):=rfl;have a1:vIx (.im<|cM a) (iI 1)=some (iI a.2):=rfl;have b0:vIx (.im<|cM b) (iI 0)=some (iI b.1):=rfl;have b1:vIx (.im<|cM b) (iI 1)=some (iI b.2):=rfl;exact IF (a_ (v_<|b_ (v_<|b_ rfl rfl rfl rfl b0) (v_<|b_ rfl rfl rfl rfl a0) rfl rfl rfl)<|a_ (v_<|b_ (v_<|b_ rfl rfl rfl rfl b1) (v_<|b_ rfl rfl rfl rfl a1) rfl rfl rfl) rfl) rfl (ZK rfl) rfl
theorem uW:∀ l:List Nat,(l.map fun _=>(1:Int)).sum=(l.length:Int)
 | []=>rfl
 | x::l=>by rw[ZF,List.sum_cons,uW l,ZJ];lia
theorem uX(c:Nat->j_)(m:Nat)(hm:m<=1000):fi [cT (cs c<|m+2)]=some (iI<|J8 c m,[cT (cs c<|m+2)]):=by
 have w1:a9 2 [] (iZm<|aa (oSl 0)<|aa (oV<|eUz<|eFz<|eSl (oSl 0) (bY<|eC<|.int 1) pNone) aNil) (gT 2<|bh (gN 0)<|bh (gN 1) gNil') kYes G.oz [some (cT<|cs c<|m+2),none]=some (cL<|cs (sp c)<|m+1,[some (cT<|cs c<|m+2),none]):=by
  refine (m9 (xs:=(range<|m+1).map fun i=>.tup [cM (c i),cM<|c<|i+1]) (o:=none) (D1:=[some (cT<|cs c<|m+2),none]) ?_ (fW _ (fun i=>cM<|sp c i) (range<|m+1) (fun i _=>?_) (by rw[Zk];lia))).trans ?_
  ·have z:=uV (fun i=>cM<|c i) (m+1);rw[<- oD] at z;have x1:aS ((cs c<|m+2).map cM) (some 1) none=((cs c<|m+2).map cM).drop 1:=kW _ 1;have v1:vSl (cT<|cs c<|m+2) (some 1) none=some (.im<|.tup<|((cs c<|m+2).map cM).drop 1):=by
    show some (Vl.im<|.tup<|aS ((cs c<|m+2).map cM) (some 1) none)=_;rw[x1]
   rw[<- z];exact Qy (a_ rfl<|a_ (v_<|Qz<|NX<|Il rfl rfl rfl rfl v1) rfl) rfl rfl rfl rfl rfl
  ·exact⟨[some (.im<|cM<|c i),some<|.im<|cM<|c<|i+1],_,[some (.im<|cM<|c i),some<|.im<|cM<|c<|i+1],rfl,rfl,Cy _ _,rfl⟩
  ·show some (Vl.lst _,_)=some (Vl.lst<|(cs (sp c)<|m+1).map cM,_);rw[oD];rfl
 have w2:a9 2 [] (iZm<|aa (oSl 1)<|aa (oV<|eUz<|eFz<|eSl (oSl 1) (bY<|eC<|.int 1) pNone) aNil) (gT 2<|bh (gN 0)<|bh (gN 1) gNil') G.uH G.uG [some (cT<|cs c<|m+2),some<|cL<|cs (sp c)<|m+1]=some (.lst<|(((range m).filter fun i=>!decide (sp c i=sp c (i+1))).map fun _=>(1:Int)).map .int,[some (cT<|cs c<|m+2),some<|cL<|cs (sp c)<|m+1]):=by
  refine (m9 (xs:=(range m).map fun i=>.tup [cM (sp c i),cM<|sp c<|i+1]) (o:=some (1,cL<|cs (sp c)<|m+1)) (D1:=[some (cT<|cs c<|m+2),some .jk]) ?_ (gD _ (fun i=>!decide (sp c i=sp c (i+1))) (fun _=>.int 1) (range m) [] (fun i _=>?_) (by simp;lia))).trans ?_
  ·have z:=uV (fun i=>cM<|sp c i) m;rw[<- oD] at z;have x1:aS ((cs (sp c)<|m+1).map cM) (some 1) none=((cs (sp c)<|m+1).map cM).drop 1:=kW _ 1;have v1:vSl (cL<|cs (sp c)<|m+1) (some 1) none=some (.lst<|((cs (sp c)<|m+1).map cM).drop 1):=by
    show some (Vl.lst<|aS ((cs (sp c)<|m+1).map cM) (some 1) none)=_;rw[x1]
   rw[<- z];exact Qy (a_ rfl<|a_ (v_<|Qz<|NX<|Il rfl rfl rfl rfl v1) rfl) rfl rfl rfl rfl rfl
  ·have n:=oo (sp c i) (sp c<|i+1);refine⟨[some (.im<|cM<|sp c i),some<|.im<|cM<|sp c<|i+1],[some (.im<|cM<|sp c i),some<|.im<|cM<|sp c<|i+1],rfl,?_,fun _=>rfl,fun _=>⟨_,rfl,rfl⟩⟩;exact Fu (b_ rfl rfl rfl rfl n)
  ·rw[YK];rfl
 have im:=zP (((range m).filter fun i=>!decide (sp c i=sp c (i+1))).map fun _=>(1:Int));have sz:=Cw (((range m).filter fun i=>!decide (sp c i=sp c (i+1))).map fun _=>(1:Int));rw[uW] at sz;have hv:vSum [.lst ((((range m).filter fun i=>!decide (sp c i=sp c (i+1))).map fun _=>(1:Int)).map .int)]=some (iI<|J8 c m):=by
  show (Fz _).map (fun ns=>Vl.im<|.int<|ll ns)=_;rw[im];show some (Vl.im<|.int<|ll _)=_;rw[sz];rfl
 unfold fi uI;refine rz [some (cT<|cs c<|m+2),some<|cL<|cs (sp c)<|m+1] rfl ((rp ((rq w1 (show 1<2 by decide)).trans rfl)).trans<|bM ?_) rfl;exact Fi (a_ (v_ w2) rfl) rfl hv
theorem uY(c:j_):fi [cT [c]]=some (iI 0,[cT [c]]):=rfl
theorem Cz(c:Nat->j_){n j:Nat}(h:j+3<=n):aS (cs c n) (some<|2+(j:Int) - 2) (some<|2+(j:Int)+1)=[c j,c<|j+1,c<|j+2]:=by
 rw[show 2+(j:Int) - 2=(j:Int) by lia,show 2+(j:Int)+1=((j+3:Nat):Int) by lia];unfold aS;rw[HT.me,HT.me,Z3,Zk,XX h,XX (show j<=n by lia),show j+3 - j=3 by lia];refine Yi fun i=>?_;rw[Yu];split
 ·rename_i hi;rw[YF,ZB,XN (by lia)]
  match i,hi with
  | 0,_=>rfl
  | 1,_=>rfl
  | 2,_=>rfl
 ·rename_i hi;rw[YV (by show 3<=i;lia)]
theorem CA(a b d:j_):(!decide (d=(2 * b.1 - a.1,2 * b.2 - a.2)))=!decide ((b.1 - a.1,b.2 - a.2)=(d.1 - b.1,d.2 - b.2)):=by
 obtain⟨a1,a2⟩:=a;obtain⟨b1,b2⟩:=b;obtain⟨d1,d2⟩:=d;rw[Vz.mpr];simp only[Prod.mk.injEq];constructor<;>intro h<;>constructor<;>lia
theorem CB(c:Nat->j_){n j:Nat}{m:Int}{o3 o4 o5 o6:Option Vl}(h:j+3<=n):∃ p3 p4 p5 p6,lO [some (cT<|cs c n),some<|iI m,some<|iI<|2+(j:Int),o3,o4,o5,o6]=some (.nx,[some (cT<|cs c n),some<|iI<|m+if !decide (sp c j=sp c (j+1)) then 1 else 0,some<|iI<|2+(j:Int),p3,p4,p5,p6]):=by
 have v1:vSl (cT<|cs c n) (some<|2+(j:Int) - 2) (some<|2+(j:Int)+1)=some (.im<|.tup [cM (c j),cM<|c<|j+1,cM<|c<|j+2]):=by
  show some (Vl.im<|.tup<|aS ((cs c n).map cM) _ _)=_;rw[z9,Cz c h];rfl
 refine⟨some<|.im<|cM<|c j,some<|.im<|cM<|c<|j+1,some<|.im<|cM<|c<|j+2,some<|.im<|cM (2 * (c<|j+1).1 - (c j).1,2 * (c<|j+1).2 - (c j).2),?_⟩;unfold lO;refine A_ (D1:=[some (cT<|cs c n),some<|iI m,some<|iI<|2+(j:Int),some<|.im<|cM<|c j,some<|.im<|cM<|c<|j+1,some<|.im<|cM<|c<|j+2,o6]) (J1 (Il rfl rfl rfl rfl v1) rfl) ?_;have m1:∀ x:Int,vMul (iI 2) (iI x)=some (iI<|2 * x):=fun x=>dk (fU (by decide) (by decide));refine A_ (D1:=[some (cT<|cs c n),some<|iI m,some<|iI<|2+(j:Int),some<|.im<|cM<|c j,some<|.im<|cM<|c<|j+1,some<|.im<|cM<|c<|j+2,some<|.im<|cM (2 * (c<|j+1).1 - (c j).1,2 * (c<|j+1).2 - (c j).2)]) (aM (IF (a_ (v_<|b_ (v_<|b_ rfl (v_<|b_ (d:=iI (c<|j+1).1) rfl rfl rfl rfl rfl) rfl rfl<|m1 _) (v_<|b_ (d:=iI (c j).1) rfl rfl rfl rfl rfl) rfl rfl rfl)<|a_ (v_<|b_ (v_<|b_ rfl (v_<|b_ (d:=iI (c<|j+1).2) rfl rfl rfl rfl rfl) rfl rfl<|m1 _) (v_<|b_ (d:=iI (c j).2) rfl rfl rfl rfl rfl) rfl rfl rfl) rfl) rfl (ZK rfl) rfl) (FA rfl) rfl) ?_;have ne:=oo (c<|j+2) (2 * (c<|j+1).1 - (c j).1,2 * (c<|j+1).2 - (c j).2);rw[CA] at ne;exact aM (b_ rfl (v_<|Fi (a_ (v_<|b_ rfl rfl rfl rfl ne) rfl) rfl rfl) rfl rfl rfl) (FA rfl) rfl
theorem CC(c:Nat->j_)(m:Nat):(J8 c (m+1):Int)=J8 c m+if !decide (sp c m=sp c (m+1)) then 1 else 0:=by
 unfold J8;rw[List.range_succ,List.filter_append,ZR,WA,List.filter_nil];split<;>simp
theorem CD{n i:Nat}(h:(bo 2 n)[i]?=some x):i<n/\x=.int (2+(i:Int)):=by
 unfold bo at h;rw[ZB] at h;by_cases hi:i<n
 ·rw[XN hi] at h;cases h;exact⟨hi,rfl⟩
 ·rw[YV (by rw[Zk];lia)] at h;cases h
theorem CF(c:Nat->j_)(m:Nat)(hm:m<=1000):gM [cT (cs c<|m+2)]=some (iI<|J8 c m,[cT (cs c<|m+2)]):=by
 obtain⟨D',l1,o2,o3,o4,o5,o6,rfl⟩:=gC (tg:=gN 2) (b:=lO) (xs:=bo 2 m) (fun i D=>∃ o2 o3 o4 o5 o6,D=[some (cT<|cs c<|m+2),some<|iI<|J8 c i,o2,o3,o4,o5,o6]) (D:=[some (cT<|cs c<|m+2),some<|iI 0,none,none,none,none,none])
  ⟨_,_,_,_,_,rfl⟩ (fun i x D hx hI=>by
   obtain⟨o2,o3,o4,o5,o6,rfl⟩:=hI;obtain⟨hi,rfl⟩:=CD hx;obtain⟨p3,p4,p5,p6,e⟩:=CB c (n:=m+2) (j:=i) (m:=J8 c i) (o3:=o3) (o4:=o4) (o5:=o5) (o6:=o6) (by lia);rw[<- CC] at e;exact⟨_,_,_,rfl,e,.inl rfl,_,p3,p4,p5,p6,rfl⟩)
 rw[show (bo 2 m).length=m by unfold bo;rw[Z3,Zk]] at l1;have r:iR2 (aa (oV<|eC<|.int 2)<|aa (oV<|aw vLen<|aa (oSl 0) aNil) aNil) [some (cT<|cs c<|m+2),some<|iI 0,none,none,none,none,none]=some ((bo 2 m,none),[some (cT<|cs c<|m+2),some<|iI 0,none,none,none,none,none]):=by
  have e:(((cs c<|m+2).map cM).length:Int)=(m:Int)+2:=by rw[Z3,Z3,Zk];lia
  show (if fN 2/\fN (((cs c<|m+2).map cM).length:Int) then some ((bo 2 ((((cs c<|m+2).map cM).length:Int) - 2).toNat,none),_) else none)=_;rw[e,ZY ⟨⟨by decide,by decide⟩,by lia,by lia⟩,show ((m:Int)+2 - 2).toNat=m by lia]
 unfold gM uP;exact bz (D:=[some (cT<|cs c<|m+2),some<|iI<|J8 c m,o2,o3,o4,o5,o6]) rfl (A_ rfl<|A_ (dA (o:=none) r l1 rfl) rfl) rfl
theorem CG(c:j_):gM [cT [c]]=some (iI 0,[cT [c]]):=rfl
theorem CH{h:MS}{P:SD->Prop}(e:∃ D1,g D=some (.nx,D1)/\P D1)(k:∀ D1,P D1->∃ D2,h D1=some (.nx,D2)/\R D2):∃ D2,ak g h D=some (.nx,D2)/\R D2:=
 have ⟨_,e1,p⟩:=e;have ⟨D2,e2,r⟩:=k _ p
 ⟨D2,A_ e1 e2,r⟩
theorem dq{h:MS}{D1:SD}(e:g D=some (.nx,D1))(k:∃ D2,h D1=some (.nx,D2)/\R D2):∃ D2,ak g h D=some (.nx,D2)/\R D2:=
 have ⟨D2,e2,r⟩:=k
 ⟨D2,A_ e e2,r⟩
abbrev zD(o0 o1 o2 o3 o4 o5 o6 o7 o8 o9 o10:Option Vl):SD:=[o0,o1,o2,o3,o4,o5,o6,o7,o8,o9,o10]
section
variable{f:Addr}{o0 o1 o2 o3 o4 o5 o6 o7 o8 o9 o10:Option Vl}
end
def HU:List j_->Bool
 | a::b::r=>aG a b && HU (b::r)
 | _=>true
theorem uZ{x y:j_}(h:aG x y=true):∀ {w:List j_},HU (w++[x])=true->HU (w++[x]++[y])=true
 | [],_=>by show (aG x y && true)=true;rw[h];rfl
 | [a],k=>by
  have k:(aG a x && true)=true:=k;show (aG a x && (aG x y && true))=true;rw[h];exact k
 | a::b::r,k=>by
  have k:(aG a b && HU (b::r++[x]))=true:=k;show (aG a b && HU (b::r++[x]++[y]))=true;rw[ZU] at k ⊢;exact⟨k.1,uZ h (w:=b::r) k.2⟩
structure MY(pt w:List j_):Prop where
 ne:w≠[]
 Iu:∀ x∈w,x∈pt
 ch:HU w=true
abbrev wD(h:Vl)(pt:List j_)(n:Int)(w:List j_)(o4 o5 o6 o7 o8:Option Vl):SD:=[some h,some<|cT pt,some<|iI n,some<|cL w,o4,o5,o6,o7,o8]
theorem u0(w:List j_)(x:j_):vIx (cL<|w++[x]) (iI<|-1)=some (.im<|cM x):=by
 show (FS ((w++[x]).map cM)<|-1).map Vl.im=_;rw[Y7,show [x].map cM=[cM x] from rfl,xM];rfl
theorem CI{x:j_}(hl:pt.length<=1000):a9 1 [3] (bu<|oSl 1) (gN 0) G.uL G.uK (wD h pt n (w++[x]) o4 o5 o6 o7 o8)=some (cL<|pt.filter fun c=>aG c x,wD h pt n (w++[x]) o4 o5 o6 o7 o8):=by
 refine Jy (xs:=pt.map cM) (o:=none) (D1:=wD h pt n (w++[x]) o4 o5 o6 o7 o8) rfl (gD cM (fun c=>aG c x) cM _ [] (fun c hx=>?_) (by rw[Xy];lia)) rfl;refine⟨[some (.im<|cM c),some<|cL<|w++[x]],[some (.im<|cM c),some<|cL<|w++[x]],rfl,?_,fun _=>rfl,fun _=>⟨[some (.im<|cM c),some<|cL<|w++[x]],rfl,rfl⟩⟩;exact GN (v_<|d_ (os:=[.sl 0,.vl<|.im<|cM x]) (a_ rfl<|a_ (v_<|b_ rfl (v_<|O8 rfl) rfl rfl<|u0 w x) rfl) rfl rfl (oj c x) rfl) rfl rfl
theorem CJ{M:Nat}(H:aT (M+2) h)(hl:pt.length<=200)(hw:w.length<=100)(W:MY pt w):
  ∃ D2,lN (wD h pt n w o4 o5 o6 o7 o8)=some (.nx,D2)/\∃ h' w' p5 p6 p7 p8,D2=wD h' pt n w' o4 p5 p6 p7 p8/\MY pt w'/\w'.length<=w.length+1/\aT M h':=by
 obtain⟨w,x,rfl⟩:∃ v x,w=v++[x]:=by
  rcases List.eq_nil_or_concat w with e | ⟨v,x,e⟩
  ·exact absurd e W.ne
  ·exact⟨v,x,by rw[e,List.concat_eq_append]⟩
 rw[ZR,Zp] at hw ⊢;obtain⟨q,rfl⟩:=aW H;have nr:=CI (h:=.lst q) (pt:=pt) (w:=w) (x:=x) (n:=n) (o4:=o4) (o5:=o5) (o6:=o6) (o7:=o7) (o8:=o8) (by lia);obtain⟨i,ei,i0,i1⟩:∃ i:Int,aw vMax2 (aa (oV<|eC<|.int 0)<|aa (oV<|ae vSub (oV<|aw vLen<|aa (oSl 3) aNil)<|oV<|eC<|.int 2) aNil) (wD (.lst q) pt n (w++[x]) o4 (some<|cL<|pt.filter fun c=>aG c x) o6 o7 o8)=some (iI i,wD (.lst q) pt n (w++[x]) o4 (some<|cL<|pt.filter fun c=>aG c x) o6 o7 o8)/\0<=i/\i.toNat<(w++[x]).length:=by
  refine⟨_,Fi (a_ rfl<|a_ (v_<|b_ (v_<|Fi (a_ rfl rfl) rfl rfl) rfl rfl rfl rfl) rfl) rfl rfl,?_,?_⟩
  ·split<;>lia
  ·rw[Z3,ZR,Zp];split<;>lia
 obtain⟨p,hp⟩:∃ p,(w++[x])[i.toNat]?=some p:=⟨(w++[x])[i.toNat],Z0 i1⟩;have vp:vIx (cL<|w++[x]) (iI i)=some (.im<|cM p):=by
  show (FS ((w++[x]).map cM) i).map Vl.im=_;rw[ik i0 (d:=cM p) (by rw[ZB,hp];rfl)];rfl
 have m1:∀ x:Int,vMul (iI 2) (iI x)=some (iI<|2 * x):=fun x=>dk (fU (by decide) (by decide));have lx:=u0 w x;unfold lN;refine dq (D1:=wD (.lst q) pt n (w++[x]) o4 (some<|cL<|pt.filter fun c=>aG c x) o6 o7 o8) (aM nr (FA rfl) rfl) ?_;refine dq (D1:=wD (.lst q) pt n (w++[x]) o4 (some<|cL<|pt.filter fun c=>aG c x) (some<|iI p.1) (some<|iI p.2) o8) (J1 (b_ rfl (v_ ei) rfl rfl vp) rfl) ?_;refine dq (D1:=wD (.lst q) pt n (w++[x]) o4 (some<|cL<|pt.filter fun c=>aG c x) (some<|iI p.1) (some<|iI p.2) (some<|.im<|cM (2 * x.1 - p.1,2 * x.2 - p.2))) (aM (IF (a_ (v_<|b_ (v_<|b_ rfl (v_<|b_ (d:=iI x.1) (v_<|b_ rfl (v_<|O8 rfl) rfl rfl lx) rfl rfl rfl rfl) rfl rfl<|m1 _) rfl rfl rfl rfl)<|a_ (v_<|b_ (v_<|b_ rfl (v_<|b_ (d:=iI x.2) (v_<|b_ rfl (v_<|O8 rfl) rfl rfl lx) rfl rfl rfl rfl) rfl rfl<|m1 _) rfl rfl rfl rfl) rfl) rfl (ZK rfl) rfl) (FA rfl) rfl) ?_;generalize (2 * x.1 - p.1,2 * x.2 - p.2)=ah;refine CH (P:=fun D=>∃ h1 ns,D=wD h1 pt n (w++[x]) o4 (some<|cL ns) (some<|iI p.1) (some<|iI p.2) (some<|.im<|cM ah)/\(∀ c∈ns,c∈pt.filter fun c=>aG c x)/\ns.length<=200/\aT (M+1) h1) ?_ ?_
 ·have lf:=X1 (fun c=>aG c x) pt;have k1:kB (ae vIn (oSl 8)<|oSl 5) (wD (.lst q) pt n (w++[x]) o4 (some<|cL<|pt.filter fun c=>aG c x) (some<|iI p.1) (some<|iI p.2)<|some<|.im<|cM ah)=some (decide (ah∈pt.filter fun c=>aG c x),wD (.lst q) pt n (w++[x]) o4 (some<|cL<|pt.filter fun c=>aG c x) (some<|iI p.1) (some<|iI p.2)<|some<|.im<|cM ah):=Fu (b_ rfl rfl rfl rfl<|uo _ ah);by_cases ha:ah∈pt.filter fun c=>aG c x
  ·rw[Zu ha] at k1;obtain⟨v,h1,e,v0,v1,H1⟩:=dS (n:=M+1) (m:=2) H (by decide) (by decide);obtain⟨q1,rfl⟩:=aW H1;have k2:kB (ae vEq (oV<|av 2 G.br<|aa (oSl 0)<|aa (oV<|eC<|.int 2) aNil)<|oV<|eC<|.int 0) (wD (.lst q) pt n (w++[x]) o4 (some<|cL<|pt.filter fun c=>aG c x) (some<|iI p.1) (some<|iI p.2)<|some<|.im<|cM ah)=some (decide (v=0),wD (.lst q1) pt n (w++[x]) o4 (some<|cL<|pt.filter fun c=>aG c x) (some<|iI p.1) (some<|iI p.2)<|some<|.im<|cM ah):=Fu (b_ (v_<|d_ (os:=[.sl 0,.vl<|iI 2]) rfl rfl rfl e rfl) rfl rfl rfl<|dR v 0);by_cases hv:v=0
   ·rw[Zu hv] at k2;refine⟨_,cH (dB k1 k2)<|aM (IG (a_ rfl rfl) rfl (ZK rfl) rfl) (FA rfl) rfl,.lst q1,[ah],rfl,fun c hc=>by rw[ZZ.mp hc];exact ha,(show 1<=200 by decide),H1⟩
   ·rw[Zs hv] at k2;exact⟨_,bI (dB k1 k2) rfl,.lst q1,_,rfl,fun c hc=>hc,by lia,H1⟩
  ·rw[Zs ha] at k1;exact⟨_,bI (gH k1) rfl,.lst q,_,rfl,fun c hc=>hc,by lia,H.mono (by lia)⟩
 ·rintro _ ⟨h1,ns,rfl,hn,ln,H1⟩;have k1:kB (ae vNe (oSl 5)<|oV<|aZ aNil) (wD h1 pt n (w++[x]) o4 (some<|cL ns) (some<|iI p.1) (some<|iI p.2)<|some<|.im<|cM ah)=some (!decide (ns=[]),wD h1 pt n (w++[x]) o4 (some<|cL ns) (some<|iI p.1) (some<|iI p.2)<|some<|.im<|cM ah):=Fu (b_ rfl rfl rfl rfl<|uq ns);by_cases hz:ns=[]
  ·rw[Zu hz] at k1;exact⟨_,bI k1 rfl,h1,_,_,_,_,_,rfl,W,by rw[ZR,Zp];lia,H1.mono (by lia)⟩
  ·rw[Zs hz] at k1;obtain⟨y,h2,e,iy,H2⟩:=iD (n:=M) (xs:=ns.map cM) H1 (fun z=>hz<|X7.mp z) (by rw[Z3];lia);obtain⟨c,hc,rfl⟩:=Zl.mp iy;obtain⟨q1,rfl⟩:=aW H1;obtain⟨q2,rfl⟩:=aW H2;have hm:=Yw.mp (hn c hc);refine⟨_,cH k1<|NV (d:=.im .l_)<|MJ (r:=.im .l_) (c:=cL (w++[x])) (c':=cL (w++[x]++[c])) (D2:=wD (.lst q2) pt n (w++[x]) o4 (some<|cL ns) (some<|iI p.1) (some<|iI p.2) (some<|.im<|cM ah)) rfl rfl (a_ (v_<|d_ (os:=[.sl 0,.sl 5]) rfl rfl rfl e rfl) rfl) rfl rfl ?_ rfl,.lst q2,w++[x]++[c],_,_,_,_,rfl,⟨by simp,fun y hy=>?_,uZ (by rw[oq];exact hm.2) W.ch⟩,by rw[ZR,ZR];exact ZV _,H2⟩
   ·refine (NW (by rw[Z3,ZR];show _+1 < _;lia)).trans ?_;rw[show [cM c]=[c].map cM from rfl,<- Y7]
   ·rcases ZA.mp hy with z | z
    ·exact W.Iu y z
    ·rw[ZZ.mp z];exact hm.1
theorem CK{M:Nat}(H:aT (M+121) h)(hp:pt≠[])(hl:pt.length<=200)(n0:0<=n)(n1:n<60):∃ w h',jK [h,cT pt,iI n]=some (cT w,[h',cT pt,iI n])/\MY pt w/\w.length<=60/\aT M h':=by
 obtain⟨y,h1,e1,i1,H1⟩:=ot (n:=M+120) (xs:=pt.map cM) H (fun z=>hp<|X7.mp z) (by rw[Z3];lia);obtain⟨s,hs,rfl⟩:=Zl.mp i1;obtain⟨q,rfl⟩:=aW H;obtain⟨q1,rfl⟩:=aW H1;obtain⟨D',l1,h2,w,o4,o5,o6,o7,o8,rfl,W,lw,H2⟩:=gC (tg:=gN 4) (b:=lN) (xs:=bo 0 n.toNat) (fun i D=>∃ h w o4 o5 o6 o7 o8,D=wD h pt n w o4 o5 o6 o7 o8/\MY pt w/\w.length<=i+1/\aT (M+120 - 2 * i) h) (D:=wD (.lst q1) pt n [s] none none none none none)
  ⟨_,_,_,_,_,_,_,rfl,⟨by simp,fun x hx=>by rw[ZZ.mp hx];exact hs,rfl⟩,ZV _,H1⟩ (fun i x D hx hI=>by
   obtain⟨h,w,o4,o5,o6,o7,o8,rfl,W,lw,H⟩:=hI;obtain⟨hi,rfl⟩:=iK hx;obtain⟨D2,e,h',w',p5,p6,p7,p8,rfl,W',TF,H'⟩:=CJ (M:=M+120 - 2 * (i+1)) (n:=n) (o4:=some (iI<|0+(i:Int))) (o5:=o5) (o6:=o6) (o7:=o7) (o8:=o8) (H.mono (by lia)) hl (by lia) W;exact⟨_,_,_,rfl,e,.inl rfl,h',w',_,p5,p6,p7,p8,rfl,W',by lia,H'⟩)
 rw[show (bo 0 n.toNat).length=n.toNat by unfold bo;rw[Z3,Zk]] at lw H2;refine⟨w,h2,?_,W,by lia,H2.mono (by lia)⟩;unfold jK uM;exact bz (D:=wD h2 pt n w o4 o5 o6 o7 o8) rfl (A_ (D1:=wD (.lst q1) pt n [s] none none none none none) (aM (IG (a_ (v_<|d_ (os:=[.sl 0,.sl 1]) rfl rfl rfl e1 rfl) rfl) rfl (ZK rfl) rfl) (FA rfl) rfl) (A_ (dA (o:=none) (Le (a_ rfl rfl) rfl ⟨by lia,by lia⟩) l1 rfl)<|bM<|Fi (a_ rfl rfl) rfl rfl)) rfl
def Gz(pt:List j_):Im->Bool
 | .tup [.int a,.int b]=>decide ((a,b)∈pt)
 | _=>false
def LP:Im->j_
 | .tup [.int a,.int b]=>(a,b)
 | _=>(0,0)
def Kv(pt:List j_):Im->Bool
 | .tup ds=>!ds.isEmpty && (ds.all (Gz pt) && HU (ds.map LP))
 | _=>false
def G8(x:Im):Prop:=JA x/\∀ es,x=.tup es->Im.pl 8 x=true
def Kw(d:Im):Prop:=Gk d/\∀ ds,d=.tup ds->ds.length<=290/\∀ x∈ds,G8 x
theorem oE(h:Gz pt x=true):∃ c,x=cM c/\c∈pt:=by
 unfold Gz at h;split at h
 ·exact⟨_,rfl,Y8 h⟩
 ·cases h
theorem oF{pt:List j_}:∀ {ds:List Im},ds.all (Gz pt)=true->∃ ws:List j_,ds=ws.map cM/\∀ c∈ws,c∈pt
 | [],_=>⟨[],rfl,fun _ h=>by cases h⟩
 | x::ds,h=>by
  rw[Wx,ZU] at h;obtain⟨c,rfl,hc⟩:=oE h.1;obtain⟨ws,rfl,hw⟩:=oF h.2;exact⟨c::ws,rfl,fun y hy=>by
   rcases ZG.mp hy with rfl | hy
   ·exact hc
   ·exact hw y hy⟩
theorem oG(ws:List j_):(ws.map cM).map LP=ws:=by
 rw[YK];exact List.map_id'' (fun _=>rfl) ws
theorem CL(h:JA x):jJ f [some (.im x),some<|.dT<|mt pt]=some (.im<|.bl<|Gz pt x,[some (.im x),some<|.dT<|mt pt]):=by
 have kp:kB (av 1 G.fe<|aa (oSl 0) aNil) [some (.im x),some<|.dT<|mt pt]=some (J5 x,[some (.im x),some<|.dT<|mt pt]):=Fu (d_ (a_ rfl rfl) rfl rfl (uh h) rfl);unfold jJ;cases hz:J5 x with
 | false=>
  rw[hz] at kp;have:Gz pt x=false:=by
   cases hb:Gz pt x with
   | false=>rfl
   | true=>obtain⟨c,rfl,_⟩:=oE hb;cases hz
  rw[this];exact Jz (gH kp)
 | true=>
  rw[hz] at kp;obtain⟨c,rfl⟩:=Ce hz;exact Jz (dB kp<|Fu<|b_ rfl rfl rfl rfl<|n5 pt c)
theorem u4:∀ ws:List j_,((ws.zip<|ws.drop 1).all fun p=>aG p.1 p.2)=HU ws
 | []=>rfl
 | [a]=>rfl
 | a::b::r=>by
  show (aG a b && ((b::r).zip<|(b::r).drop 1).all fun p=>aG p.1 p.2)=_;rw[u4 (b::r)];rfl
theorem oH(F:JB pt)(ef:ee f [cT pt]=some (bV true,[cT pt]))(hd:Kw d):fj f [cT pt,.im d]=some (bV<|Kv pt d,[cT pt,.im d]):=by
 have k1:∀ o,bd (oV<|av 1 (G.ee f)<|aa (oSl 0) aNil) [some (cT pt),some<|.im d,o]=some (true,[some (cT pt),some<|.im d,o]):=fun o=>GN (v_<|d_ (os:=[.sl 0]) rfl rfl rfl ef rfl) rfl rfl;have fl:=F.len;have lk:=ue (cs:=pt) (gK F.up) (by lia);have no:∀ {d:Im},eV "tuple" (.im d)=some false->Kv pt d=false->(∀ o,bd (oV<|av 1 (G.ee f)<|aa (oSl 0) aNil) [some (cT pt),some<|.im d,o]=some (true,[some (cT pt),some<|.im d,o]))->fj f [cT pt,.im d]=some (bV<|Kv pt d,[cT pt,.im d]):=fun {d} hi hw k1=>by
  rw[hw];have k2:bd (oV<|ci "tuple"<|oSl 1) [some (cT pt),some<|.im d,none]=some (false,[some (cT pt),some<|.im d,none]):=by
   refine GN (v_ (d:=bV false) ?_) rfl rfl;show (eV "tuple"<|.im d).map _=_;rw[hi];rfl
  unfold fj oA;exact bz (D:=[some (cT pt),some<|.im d,none]) rfl (fV<|cH (ck (Ik<|k1 none)<|lr<|Sy k2) rfl) rfl
 cases d with
 | fn a=>exact absurd rfl (hd.1 a)
 | tup ds=>
  obtain⟨hl,hx⟩:=hd.2 ds rfl;have k2:∀ o,bd (oV<|ci "tuple"<|oSl 1) [some (cT pt),some<|.im<|.tup ds,o]=some (true,[some (cT pt),some<|.im<|.tup ds,o]):=fun o=>GN rfl rfl rfl;unfold fj oA;cases ds with
  | nil=>exact bz (D:=[some (cT pt),some<|.im<|.tup [],none]) rfl (fV<|cH (ck (Ik<|k1 none)<|ck (Ik<|k2 none) rfl) rfl) rfl
  | cons x0 r0=>
   have k3:kB (ae vEq (oV<|aw vLen<|aa (oSl 1) aNil)<|oV<|eC<|.int 0) [some (cT pt),some<|.im<|.tup (x0::r0),none]=some (false,[some (cT pt),some<|.im<|.tup (x0::r0),none]):=Fu (b_ (v_<|Fi (a_ rfl rfl) rfl rfl) rfl rfl rfl ((dR _ _).trans (congrArg (fun b=>some<|bV b) (Zs (by rw[ZJ];lia)))));show _=some (bV<|((x0::r0).all<|Gz pt) && HU ((x0::r0).map LP),_);generalize x0::r0=ds at *;have c1:a9 1 [2] (bu<|oSl 1) (gN 0) kYes (G.jJ f) [some (cT pt),some<|.im<|.tup ds,some<|.dT<|mt pt]=some (.lst<|ds.map fun x=>.bl<|Gz pt x,[some (cT pt),some<|.im<|.tup ds,some<|.dT<|mt pt]):=by
    refine Jy (xs:=ds.map id) (o:=none) (D1:=[some (cT pt),some<|.im<|.tup ds,some<|.dT<|mt pt]) (by rw[Vn];rfl) (fW id (fun x=>.bl<|Gz pt x) _ (fun x HG=>?_) (by lia)) rfl;exact⟨[some (.im x),some<|.dT<|mt pt],_,[some (.im x),some<|.dT<|mt pt],rfl,rfl,CL (hx x HG).1,rfl⟩
   have c2:ca (bd<|oV<|aw vAll<|aa (oV<|a9 1 [2] (bu<|oSl 1) (gN 0) kYes<|G.jJ f) aNil) [some (cT pt),some<|.im<|.tup ds,some<|.dT<|mt pt]=some (!(ds.all<|Gz pt),[some (cT pt),some<|.im<|.tup ds,some<|.dT<|mt pt]):=NU (GN (v_<|Fi (a_ (v_ c1) rfl) rfl<|jH (Gz pt) ds) rfl rfl);refine bz (D:=[some (cT pt),some<|.im<|.tup ds,some<|.dT<|mt pt]) rfl (A_ (D1:=[some (cT pt),some<|.im<|.tup ds,none]) (bI (ck (Ik<|k1 none)<|ck (Ik<|k2 none) k3) rfl)<|A_ (D1:=[some (cT pt),some<|.im<|.tup ds,some<|.dT<|mt pt]) (aM (d_ (os:=[.sl 0]) rfl rfl rfl lk rfl) (FA rfl) rfl) ?_) rfl;cases ha:ds.all (Gz pt) with
   | false=>
    rw[ha] at c2;exact fV (cH c2 rfl)
   | true=>
    rw[ha] at c2;refine A_ (bI c2 rfl) ?_;obtain⟨ws,rfl,hw⟩:=oF ha;rw[oG];have c3:a9 2 [] (iZ<|aa (oSl 1)<|aa (oV<|eSl (oSl 1) (bY<|eC<|.int 1) pNone) aNil) (gT 2<|bh (gN 0)<|bh (gN 1) gNil') kYes (G.uJ f) [some (cT pt),some<|.im<|.tup<|ws.map cM,some<|.dT<|mt pt]=some (.lst<|(ws.zip<|ws.drop 1).map fun p=>.bl<|aG p.1 p.2,[some (cT pt),some<|.im<|.tup<|ws.map cM,some<|.dT<|mt pt]):=by
     have zz:bp (ws.map cM) ((ws.map cM).drop 1)=(ws.zip<|ws.drop 1).map fun p=>.tup [cM p.1,cM p.2]:=by
      rw[n9,<- YE,List.zip_map,YK];rfl
     refine Jy (xs:=(ws.zip<|ws.drop 1).map fun p=>.tup [cM p.1,cM p.2]) (o:=none) (D1:=[some (cT pt),some<|.im<|.tup<|ws.map cM,some<|.dT<|mt pt]) ?_ (fW (fun p:j_×j_=>.tup [cM p.1,cM p.2]) (fun p=>.bl<|aG p.1 p.2) _ (fun p hp=>?_) ?_) rfl
     ·rw[<- zz];exact Qx (a_ rfl (a_ (v_ (Il (d':=.im (.tup<|(ws.map cM).drop 1)) rfl rfl rfl rfl (by show some (Vl.im<|.tup<|aS (ws.map cM) (some ((1:Nat):Int)) none)=_;rw[kW]))) rfl)) rfl
     ·have e:decide (p.2∈HB p.1)=aG p.1 p.2:=by
       rw[W7,YW];exact om.symm
      have v:=uo (HB p.1) p.2;rw[e] at v;exact⟨[some (.im<|cM p.1),some<|.im<|cM p.2],_,[some (.im<|cM p.1),some<|.im<|cM p.2],rfl,rfl,b_ rfl (v_<|d_ (os:=[.sl 0]) rfl rfl rfl (uf p.1) rfl) rfl rfl v,rfl⟩
     ·rw[Vq,Zm];rw[Z3] at hl;lia
    have va:=jH (fun p:j_×j_=>aG p.1 p.2) (ws.zip<|ws.drop 1);rw[u4] at va;exact bM (Fi (a_ (v_ c3) rfl) rfl va)
 | _=>exact no rfl rfl k1
theorem CM(h:aA (cM c) (.tup es)=true):∃ a b,es=[a,b]/\aA (.int c.1) a=true/\aA (.int c.2) b=true:=by
 have h:bC [.int c.1,.int c.2] es=true:=h
 match es,h with
 | [a],h=>
  have h:(aA (.int c.1) a && false)=true:=h;rw[V6] at h;cases h
 | a::b::_::_,h=>
  have h:(aA (.int c.1) a && (aA (.int c.2) b && false))=true:=h;rw[V6,V6] at h;cases h
 | [a,b],h=>
  have h:(aA (.int c.1) a && (aA (.int c.2) b && true))=true:=h;rw[ZU,Wv] at h;exact⟨a,b,rfl,h.1,h.2⟩
theorem CN{o1:Option Vl}(h:G8 x):iN [some (cT pt),o1,some<|.im x]=some (if Gz pt x then (Fl.nx,[some (cT pt),o1,some<|.im x]) else (.rt<|bV false,[some (cT pt),o1,some<|.im x])):=by
 cases x with
 | fn a=>exact absurd rfl (h.1.1 a)
 | tup es=>
  have hp:=h.2 es rfl;have k1:bd (oV<|ci "tuple"<|oSl 2) [some (cT pt),o1,some<|.im<|.tup es]=some (true,[some (cT pt),o1,some<|.im<|.tup es]):=GN rfl rfl rfl;have k2:kB (ae vNotIn (oSl 2)<|oSl 0) [some (cT pt),o1,some<|.im<|.tup es]=some (!((pt.map cM).any fun y=>aA y<|.tup es),[some (cT pt),o1,some<|.im<|.tup es]):=by
   refine Fu (b_ rfl rfl rfl rfl ?_);show (inB (.tup es)<|cT pt).map (fun r=>Vl.im<|.bl<|!r)=_;rw[Av,hp,js];rfl
  unfold iN;cases hr:(pt.map cM).any fun y=>aA y (.tup es) with
  | false=>
   rw[hr] at k2;have:Gz pt (.tup es)=false:=by
    cases hb:Gz pt (.tup es) with
    | false=>rfl
    | true=>
     obtain⟨c,e,hc⟩:=oE hb;have:((pt.map cM).any fun y=>aA y<|.tup es)=true:=by
      rw[e,XD];exact⟨cM c,Zl.mpr ⟨c,hc,rfl⟩,by rw[lm];exact Zu rfl⟩
     rw[this] at hr;cases hr
   rw[this];exact fV (cH (ck (Ik k1) k2) rfl)
  | true=>
   rw[hr] at k2;obtain⟨y,hy,e⟩:=XD.mp hr;obtain⟨c,hc,rfl⟩:=Zl.mp hy;obtain⟨a,b,rfl,ea,eb⟩:=CM e;refine (A_ (bI (ck (Ik k1) k2) rfl) ?_);have ka:∀ {t:Bool},eV "bool" (.im a)=some t->bd (oV<|ci "bool"<|oV<|ae vIx (oSl 2)<|oV<|eC<|.int 0) [some (cT pt),o1,some<|.im<|.tup [a,b]]=some (t,[some (cT pt),o1,some<|.im<|.tup [a,b]]):=fun {t} hi=>by
    refine GN (v_ (d:=bV t) ?_) rfl rfl;show (eV "bool"<|.im a).map _=_;rw[hi];rfl
   have kb:∀ {t:Bool},eV "bool" (.im b)=some t->bd (oV<|ci "bool"<|oV<|ae vIx (oSl 2)<|oV<|eC<|.int 1) [some (cT pt),o1,some<|.im<|.tup [a,b]]=some (t,[some (cT pt),o1,some<|.im<|.tup [a,b]]):=fun {t} hi=>by
    refine GN (v_ (d:=bV t) ?_) rfl rfl;show (eV "bool"<|.im b).map _=_;rw[hi];rfl
   cases a with
   | bl u=>exact cH (lr<|ka (t:=true) rfl) rfl
   | int i=>
    cases b with
    | bl u=>exact cH (ck (ka (t:=false) rfl)<|kb (t:=true) rfl) rfl
    | int j=>
     have h1:c.1=i:=by simpa [aA] using ea
     have h2:c.2=j:=by simpa [aA] using eb
     have:Gz pt (.tup [.int i,.int j])=true:=Zu (by rw[<- h1,<- h2];exact hc);rw[this];exact bI (ck (ka (t:=false) rfl)<|kb (t:=false) rfl) rfl
    | _=>cases eb
   | _=>cases ea
 | _=>rfl
theorem u5{pt:List j_}{o1:Option Vl}:∀ (ds:List Im) (o:Option Vl),(∀ x∈ds,G8 x)->∃ o',bx (gN 2) iN ds [some (cT pt),o1,o]=some (if ds.all (Gz pt) then (Fl.nx,[some (cT pt),o1,o']) else (.rt<|bV false,[some (cT pt),o1,o']))
 | [],o,_=>⟨o,rfl⟩
 | x::ds,o,h=>by
  have e:=CN (pt:=pt) (o1:=o1) (h x<|.head _);obtain⟨o',ih⟩:=u5 ds (some<|.im x) fun y hy=>h y (.tail _ hy);cases hb:Gz pt x with
  | true=>
   rw[hb] at e;refine⟨o',?_⟩;rw[bx,Wx,hb];show (iN [some (cT pt),o1,some<|.im x]).bind _=_;rw[e];exact ih
  | false=>
   rw[hb] at e;refine⟨some<|.im x,?_⟩;rw[bx,Wx,hb];show (iN [some (cT pt),o1,some<|.im x]).bind _=_;rw[e];rfl
theorem u6:∀ ws:List j_,((range<|ws.length - 1).all fun k=>aG (ws.getD k (0,0))<|ws.getD (k+1) (0,0))=HU ws
 | []=>rfl
 | [a]=>rfl
 | a::b::r=>by
  show ((range<|r.length+1).all fun k=>aG ((a::b::r).getD k (0,0))<|(a::b::r).getD (k+1) (0,0))=(aG a b && HU (b::r));rw[W0,Wx,Vh,<- u6 (b::r)];rfl
theorem CO(hd:Kw d):jL [cT pt,.im d]=some (bV<|Kv pt d,[cT pt,.im d]):=by
 cases d with
 | fn a=>exact absurd rfl (hd.1 a)
 | tup ds=>
  obtain⟨hl,hx⟩:=hd.2 ds rfl;have k1:bd (oV<|ci "tuple"<|oSl 1) [some (cT pt),some<|.im<|.tup ds,none]=some (true,[some (cT pt),some<|.im<|.tup ds,none]):=GN rfl rfl rfl;have k2:kB (ae vEqN (oSl 1)<|oV<|aE aNil) [some (cT pt),some<|.im<|.tup ds,none]=some (ds.isEmpty,[some (cT pt),some<|.im<|.tup ds,none]):=Fu (b_ rfl rfl rfl rfl rfl);obtain⟨o,lp⟩:=u5 (pt:=pt) (o1:=some (.im<|.tup ds)) ds none hx;unfold jL uO;show _=some (bV<|!ds.isEmpty && (ds.all (Gz pt) && HU (ds.map LP)),_);cases hz:ds.isEmpty with
  | true=>
   rw[hz] at k2;exact bz (D:=[some (cT pt),some<|.im<|.tup ds,none]) rfl (fV<|cH (ck (Ik k1) k2) rfl) rfl
  | false=>
   rw[hz] at k2;show _=some (bV<|ds.all (Gz pt) && HU (ds.map LP),_);refine bz (D:=[some (cT pt),some<|.im<|.tup ds,o]) rfl (A_ (bI (ck (Ik k1) k2) rfl) ?_) rfl;cases ha:ds.all (Gz pt) with
   | false=>
    rw[ha] at lp;exact fV (dA (o:=none) rfl lp rfl)
   | true=>
    rw[ha] at lp;refine A_ (dA (o:=none) rfl lp rfl) ?_;obtain⟨ws,rfl,hw⟩:=oF ha;rw[oG];rw[Z3] at hl;have c3:a9 1 [1] (iR1<|aa (oV<|ae vSub (oV<|aw vLen<|aa (oSl 1) aNil)<|oV<|eC<|.int 1) aNil) (gN 0) kYes G.uN [some (cT pt),some<|cT ws,o]=some (.lst<|(range<|ws.length - 1).map fun k=>.bl<|aG (ws.getD k (0,0))<|ws.getD (k+1) (0,0),[some (cT pt),some<|cT ws,o]):=by
     refine Jy (xs:=(range<|ws.length - 1).map fun (k:Nat)=>.int<|0+(k:Int)) (o:=none) (D1:=[some (cT pt),some<|cT ws,o]) ?_ (fW (fun (k:Nat)=>.int<|0+(k:Int)) (fun k=>.bl<|aG (ws.getD k (0,0))<|ws.getD (k+1) (0,0)) _ (fun k hk=>?_) (by rw[Zk];lia)) rfl
     ·have g:=Le (D:=[some (cT pt),some<|cT ws,o]) (g:=aa (oV<|ae vSub (oV<|aw vLen<|aa (oSl 1) aNil)<|oV<|eC<|.int 1) aNil) (j:=((ws.map cM).length:Int) - 1) (a_ (v_<|b_ (v_<|Fi (a_ rfl rfl) rfl rfl) rfl rfl rfl rfl) rfl) rfl (by rw[Z3];exact⟨by lia,by lia⟩);rw[g,Z3,show ((ws.length:Int) - 1).toNat=ws.length - 1 by lia];rfl
     ·have hk:=Zi.mp hk;have ix:∀ j:Nat,j<ws.length->∀ i:Int,i=(j:Int)->vIx (cT ws) (iI i)=some (.im<|cM<|ws.getD j (0,0)):=fun j hj i hi=>by
       show (FS (ws.map cM) i).map Vl.im=_;rw[hi,xL (v:=cM (ws.getD j (0,0))) (by rw[ZB,Z0 hj,Z5,Z0 hj];rfl)];rfl
      refine⟨[some (iI<|0+(k:Int)),some<|cT ws],_,[some (iI<|0+(k:Int)),some<|cT ws],rfl,rfl,?_,rfl⟩;exact d_ (os:=[.vl (.im<|cM<|ws.getD k (0,0)),.vl<|.im<|cM<|ws.getD (k+1) (0,0)]) (a_ (v_ (b_ rfl rfl rfl rfl (ix k (by lia) _ (by lia)))) (a_ (v_ (b_ rfl (v_<|b_ rfl rfl rfl rfl rfl) rfl rfl (ix (k+1) (by lia) _ (by lia)))) rfl)) rfl rfl (oj _ _) rfl
    have va:=jH (fun k:Nat=>aG (ws.getD k (0,0))<|ws.getD (k+1) (0,0)) (range<|ws.length - 1);rw[u6] at va;exact bM (Fi (a_ (v_ c3) rfl) rfl va)
 | _=>rfl
theorem QY(c:j_):G8 (cM c):=⟨uA c,fun _ _=>jr c⟩
theorem u7(h:x∈w.map cM):G8 x:=by
 obtain⟨c,_,rfl⟩:=Zl.mp h;exact QY c
theorem MZ(h:∀ ds,d≠.tup ds)(h0:Gk d):G8 d:=⟨Co h h0,fun es e=>absurd e<|h es⟩
theorem LQ(h:∀ x∈es,Gk x)(hp:Im.pl 8 (.tup es)=true):G8 (.tup es):=⟨Cm h,fun _ _=>hp⟩
theorem II{ds:List Im}(h:∀ x∈ds,G8 x)(hl:ds.length<=290):Kw (.tup ds):=⟨Cq ds,fun es e=>by cases e;exact⟨hl,h⟩⟩
theorem Kx(h:∀ ds,d≠.tup ds)(h0:Gk d):Kw d:=⟨h0,fun ds e=>absurd e<|h ds⟩
def dD(s p:j_):List Im:=[cM s,.tup [.int p.1,.int<|p.2+1],.fl [.int p.1,.int p.2],.tup [.int p.1,.int p.2,.int 0],.l_,.tup [.bl true,.int p.2],.tup [.int p.1],.int 3]
theorem CP(s p:j_):∀ x∈dD s p,G8 x:=by
 have n3:∀ {a b c:Im},Gk a->Gk b->Gk c->∀ x∈[a,b,c],Gk x:=fun a b c=>all_cons a (all_cons b<|all_cons c dC);have n2:∀ {a b:Im},Gk a->Gk b->∀ x∈[a,b],Gk x:=fun a b=>all_cons a (all_cons b dC);exact all_cons (QY s) (all_cons (LQ (n2 (dm _)<|dm _) rfl) (all_cons (MZ (fun _ e=>by cases e) fun a e=>by cases e) (all_cons (LQ (n3 (dm _) (dm _)<|dm _) rfl) (all_cons (MZ (fun _ e=>by cases e) uE) (all_cons (LQ (n2 (uB _)<|dm _) rfl) (all_cons (LQ (all_cons (dm _) dC) rfl) (all_cons (MZ (fun _ e=>by cases e)<|dm _) dC)))))))
def fk(W:List Im)(k:Int)(o:Im):List Im:=[.tup (aS W none (some k)++[o]++aS W (some<|k+1) none),.tup<|aS W none (some k)++[o]++aS W (some k) none,.tup<|aS W none (some k)++aS W (some<|k+1) none,.fl W,.tup W.reverse,.tup<|W++W,.tup [.tup W],.tup<|aS W (some k) none,.tup<|aS W none<|some k]
theorem CQ{W:List Im}{o:Im}(hW:∀ x∈W,G8 x)(hn:G8 (.tup W))(ho:G8 o)(lW:W.length<=60):∀ x∈fk W k o,Kw x:=by
 have tk:∀ lo hi,∀ x∈aS W lo hi,G8 x:=fun lo hi x hx=>hW x ((ou _ _ _).subset hx);have lk:∀ lo hi,(aS W lo hi).length<=60:=fun lo hi=>Zn (ou W lo hi).length_le lW;have ap:∀ {a b:List Im},(∀ x∈a,G8 x)->(∀ x∈b,G8 x)->∀ x∈a++b,G8 x:=fun ha hb x hx=>(ZA.mp hx).elim (ha x) (hb x);have l3:∀ a b c d,(aS W a b++[o]++aS W c d).length<=290:=fun a b c d=>by
  have:=lk a b;have:=lk c d;rw[ZR,ZR,Zp];lia
 have o1:∀ x∈[o],G8 x:=all_cons ho dC;refine all_cons (II (ap (ap (tk _ _) o1)<|tk _ _)<|l3 _ _ _ _) (all_cons (II (ap (ap (tk _ _) o1)<|tk _ _)<|l3 _ _ _ _) (all_cons (II (ap (tk _ _)<|tk _ _) ?_) (all_cons (Kx (fun _ e=>by cases e) fun a e=>by cases e) (all_cons (II (fun x hx=>hW x<|List.mem_reverse.mp hx) (by rw[List.length_reverse];lia)) (all_cons (II (ap hW hW) (by rw[ZR];lia)) (all_cons (II (all_cons hn dC) (show 1<=290 by decide)) (all_cons (II (tk _ _) (by have:=lk (some k) none;lia)) (all_cons (II (tk _ _) (by have:=lk none (some k);lia)) dC))))))));have:=lk none (some k);have:=lk (some<|k+1) none;rw[ZR];lia
abbrev sD(h:Vl)(S W:List Im)(o3 o4 o5 o6 o7 o8:Option Vl):SD:=[some h,some<|.im<|.tup S,some<|.im<|.tup W,o3,o4,o5,o6,o7,o8]
theorem CS{M:Nat}(H:aT (M+4) h)(hp:pt≠[])(hl:pt.length<=200)(hw:w≠[])(lw:w.length<=60):∃ d h',jM [h,cT pt,cT w]=some (.im d,[h',cT pt,cT w])/\Kw d/\aT M h':=by
 have w0:0<w.length:=Xd.mpr hw;obtain⟨k,h1,e1,k0,k1,H1⟩:=dS (n:=M+3) (m:=((w.map cM).length:Int)) H (by rw[Z3];lia) (by rw[Z3];lia);have k2:k.toNat<w.length:=by rw[Z3] at k1;lia
 obtain⟨p,hk⟩:∃ p,w[k.toNat]?=some p:=⟨w[k.toNat],Z0 k2⟩;have vp:vIx (.im<|.tup<|w.map cM) (iI k)=some (.im<|cM p):=by
  show (FS (w.map cM) k).map Vl.im=_;rw[ik k0 (d:=cM p) (by rw[ZB,hk];rfl)];rfl
 obtain⟨y,h2,e2,i2,H2⟩:=ot (n:=M+2) (xs:=pt.map cM) H1 (fun z=>hp<|X7.mp z) (by rw[Z3];lia);obtain⟨s,_,rfl⟩:=Zl.mp i2;obtain⟨o,h3,e3,i3,H3⟩:=iD (n:=M+1) (xs:=dD s p) H2 (by simp[dD]) (by show 8 < _;decide);have ho:=CP s p o i3;have hW:∀ x∈w.map cM,G8 x:=fun x hx=>u7 hx;have hn:G8 (.tup<|w.map cM):=LQ (fun x hx=>(hW x hx).1.1) (uF w);have lW:(w.map cM).length<=60:=by rw[Z3];exact lw
 obtain⟨d,h4,e4,i4,H4⟩:=iD (n:=M) (xs:=fk (w.map cM) k o) H3 (by simp[fk]) (by show 9 < _;decide);refine⟨d,h4,?_,CQ hW hn ho lW d i4,H4⟩;obtain⟨q,rfl⟩:=aW H;obtain⟨q1,rfl⟩:=aW H1;obtain⟨q2,rfl⟩:=aW H2;obtain⟨q3,rfl⟩:=aW H3;obtain⟨q4,rfl⟩:=aW H4;unfold jM uQ;clear i3 i4 ho hn hk hW i2;unfold cT at *;generalize w.map cM=W at *;generalize pt.map cM=S at *;have lk:∀ lo hi,(aS W lo hi).length<=60:=fun lo hi=>Zn (ou W lo hi).length_le lW;have sl:∀ lo hi,vSl (.im<|.tup W) lo hi=some (.im<|.tup<|aS W lo hi):=fun lo hi=>rfl;have ad:∀ {a b:List Im},a.length<=290->b.length<=290->vAdd (.im<|.tup a) (.im<|.tup b)=some (.im<|.tup<|a++b):=fun ha hb=>uz (by lia);have l1:∀ lo hi,(aS W lo hi++[o]).length<=290:=fun lo hi=>by
  have:=lk lo hi;rw[ZR,Zp];lia
 have LR:∀ lo hi,(aS W lo hi).length<=290:=fun lo hi=>Zn (lk lo hi) (by decide);have QZ:W.length<=290:=Zn lW (by decide);have l0:[o].length<=290:=by rw[Zp];decide
 refine bz (D:=sD (.lst q4) S W (some<|iI k) (some<|iI p.1) (some<|iI p.2) (some<|.lst<|dD s p) (some<|.im o) (some<|.lst<|fk W k o)) rfl ?_ rfl;show ak _ _ (sD (.lst q) S W none none none none none none)=_;refine A_ (D1:=sD (.lst q1) S W (some<|iI k) none none none none none) (aM (d_ (os:=[.sl 0,.vl<|iI (W.length:Int)]) (a_ rfl<|a_ (v_<|Fi (a_ rfl rfl) rfl rfl) rfl) rfl rfl e1 rfl) (FA rfl) rfl) ?_;refine A_ (D1:=sD (.lst q1) S W (some<|iI k) (some<|iI p.1) (some<|iI p.2) none none none) (J1 (b_ rfl rfl rfl rfl vp) rfl) ?_;refine A_ (D1:=sD (.lst q2) S W (some<|iI k) (some<|iI p.1) (some<|iI p.2) (some<|.lst<|(dD s p).take 3) none none) (aM (IG (a_ (v_<|d_ (os:=[.sl 0,.sl 1]) rfl rfl rfl e2 rfl)<|a_ (v_<|IF (a_ rfl<|a_ (v_<|b_ rfl rfl rfl rfl rfl) rfl) rfl (ZK rfl) rfl)<|a_ (v_<|NX<|IG (a_ rfl<|a_ rfl rfl) rfl (ZK rfl) rfl) rfl) rfl (ZK rfl) rfl) (FA rfl) rfl) ?_;refine A_ (D1:=sD (.lst q2) S W (some<|iI k) (some<|iI p.1) (some<|iI p.2) (some<|.lst<|dD s p) none none) rfl ?_;refine A_ (D1:=sD (.lst q3) S W (some<|iI k) (some<|iI p.1) (some<|iI p.2) (some<|.lst<|dD s p) (some<|.im o) none) (aM (d_ (os:=[.sl 0,.sl 6]) rfl rfl rfl e3 rfl) (FA rfl) rfl) ?_;refine A_ (D1:=sD (.lst q3) S W (some<|iI k) (some<|iI p.1) (some<|iI p.2) (some<|.lst<|dD s p) (some<|.im o) (some<|.lst<|(fk W k o).take 1)) (aM (IG (a_ (v_<|b_ (v_<|b_ (v_<|Il rfl rfl rfl rfl<|sl none<|some k) (v_<|IF (a_ rfl rfl) rfl (ZK rfl) rfl) rfl rfl<|ad (LR _ _) l0) (v_<|Il rfl rfl rfl rfl<|sl (some<|k+1) none) rfl rfl<|ad (l1 _ _)<|LR _ _) rfl) rfl (ZK rfl) rfl) (FA rfl) rfl) ?_;refine A_ (D1:=sD (.lst q3) S W (some<|iI k) (some<|iI p.1) (some<|iI p.2) (some<|.lst<|dD s p) (some<|.im o) (some<|.lst<|(fk W k o).take 2)) (aM (b_ rfl (v_<|IG (a_ (v_<|b_ (v_<|b_ (v_<|Il rfl rfl rfl rfl<|sl none<|some k) (v_<|IF (a_ rfl rfl) rfl (ZK rfl) rfl) rfl rfl<|ad (LR _ _) l0) (v_<|Il rfl rfl rfl rfl<|sl (some k) none) rfl rfl<|ad (l1 _ _)<|LR _ _) rfl) rfl (ZK rfl) rfl) rfl rfl rfl) (FA rfl) rfl) ?_;refine A_ (D1:=sD (.lst q3) S W (some<|iI k) (some<|iI p.1) (some<|iI p.2) (some<|.lst<|dD s p) (some<|.im o) (some<|.lst<|(fk W k o).take 4)) (aM (b_ rfl (v_<|IG (a_ (v_<|b_ (v_<|Il rfl rfl rfl rfl<|sl none<|some k) (v_<|Il rfl rfl rfl rfl<|sl (some<|k+1) none) rfl rfl<|ad (LR _ _)<|LR _ _)<|a_ (v_<|NX<|Fi (a_ rfl rfl) rfl rfl) rfl) rfl (ZK rfl) rfl) rfl rfl rfl) (FA rfl) rfl) ?_;refine A_ (D1:=sD (.lst q3) S W (some<|iI k) (some<|iI p.1) (some<|iI p.2) (some<|.lst<|dD s p) (some<|.im o) (some<|.lst<|(fk W k o).take 8)) (aM (b_ rfl (v_<|IG (a_ rfl<|a_ (v_<|b_ rfl rfl rfl rfl<|ad QZ QZ)<|a_ (v_<|IF (a_ rfl rfl) rfl (ZK rfl) rfl)<|a_ (v_<|Il rfl rfl rfl rfl<|sl (some k) none) rfl) rfl (ZK rfl) rfl) rfl rfl rfl) (FA rfl) rfl) ?_;refine A_ (D1:=sD (.lst q3) S W (some<|iI k) (some<|iI p.1) (some<|iI p.2) (some<|.lst<|dD s p) (some<|.im o) (some<|.lst<|fk W k o)) (aM (b_ rfl (v_<|IG (a_ (v_<|Il rfl rfl rfl rfl<|sl none<|some k) rfl) rfl (ZK rfl) rfl) rfl rfl rfl) (FA rfl) rfl) ?_;exact bM (d_ (os:=[.sl 0,.sl 8]) rfl rfl rfl e4 rfl)
theorem Cn.tr{cs:List j_}(h:Cn cs a b)(k:Cn cs b c):Cn cs a c:=by
 induction k with
 | self=>exact h
 | step _ hb e ih=>exact .step ih hb e
theorem Cn.back{cs:List j_}(h:Cn cs a b)(ha:a∈cs):Cn cs b a:=by
 induction h with
 | self=>exact .self
 | step p hb e ih=>
  rename_i x y;have hx:x∈cs:=by
   cases p with
   | self=>exact ha
   | step _ h _=>exact h
  exact Cn.tr (.step .self hx (by rw[oq];exact e)) ih
theorem CT{cs pt:List j_}{s:j_}(P:JB pt)(hc:∀ x,x∈pt↔Cn cs s x):ee f [cT pt]=some (bV true,[cT pt]):=by
 have own:∀ x,Cn cs s x->Cn pt s x:=fun x h=>by
  induction h with
  | self=>exact .self
  | step p hb e ih=>exact .step ih ((hc _).mpr<|.step p hb e) e
 have hs:s∈pt:=(hc s).mpr .self;cases pt with
 | nil=>cases hs
 | cons a r=>
  have fl:=P.len;obtain⟨p1,r1,u1,m1⟩:=Ck (cs:=a::r) (s:=a) (by lia);have e:=Cu (f:=f) P r1;have all:∀ x∈a::r,x∈p1:=fun x hx=>(m1 x).mpr ((Cn.back (own a<|(hc a).mp<|.head _) hs).tr<|own x<|(hc x).mp hx);have sub:∀ x∈p1,x∈a::r:=fun x hx=>by
   cases (m1 x).mp hx with
   | self=>exact .head _
   | step _ hb _=>exact hb
  rw[Zu (Nat.le_antisymm (iM (gK u1) sub)<|iM (gK P.up) all)] at e;exact e
theorem CU(h:w.length<=60):Kw (.tup<|w.map cM):=II (fun x hx=>u7 hx) (by rw[Z3];lia)
theorem CV(W:MY pt w):Kv pt (.tup<|w.map cM)=true:=by
 show (!(w.map cM).isEmpty && ((w.map cM).all (Gz pt) && HU ((w.map cM).map LP)))=true;rw[oG,W.ch,Wv,V0.mpr fun z=>W.ne<|X7.mp z,YD.mpr]
 ·rfl
 ·intro x hx;obtain⟨c,hc,rfl⟩:=Zl.mp hx;exact Zu (W.Iu c hc)
theorem CW(hw:w≠[])(lw:w.length<=60):∃ n:Int,fi [cT w]=some (iI n,[cT w])/\gM [cT w]=some (iI n,[cT w]):=by
 match w,hw with
 | [a],_=>exact⟨0,uY a,CG a⟩
 | a::b::r,_=>
  have e:a::b::r=cs (fun i=>(a::b::r).getD i (0,0)) (r.length+2):=by
   refine Yi fun i=>?_;rw[ZB];by_cases hi:i<r.length+2
   ·rw[XN hi,Z0 (by exact hi)];show _=some ((a::b::r).getD i (0,0));rw[Z5,Z0 (by exact hi)];rfl
   ·rw[YV (by rw[ZJ,ZJ];lia),YV (by rw[Zk];lia)];rfl
  have l:r.length<=1000:=by rw[ZJ,ZJ] at lw;lia
  have t1:=uX (fun i=>(a::b::r).getD i (0,0)) r.length l;have t2:=CF (fun i=>(a::b::r).getD i (0,0)) r.length l;rw[<- e] at t1 t2;exact⟨_,t1,t2⟩
def fm:List Im:=[.l_,.bl true,.int 0,.str "",.tup [],.fl [],.fd,.tup [.int 1,.int 2],.tup [.tup []],.str "ab"]
theorem u8(pt:List j_):∀ x∈fm,Kw x/\Kv pt x=false:=by
 have tf:∀ x,Gk (.fl x):=fun x a e=>by cases e
 have td:Gk .fd:=fun a e=>by cases e
 exact all_cons ⟨Kx (fun _ e=>by cases e) uE,rfl⟩ (all_cons ⟨Kx (fun _ e=>by cases e)<|uB _,rfl⟩ (all_cons ⟨Kx (fun _ e=>by cases e)<|dm _,rfl⟩ (all_cons ⟨Kx (fun _ e=>by cases e)<|uD _,rfl⟩ (all_cons ⟨II dC<|Yz _,rfl⟩ (all_cons ⟨Kx (fun _ e=>by cases e)<|tf _,rfl⟩ (all_cons ⟨Kx (fun _ e=>by cases e) td,rfl⟩ (all_cons ⟨II (all_cons (MZ (fun _ e=>by cases e)<|dm _) (all_cons (MZ (fun _ e=>by cases e)<|dm _) dC)) (by decide),rfl⟩ (all_cons ⟨II (all_cons (LQ dC rfl) dC) (by decide),rfl⟩ (all_cons ⟨Kx (fun _ e=>by cases e)<|uD _,rfl⟩ dC)))))))))
section
variable{f:Addr}{pt w:List j_}{o0 o1 o3 o6 o7 o8 o9 o10:Option Vl}
theorem CY{M:Nat}(H:aT (M+4) h)(P:JB pt)(hp:pt≠[])(ef:ee f [cT pt]=some (bV true,[cT pt]))(hw:w≠[])(lw:w.length<=60):∃ h' p8 p9,lP f (zD o0 o1 (some h) o3 (some<|cT pt) (some<|cT w) o6 o7 o8 o9 o10)=some (.nx,zD o0 o1 (some h') o3 (some<|cT pt) (some<|cT w) o6 o7 p8 p9 o10)/\aT M h':=by
 obtain⟨d,h',e,hd,H'⟩:=CS H hp P.len hw lw;obtain⟨q,rfl⟩:=aW H;obtain⟨q',rfl⟩:=aW H';refine⟨.lst q',some<|.im d,some<|bV<|Kv pt d,?_,H'⟩;unfold lP;refine A_ (D1:=zD o0 o1 (some<|.lst q') o3 (some<|cT pt) (some<|cT w) o6 o7 (some<|.im d) o9 o10) (aM (d_ (os:=[.sl 2,.sl 4,.sl 5]) rfl rfl rfl e rfl) (FA rfl) rfl) ?_;refine A_ (D1:=zD o0 o1 (some<|.lst q') o3 (some<|cT pt) (some<|cT w) o6 o7 (some<|.im d) (some<|bV<|Kv pt d) o10) (aM (d_ (os:=[.sl 4,.sl 8]) rfl rfl rfl (oH P ef hd) rfl) (FA rfl) rfl) ?_;exact bI (ck (Ik<|GN rfl rfl rfl)<|Fu<|b_ rfl (v_<|d_ (os:=[.sl 4,.sl 8]) rfl rfl rfl (CO hd) rfl) rfl rfl<|Cr _) rfl
end
theorem CZ{ns:List Int}{o2 o3 o9 o10:Option Vl}(hk:0<=k)(G':k<1000):
  ∃ D2,lQ f (zD (some<|.fz<|ns.map .int) (some<|iI k) o2 o3 o4 o5 o6 o7 o8 o9 o10)=some (.nx,D2)/\∃ p2 p3 p4 p5 p6 p7 p8 p9 Ps,D2=zD (some<|.fz<|ns.map .int) (some<|iI k) p2 p3 p4 p5 p6 p7 p8 p9 Ps:=by
 obtain⟨h,e1,H⟩:=AV (ns:=ns) hk G';obtain⟨cs,h',e2,F,H'⟩:=B1 (M:=999600) H;obtain⟨q,rfl⟩:=aW H;obtain⟨q',rfl⟩:=aW H';have hl:=F.len;unfold lQ;refine dq (D1:=zD (some<|.fz<|ns.map .int) (some<|iI k) (some<|.lst q) o3 o4 o5 o6 o7 o8 o9 o10) (aM (d_ (os:=[.sl 0,.sl 1]) rfl rfl rfl e1 rfl) (FA rfl) rfl) ?_;generalize some (Vl.fz<|ns.map .int)=o0;generalize some (iI k)=o1;refine dq (D1:=zD o0 o1 (some<|.lst q') (some<|cT<|cs++[(30,30)]) o4 o5 o6 o7 o8 o9 o10) (aM (b_ (v_<|d_ (os:=[.sl 2]) rfl rfl rfl e2 rfl) (v_<|IF (a_ rfl rfl) rfl (ZK rfl) rfl) rfl rfl (by
  show vAdd (.im<|.tup<|cs.map cM) (.im<|.tup [cM (30,30)])=some (.im<|.tup<|(cs++[(30,30)]).map cM);rw[Y7];exact uz (by rw[Z3];show _+1<=_;lia))) (FA rfl) rfl) ?_
 obtain⟨es,e3,l3,u3,m3⟩:=S_ (D:=zD o0 o1 (some<|.lst q') (some<|cT<|cs++[(30,30)]) o4 o5 o6 o7 o8 o9 o10) (D1:=zD o0 o1 (some<|.lst q') (some<|cT<|cs++[(30,30)]) o4 o5 o6 o7 o8 o9 o10) (g:=aa (oSl 3) aNil) (os:=[.sl 3]) (cs:=cs++[(30,30)]) (by rw[ZR,Zp];lia) rfl rfl;rw[ZR,Zp] at l3;have E:JB es:=⟨u3,fun c hx=>(ZA.mp<|(m3 c).mp hx).elim (F.Iu c) fun z=>by rw[ZZ.mp z];decide,by lia⟩;have ne:es≠[]:=List.ne_nil_of_mem ((m3 (30,30)).mpr<|ZI _<|.head _);refine dq (D1:=zD o0 o1 (some<|.lst q') (some<|cT es) o4 o5 o6 o7 o8 o9 o10) (aM (Fi (a_ (v_ e3) rfl) rfl rfl) (FA rfl) rfl) ?_;obtain⟨y,h1,e4,i4,H1⟩:=ot (n:=999599) (xs:=es.map cM) H' (fun z=>ne<|X7.mp z) (by rw[Z3];lia);obtain⟨s,hs,rfl⟩:=Zl.mp i4;obtain⟨q1,rfl⟩:=aW H1;obtain⟨pt,e5,up,hc,_⟩:=Cd (s:=s) (gK u3) (by lia);have sb:∀ x∈pt,x∈es:=fun x hx=>by
  cases (hc x).mp hx with
  | self=>exact hs
  | step _ hb _=>exact hb
 have lp:pt.length<=200:=Zn (iM (gK up) sb) E.len;have P:JB pt:=⟨up,fun c hx=>E.Iu c<|sb c hx,lp⟩;have pp:pt≠[]:=List.ne_nil_of_mem ((hc s).mpr .self);have ef:=CT (f:=f) P hc;refine dq (D1:=zD o0 o1 (some<|.lst q1) (some<|cT es) (some<|cT pt) o5 o6 o7 o8 o9 o10) (aM (d_ (os:=[.sl 3,.vl<|.im<|cM s]) (a_ rfl<|a_ (v_<|d_ (os:=[.sl 2,.sl 3]) rfl rfl rfl e4 rfl) rfl) rfl rfl e5 rfl) (FA rfl) rfl) ?_;obtain⟨v,h2,e6,v0,v1,H2⟩:=dS (n:=999598) (m:=60) H1 (by decide) (by decide);obtain⟨q2,rfl⟩:=aW H2;obtain⟨w,h3,e7,W,lw,H3⟩:=CK (M:=999477) H2 pp lp v0 v1;obtain⟨q3,rfl⟩:=aW H3;refine dq (D1:=zD o0 o1 (some<|.lst q3) (some<|cT es) (some<|cT pt) (some<|cT w) o6 o7 o8 o9 o10) (aM (d_ (os:=[.sl 2,.sl 4,.vl<|iI v]) (a_ rfl<|a_ rfl<|a_ (v_<|d_ (os:=[.sl 2,.vl<|iI 60]) rfl rfl rfl e6 rfl) rfl) rfl rfl e7 rfl) (FA rfl) rfl) ?_;obtain⟨n,t1,t2⟩:=CW W.ne lw;refine dq (D1:=zD o0 o1 (some<|.lst q3) (some<|cT es) (some<|cT pt) (some<|cT w) (some<|iI n) o7 o8 o9 o10) (aM (d_ (os:=[.sl 5]) rfl rfl rfl t1 rfl) (FA rfl) rfl) ?_;have iw:=oH (f:=f) P ef (CU lw);rw[CV W] at iw;refine dq (D1:=zD o0 o1 (some<|.lst q3) (some<|cT es) (some<|cT pt) (some<|cT w) (some<|iI n) o7 o8 o9 o10) (bI (ck (Fu<|b_ (v_<|d_ (os:=[.sl 4,.sl 5]) rfl rfl rfl iw rfl) rfl rfl rfl rfl)<|GN rfl rfl rfl) rfl) ?_;have nn:vNe (iI n) (iI n)=some (bV false):=(AT n n).trans (by rw[Zu rfl];rfl);refine dq (D1:=zD o0 o1 (some<|.lst q3) (some<|cT es) (some<|cT pt) (some<|cT w) (some<|iI n) o7 o8 o9 o10) (bI (Fu<|b_ rfl (v_<|d_ (os:=[.sl 5]) rfl rfl rfl t2 rfl) rfl rfl nn) rfl) ?_;obtain⟨D',l1,h4,p7,p8,p9,rfl,_⟩:=gC (tg:=gN 7) (b:=lP f) (xs:=bo 0 5) (fun i D=>∃ h p7 p8 p9,D=zD o0 o1 (some h) (some<|cT es) (some<|cT pt) (some<|cT w) (some<|iI n) p7 p8 p9 o10/\aT (999477 - 4 * i) h) (D:=zD o0 o1 (some<|.lst q3) (some<|cT es) (some<|cT pt) (some<|cT w) (some<|iI n) o7 o8 o9 o10)
  ⟨_,o7,o8,o9,rfl,H3⟩ (fun i x D hx hI=>by
   obtain⟨h,p7,p8,p9,rfl,H⟩:=hI;obtain⟨hi,rfl⟩:=iK hx;obtain⟨h',a,b,e,H'⟩:=CY (M:=999477 - 4 * (i+1)) (f:=f) (o0:=o0) (o1:=o1) (o3:=some (cT es)) (o6:=some (iI n)) (o7:=some (iI<|0+(i:Int))) (o8:=p8) (o9:=p9) (o10:=o10) (H.mono (by lia)) P pp ef W.ne lw;exact⟨_,_,_,rfl,e,.inl rfl,h',_,a,b,rfl,H'⟩)
 refine dq (dA (o:=none) (Le (a_ rfl rfl) rfl ⟨by decide,by decide⟩) l1 rfl) ?_;refine dq (D1:=zD o0 o1 (some h4) (some<|cT es) (some<|cT pt) (some<|cT w) (some<|iI n) p7 p8 p9 (some<|.lst fm)) rfl ?_;have c1:a9 1 [4] (bu<|oSl 10) (gN 0) kYes (G.uR f) (zD o0 o1 (some h4) (some<|cT es) (some<|cT pt) (some<|cT w) (some<|iI n) p7 p8 p9<|some<|.lst fm)=some (.lst<|fm.map fun _=>.bl false,zD o0 o1 (some h4) (some<|cT es) (some<|cT pt) (some<|cT w) (some<|iI n) p7 p8 p9<|some<|.lst fm):=by
  refine Jy (xs:=fm.map id) (o:=some (10,.lst fm)) (D1:=zD o0 o1 (some h4) (some<|cT es) (some<|cT pt) (some<|cT w) (some<|iI n) p7 p8 p9 (some .jk)) (by rw[Vn];rfl) (fW id (fun _=>.bl false) _ (fun x hx=>?_) (show 10<=100000 by decide)) rfl;have z:=oH (f:=f) P ef (u8 pt x hx).1;rw[(u8 pt x hx).2] at z;exact⟨[some (.im x),some<|cT pt],_,[some (.im x),some<|cT pt],rfl,rfl,d_ (os:=[.sl 1,.sl 0]) rfl rfl rfl z rfl,rfl⟩
 have c2:vAny [.lst (fm.map fun _=>.bl false)]=some (bV false):=(ui (fun _=>false) fm).trans rfl;exact⟨_,bI (GN (v_<|Fi (a_ (v_ c1) rfl) rfl c2) rfl rfl) rfl,_,_,_,_,_,_,_,_,_,rfl⟩
theorem Da(f:Addr)(ns:List Int)(Ow:ns.length<100000):∃ outs,jN f [.fz (ns.map .int)]=some (.im<|.bl true,outs):=by
 obtain⟨n,hn,n0,n1⟩:∃ n:Int,aw vMax2 (aa (oV<|eC<|.int 1)<|aa (oV<|aw vMin2<|aa (oV<|eC<|.int 12)<|aa (oV<|aw vLen<|aa (oSl 0) aNil) aNil) aNil) (zD (some<|.fz<|ns.map .int) none none none none none none none none none none)=some (iI n,zD (some<|.fz<|ns.map .int) none none none none none none none none none none)/\0<=n/\n<=12:=by
  refine⟨_,Fi (a_ rfl<|a_ (v_<|Fi (a_ rfl<|a_ (v_<|Fi (a_ rfl rfl) rfl rfl) rfl) rfl rfl) rfl) rfl rfl,?_,?_⟩
  ·split<;>split<;>lia
  ·split<;>split<;>lia
 obtain⟨D',l1,k',o2,o3,o4,o5,o6,o7,o8,o9,o10,rfl⟩:=gC (tg:=gN 1) (b:=lQ f) (xs:=bo 0 n.toNat) (fun i D=>∃ o1 o2 o3 o4 o5 o6 o7 o8 o9 o10,D=zD (some<|.fz<|ns.map .int) o1 o2 o3 o4 o5 o6 o7 o8 o9 o10) (D:=zD (some<|.fz<|ns.map .int) none none none none none none none none none none)
  ⟨_,_,_,_,_,_,_,_,_,_,rfl⟩ (fun i x D hx hI=>by
   obtain⟨o1,o2,o3,o4,o5,o6,o7,o8,o9,o10,rfl⟩:=hI;obtain⟨hi,rfl⟩:=iK hx;obtain⟨D2,e,p2,p3,p4,p5,p6,p7,p8,p9,Ps,rfl⟩:=CZ (ns:=ns) (k:=0+(i:Int)) (f:=f) (o2:=o2) (o3:=o3) (o4:=o4) (o5:=o5) (o6:=o6) (o7:=o7) (o8:=o8) (o9:=o9) (o10:=o10) (by lia) (by lia);exact⟨_,_,_,rfl,e,.inl rfl,_,p2,p3,p4,p5,p6,p7,p8,p9,Ps,rfl⟩)
 have t1:=uX (fun i=>if i=1 then (0,1) else (0,0)) 1 (by decide);have t2:=uY (2,2);refine⟨_,bz (D:=zD (some<|.fz<|ns.map .int) k' o2 o3 o4 o5 o6 o7 o8 o9 o10) rfl ?_ rfl⟩;show oC f (zD (some<|.fz<|ns.map .int) none none none none none none none none none none)=_;unfold oC;refine A_ (dA (o:=none) (Le (a_ (v_ hn) rfl) rfl ⟨by lia,by lia⟩) l1 rfl) ?_;exact bM (Jz<|dB (Fu<|b_ (v_<|d_ (os:=[.vl (cT [(0,0),(0,1),(0,0)])]) rfl rfl rfl t1 rfl) rfl rfl rfl rfl)<|Fu<|b_ (v_<|d_ (os:=[.vl (cT [(2,2)])]) rfl rfl rfl t2 rfl) rfl rfl rfl rfl)
end G
namespace L2
open PySem
end L2
namespace L2
open PySem PySem.Spec PyProof.Rows
variable{g:M (List Opd)}{es:List Expr}{e:Expr}{pos p:Pos}{k n:Nat}{ps:List Str}{f:Addr}{st:Stmt}{qual x:Str}{K:PySem.W.Frag}{G:Fn}
def jO:List (Addr×Obj)->Bool
 | []=>true
 | (_,o)::r=>(match o.data with
  | .seq _ _=>(match o.cls with | .type n=>n != "list" | _=>true)
  | _=>true) && jO r
theorem Db{K:List (Addr×Obj)}{a:Addr}{o:Obj}{f_:Array Value}(h:jO K=true)(e:K.lookup a=some o)(hc:o.cls=.type "list")(hd:o.data=.seq f_ n):False:=by
 induction K with
 | nil=>cases e
 | cons p r ih=>
  obtain⟨b,x⟩:=p;rw[jO,ZU] at h;simp only[List.lookup] at e;split at e
  ·cases e;have h1:=h.1;rw[hd] at h1;dsimp only at h1;rw[hc] at h1;exact absurd h1 (by decide)
  ·exact ih h.2 e
theorem u9{H:Hp}:∀ ns:List Int,am H (ns.map .int) (ns.map V.int)
 | []=>rfl
 | n::r=>⟨.int n,_,rfl,rfl,u9 r⟩
theorem Dc(hK:jO K=true)(H:Hp)(a:Addr)(ns:List Int)(hO:kn H)(hS:Fd K H a (ns.map V.int))(ht:∃ outs,G [.fz (ns.map .int)]=some (.im<|.bl true,outs)){E:XK}:IZ 1 G [.ref a] H (fun v _=>v=.bl true) E:=by
 obtain⟨outs,ht⟩:=ht;have hf:∃ o,H a=some (.Fj o<|.lst<|ns.map V.int):=by
  rcases hS with (h | h) | ⟨o,f_,n,h1,h2,h3,h4,_⟩
  ·rcases hO a with e | ⟨o,xs,e⟩
   ·rw[e] at h;cases h
   ·rw[e] at h;cases h
  ·exact h
  ·exact (Db hK h1 h2 h4).elim
 obtain⟨o,ho⟩:=hf;refine⟨rfl,[.fz (ns.map .int)],[],.im<|.bl true,outs,⟨_,_,[],[],rfl,⟨a,_,o,rfl,ho,u9 ns,rfl⟩,⟨rfl,rfl⟩,rfl⟩,YG,ht,fun v H' R R' h _ _=>?_⟩;exact h.1
theorem iO{us:List Value}(h:us.length=n+1):∃ a r,us=a::r/\r.length=n:=by
 cases us with
 | nil=>cases h
 | cons a r=>exact⟨a,r,rfl,Nat.succ.inj h⟩
theorem Hm.Ll{fd:FuncData}(F:Hm K x qual st f fd)(h:∀ (kV doc pm:Value) (an:Option Addr) (u_ ct:Value) (a:Value),bindArgs (PySem.W.fnOf x qual (dt st) (cP st) (aB st) .none kV doc pm an u_ ct) ⟨[a],[]⟩=pure (ps.zip [a]))(hp:ps.length=1:=by rfl):c9 K fd ps []:=
 F.binds fun kV doc pm an u_ ct us hl=>by
  replace hl:=hl.trans hp;obtain⟨a,u1,rfl,h1⟩:=iO hl;obtain rfl:=YR h1;exact h kV doc pm an u_ ct a
theorem Hm.Lm{fd:FuncData}(F:Hm K x qual st f fd)(h:∀ (kV doc pm:Value) (an:Option Addr) (u_ ct:Value) (a b:Value),bindArgs (PySem.W.fnOf x qual (dt st) (cP st) (aB st) .none kV doc pm an u_ ct) ⟨[a,b],[]⟩=pure (ps.zip [a,b]))(hp:ps.length=2:=by rfl):c9 K fd ps []:=
 F.binds fun kV doc pm an u_ ct us hl=>by
  replace hl:=hl.trans hp;obtain⟨a,u1,rfl,h1⟩:=iO hl;obtain⟨b,u2,rfl,h2⟩:=iO h1;obtain rfl:=YR h2;exact h kV doc pm an u_ ct a b
theorem Hm.Ln{fd:FuncData}(F:Hm K x qual st f fd)(h:∀ (kV doc pm:Value) (an:Option Addr) (u_ ct:Value) (a b c:Value),bindArgs (PySem.W.fnOf x qual (dt st) (cP st) (aB st) .none kV doc pm an u_ ct) ⟨[a,b,c],[]⟩=pure (ps.zip [a,b,c]))(hp:ps.length=3:=by rfl):c9 K fd ps []:=
 F.binds fun kV doc pm an u_ ct us hl=>by
  replace hl:=hl.trans hp;obtain⟨a,u1,rfl,h1⟩:=iO hl;obtain⟨b,u2,rfl,h2⟩:=iO h1;obtain⟨c,u3,rfl,h3⟩:=iO h2;obtain rfl:=YR h3;exact h kV doc pm an u_ ct a b c
def Raw(K:PySem.W.Frag)(x:Str)(st:Stmt)(f:Addr):Prop:=∃ fd,Hm K x x st f fd/\PySem.W.nsIn K mainGlobals x=some (some<|.ref f)
def Ga(K:PySem.W.Frag)(mg:Str->Option Value)(x:Str)(st:Stmt)(f:Addr)(ps:List Str):Prop:=∃ fd,Hm K x x st f fd/\c9 K fd ps []/\mg x=some (.ref f)
def D_(P:Program)(w:World)(K:PySem.W.Frag)(mg:Str->Option Value)(base:Heap)(k:Nat)(x:Str)(st:Stmt)(f:Addr)(ps:List Str)(n:Nat)(G:Fn):Prop:=∃ fd,Hm K x x st f fd/\c9 K fd ps []/\mg x=some (.ref f)/\FJ P w K mg base HM k f fd ps (IZ n G)
theorem De{oc:Value}{od an:Option Addr}{Iz:Array (Option Value)}{kV doc pm u_ ct:Value}(a:PySem.W.nsIn K mainGlobals x=some (some<|.ref f))(l:K.lookup f=some ⟨oc,od,.func<|PySem.W.fnOf x x (dt st) (cP st) (aB st) .none kV doc pm an u_ ct,Iz⟩)(c:PySem.W.codeIn K u_ x=true)(k:PySem.W.keepIn K (.ref f)=true):Raw K x st f:=⟨_,yp l c k,a⟩
section
variable{P:Program}{w:World}{K:PySem.W.Frag}{mg:Str->Option Value}{base h:Heap}{k n:Nat}{x:Str}{st:Stmt}{f:Addr}{ps:List Str}{G:Fn}
theorem Raw.b1(r:Raw K x st f)(X:K.In h)(Gg:h.Ns mainGlobals mg)(hb:∀ (kV doc pm:Value) (an:Option Addr) (u_ ct a:Value),bindArgs (PySem.W.fnOf x x (dt st) (cP st) (aB st) .none kV doc pm an u_ ct) ⟨[a],[]⟩=pure (ps.zip [a]))(hp:ps.length=1:=by rfl):Ga K mg x st f ps:=
 have ⟨_,U,a⟩:=r
 ⟨_,U,U.Ll hb hp,Wt X Gg a⟩
theorem Raw.b2(r:Raw K x st f)(X:K.In h)(Gg:h.Ns mainGlobals mg)(hb:∀ (kV doc pm:Value) (an:Option Addr) (u_ ct a b:Value),bindArgs (PySem.W.fnOf x x (dt st) (cP st) (aB st) .none kV doc pm an u_ ct) ⟨[a,b],[]⟩=pure (ps.zip [a,b]))(hp:ps.length=2:=by rfl):Ga K mg x st f ps:=
 have ⟨_,U,a⟩:=r
 ⟨_,U,U.Lm hb hp,Wt X Gg a⟩
theorem Raw.b3(r:Raw K x st f)(X:K.In h)(Gg:h.Ns mainGlobals mg)(hb:∀ (kV doc pm:Value) (an:Option Addr) (u_ ct a b c:Value),bindArgs (PySem.W.fnOf x x (dt st) (cP st) (aB st) .none kV doc pm an u_ ct) ⟨[a,b,c],[]⟩=pure (ps.zip [a,b,c]))(hp:ps.length=3:=by rfl):Ga K mg x st f ps:=
 have ⟨_,U,a⟩:=r
 ⟨_,U,U.Ln hb hp,Wt X Gg a⟩
theorem D_.m(C:D_ P w K mg base k x st f ps n G):mg x=some (.ref f):=have ⟨_,_,_,m,_⟩:=C;m
theorem D_.fd{fd:FuncData}(C:D_ P w K mg base k x st f ps n G)(U:Hm K x x st f fd):FJ P w K mg base HM k f fd ps (IZ n G):=by
 obtain⟨TH,U',_,_,g⟩:=C;obtain⟨oc,od,kV,doc,pm,an,u_,ct,Iz,e,l,_⟩:=U.ex;obtain⟨TJ,TK,TL,Ta,TM,TN,Tb,TQ,Tc,e',l',_⟩:=U'.ex;rw[l] at l';cases l';exact g
theorem Df(r:Raw K x st f)(X:K.In h)(Gg:h.Ns mainGlobals mg){fa:Addr}(Pt:mg x=some (.ref fa)){p:Str}(hb:∀ (kV doc pm:Value) (an:Option Addr) (u_ ct:Value) (s:Shared) (v:Value),BindsTo s (PySem.W.fnOf x x (dt st) (cP st) (aB st) .none kV doc pm an u_ ct) ⟨[v],[]⟩ [(p,v)])(C:∀ base,D_ P w K mg base k x st f [p] n G):
  ∃ fd:FuncData,(∀ (s:Shared) (v:Value),BindsTo s fd ⟨[v],[]⟩ [(p,v)])/\∀ base:Heap,K.In base->base.Ns mainGlobals mg->FJ P w K mg base HM k fa fd [p] (IZ n G):=by
 obtain⟨fd,U,a⟩:=r;cases Pt.symm.trans (Wt X Gg a);refine⟨fd,?_,fun b _ _=>(C b).fd U⟩;obtain⟨oc,od,kV,doc,pm,an,u_,ct,Iz,rfl,l,_⟩:=U.ex;exact hb kV doc pm an u_ ct
theorem bF{N:List Str}{fix:List Nat}{g:MS}(F:Ga K mg x st f ps)(S:k_ N ps (aB st))(hn:ps.length=n)(Qo:∀ i∈fix,i<n)(hb:N.Nodup->∀ (u_:Value) (A:Around) (outer:List Env) (s:Shared) (H:Hp) (E:XK),E8 k (A.deeper<|envOfC x (aB st) s.heap.objs.size f u_)->I_ (fw HM P w K mg base N x (aB st) f u_ A outer s H E).Lr fix (cP st) g):
  D_ P w K mg base (k+1) x st f ps n (bj n N.length fix g):=
 have ⟨_,U,b,m⟩:=F
 ⟨_,U,b,m,R8 U S hn Qo<|hb S.nd⟩
end
section
variable{X:Cx}
variable{m:Nat}
theorem aI(C:D_ X.prog X.w X.K X.mg X.base k x st f ps n G)(hr:E8 m X.A)(hg:Gl X x)(ha:VA X (e::es) g)(hm:k<=m:=by decide)(Id:(x == ("__debug__" : Str))=false:=by decide)(he:starEach (e::es) X.env=(false,eval e X.env)::starEach es X.env:=by rfl)(GF:(backTo pos<|starEach es X.env).any (·.1)=false:=by rfl):
  VE X (.Call (.Name x p) (e::es) [] pos) (av n G g):=
 have ⟨_,U,b,m,F⟩:=C
 zd F (hr.mono hm) hg m U.kp b ha Id he GF
theorem Dg{i:Nat}{y:Str}(C:D_ X.prog X.w X.K X.mg X.base k y st f ps n G)(hr:E8 m X.A)(hv:PE X (.Name x p) (et i))(ha:VA X (e::es) g)(hm:k<=m:=by decide)(he:starEach (e::es) X.env=(false,eval e X.env)::starEach es X.env:=by rfl)(GF:(backTo pos<|starEach es X.env).any (·.1)=false:=by rfl):
  VE X (.Call (.Name x p) (e::es) [] pos) (k8 i f n G g):=
 have ⟨_,U,b,_,F⟩:=C
 An F (hr.mono hm) hv U.kp b ha he GF
theorem ai{i:Int}{j pos}:VO X (.Constant (.int i) j pos) (oV<|eC<|.int i):=ab b9
theorem vv(i:Nat){x:Str}{pos:Pos}(hN:X.N[i]?=some x:=by rfl)(hv:Nt X.env.scope x:=by first | exact Or.inl rfl | exact Or.inr (Or.inl rfl) | exact Or.inr (Or.inr rfl))(hd:(x == ("__debug__" : Str))=false:=by decide)(Ic:(x == ("__classdict__" : Str))=false:=by decide):VO X (.Name x pos) (oSl i):=y6 (pc hN hv hd Ic)
theorem ag{g:M Opd}(he:VO X e g)(hs:starEach [e] X.env=(false,eval e X.env)::starEach [] X.env:=by rfl):VA X [e] (aa g aNil):=aj he fH hs
theorem aN{a b:Expr}{ga gb:M Opd}(hr:E8 m X.A)(ha:VO X a ga)(hb:VO X b gb)(hs:mf b:=by exact fun _ _=>rfl):VE X (.Subscript a b pos) (ae vIx ga gb):=y7 (zA (by have:=hr.un;omega)) ha hb hs
end
end L2
set_option maxHeartbeats 4000000
namespace K10
open PySem L2 PyProof.Rows
variable{Jk f:Addr}{l:PySem.W.OpenLaw}{k:Nat}{A:Around}
def top(i:Nat):Stmt:=PySem.Challenge.pw_mowfloor_k10_walks_and_turns.main.body.getD i (.Pass ⟨0,0,0,0⟩)
structure Txt(mg:Str->Option Value):Prop where
 Ky:mg "abs" = none
 Hj:mg "all" = none
 Kz:mg "any" = none
 GA:mg "bool" = none
 HV:mg "int" = none
 m_:mg "isinstance" = none
 Fq:mg "len" = none
 Lo:mg "list" = none
 HW:mg "max" = none
 Jl:mg "min" = none
 Fe:mg "range" = none
 M0:mg "set" = none
 FR:mg "sorted" = none
 M1:mg "sum" = none
 E6:mg "tuple" = none
 HX:mg "zip" = none
 GB:∃ t,mg "GREATEST" = some (.int 30 t)
theorem vb:bootBuiltins "abs" = some (.builtin "abs"):=by decide +kernel
theorem jP:bootBuiltins "all" = some (.builtin "all"):=by decide +kernel
theorem vc:bootBuiltins "any" = some (.builtin "any"):=by decide +kernel
theorem jQ:bootBuiltins "bool" = some (.type "bool"):=by decide +kernel
theorem lR:bootBuiltins "int" = some (.type "int"):=by decide +kernel
theorem dU:bootBuiltins "isinstance" = some (.builtin "isinstance"):=by decide +kernel
theorem dE:bootBuiltins "len" = some (.builtin "len"):=by decide +kernel
theorem Dh:bootBuiltins "list" = some (.type "list"):=by decide +kernel
theorem lS:bootBuiltins "max" = some (.builtin "max"):=by decide +kernel
theorem oI:bootBuiltins "min" = some (.builtin "min"):=by decide +kernel
theorem oJ:bootBuiltins "sorted" = some (.builtin "sorted"):=by decide +kernel
theorem Di:bootBuiltins "sum" = some (.builtin "sum"):=by decide +kernel
theorem eg:bootBuiltins "tuple" = some (.type "tuple"):=by decide +kernel
theorem aJ(hr:E8 k A):A.units+20<cLine:=by have:=hr.un;omega
theorem Dj(hr:E8 k A):A.units+30<cLine:=by have:=hr.un;omega
abbrev jR:Stmt:=top 2
abbrev Dk:List Str:=["thing"]
abbrev iP:Stmt:=top 3
abbrev Dl:List Str:=["thing"]
abbrev fo:Stmt:=top 4
abbrev Dm:List Str:=["thing"]
abbrev gO:Stmt:=top 5
abbrev oK:List Str:=["thing","is_kind"]
abbrev iQ:Stmt:=top 6
abbrev Do:List Str:=["things","found","thing"]
abbrev iR:Stmt:=top 7
abbrev Dp:List Str:=["cell","row","column"]
abbrev jS:Stmt:=top 8
abbrev Dq:List Str:=["free","start","found","waiting","cell"]
abbrev jT:Stmt:=top 10
abbrev Dr:List Str:=["thing"]
abbrev jU:Stmt:=top 11
abbrev Ds:List Str:=["thing"]
abbrev gP:Stmt:=top 13
abbrev oM:List Str:=["field","thing","free"]
abbrev gQ:Stmt:=top 14
abbrev oN:List Str:=["walk","ways"]
abbrev jV:Stmt:=top 16
abbrev Dt:List Str:=["_law_script","_law_k","_law_cell","_law_bound","_law_digits"]
abbrev fq:Stmt:=top 17
abbrev Du:List Str:=["_law_hand_here","_law_many","_law_digit","_law_turn","_law_mixed","_law_odd"]
abbrev f8:Stmt:=top 18
abbrev Dv:List Str:=["_law_hand_here","_law_some"]
abbrev jW:Stmt:=top 19
abbrev Dw:List Str:=["_law_hand_here","_law_most","_law_high","_law_wide","_law_top","_law_side","_law_way","_law_cells","_law_row","_law_column","_law_free","_law_turn","_law_down","_law_right"]
abbrev gR:Stmt:=top 20
abbrev Dx:List Str:=["_law_one","_law_other"]
abbrev f9:Stmt:=top 21
abbrev lT:List Str:=["_law_floor_here","_law_cell","_law_part_here","_law_last","_law_rest","_law_more","_law_one"]
abbrev iS:Stmt:=top 22
abbrev vd:List Str:=["_law_hand_here","_law_field","_law_many","_law_walk_here","_law_turn","_law_near","_law_row","_law_column","_law_ahead"]
abbrev iT:Stmt:=top 23
abbrev ve:List Str:=["_law_field","_law_thing","_law_one"]
abbrev jX:Stmt:=top 24
abbrev Dy:List Str:=["_law_walk_here","_law_many","_law_k","_law_one","_law_other","_law_more","_law_ahead"]
abbrev jY:Stmt:=top 25
abbrev Dz:List Str:=["_law_hand_here","_law_field","_law_walk_here","_law_at","_law_row","_law_column","_law_odd","_law_one","_law_some"]
abbrev jZ:Stmt:=top 26
abbrev vf:List Str:=["_law_script","_law_k","_law_hand_here","_law_floor_here","_law_field","_law_walk_here","_law_told","_law_turn","_law_thing","_law_truth","_law_odd"]
section
variable{P:Program}{w:World}{K:PySem.W.Frag}{mg:Str->Option Value}{base:Heap}
theorem DA:k_ Dk ["thing"] (aB jR):=⟨rfl,rfl,rfl,by decide +kernel,rfl,by decide +kernel,by decide +kernel⟩
theorem DB(F:Ga K mg "is_whole" jR f ["thing"])(T:Txt mg):
  D_ P w K mg base 1 "is_whole" jR f ["thing"] 1 G.gJ:=by
 refine bF F DA rfl (by decide) fun nd u_ A outer s H E hr=>?_;exact (aC<|aY<|fG (cb<|dP rfl T.m_ dU rfl T.HV lR<|vv 0)<|cb<|gu<|y8<|cb<|dP rfl T.m_ dU rfl T.GA jQ<|vv 0)
theorem DC:k_ Dl ["thing"] (aB iP):=⟨rfl,rfl,rfl,by decide +kernel,rfl,by decide +kernel,by decide +kernel⟩
theorem DD(F:Ga K mg "is_pair" iP f ["thing"])(T:Txt mg){HC:Addr}(C0:D_ P w K mg base 1 "is_whole" jR HC ["thing"] 1 G.gJ):
  D_ P w K mg base 2 "is_pair" iP f ["thing"] 1 G.fe:=by
 refine bF F DC rfl (by decide) fun nd u_ A outer s H E hr=>?_;exact (aC (aY (fG (cb<|dP rfl T.m_ dU rfl T.E6 eg<|vv 0) (fG (cb (cn (dh<|aJ hr) (ab (bb dy (by rfl) T.Fq dE<|ag<|vv 0)) ai<|bn _))<|fG (cb<|aI C0 hr rfl<|ag<|ab<|aN hr (vv 0) ai)<|cb<|gu<|aI C0 hr rfl<|ag<|ab<|aN hr (vv 0) ai))))
theorem DE:k_ Dm ["thing"] (aB fo):=⟨rfl,rfl,rfl,by decide +kernel,rfl,by decide +kernel,by decide +kernel⟩
theorem DF(F:Ga K mg "is_cell" fo f ["thing"])(T:Txt mg){F8:Addr}(C1:D_ P w K mg base 2 "is_pair" iP F8 ["thing"] 1 G.fe):
  D_ P w K mg base 3 "is_cell" fo f ["thing"] 1 G.ff:=by
 refine bF F DE rfl (by decide) fun nd u_ A outer s H E hr=>?_;exact (aC<|aY<|fG (cb<|aI C1 hr rfl<|ag<|vv 0)<|fG (cb<|rM kL kL ai (ab<|aN hr (vv 0) ai)<|ab<|q8 rfl T.GB.choose_spec)<|cb<|gu<|rM kL kL ai (ab<|aN hr (vv 0) ai)<|ab<|q8 rfl T.GB.choose_spec)
theorem DG:k_ oK ["thing","is_kind"] (aB gO):=⟨rfl,rfl,rfl,by decide +kernel,rfl,by decide +kernel,by decide +kernel⟩
theorem DH(F:Ga K mg "is_rising" gO f ["thing","is_kind"])(T:Txt mg){e_:Addr}(C2:D_ P w K mg base 3 "is_cell" fo e_ ["thing"] 1 G.ff):
  D_ P w K mg base 4 "is_rising" gO f ["thing","is_kind"] 2 (G.jA e_):=by
 refine bF F DG rfl (by decide) fun nd u_ A outer s H E hr=>?_;exact (ar (bU (VW.vt (eJ (eI<|cu<|ab<|dP rfl T.m_ dU rfl T.E6 eg<|vv 0) (fF (eI (cu (ab (bb (jh rfl) (by rfl) T.Hj jP (ag (ab (fP (own:=["part"]) (caps:=[1]) rfl (du (aB gO) oK (by decide +kernel)) (by decide) (dN<|vv 0) (fun Y=>(aR (i:=0) (show (["part","is_kind"]:List Str).Nodup by decide +kernel) rfl (Or.inl rfl) (by decide))) (fun Y=>fO)<|fun Y=>(Dg C2 hr (pv 1)<|ag<|vv 0))))))))))) (aC<|aY bG) bT) (aC (aY (bb (jh rfl) (by rfl) T.Hj jP (ag (ab (fP (own:=["ahead","behind"]) (caps:=[]) rfl (du (aB gO) oK (by decide +kernel)) (by decide) (re rfl T.HX (aj (vv 0) (by exact (ag<|ab<|di (vv 0) (c7 b9) dw)))) (fun Y=>(eS rfl (bW (aR (i:=0) (show (["ahead","behind"]:List Str).Nodup by decide +kernel) rfl (Or.inl rfl) (by decide)) (bW (aR (i:=1) (show (["ahead","behind"]:List Str).Nodup by decide +kernel) rfl (Or.inl rfl) (by decide)) eQ)))) (fun Y=>fO)<|fun Y=>(cn (BT<|aJ hr) (vv 0) (vv 1)<|bn _))))))))
theorem DI:k_ Do ["things"] (aB iQ):=⟨rfl,rfl,rfl,by decide +kernel,rfl,by decide +kernel,by decide +kernel⟩
theorem DJ(F:Ga K mg "lookup" iQ f ["things"])(T:Txt mg):
  D_ P w K mg base 1 "lookup" iQ f ["things"] 1 G.f7:=by
 refine bF F DI rfl (by decide) fun nd u_ A outer s H E hr=>?_;exact (ar (aF (i:=1) nd rfl (Or.inl rfl) nh (by decide)) (ar (dM (fx:=[0]) YU rfl (dN<|vv 0) (aR (i:=2) nd rfl (Or.inl rfl) (by decide)) (aC<|dL bG<|ig (pv 1) (cE<|pv 2)<|kY<|aJ hr) (by decide) (mM (by decide)))<|aC<|aY<|cE<|pv 1))
theorem DK:k_ Dp ["cell"] (aB iR):=⟨rfl,rfl,rfl,by decide +kernel,rfl,by decide +kernel,by decide +kernel⟩
theorem DL(F:Ga K mg "around" iR f ["cell"])(T:Txt mg):
  D_ P w K mg base 1 "around" iR f ["cell"] 1 G.iL:=by
 refine bF F DK rfl (by decide) fun nd u_ A outer s H E hr=>?_;exact (ar (aF (i:=1) nd rfl (Or.inl rfl) (aN hr (vv 0) ai) (by decide)) (ar (aF (i:=2) nd rfl (Or.inl rfl) (aN hr (vv 0) ai) (by decide)) (aC (aY (bw (by exact (aj (ab (aO (by exact (aj (ab<|aq bX (vv 1) ai) (by exact (ag<|vv 2)))))) (by exact (aj (ab (aO (by exact (aj (vv 1) (by exact (ag<|ab<|aq bX (vv 2) ai)))))) (by exact (aj (ab (aO (by exact (aj (vv 1) (by exact (ag<|ab<|aq aK (vv 2) ai)))))) (by exact (ag (ab (aO (by exact (aj (ab<|aq aK (vv 1) ai) (by exact (ag<|vv 2)))))))))))))))))))
theorem DM:k_ Dq ["free","start"] (aB jS):=⟨rfl,rfl,rfl,by decide +kernel,rfl,by decide +kernel,by decide +kernel⟩
theorem DN(F:Ga K mg "reached" jS f ["free","start"])(T:Txt mg){GC:Addr}(C5:D_ P w K mg base 1 "around" iR GC ["cell"] 1 G.iL):
  D_ P w K mg base 2 "reached" jS f ["free","start"] 2 G.gL:=by
 refine bF F DM rfl (by decide) fun nd u_ A outer s H E hr=>?_;exact (ar (aF (i:=2) nd rfl (Or.inl rfl) (AF (aJ hr) (cE<|pv 1) bG) (by decide)) (ar (aF (i:=3) nd rfl (Or.inl rfl) (bw (by exact (ag<|vv 1))) (by decide)) (ar (qL 1000000 YU (cu<|vv 3) (aC (dM (fx:=[0,1]) YU rfl (dN<|ab<|aI C5 hr rfl<|ag<|ab<|zK jj Ya PySem.F.slot_list_pop PySem.F.type_list_pop zL<|pv 3) (aR (i:=4) nd rfl (Or.inl rfl) (by decide)) (aC<|bU (VW.vt<|qC (bS (iq<|aJ hr) (vv 4) (vv 0) rfl)<|qB<|bS (ni<|aJ hr) (vv 4) (vv 2) rfl) (ar (dL bG<|ig (pv 2) (cE<|pv 4)<|kY<|aJ hr)<|aC<|kD<|kP jj Ya XR XQ kQ (pv 3)<|ag<|vv 4) bT) (by decide) zk))) (aC (aY (eM jg rfl T.E6 eg (ag (ab (bb (nz rfl<|aJ hr) (by rfl) T.FR oJ<|ag<|vv 2)))))))))
theorem DO:k_ Dr ["thing"] (aB jT):=⟨rfl,rfl,rfl,by decide +kernel,rfl,by decide +kernel,by decide +kernel⟩
theorem DP(F:Ga K mg "is_floor" jT f ["thing"])(T:Txt mg){e_:Addr}(C2:D_ P w K mg base 3 "is_cell" fo e_ ["thing"] 1 G.ff){Hk:Addr}(C3:D_ P w K mg base 4 "is_rising" gO Hk ["thing","is_kind"] 2 (G.jA e_)):
  D_ P w K mg base 5 "is_floor" jT f ["thing"] 1 (G.iH e_):=by
 refine bF F DO rfl (by decide) fun nd u_ A outer s H E hr=>?_;exact (aC (aY (aI C3 hr rfl (aj (vv 0) (by exact (ag<|ab<|zJ rfl C2.m))))))
theorem DQ:k_ Ds ["thing"] (aB jU):=⟨rfl,rfl,rfl,by decide +kernel,rfl,by decide +kernel,by decide +kernel⟩
theorem DR(F:Ga K mg "is_field" jU f ["thing"])(T:Txt mg){e_:Addr}(C2:D_ P w K mg base 3 "is_cell" fo e_ ["thing"] 1 G.ff){HD:Addr}(C7:D_ P w K mg base 5 "is_floor" jT HD ["thing"] 1 (G.iH e_)){Iv:Addr}(C6:D_ P w K mg base 2 "reached" jS Iv ["free","start"] 2 G.gL){GD:Addr}(C4:D_ P w K mg base 1 "lookup" iQ GD ["things"] 1 G.f7):
  D_ P w K mg base 6 "is_field" jU f ["thing"] 1 (G.ee e_):=by
 refine bF F DQ rfl (by decide) fun nd u_ A outer s H E hr=>?_;exact (ar (bU (VW.vt (eJ (eI<|cu<|ab<|aI C7 hr rfl<|ag<|vv 0) (fF (bS (dh<|aJ hr) (ab (bb dy (by rfl) T.Fq dE<|ag<|vv 0)) ai<|bn _)))) (aC<|aY bG) bT) (aC (aY (cn (dh<|aJ hr) (ab (bb dy (by rfl) T.Fq dE (ag (ab (aI C6 hr rfl (aj (ab<|aI C4 hr rfl<|ag<|vv 0) (by exact (ag<|ab<|aN hr (vv 0) ai)))))))) (ab (bb dy (by rfl) T.Fq dE<|ag<|vv 0))<|bn _))))
theorem DS:k_ oM ["field","thing"] (aB gP):=⟨rfl,rfl,rfl,by decide +kernel,rfl,by decide +kernel,by decide +kernel⟩
theorem DT(F:Ga K mg "is_walk" gP f ["field","thing"])(T:Txt mg){e_:Addr}(C2:D_ P w K mg base 3 "is_cell" fo e_ ["thing"] 1 G.ff){HE:Addr}(C8:D_ P w K mg base 6 "is_field" jU HE ["thing"] 1 (G.ee e_)){GD:Addr}(C4:D_ P w K mg base 1 "lookup" iQ GD ["things"] 1 G.f7){F8:Addr}(C1:D_ P w K mg base 2 "is_pair" iP F8 ["thing"] 1 G.fe){GC:Addr}(C5:D_ P w K mg base 1 "around" iR GC ["cell"] 1 G.iL):
  D_ P w K mg base 7 "is_walk" gP f ["field","thing"] 2 (G.fj e_):=by
 refine bF F DS rfl (by decide) fun nd u_ A outer s H E hr=>?_;exact (ar (bU (VW.vt (eJ (eI<|cu<|ab<|aI C8 hr rfl<|ag<|vv 0) (eJ (eI<|cu<|ab<|dP rfl T.m_ dU rfl T.E6 eg<|vv 1) (fF (bS (dh<|aJ hr) (ab (bb dy (by rfl) T.Fq dE<|ag<|vv 1)) ai<|bn _))))) (aC<|aY bG) bT) (ar (aF (i:=2) nd rfl (Or.inr rfl) (aI C4 hr rfl<|ag<|vv 0) (by decide)) (ar (bU (eI (cu (ab (bb (jh rfl) (by rfl) T.Hj jP (ag (ab (fP (own:=["cell"]) (caps:=[2]) rfl (du (aB gP) oM (by decide +kernel)) (by decide) (dN<|vv 1) (fun Y=>(aR (i:=0) (show (["cell","free"]:List Str).Nodup by decide +kernel) rfl (Or.inl rfl) (by decide))) (fun Y=>fO)<|fun Y=>(fG (cb<|aI C1 hr rfl<|ag<|vv 0)<|cb<|gu<|cn (iq<|aJ hr) (vv 0) (vv 1) rfl)))))))) (aC<|aY bG) bT) (aC (aY (bb (jh rfl) (by rfl) T.Hj jP (ag (ab (fP (own:=["ahead","behind"]) (caps:=[]) rfl (du (aB gP) oM (by decide +kernel)) (by decide) (re rfl T.HX (aj (vv 1) (by exact (ag<|ab<|di (vv 1) (c7 b9) dw)))) (fun Y=>(eS rfl (bW (aR (i:=0) (show (["ahead","behind"]:List Str).Nodup by decide +kernel) rfl (Or.inl rfl) (by decide)) (bW (aR (i:=1) (show (["ahead","behind"]:List Str).Nodup by decide +kernel) rfl (Or.inl rfl) (by decide)) eQ)))) (fun Y=>fO)<|fun Y=>(cn (iq<|aJ hr) (vv 1) (ab<|aI C5 hr rfl<|ag<|vv 0) rfl))))))))))
theorem DU:k_ oN ["walk"] (aB gQ):=⟨rfl,rfl,rfl,by decide +kernel,rfl,by decide +kernel,by decide +kernel⟩
theorem DV(F:Ga K mg "turns" gQ f ["walk"])(T:Txt mg):
  D_ P w K mg base 1 "turns" gQ f ["walk"] 1 G.fi:=by
 refine bF F DU rfl (by decide) fun nd u_ A outer s H E hr=>?_;exact (ar (kZ (i:=1) (own:=["ahead","behind"]) (caps:=[]) nd rfl (Or.inl rfl) rfl (du (aB gQ) oN (by decide +kernel)) (by decide) (rH rfl T.HX<|aj (vv 0)<|ag<|ab<|sx<|io<|di (vv 0) (c7 b9) dw) (fun Y=>(eS rfl (bW (aR (i:=0) (show (["ahead","behind"]:List Str).Nodup by decide +kernel) rfl (Or.inl rfl) (by decide)) (bW (aR (i:=1) (show (["ahead","behind"]:List Str).Nodup by decide +kernel) rfl (Or.inl rfl) (by decide)) eQ)))) (fun Y=>fO) (fun Y=>(aO (by exact (aj (ab<|aq bX (ab<|aN hr (vv 1) ai)<|ab<|aN hr (vv 0) ai) (by exact (ag<|ab<|aq bX (ab<|aN hr (vv 1) ai)<|ab<|aN hr (vv 0) ai)))))) (by decide)) (aC (aY (bb (AJ rfl) (by rfl) T.M1 Di (ag (ab (fP (own:=["ahead","behind"]) (caps:=[]) rfl (du (aB gQ) oN (by decide +kernel)) (by decide) (rH rfl T.HX<|aj (vv 1)<|ag<|ab<|sx<|io<|di (vv 1) (c7 b9) dw) (fun Y=>(eS rfl (bW (aR (i:=0) (show (["ahead","behind"]:List Str).Nodup by decide +kernel) rfl (Or.inl rfl) (by decide)) (bW (aR (i:=1) (show (["ahead","behind"]:List Str).Nodup by decide +kernel) rfl (Or.inl rfl) (by decide)) eQ)))) (fun Y=>(kF<|bS (gy<|aJ hr) (vv 0) (vv 1)<|bn _))<|fun Y=>b9)))))))
theorem DW:k_ Dt ["_law_script","_law_k"] (aB jV):=⟨rfl,rfl,rfl,by decide +kernel,rfl,by decide +kernel,by decide +kernel⟩
theorem DX(F:Ga K mg "_law_hand" jV f ["_law_script","_law_k"])(T:Txt mg):
  D_ P w K mg base 1 "_law_hand" jV f ["_law_script","_law_k"] 2 G.jt:=by
 refine bF F DW rfl (by decide) fun nd u_ A outer s H E hr=>?_;exact (ar (aF (i:=2) nd rfl (Or.inl rfl) b9 (by decide)) (ar (bU (bS zp (vv 1) (ab (bb dy (by rfl) T.Fq dE<|ag<|vv 0))<|bn _) (aC (aF (i:=2) nd rfl (Or.inl rfl) (aN hr (vv 0)<|vv 1) (by decide))) bT) (ar (aF (i:=3) nd rfl (Or.inl rfl) (aq cU (ab<|aq cU (ab<|aq kK ai ai)<|ab<|aq kK ai ai)<|ab<|aq kK ai ai) (by decide)) (ar (aF (i:=4) nd rfl (Or.inl rfl) (aq cU (ab<|aq eT (vv 2)<|vv 3)<|ab<|eM mS rfl T.HV lR<|ag<|ab<|cn zq (vv 2) (ab<|aq kK ai ai)<|bn _) (by decide)) (aC (aY (bw (by exact (aj (vv 4) (by exact (aj (ab<|aq aK (ab<|aq aK (ab<|aq eT (vv 2) ai)<|ab<|aq cU ai<|vv 1) ai) (by exact (ag ai)))))))))))))
theorem DY:k_ Du ["_law_hand_here","_law_many"] (aB fq):=⟨rfl,rfl,rfl,by decide +kernel,rfl,by decide +kernel,by decide +kernel⟩
theorem DZ(F:Ga K mg "_law_take" fq f ["_law_hand_here","_law_many"])(T:Txt mg):
  D_ P w K mg base 1 "_law_take" fq f ["_law_hand_here","_law_many"] 2 G.br:=by
 refine bF F DY rfl (by decide) fun nd u_ A outer s H E hr=>?_;exact (ar (bU (bS qV (ab<|aN hr (vv 0) ai) ai<|bn _) (ar (aF (i:=2) nd rfl (Or.inl rfl) (aq eT (ab<|aN hr (vv 0) ai)<|vv 1) (by decide))<|ar (dL (aq kJ (ab<|aN hr (vv 0) ai)<|vv 1)<|ig (pv 0) b9<|rm<|aJ hr)<|aC<|aY<|cE<|pv 2) bT) (ar (dL (aq aK (ab<|aN hr (vv 0) ai) ai)<|ig (pv 0) b9<|rm<|aJ hr) (ar (aF (i:=3) nd rfl (Or.inl rfl) (aN hr (vv 0) ai) (by decide)) (ar (aF (i:=4) nd rfl (Or.inl rfl) (aq eT (ab<|aq cU (ab<|aN hr (vv 0) ai)<|ab<|aq aK (ab<|aq aK ai<|ab<|aq cU (ab<|aq cU ai<|vv 3)<|vv 3)<|ab<|aq cU ai<|vv 3) ai) (by decide)) (ar (aF (i:=5) nd rfl (Or.inl rfl) (aq aK (ab<|aq aK (ab<|aq eT (vv 4) ai)<|ab<|aq cU (vv 3) ai) ai) (by decide)) (ar (aF (i:=4) nd rfl (Or.inl rfl) (aq eT (ab<|aq cU (vv 4)<|vv 5) ai) (by decide))<|aC<|aY<|aq eT (ab<|aq aK (ab<|aq kJ (vv 4) ai)<|ab<|aq kJ (vv 4) ai)<|vv 1))))))
theorem D6:k_ Dv ["_law_hand_here","_law_some"] (aB f8):=⟨rfl,rfl,rfl,by decide +kernel,rfl,by decide +kernel,by decide +kernel⟩
theorem D7(F:Ga K mg "_law_of" f8 f ["_law_hand_here","_law_some"])(T:Txt mg){E5:Addr}(HY:D_ P w K mg base 1 "_law_take" fq E5 ["_law_hand_here","_law_many"] 2 G.br):
  D_ P w K mg base 2 "_law_of" f8 f ["_law_hand_here","_law_some"] 2 G.bO:=by
 refine bF F D6 rfl (by decide) fun nd u_ A outer s H E hr=>?_;exact (aC (aY (aN hr (vv 1) (ab (aI HY hr rfl (aj (vv 0) (by exact (ag (ab (bb dy (by rfl) T.Fq dE<|ag<|vv 1))))))))))
theorem D8:k_ Dw ["_law_hand_here"] (aB jW):=⟨rfl,rfl,rfl,by decide +kernel,rfl,by decide +kernel,by decide +kernel⟩
theorem D9(F:Ga K mg "_law_floor" jW f ["_law_hand_here"])(T:Txt mg){E5:Addr}(HY:D_ P w K mg base 1 "_law_take" fq E5 ["_law_hand_here","_law_many"] 2 G.br){FL:Addr}(IJ:D_ P w K mg base 2 "_law_of" f8 FL ["_law_hand_here","_law_some"] 2 G.bO):
  D_ P w K mg base 3 "_law_floor" jW f ["_law_hand_here"] 1 G.jC:=by
 refine bF F D8 rfl (by decide) fun nd u_ A outer s H E hr=>?_;exact (ar (aF (i:=1) nd rfl (Or.inl rfl) b9 (by decide)) (ar (bU (bS (dh<|aJ hr) (ab (aI HY hr rfl (aj (vv 0) (by exact (ag ai))))) ai<|bn _) (aC (aF (i:=1) nd rfl (Or.inl rfl) b9 (by decide))) bT) (ar (mK (i:=2) (j:=3) rfl nd rfl rfl (by decide) rfl rfl (aj (ab (aq aK ai (ab (aI HY hr rfl (aj (vv 0) (by exact (ag<|vv 1))))))) (by exact (ag (ab (aq aK ai (ab (aI HY hr rfl (aj (vv 0) (by exact (ag<|vv 1)))))))))) (by decide) (by decide) rfl) (ar (mK (i:=4) (j:=5) rfl nd rfl rfl (by decide) rfl rfl (aj (ab (aI IJ hr rfl (aj (vv 0) (by exact (ag (ab (bw (by exact (aj ai (by exact (aj ai (by exact (aj ai (by exact (ag<|ab<|aq bX ai<|vv 2))))))))))))))) (by exact (ag (ab (aI IJ hr rfl (aj (vv 0) (by exact (ag (ab (bw (by exact (aj ai (by exact (aj ai (by exact (aj ai (by exact (ag<|ab<|aq bX ai<|vv 3)))))))))))))))))) (by decide) (by decide) rfl) (ar (aF (i:=6) nd rfl (Or.inl rfl) (aI HY hr rfl (aj (vv 0) (by exact (ag ai)))) (by decide)) (ar (aF (i:=7) nd rfl (Or.inl rfl) nh (by decide)) (ar (dM (fx:=[0]) YU rfl (gx rfl T.Fe<|ag<|vv 2) (aR (i:=8) nd rfl (Or.inl rfl) (by decide)) (aC (dM (fx:=[0]) YU rfl (gx rfl T.Fe<|ag<|vv 3) (aR (i:=9) nd rfl (Or.inl rfl) (by decide)) (ar (aF (i:=10) nd rfl (Or.inl rfl) (bw (by exact (aj (ab (cn (dh<|aJ hr) (ab (aI HY hr rfl (aj (vv 0) (by exact (ag ai))))) ai<|bn _)) (by exact (aj (ab (cn qV (ab (aI HY hr rfl (aj (vv 0) (by exact (ag ai))))) ai<|bn _)) (by exact (ag<|ab bG))))))) (by decide)) (ar (kD<|kP jj Ya XR XQ kQ (pv 10)<|ag<|ab<|qD (cb<|cn (dh<|aJ hr) (ab<|aq eT (vv 8) ai) ai<|bn _)<|cb<|gu<|cn (dh<|aJ hr) (vv 9) (ab<|aq eT (ab<|aq kJ (vv 8) ai)<|vv 3)<|bn _) (ar (aF (i:=10) nd rfl (Or.inl rfl) (aq aK (vv 10) (ab (bw (by exact (aj (ab (qD (cb (cn (iq<|aJ hr) (vv 8) (ab (aO (by exact (aj ai (by exact (ag<|ab<|aq bX (vv 2) ai)))))) rfl)) (cb (gu (cn (iq<|aJ hr) (vv 9) (ab (aO (by exact (aj ai (by exact (ag<|ab<|aq bX (vv 3) ai)))))) rfl))))) (by exact (ag<|ab bG))))))) (by decide)) (aC (bU (cu<|ab<|aN hr (vv 10)<|vv 6) (aC (dL bG (ig (pv 7) (aO (by exact (aj (ab<|aq aK (vv 8)<|vv 4) (by exact (ag<|ab<|aq aK (vv 9)<|vv 5)))))<|kY<|aJ hr))) bT))))) (by decide) hV)) (by decide) hV) (ar (dL (aO (by exact (aj ai (by exact (ag ai))))) (eS rfl (bW (aR (i:=8) nd rfl (Or.inl rfl) (by decide)) (bW (aR (i:=9) nd rfl (Or.inl rfl) (by decide)) eQ)))) (ar (dM (fx:=[0]) YU rfl (gx rfl T.Fe<|ag<|ab<|aq cU ai<|ab<|eM mS rfl T.HV lR<|ag<|ab<|cn (dh<|aJ hr) (vv 6) ai<|bn _) (aR (i:=11) nd rfl (Or.inl rfl) (by decide)) (ar (dL bG (ig (pv 7) (aO (by exact (aj (ab<|aq aK (vv 8)<|vv 4) (by exact (ag<|ab<|aq aK (vv 9)<|vv 5)))))<|kY<|aJ hr)) (ar (dL (aI IJ hr rfl (aj (vv 0) (by exact (ag (ab (bw (by exact (aj (ab (aO (by exact (aj ai (by exact (ag ai)))))) (by exact (aj (ab (aO (by exact (aj ai (by exact (ag ai)))))) (by exact (aj (ab (aO (by exact (aj ai (by exact (ag ai)))))) (by exact (aj (ab (aO (by exact (aj (ab<|ie b9) (by exact (ag ai)))))) (by exact (aj (ab (aO (by exact (aj ai (by exact (ag<|ab<|ie b9)))))) (by exact (ag (ab (aO (by exact (aj ai (by exact (ag ai)))))))))))))))))))))))) (eS rfl (bW (aR (i:=12) nd rfl (Or.inl rfl) (by decide)) (bW (aR (i:=13) nd rfl (Or.inl rfl) (by decide)) eQ)))) (ar (aF (i:=8) nd rfl (Or.inl rfl) (bb (mT rfl) (by rfl) T.Jl oI (aj (ab<|aq bX (vv 2) ai) (by exact (ag (ab (bb (kN rfl) (by rfl) T.HW lS (aj ai (by exact (ag<|ab<|aq aK (vv 8)<|vv 12))))))))) (by decide)) (aC (aF (i:=9) nd rfl (Or.inl rfl) (bb (mT rfl) (by rfl) T.Jl oI (aj (ab<|aq bX (vv 3) ai) (by exact (ag (ab (bb (kN rfl) (by rfl) T.HW lS (aj ai (by exact (ag<|ab<|aq aK (vv 9)<|vv 13))))))))) (by decide)))))) (by decide) hV) (aC (aY (eM jg rfl T.E6 eg (ag (ab (bb (nz rfl<|aJ hr) (by rfl) T.FR oJ<|ag<|vv 7)))))))))))))))
theorem Ea:k_ Dx ["_law_one","_law_other"] (aB gR):=⟨rfl,rfl,rfl,by decide +kernel,rfl,by decide +kernel,by decide +kernel⟩
theorem Eb(F:Ga K mg "_law_are_beside" gR f ["_law_one","_law_other"])(T:Txt mg):
  D_ P w K mg base 1 "_law_are_beside" gR f ["_law_one","_law_other"] 2 G.fg:=by
 refine bF F Ea rfl (by decide) fun nd u_ A outer s H E hr=>?_;exact (aC (aY (cn (dh<|aJ hr) (ab (aq aK (ab (bb qY (by rfl) T.Ky vb<|ag<|ab<|aq bX (ab<|aN hr (vv 0) ai)<|ab<|aN hr (vv 1) ai)) (ab (bb qY (by rfl) T.Ky vb<|ag<|ab<|aq bX (ab<|aN hr (vv 0) ai)<|ab<|aN hr (vv 1) ai)))) ai<|bn _)))
theorem Ec:k_ lT ["_law_floor_here","_law_cell"] (aB f9):=⟨rfl,rfl,rfl,by decide +kernel,rfl,by decide +kernel,by decide +kernel⟩
theorem Ed(F:Ga K mg "_law_part" f9 f ["_law_floor_here","_law_cell"])(T:Txt mg){C_:Addr}(M2:D_ P w K mg base 1 "_law_are_beside" gR C_ ["_law_one","_law_other"] 2 G.fg):
  D_ P w K mg base 2 "_law_part" f9 f ["_law_floor_here","_law_cell"] 2 G.jG:=by
 refine bF F Ec rfl (by decide) fun nd u_ A outer s H E hr=>?_;exact (ar (mK (i:=2) (j:=3) rfl nd rfl rfl (by decide) rfl rfl (aj (ab (bw (by exact (ag<|vv 1)))) (by exact (ag (ab (bw (by exact (ag<|vv 1))))))) (by decide) (by decide) rfl) (ar (kZ (i:=4) (own:=["_law_one"]) (caps:=[1]) nd rfl (Or.inl rfl) rfl (du (aB f9) lT (by decide +kernel)) (by decide) (dN<|vv 0) (fun Y=>(aR (i:=0) (show (["_law_one","_law_cell"]:List Str).Nodup by decide +kernel) rfl (Or.inl rfl) (by decide))) (fun Y=>(kF<|bS (gy<|aJ hr) (vv 0) (vv 1)<|bn _)) (fun Y=>(cE<|pv 0)) (by decide)) (ar (qL 1000000 YU (bS (gy<|aJ hr) (vv 3) (ab (bw (by exact fH)))<|bn _) (ar (aF (i:=5) nd rfl (Or.inr rfl) (bw (by exact fH)) (by decide)) (ar (dM (fx:=[4,0,1]) YU rfl (dN<|vv 4) (aR (i:=6) nd rfl (Or.inr rfl) (by decide)) (aC (bU (cu (ab (bb (qZ rfl) (by rfl) T.Kz vc (ag (ab (fP (own:=["_law_other"]) (caps:=[6]) rfl (du (aB f9) lT (by decide +kernel)) (by decide) (dN<|vv 3) (fun Y=>(aR (i:=0) (show (["_law_other","_law_one"]:List Str).Nodup by decide +kernel) rfl (Or.inl rfl) (by decide))) (fun Y=>fO) (fun Y=>(aI M2 hr rfl (aj (vv 1) (by exact (ag<|vv 0))))))))))) (aC<|kD<|kP jj Ya XR XQ kQ (pv 5)<|ag<|vv 6) bT)) (by decide) (mM (by decide))) (ar (aF (i:=2) nd rfl (Or.inl rfl) (aq aK (vv 2)<|vv 5) (by decide)) (ar (kZ (i:=4) (own:=["_law_one"]) (caps:=[5]) nd rfl (Or.inl rfl) rfl (du (aB f9) lT (by decide +kernel)) (by decide) (dN<|vv 4) (fun Y=>(aR (i:=0) (show (["_law_one","_law_more"]:List Str).Nodup by decide +kernel) rfl (Or.inl rfl) (by decide))) (fun Y=>(kF<|bS (ni<|aJ hr) (vv 0) (vv 1) rfl)) (fun Y=>(cE<|pv 0)) (by decide)) (aC (aF (i:=3) nd rfl (Or.inl rfl) (cE<|pv 5) (by decide)))))))) (aC (aY (eM jg rfl T.E6 eg (ag (ab (bb (nz rfl<|aJ hr) (by rfl) T.FR oJ<|ag<|vv 2)))))))))
theorem Ee:k_ vd ["_law_hand_here","_law_field","_law_many"] (aB iS):=⟨rfl,rfl,rfl,by decide +kernel,rfl,by decide +kernel,by decide +kernel⟩
theorem Ef(F:Ga K mg "_law_walk" iS f ["_law_hand_here","_law_field","_law_many"])(T:Txt mg){FL:Addr}(IJ:D_ P w K mg base 2 "_law_of" f8 FL ["_law_hand_here","_law_some"] 2 G.bO){C_:Addr}(M2:D_ P w K mg base 1 "_law_are_beside" gR C_ ["_law_one","_law_other"] 2 G.fg){E5:Addr}(HY:D_ P w K mg base 1 "_law_take" fq E5 ["_law_hand_here","_law_many"] 2 G.br):
  D_ P w K mg base 3 "_law_walk" iS f ["_law_hand_here","_law_field","_law_many"] 3 G.jK:=by
 refine bF F Ee rfl (by decide) fun nd u_ A outer s H E hr=>?_;exact (ar (aF (i:=3) nd rfl (Or.inr rfl) (bw (by exact (ag (ab (aI IJ hr rfl (aj (vv 0) (by exact (ag<|vv 1)))))))) (by decide)) (ar (dM (fx:=[0,1,2]) YU rfl (gx rfl T.Fe<|ag<|vv 2) (aR (i:=4) nd rfl (Or.inl rfl) (by decide)) (ar (kZ (i:=5) (own:=["_law_one"]) (caps:=[3]) nd rfl (Or.inl rfl) rfl (du (aB iS) vd (by decide +kernel)) (by decide) (dN<|vv 1) (fun Y=>(aR (i:=0) (show (["_law_one","_law_walk_here"]:List Str).Nodup by decide +kernel) rfl (Or.inl rfl) (by decide))) (fun Y=>(kF (cu (ab (aI M2 hr rfl (aj (vv 0) (by exact (ag<|ab<|aN hr (vv 1)<|ab<|ie b9)))))))) (fun Y=>(cE<|pv 0)) (by decide)) (ar (dL (aN hr (vv 3) (ab (bb (kN rfl) (by rfl) T.HW lS (aj ai (by exact (ag (ab (aq bX (ab (bb dy (by rfl) T.Fq dE<|ag<|vv 3)) ai)))))))) (eS rfl (bW (aR (i:=6) nd rfl (Or.inl rfl) (by decide)) (bW (aR (i:=7) nd rfl (Or.inl rfl) (by decide)) eQ)))) (ar (aF (i:=8) nd rfl (Or.inl rfl) (aO (by exact (aj (ab<|aq bX (ab<|aq cU ai<|ab<|aN hr (ab<|aN hr (vv 3)<|ab<|ie b9) ai)<|vv 6) (by exact (ag<|ab<|aq bX (ab<|aq cU ai<|ab<|aN hr (ab<|aN hr (vv 3)<|ab<|ie b9) ai)<|vv 7))))) (by decide)) (ar (bU (VW.vt (qC (bS (iq<|aJ hr) (vv 8) (vv 5) rfl) (qB (bS (dh<|aJ hr) (ab (aI HY hr rfl (aj (vv 0) (by exact (ag ai))))) ai<|bn _)))) (aC (aF (i:=5) nd rfl (Or.inl rfl) (bw (by exact (ag<|vv 8))) (by decide))) bT) (aC (bU (bS (gy<|aJ hr) (vv 5) (ab (bw (by exact fH)))<|bn _) (aC (kD (kP jj Ya XR XQ kQ (pv 3) (ag (ab (aI IJ hr rfl (aj (vv 0) (by exact (ag<|vv 5))))))))) bT)))))) (by decide) hV)<|aC<|aY<|eM jg rfl T.E6 eg<|ag<|vv 3))
theorem Eg:k_ ve ["_law_field","_law_thing"] (aB iT):=⟨rfl,rfl,rfl,by decide +kernel,rfl,by decide +kernel,by decide +kernel⟩
theorem Eh(F:Ga K mg "_law_due" iT f ["_law_field","_law_thing"])(T:Txt mg){C_:Addr}(M2:D_ P w K mg base 1 "_law_are_beside" gR C_ ["_law_one","_law_other"] 2 G.fg):
  D_ P w K mg base 2 "_law_due" iT f ["_law_field","_law_thing"] 2 G.jL:=by
 refine bF F Eg rfl (by decide) fun nd u_ A outer s H E hr=>?_;exact (ar (bU (VW.vt (eJ (eI<|cu<|ab<|dP rfl T.m_ dU rfl T.E6 eg<|vv 1) (fF (bS (Cv<|aJ hr) (vv 1) (ab (aO (by exact fH)))<|bn _)))) (aC<|aY bG) bT) (ar (dM (fx:=[0,1]) YU rfl (dN<|vv 1) (aR (i:=2) nd rfl (Or.inl rfl) (by decide)) (ar (bU (VW.vt<|eJ (eI<|cu<|ab<|dP rfl T.m_ dU rfl T.E6 eg<|vv 2)<|fF<|bS (ni<|aJ hr) (vv 2) (vv 0) rfl) (aC<|aY bG) bT)<|aC<|bU (VW.vt<|eJ (cu<|ab<|dP rfl T.m_ dU rfl T.GA jQ<|ab<|aN hr (vv 2) ai)<|fF<|cu<|ab<|dP rfl T.m_ dU rfl T.GA jQ<|ab<|aN hr (vv 2) ai) (aC<|aY bG) bT) (by decide) (mM (by decide))) (aC (aY (bb (jh rfl) (by rfl) T.Hj jP (ag (ab (fP (own:=["_law_k"]) (caps:=[1]) rfl (du (aB iT) ve (by decide +kernel)) (by decide) (gx rfl T.Fe (ag (ab (aq bX (ab (bb dy (by rfl) T.Fq dE<|ag<|vv 1)) ai)))) (fun Y=>(aR (i:=0) (show (["_law_k","_law_thing"]:List Str).Nodup by decide +kernel) rfl (Or.inl rfl) (by decide))) (fun Y=>fO) (fun Y=>(aI M2 hr rfl (aj (ab<|aN hr (vv 1)<|vv 0) (by exact (ag<|ab<|aN hr (vv 1)<|ab<|aq aK (vv 0) ai)))))))))))))
theorem Ei:k_ Dy ["_law_walk_here"] (aB jX):=⟨rfl,rfl,rfl,by decide +kernel,rfl,by decide +kernel,by decide +kernel⟩
theorem Ej(F:Ga K mg "_law_turns" jX f ["_law_walk_here"])(T:Txt mg):
  D_ P w K mg base 1 "_law_turns" jX f ["_law_walk_here"] 1 G.gM:=by
 refine bF F Ei rfl (by decide) fun nd u_ A outer s H E hr=>?_;exact (ar (aF (i:=1) nd rfl (Or.inl rfl) b9 (by decide)) (ar (dM (fx:=[0]) YU rfl (zl rfl T.Fe (aj ai (by exact (ag (ab (bb dy (by rfl) T.Fq dE<|ag<|vv 0)))))) (aR (i:=2) nd rfl (Or.inl rfl) (by decide)) (ar (dL (di (vv 0) (c7<|aq bX (vv 2) ai)<|c7<|aq aK (vv 2) ai) (eS rfl (bW (aR (i:=3) nd rfl (Or.inl rfl) (by decide)) (bW (aR (i:=4) nd rfl (Or.inl rfl) (by decide)) (bW (aR (i:=5) nd rfl (Or.inl rfl) (by decide)) eQ))))) (ar (aF (i:=6) nd rfl (Or.inl rfl) (aO (by exact (aj (ab<|aq bX (ab<|aq cU ai<|ab<|aN hr (vv 4) ai)<|ab<|aN hr (vv 3) ai) (by exact (ag<|ab<|aq bX (ab<|aq cU ai<|ab<|aN hr (vv 4) ai)<|ab<|aN hr (vv 3) ai))))) (by decide)) (aC (aF (i:=1) nd rfl (Or.inl rfl) (aq aK (vv 1)<|ab<|eM mS rfl T.HV lR<|ag<|ab<|cn (gy<|aJ hr) (vv 5) (vv 6)<|bn _) (by decide))))) (by decide) zm)<|aC<|aY<|cE<|pv 1))
theorem Ek:k_ Dz ["_law_hand_here","_law_field","_law_walk_here"] (aB jY):=⟨rfl,rfl,rfl,by decide +kernel,rfl,by decide +kernel,by decide +kernel⟩
theorem El(F:Ga K mg "_law_spoilt" jY f ["_law_hand_here","_law_field","_law_walk_here"])(T:Txt mg){E5:Addr}(HY:D_ P w K mg base 1 "_law_take" fq E5 ["_law_hand_here","_law_many"] 2 G.br){FL:Addr}(IJ:D_ P w K mg base 2 "_law_of" f8 FL ["_law_hand_here","_law_some"] 2 G.bO):
  D_ P w K mg base 3 "_law_spoilt" jY f ["_law_hand_here","_law_field","_law_walk_here"] 3 G.jM:=by
 refine bF F Ek rfl (by decide) fun nd u_ A outer s H E hr=>?_;exact (ar (aF (i:=3) nd rfl (Or.inl rfl) (aI HY hr rfl (aj (vv 0) (by exact (ag (ab (bb dy (by rfl) T.Fq dE<|ag<|vv 2)))))) (by decide)) (ar (dL (aN hr (vv 2)<|vv 3) (eS rfl (bW (aR (i:=4) nd rfl (Or.inl rfl) (by decide)) (bW (aR (i:=5) nd rfl (Or.inl rfl) (by decide)) eQ)))) (ar (aF (i:=6) nd rfl (Or.inl rfl) (bw (by exact (aj (ab (aI IJ hr rfl (aj (vv 0) (by exact (ag<|vv 1))))) (by exact (aj (ab (aO (by exact (aj (vv 4) (by exact (ag<|ab<|aq aK (vv 5) ai)))))) (by exact (ag (ab (io (bw (by exact (aj (vv 4) (by exact (ag<|vv 5)))))))))))))) (by decide)) (ar (aF (i:=6) nd rfl (Or.inl rfl) (aq aK (vv 6) (ab (bw (by exact (aj (ab (aO (by exact (aj (vv 4) (by exact (aj (vv 5) (by exact (ag ai)))))))) (by exact (aj (ab qw) (by exact (aj (ab (aO (by exact (aj (ab bG) (by exact (ag<|vv 5)))))) (by exact (aj (ab (aO (by exact (ag<|vv 4)))) (by exact (ag ai))))))))))))) (by decide)) (ar (aF (i:=7) nd rfl (Or.inl rfl) (aI IJ hr rfl (aj (vv 0) (by exact (ag<|vv 6)))) (by decide)) (ar (aF (i:=8) nd rfl (Or.inl rfl) (bw (by exact (ag (ab (aq aK (ab (aq aK (ab<|di (vv 2) dw<|c7<|cE<|pv 3) (ab (aO (by exact (ag<|vv 7))))))<|ab<|di (vv 2) (c7<|aq aK (vv 3) ai) dw))))) (by decide)) (ar (aF (i:=8) nd rfl (Or.inl rfl) (aq aK (vv 8) (ab (bw (by exact (ag (ab (aq aK (ab (aq aK (ab<|di (vv 2) dw<|c7<|cE<|pv 3) (ab (aO (by exact (ag<|vv 7))))))<|ab<|di (vv 2) (c7<|cE<|pv 3) dw))))))) (by decide)) (ar (aF (i:=8) nd rfl (Or.inl rfl) (aq aK (vv 8) (ab (bw (by exact (aj (ab<|aq aK (ab<|di (vv 2) dw<|c7<|cE<|pv 3)<|ab<|di (vv 2) (c7<|aq aK (vv 3) ai) dw) (by exact (ag<|ab<|io<|eM zF rfl T.Lo Dh<|ag<|vv 2))))))) (by decide)) (ar (aF (i:=8) nd rfl (Or.inl rfl) (aq aK (vv 8) (ab (bw (by exact (aj (ab<|Au (vv 2)<|ie b9) (by exact (aj (ab<|aq aK (vv 2)<|vv 2) (by exact (aj (ab (aO (by exact (ag<|vv 2)))) (by exact (ag<|ab<|di (vv 2) (c7<|cE<|pv 3) dw))))))))))) (by decide)) (ar (aF (i:=8) nd rfl (Or.inl rfl) (aq aK (vv 8) (ab (bw (by exact (ag<|ab<|di (vv 2) dw<|c7<|cE<|pv 3))))) (by decide)) (aC (aY (aI IJ hr rfl (aj (vv 0) (by exact (ag<|vv 8))))))))))))))))
theorem Em:k_ vf ["_law_script"] (aB jZ):=⟨rfl,rfl,rfl,by decide +kernel,rfl,by decide +kernel,by decide +kernel⟩
theorem En(F:Ga K mg "law" jZ f ["_law_script"])(T:Txt mg){e_:Addr}(C2:D_ P w K mg base 3 "is_cell" fo e_ ["thing"] 1 G.ff){Jm:Addr}(Td:D_ P w K mg base 1 "_law_hand" jV Jm ["_law_script","_law_k"] 2 G.jt){Iw:Addr}(Te:D_ P w K mg base 3 "_law_floor" jW Iw ["_law_hand_here"] 1 G.jC){Jn:Addr}(Tf:D_ P w K mg base 2 "_law_part" f9 Jn ["_law_floor_here","_law_cell"] 2 G.jG){FL:Addr}(IJ:D_ P w K mg base 2 "_law_of" f8 FL ["_law_hand_here","_law_some"] 2 G.bO){Jo:Addr}(Tg:D_ P w K mg base 3 "_law_walk" iS Jo ["_law_hand_here","_law_field","_law_many"] 3 G.jK){E5:Addr}(HY:D_ P w K mg base 1 "_law_take" fq E5 ["_law_hand_here","_law_many"] 2 G.br){J9:Addr}(Pu:D_ P w K mg base 1 "turns" gQ J9 ["walk"] 1 G.fi){Ix:Addr}(C9:D_ P w K mg base 7 "is_walk" gP Ix ["field","thing"] 2 (G.fj e_)){Iy:Addr}(Th:D_ P w K mg base 1 "_law_turns" jX Iy ["_law_walk_here"] 1 G.gM){HF:Addr}(Ti:D_ P w K mg base 3 "_law_spoilt" jY HF ["_law_hand_here","_law_field","_law_walk_here"] 3 G.jM){J_:Addr}(Tj:D_ P w K mg base 2 "_law_due" iT J_ ["_law_field","_law_thing"] 2 G.jL):
  D_ P w K mg base 8 "law" jZ f ["_law_script"] 1 (G.jN e_):=by
 refine bF F Em rfl (by decide) fun nd u_ A outer s H E hr=>?_;exact (ar (dM (fx:=[0]) YU rfl (gx rfl T.Fe (ag (ab (bb (kN rfl) (by rfl) T.HW lS (aj ai (by exact (ag (ab (bb (mT rfl) (by rfl) T.Jl oI (aj ai (by exact (ag (ab (bb dy (by rfl) T.Fq dE<|ag<|vv 0)))))))))))))) (aR (i:=1) nd rfl (Or.inl rfl) (by decide)) (ar (aF (i:=2) nd rfl (Or.inl rfl) (aI Td hr rfl (aj (vv 0) (by exact (ag<|vv 1)))) (by decide)) (ar (aF (i:=3) nd rfl (Or.inl rfl) (aq aK (ab<|aI Te hr rfl<|ag<|vv 2) (ab (aO (by exact (ag (ab (aO (by exact (aj ai (by exact (ag ai))))))))))) (by decide)) (ar (aF (i:=3) nd rfl (Or.inl rfl) (eM jg rfl T.E6 eg<|ag<|ab<|BS (Dj hr) rfl T.FR rfl T.M0<|ag<|vv 3) (by decide)) (ar (aF (i:=4) nd rfl (Or.inr rfl) (aI Tf hr rfl (aj (vv 3) (by exact (ag (ab (aI IJ hr rfl (aj (vv 2) (by exact (ag<|vv 3))))))))) (by decide)) (ar (aF (i:=5) nd rfl (Or.inl rfl) (aI Tg hr rfl (aj (vv 2) (by exact (aj (vv 4) (by exact (ag (ab (aI HY hr rfl (aj (vv 2) (by exact (ag ai))))))))))) (by decide)) (ar (aF (i:=6) nd rfl (Or.inl rfl) (aI Pu hr rfl<|ag<|vv 5) (by decide)) (ar (bU (VW.vt (eJ (bS zx (ab (aI C9 hr rfl (aj (vv 4) (by exact (ag<|vv 5))))) (ab bG)<|bn _)<|fF<|cu<|ab<|dP rfl T.m_ dU rfl T.GA jQ<|vv 6)) (aC<|aY bG) bT) (ar (bU (bS (gy<|aJ hr) (vv 6) (ab<|aI Th hr rfl<|ag<|vv 5)<|bn _) (aC<|aY bG) bT) (ar (dM (fx:=[0]) YU rfl (gx rfl T.Fe<|ag ai) (aR (i:=7) nd rfl (Or.inl rfl) (by decide)) (ar (aF (i:=8) nd rfl (Or.inl rfl) (aI Ti hr rfl (aj (vv 2) (by exact (aj (vv 4) (by exact (ag<|vv 5)))))) (by decide)) (ar (aF (i:=9) nd rfl (Or.inl rfl) (aI C9 hr rfl (aj (vv 4) (by exact (ag<|vv 8)))) (by decide)) (aC (bU (VW.vt (eJ (eI<|cu<|ab<|dP rfl T.m_ dU rfl T.GA jQ<|vv 9) (fF (bS (gy<|aJ hr) (vv 9) (ab (aI Tj hr rfl (aj (vv 4) (by exact (ag<|vv 8)))))<|bn _)))) (aC<|aY bG) bT)))) (by decide) hV) (ar (aF (i:=10) nd rfl (Or.inl rfl) (bw (by exact (aj (ab qw) (by exact (aj (ab bG) (by exact (aj ai (by exact (aj (ab qx) (by exact (aj (ab (aO (by exact fH))) (by exact (aj (ab (io (bw (by exact fH)))) (by exact (aj (ab<|io nh) (by exact (aj (ab (aO (by exact (aj ai (by exact (ag ai)))))) (by exact (aj (ab (aO (by exact (ag (ab (aO (by exact fH))))))) (by exact (ag<|ab qx))))))))))))))))))))) (by decide)) (aC (bU (cu (ab (bb (qZ rfl) (by rfl) T.Kz vc (ag (ab (fP (own:=["_law_thing"]) (caps:=[4]) rfl (du (aB jZ) vf (by decide +kernel)) (by decide) (dN<|vv 10) (fun Y=>(aR (i:=0) (show (["_law_thing","_law_field"]:List Str).Nodup by decide +kernel) rfl (Or.inl rfl) (by decide))) (fun Y=>fO) (fun Y=>(aI C9 hr rfl (aj (vv 1) (by exact (ag<|vv 0))))))))))) (aC<|aY bG) bT)))))))))))) (by decide) hV) (aC (aY (fG (cb (cn (dh<|aJ hr) (ab (aI Pu hr rfl (ag (ab (aO (by exact (aj (ab (aO (by exact (aj ai (by exact (ag ai)))))) (by exact (aj (ab (aO (by exact (aj ai (by exact (ag ai)))))) (by exact (ag (ab (aO (by exact (aj ai (by exact (ag ai))))))))))))))))) ai<|bn _)) (cb (gu (cn (dh<|aJ hr) (ab (aI Pu hr rfl (ag (ab (aO (by exact (ag (ab (aO (by exact (aj ai (by exact (ag ai))))))))))))) ai<|bn _)))))))
end
theorem all_mk{w:World}{K:PySem.W.Frag}{h:Heap}{mg:Str->Option Value}{fa Pv Pw Px Py Pz PB PC PD PF M3 M4 M5 M6 M7 M8 M9 M' M_ Na Nb Nc:Addr}(X:K.In h)(Gg:h.Ns mainGlobals mg)(Pt:mg "law" = some (.ref fa)){GE:Tok}(r_w0:Raw K "is_whole" jR Pv)(r_w1:Raw K "is_pair" iP Pw)(r_w2:Raw K "is_cell" fo Jk)(r_w3:Raw K "is_rising" gO Px)(r_w4:Raw K "lookup" iQ Py)(r_w5:Raw K "around" iR Pz)(r_w6:Raw K "reached" jS PB)(r_w7:Raw K "is_floor" jT PC)(r_w8:Raw K "is_field" jU PD)(r_w9:Raw K "is_walk" gP PF)(r_w10:Raw K "turns" gQ M3)(r_w11:Raw K "_law_hand" jV M4)(r_w12:Raw K "_law_take" fq M5)(r_w13:Raw K "_law_of" f8 M6)(r_w14:Raw K "_law_floor" jW M7)(r_w15:Raw K "_law_are_beside" gR M8)(r_w16:Raw K "_law_part" f9 M9)(r_w17:Raw K "_law_walk" iS M')(r_w18:Raw K "_law_due" iT M_)(r_w19:Raw K "_law_turns" jX Na)(r_w20:Raw K "_law_spoilt" jY Nb)(r_law:Raw K "law" jZ Nc)(g_GREATEST:PySem.W.nsIn K mainGlobals "GREATEST" = some (some<|.int 30 GE))(z_abs:PySem.W.nsIn K mainGlobals "abs" = some none)(z_all:PySem.W.nsIn K mainGlobals "all" = some none)(z_any:PySem.W.nsIn K mainGlobals "any" = some none)(z_bool:PySem.W.nsIn K mainGlobals "bool" = some none)(z_int:PySem.W.nsIn K mainGlobals "int" = some none)(z_isinstance:PySem.W.nsIn K mainGlobals "isinstance" = some none)(z_len:PySem.W.nsIn K mainGlobals "len" = some none)(z_list:PySem.W.nsIn K mainGlobals "list" = some none)(z_max:PySem.W.nsIn K mainGlobals "max" = some none)(z_min:PySem.W.nsIn K mainGlobals "min" = some none)(z_range:PySem.W.nsIn K mainGlobals "range" = some none)(z_set:PySem.W.nsIn K mainGlobals "set" = some none)(z_sorted:PySem.W.nsIn K mainGlobals "sorted" = some none)(z_sum:PySem.W.nsIn K mainGlobals "sum" = some none)(z_tuple:PySem.W.nsIn K mainGlobals "tuple" = some none)(z_zip:PySem.W.nsIn K mainGlobals "zip" = some none):
  ∃ fd:FuncData,(∀ (s:Shared) (v:Value),BindsTo s fd ⟨[v],[]⟩ [("_law_script",v)])/\∀ base:Heap,K.In base->base.Ns mainGlobals mg->FJ l.prog w K mg base HM 8 fa fd ["_law_script"] (IZ 1<|G.jN Jk):=by
 have T:Txt mg:=⟨Ze X Gg z_abs,Ze X Gg z_all,Ze X Gg z_any,Ze X Gg z_bool,Ze X Gg z_int,Ze X Gg z_isinstance,Ze X Gg z_len,Ze X Gg z_list,Ze X Gg z_max,Ze X Gg z_min,Ze X Gg z_range,Ze X Gg z_set,Ze X Gg z_sorted,Ze X Gg z_sum,Ze X Gg z_tuple,Ze X Gg z_zip,⟨GE,Wt X Gg g_GREATEST⟩⟩;have h_w0:=r_w0.b1 (ps:=["thing"]) X Gg fun _ _ _ _ _ _ _=>rfl;have h_w1:=r_w1.b1 (ps:=["thing"]) X Gg fun _ _ _ _ _ _ _=>rfl;have h_w2:=r_w2.b1 (ps:=["thing"]) X Gg fun _ _ _ _ _ _ _=>rfl;have h_w3:=r_w3.b2 (ps:=["thing","is_kind"]) X Gg fun _ _ _ _ _ _ _ _=>rfl;have h_w4:=r_w4.b1 (ps:=["things"]) X Gg fun _ _ _ _ _ _ _=>rfl;have h_w5:=r_w5.b1 (ps:=["cell"]) X Gg fun _ _ _ _ _ _ _=>rfl;have h_w6:=r_w6.b2 (ps:=["free","start"]) X Gg fun _ _ _ _ _ _ _ _=>rfl;have h_w7:=r_w7.b1 (ps:=["thing"]) X Gg fun _ _ _ _ _ _ _=>rfl;have h_w8:=r_w8.b1 (ps:=["thing"]) X Gg fun _ _ _ _ _ _ _=>rfl;have h_w9:=r_w9.b2 (ps:=["field","thing"]) X Gg fun _ _ _ _ _ _ _ _=>rfl;have h_w10:=r_w10.b1 (ps:=["walk"]) X Gg fun _ _ _ _ _ _ _=>rfl;have h_w11:=r_w11.b2 (ps:=["_law_script","_law_k"]) X Gg fun _ _ _ _ _ _ _ _=>rfl;have h_w12:=r_w12.b2 (ps:=["_law_hand_here","_law_many"]) X Gg fun _ _ _ _ _ _ _ _=>rfl;have h_w13:=r_w13.b2 (ps:=["_law_hand_here","_law_some"]) X Gg fun _ _ _ _ _ _ _ _=>rfl;have h_w14:=r_w14.b1 (ps:=["_law_hand_here"]) X Gg fun _ _ _ _ _ _ _=>rfl;have h_w15:=r_w15.b2 (ps:=["_law_one","_law_other"]) X Gg fun _ _ _ _ _ _ _ _=>rfl;have h_w16:=r_w16.b2 (ps:=["_law_floor_here","_law_cell"]) X Gg fun _ _ _ _ _ _ _ _=>rfl;have h_w17:=r_w17.b3 (ps:=["_law_hand_here","_law_field","_law_many"]) X Gg fun _ _ _ _ _ _ _ _ _=>rfl;have h_w18:=r_w18.b2 (ps:=["_law_field","_law_thing"]) X Gg fun _ _ _ _ _ _ _ _=>rfl;have h_w19:=r_w19.b1 (ps:=["_law_walk_here"]) X Gg fun _ _ _ _ _ _ _=>rfl;have h_w20:=r_w20.b3 (ps:=["_law_hand_here","_law_field","_law_walk_here"]) X Gg fun _ _ _ _ _ _ _ _ _=>rfl;have h_law:=r_law.b1 (ps:=["_law_script"]) X Gg fun _ _ _ _ _ _ _=>rfl;refine Df r_law X Gg Pt (fun _ _ _ _ _ _ _ _=>.of_eq rfl) fun base=>?_;have PH:=DB (P:=l.prog) (w:=w) (base:=base) h_w0 T;have Nd:=DD (P:=l.prog) (w:=w) (base:=base) h_w1 T PH;have Jp:=DF (P:=l.prog) (w:=w) (base:=base) h_w2 T Nd;have PJ:=DH (P:=l.prog) (w:=w) (base:=base) h_w3 T Jp;have Nf:=DJ (P:=l.prog) (w:=w) (base:=base) h_w4 T;have Ng:=DL (P:=l.prog) (w:=w) (base:=base) h_w5 T;have PK:=DN (P:=l.prog) (w:=w) (base:=base) h_w6 T Ng;have PL:=DP (P:=l.prog) (w:=w) (base:=base) h_w7 T Jp PJ;have PM:=DR (P:=l.prog) (w:=w) (base:=base) h_w8 T Jp PL PK Nf;have PN:=DT (P:=l.prog) (w:=w) (base:=base) h_w9 T Jp PM Nf Nd Ng;have Nh:=DV (P:=l.prog) (w:=w) (base:=base) h_w10 T;have Ni:=DX (P:=l.prog) (w:=w) (base:=base) h_w11 T;have Hl:=DZ (P:=l.prog) (w:=w) (base:=base) h_w12 T;have HZ:=D7 (P:=l.prog) (w:=w) (base:=base) h_w13 T Hl;have Nj:=D9 (P:=l.prog) (w:=w) (base:=base) h_w14 T Hl HZ;have Jq:=Eb (P:=l.prog) (w:=w) (base:=base) h_w15 T;have Nk:=Ed (P:=l.prog) (w:=w) (base:=base) h_w16 T Jq;have Nl:=Ef (P:=l.prog) (w:=w) (base:=base) h_w17 T HZ Jq Hl;have Nm:=Eh (P:=l.prog) (w:=w) (base:=base) h_w18 T Jq;have Nn:=Ej (P:=l.prog) (w:=w) (base:=base) h_w19 T;have No:=El (P:=l.prog) (w:=w) (base:=base) h_w20 T Hl HZ;exact En h_law T Jp Ni Nj Nk HZ Nl Hl Nh PN Nn No Nm
theorem walk{q:Program}{loose:List Str}{XP:(Str->Option Value)->Heap->Prop}{YP:World->Heap->Prop}{d:DefRec}{K:Params->PySem.W.Frag}(hn:l.most=some 63)(Ma:d.params.defaults=[])(hY:∀ (w:World) (h:Heap),YP w h->(K w.params).In h)(hK:∀ p,jO (K p)=true)(F:∀ (w:World) (mg:Str->Option Value) (fa:Addr) (h:Heap),(K w.params).In h->h.Ns mainGlobals mg->mg d.name=some (.ref fa)->
   ∃ fd:FuncData,(∀ (s:Shared) (u:Value),BindsTo s fd ⟨[u],[]⟩ [("_law_script",u)])/\∀ base:Heap,(K w.params).In base->base.Ns mainGlobals mg->FJ l.prog w (K w.params) mg base HM 8 fa fd ["_law_script"] (IZ 1<|G.jN Jk)):
  PySem.W.WalkO q loose XP YP l.row.toRowW d [] (fun f vs=>PySem.call f vs):=
 L2.yo (n:=63) (k:=8) (x := "_law_script") (CX:=fun _=>HM) (sp:=fun w=>IZ 1<|G.jN Jk) hn (by decide) Ma ⟨rfl,by decide,by decide,rfl⟩ hY F (fun w H a ns hl hO hS=>Dc (hK w.params) H a ns hO hS (G.Da Jk ns (W2 hl (by decide)))) fun _ _ _ _ _ z=>z
end K10
def PySem.W.Fast.tw11983906762815201950:=0
def PySem.W.Fast.tw17345675532823292064:=0
def PySem.W.Fast.tw3960975712745908480:=0
def PySem.W.Fast.tw8539495103878755586:=0
def PySem.W.Fast.tw15990464991676683555:=0
def PySem.W.Fast.tw1670728908560574662:=0
def PySem.W.Fast.tw6921042601887107590:=0
def PySem.W.Fast.tw5775841656745052967:=0
def PySem.W.Fast.tw5389944543912302824:=0
def PySem.W.Fast.tw13233780202282826984:=0
def PySem.W.Fast.tw14919521101735705384:=0
def PySem.W.Fast.tw8053753025002877737:=0
def PySem.W.Fast.tw6595756393622330538:=0
def PySem.W.Fast.tw2584907626920615979:=0
def PySem.W.Fast.tw2060462361836505643:=0
def PySem.W.Fast.tw7218069753075698603:=0
def PySem.W.Fast.tw15053906646579255596:=0
def PySem.W.Fast.tw10551616045496807916:=0
def PySem.W.Fast.tw708154663419511661:=0
def PySem.W.Fast.tw11214190969697705519:=0
def PySem.W.Fast.tw1232786425458348815:=0
def PySem.W.Fast.tw16137843287118877584:=0
def PySem.W.Fast.tw18236738099658464209:=0
def PySem.W.Fast.tw13958752709528267761:=0
def PySem.W.Fast.tw500734887744654900:=0
def PySem.W.Fast.tw9016366957749151669:=0
def PySem.W.Fast.tw2012070633231917526:=0
def PySem.W.Fast.tw8679340519041388856:=0
def PySem.W.Fast.tw12515358419913243481:=0
def PySem.W.Fast.tw7324202714901740347:=0
def PySem.W.Fast.tw13096730690584109019:=0
def PySem.W.Fast.tw12621989038866416092:=0
def PySem.W.Fast.tw12892620876480478333:=0
def PySem.W.Fast.tw10382427431129821534:=0
def PySem.W.Fast.tw5064470548943704894:=0
def PySem.W.Fast.tw15068599740987400511:=0
open PySem PySem.W PyProof.Rows
set_option maxRecDepth 100000 in
set_option maxHeartbeats 0 in
theorem PySem.Challenge.cw_mowfloor_k10_walks_and_turns_holds : PySem.Challenge.rw_mowfloor_k10_walks_and_turns.Holds := by
  w_on; o_law; k_head; (case hw => w_witness2)
  k_fill
  refine' K10.walk (l := PySem.Challenge.rw_mowfloor_k10_walks_and_turns) rfl rfl (fun w h Y => PySem.W.kIn_of Y) ?hK ?F
  case hK => intro p; rfl
  case F =>
    intro w mg fa h KX G hmg
    refine' K10.all_mk KX G hmg ?r_w0 ?r_w1 ?r_w2 ?r_w3 ?r_w4 ?r_w5 ?r_w6 ?r_w7 ?r_w8 ?r_w9 ?r_w10 ?r_w11 ?r_w12 ?r_w13 ?r_w14 ?r_w15 ?r_w16 ?r_w17 ?r_w18 ?r_w19 ?r_w20 ?r_law ?g_GREATEST ?z_abs ?z_all ?z_any ?z_bool ?z_int ?z_isinstance ?z_len ?z_list ?z_max ?z_min ?z_range ?z_set ?z_sorted ?z_sum ?z_tuple ?z_zip
    case r_w0 | r_w1 | r_w2 | r_w3 | r_w4 | r_w5 | r_w6 | r_w7 | r_w8 | r_w9 | r_w10 | r_w11 | r_w12 | r_w13 | r_w14 | r_w15 | r_w16 | r_w17 | r_w18 | r_w19 | r_w20 | r_law => refine' L2.De ?a ?l ?c ?k; (case a => k_is); (case l => k_is); (case c => k_is); (case k => k_is)
    case g_GREATEST | z_abs | z_all | z_any | z_bool | z_int | z_isinstance | z_len | z_list | z_max | z_min | z_range | z_set | z_sorted | z_sum | z_tuple | z_zip => k_is
