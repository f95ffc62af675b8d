import PyProof.Rows.All
import Wide.All
import OpenK.AllK
import Wide.FinOn
import Lean
import PyProof.EqAt
import PyProof.EqKinds
import PyProof.TupleCall
import PyProof.IsiNone
import PyProof.NeKinds
import PyProof.MaxThree
import PyProof.Rows.SetFrom
import PyProof.WalksMore
import PyProof.CallStr
import PyProof.NsDelKeeps
import KE.KTryMore
import KE.KIsAll
import PySem.Challenge.RW_mowfloor_k37_blocks_cut
set_option maxHeartbeats 4000000
set_option Elab.async false
set_option linter.all false
set_option maxRecDepth 100000
open List (range range')
open Option (getD_none map_some)
open Nat (beq le_zero)
abbrev Z9:=@PySem.wpAny_bind
abbrev Z8:=@Option.bind_eq_some_iff
abbrev Z7:=@List.append_assoc
abbrev Z6:=@List.getD_eq_getElem?_getD
abbrev Z5:=@PySem.Heap.get?_push_of_some
abbrev Z4:=@PySem.wpAny_pure
abbrev Z3:=@List.length_map
abbrev Z2:=@Option.map_eq_some_iff
abbrev Z1:=@List.mem_singleton
abbrev Z0:=@PySem.W.kasC_pure
abbrev ZZ:=@if_pos
abbrev ZY:=@if_neg
abbrev ZX:=@List.perm_append_comm
abbrev ZW:=@PySem.W.kasC_bind
abbrev ZV:=@List.getElem?_eq_getElem
abbrev ZU:=@List.mem_cons
abbrev ZT:=@List.append_nil
abbrev ZS:=@List.size_toArray
abbrev ZR:=@Nat.le_refl
abbrev ZQ:=@Bool.and_eq_true
abbrev ZP:=@PySem.Heap.lt_size
abbrev ZO:=@Array.length_toList
abbrev ZN:=@PySem.Heap.get?_push_size
abbrev ZM:=@Bool.false_ne_true
abbrev ZL:=@List.Perm.append_left
abbrev ZK:=@List.nodup_append
abbrev ZJ:=@List.Perm.append_right
abbrev ZI:=@List.length_append
abbrev ZH:=@List.map_cons
abbrev ZG:=@List.mem_append_right
abbrev ZF:=@List.Perm.refl
abbrev ZE:=@List.getElem?_eq_some_iff
abbrev ZD:=@List.length_cons
abbrev ZC:=@Array.getElem?_toList
abbrev ZB:=@Nat.ne_of_lt
abbrev ZA:=@List.mem_append_left
abbrev Zz:=@List.take_append_drop
abbrev Zy:=@List.getElem?_map
abbrev Zx:=@List.mem_append
abbrev Zw:=@List.pairwise_singleton
abbrev Zv:=@Nat.lt_of_lt_of_le
abbrev Zu:=@decide_eq_true
abbrev Zt:=@List.mem_of_getElem?
abbrev Zs:=@Nat.le_of_ble_eq_true
abbrev Zr:=@Option.some.inj
abbrev Zq:=@List.pairwise_cons
abbrev Zp:=@List.length_drop
abbrev Zo:=@Bool.false_eq_true
abbrev Zn:=@of_decide_eq_true
abbrev Zm:=@List.length_take
abbrev Zl:=@decide_eq_false
abbrev Zk:=@PySem.W.mg_none_of
abbrev Zj:=@PySem.wpAny_newObj_type
abbrev Zi:=@Array.getElem?_eq_getElem
abbrev Zh:=@List.mem_range
abbrev Zg:=@Nat.le_trans
abbrev Zf:=@List.getElem?_append_right
abbrev Ze:=@List.mem_map
abbrev Zd:=@PySem.wpAny_call_entry
abbrev Zc:=@PySem.wpAny_callSpecial?_slot
abbrev Zb:=@List.getElem?_append_left
abbrev Za:=@List.drop_eq_getElem_cons
abbrev Y9:=@List.not_mem_nil
abbrev Y8:=@List.mem_flatMap
abbrev Y7:=@List.nodup_cons
abbrev Y6:=@Nat.lt_or_ge
abbrev Y5:=@List.lookup_cons
abbrev Y4:=@List.mem_cons_of_mem
abbrev Y3:=@PySem.Heap.get?_update_other
abbrev Y2:=@List.length_range
abbrev Y1:=@PySem.wpAny_holding
abbrev Y0:=@PySem.W.kasC_range
abbrev YZ:=@PyProof.Rows.slot_tuple_getitem
abbrev YY:=@PySem.Heap.size_push
abbrev YX:=@Array.getElem?_eq_some_iff
abbrev YW:=@List.pairwise_iff_getElem
abbrev YV:=@PySem.wpAny_mono
abbrev YU:=@PySem.wpAny_seqItems
abbrev YT:=@PySem.Heap.SameBut.update
abbrev YS:=@List.length_pos_iff
abbrev YR:=@PySem.wpAny_setState_of
abbrev YQ:=@List.mem_cons_self
abbrev YO:=@List.getElem?_set_ne
abbrev YN:=@List.mem_of_mem_take
abbrev YM:=@List.mem_iff_getElem
abbrev YL:=@List.getElem?_drop
abbrev YK:=@List.mem_of_mem_drop
abbrev YJ:=@List.map_take
abbrev YI:=@List.map_append
abbrev YH:=@beq_self_eq_true
abbrev YG:=@List.all_eq_true
abbrev YF:=@Option.bind_some
abbrev YE:=@PySem.wpAny_truthy_bool
abbrev YD:=@PySem.wpAny_field
abbrev YC:=@List.eq_nil_of_length_eq_zero
abbrev YB:=@PySem.Heap.get?_update_self
abbrev YA:=@List.getElem?_eq_none
abbrev Yz:=@if_false
abbrev Yy:=@List.nodup_nil
abbrev Yx:=@PySem.F.slot_dict_keyiterator_next
abbrev Yw:=@List.map_map
abbrev Yv:=@decide_eq_true_iff
abbrev Yu:=@PySem.F.called_set
abbrev Yt:=@Nat.lt_succ_self
abbrev Ys:=@PySem.W.kasC_modify
abbrev Yr:=@List.map_drop
abbrev Yq:=@Int.toNat_natCast
abbrev Yp:=@List.perm_ext_iff_of_nodup
abbrev Yo:=@List.filterMap_cons
abbrev Yn:=@List.filter_sublist
abbrev Ym:=@List.find?_cons
abbrev Yl:=@Nat.zero_le
abbrev Yk:=@List.foldl_cons
abbrev Yj:=@List.length_singleton
abbrev Yi:=@List.getElem?_take
abbrev Yh:=@Nat.lt_irrefl
abbrev Yg:=@PySem.W.hideAll_none
abbrev Yf:=@PySem.wpAny_typeNameOfWhole_keyiter
abbrev Ye:=@List.drop_zero
abbrev Yd:=@Ne.symm
abbrev Yc:=@List.ext_getElem?
abbrev Yb:=@PySem.wpAny_rule
abbrev Ya:=@List.mem_filter
abbrev X9:=@PySem.PassesOwn.never
abbrev X8:=@List.mem_map_of_mem
abbrev X7:=@PyProof.Rows.F.plain_set_update_loop
abbrev X6:=@PyProof.Rows.callWith_type1
abbrev X5:=@List.drop_of_length_le
abbrev X4:=@Int.le_refl
abbrev X3:=@Nat.le_add_right
abbrev X2:=@PySem.Obj.data_mapFields
abbrev X1:=@PySem.F.slot_tuple_iterator_next
abbrev X0:=@PySem.wpAny_setField_rec
abbrev XY:=@PySem.Calls.call_function_entry
abbrev XX:=@Classical.byContradiction
abbrev XW:=@PySem.wpAny_passesOwn
abbrev XV:=@List.take_sublist
abbrev XU:=@Nat.lt_succ_of_lt
abbrev XT:=@List.getElem_drop
abbrev XS:=@List.pairwise_map
abbrev XR:=@PySem.Around.under_plainId
abbrev XQ:=@PySem.W.hideAll_get
abbrev XO:=@PySem.mem_of_lookup
abbrev XN:=@PySem.wpAny_setEntries_of
abbrev XM:=@PySem.wpAny_forIn_list
abbrev XL:=@PySem.wpAny_setField
abbrev XJ:=@List.drop_drop
abbrev XI:=@List.getElem_mem
abbrev XH:=@decide_eq_false_iff_not
abbrev XG:=@List.take_length
abbrev XF:=@PySem.F.plainAttrs_list
abbrev XE:=@List.getElem?_set_self
abbrev XD:=@PySem.wpAny_Call_Name_kw
abbrev XC:=@beq_iff_eq
abbrev XB:=@Array.ext'
abbrev XA:=@Nat.lt_of_le_of_lt
abbrev Xz:=@Int.emod_lt_of_pos
abbrev Xy:=@PySem.wpAny_execs_nil
abbrev Xx:=@PySem.W.kasC_get
abbrev Xw:=@Int.emod_nonneg
abbrev Xv:=@PySem.codeAny_builtin
abbrev Xu:=@Bool.not_true
abbrev Xt:=@List.any_cons
abbrev Xs:=@List.length_filter_le
abbrev Xr:=@PySem.F.slot_tuple_hash
abbrev Xq:=@Array.toList_push
abbrev Xp:=@PySem.wpAny_pyIter_list
abbrev Xo:=@Nat.le_of_lt_succ
abbrev Xn:=@Prod.ext
abbrev Xm:=@PySem.wpAny_fieldsOf
abbrev Xl:=@List.getElem?_of_mem
abbrev Xk:=@PySem.wpAny_isInstance
abbrev Xj:=@Nat.le_of_lt
abbrev Xi:=@Nat.ne_of_gt
abbrev Xh:=@if_true
abbrev Xg:=@List.mem_nil_iff
abbrev Xf:=@Option.getD_some
abbrev Xe:=@List.getElem?_zip_eq_some
abbrev Xd:=@PyProof.Rows.F.entry_set_update_loop
abbrev Xc:=@PySem.Paired.length
abbrev Xb:=@Option.isSome_iff_exists
abbrev Xa:=@PySem.F.args_tuple_add_2
abbrev W9:=@PySem.wpAny_attempt
abbrev W8:=@or_false
abbrev W7:=@PyProof.Rows.LSm.kept_iter
abbrev W6:=@List.filterMap_cons_some
abbrev W5:=@PySem.W.mg_of
abbrev W4:=@PySem.F.slot_list_append
abbrev W3:=@PySem.F.type_list_append
abbrev W2:=@PySem.wpAny_specialOf
abbrev W1:=@List.length_set
abbrev W0:=@Nat.min_eq_left
abbrev WZ:=@Nat.not_lt_zero
abbrev WY:=@Array.forIn_toList
abbrev WX:=@PySem.W.of_hideAll
abbrev WW:=@List.mem_filterMap
abbrev WV:=@PySem.F.entry_tuple_add
abbrev WU:=@PySem.codeAny_mono
abbrev WT:=@PySem.F.slot_tuple_add
abbrev WS:=@PySem.wpAny_typeOf
abbrev WR:=@PySem.wpAny_dictEntries
abbrev WQ:=@Array.getElem?_eq_none
abbrev WP:=@List.getElem_take
abbrev WO:=@List.take_of_length_le
abbrev WN:=@Bool.not_eq_true'
abbrev WM:=@decide_eq_true_eq
abbrev WL:=@List.drop_take
abbrev WK:=@List.drop_sublist
abbrev WJ:=@List.getElem?_set
abbrev WI:=@Nat.lt_trichotomy
abbrev WH:=@Array.toList_filterMap
abbrev WG:=@PySem.isSubtype_type
abbrev WF:=@PySem.Obj.isFreed_of_fields
abbrev WE:=@List.mem_of_mem_erase
abbrev WD:=@List.getElem?_toArray
abbrev WC:=@List.cons_append
abbrev WB:=@PyProof.Rows.callWith_builtin1
abbrev WA:=@PySem.F.args_dict_keyiterator_next_1
abbrev Wz:=@List.nodup_range
abbrev Wy:=@List.any_toArray
abbrev Wx:=@Nat.add_assoc
abbrev Ww:=@PySem.plainId_quiet
abbrev Wv:=@PySem.F.entry_dict_keyiterator_next
abbrev Wu:=@PySem.wpAny_updateSeq_pair
abbrev Wt:=@List.mem_erase_of_ne
abbrev Ws:=@List.map_eq_cons_iff
abbrev Wr:=@List.nil_append
abbrev Wq:=@PySem.F.args_tuple_iterator_next_1
abbrev Wp:=@PySem.F.slot_zip_next
abbrev Wo:=@List.map_congr_left
abbrev Wn:=@Nat.lt_trans
abbrev Wm:=@Array.getD_eq_getD_getElem?
abbrev Wl:=@Nat.succ_pos
abbrev Wk:=@PySem.W.kasC_lift
abbrev Wj:=@Array.perm_iff_toList_perm
abbrev Wi:=@List.take_take
abbrev Wh:=@List.setIfInBounds_toArray
abbrev Wg:=@Nat.not_lt
abbrev Wf:=@List.zip_cons_cons
abbrev We:=@List.length_eraseIdx_of_lt
abbrev Wd:=@PySem.F.excBase_ValueError
abbrev Wc:=@PySem.F.plain_extend_loop
abbrev Wb:=@Option.isSome_map
abbrev Wa:=@PySem.wpAny_pyIter_slot
abbrev V9:=@PySem.Obj.cls_mapFields
abbrev V8:=@PySem.wpAny_onRaise
abbrev V7:=@PySem.wpAny_newList
abbrev V6:=@List.length_erase_of_mem
abbrev V5:=@List.getElem_inj
abbrev V4:=@PySem.noFill_tuple_add
abbrev V3:=@List.drop_length
abbrev V2:=@List.zipIdx_cons
abbrev V1:=@List.ext_getElem
abbrev V0:=@List.filter_cons
abbrev VZ:=@PySem.wpAny_askSetting
abbrev VY:=@PySem.F.plain_list_iadd
abbrev VX:=@PySem.W.cellsFrom_some
abbrev VV:=@Nat.add_zero
abbrev VU:=@List.set_set
abbrev VR:=@List.length_pos_of_mem
abbrev VQ:=@Nat.lt_of_succ_lt_succ
abbrev VN:=@List.head?_eq_getElem?
abbrev VM:=@Bool.eq_iff_iff
abbrev VL:=@List.of_mem_zip
abbrev VJ:=@List.forIn_cons
abbrev VH:=@Bool.or_eq_true
abbrev VF:=@PySem.wpAny_dictEpoch
abbrev VD:=@PySem.wpAny_ite_split
abbrev VC:=@PySem.sizeLine_eq
abbrev VB:=@PySem.wpAny_of_eq
abbrev Vz:=@List.take_zero
abbrev Vy:=@PySem.wpAny_letGo
abbrev Vx:=@Array.size_map
abbrev Vw:=@List.set_comm
abbrev Vv:=@List.Perm.map
abbrev Vu:=@Nat.mod_lt
abbrev Vt:=@List.map_nil
abbrev Vs:=@Int.le_trans
abbrev Vr:=@Nat.add_comm
abbrev Vq:=@List.any_map
namespace L2
open PySem PySem.Spec PyProof.Rows
variable{scope:Scope}{qual x:Str}{base h:Heap}{mg:Str->Option Value}{ps N:List Str}{us:List Value}{op:CmpOp}{f:Value->Value->Sem Value}{fp ch:List Addr}{body:List Stmt}{g:Int->Int->Int}{tg c e:Expr}{n k i t':Nat}{es:List Expr}{K:PySem.W.Frag}{pins:List (Addr×Obj)}{pos:Pos}{s s':Shared}{Q E:Value->Shared->Prop}{A:Around}{it b a:Addr}{d':Drawn}{g':Array GenState}{w:World}{P:Program}{u:Value}
inductive Im where
 | h_ | bl (b:Bool) | int (i:Int) | str (x:Str) | tup (ds:List Im) | fn (a:Addr) | fl (ds:List Im) | fd
mutual
def Im.beq:Im->Im->Bool
 | .h_,.h_=>true
 | .bl a,.bl b=>a == b
 | .int i,.int j=>decide (i=j)
 | .str x,.str y=>decide (x=y)
 | .tup a,.tup b=>Im.GA a b
 | .fn a,.fn b=>decide (a=b)
 | .fl a,.fl b=>Im.GA a b
 | .fd,.fd=>true
 | _,_=>false
def Im.GA:List Im->List Im->Bool
 | [],[]=>true
 | a::r,b::t=>Im.beq a b && Im.GA r t
 | _,_=>false
end
mutual
theorem Im.beq_iff:∀ a b:Im,Im.beq a b=true↔a=b
 | .h_,b=>by cases b<;>simp[Im.beq]
 | .bl a,b=>by cases b<;>simp[Im.beq]
 | .int i,b=>by cases b<;>simp[Im.beq]
 | .str x,b=>by cases b<;>simp[Im.beq]
 | .tup x,b=>by
  cases b with
  | tup y=>rw[Im.beq,Im.FU x y];simp
  | _=>simp[Im.beq]
 | .fn a,b=>by cases b<;>simp[Im.beq]
 | .fl x,b=>by
  cases b with
  | fl y=>rw[Im.beq,Im.FU x y];simp
  | _=>simp[Im.beq]
 | .fd,b=>by cases b<;>simp[Im.beq]
theorem Im.FU:∀ a b:List Im,Im.GA a b=true↔a=b
 | [],b=>by cases b<;>simp[Im.GA]
 | x::r,b=>by
  cases b with
  | nil=>simp[Im.GA]
  | cons y t=>rw[Im.GA,ZQ,Im.beq_iff x y,Im.FU r t];simp
end
instance:DecidableEq Im:=fun a b=>decidable_of_iff (Im.beq a b=true) (Im.beq_iff a b)
mutual
def E_(h:Heap):Im->Value->Prop
 | .h_,v=>v=.none
 | .bl b,v=>v=.bool b
 | .int i,v=>∃ t,v=.int i t
 | .str x,v=>∃ t,v=.str x t
 | .fn a,v=>v=.ref a
 | .fl _,v=>∃ a,v=.ref a
 | .fd,v=>∃ a,v=.ref a
 | .tup ds,v=>∃ a o items n,v=.ref a/\h.get? a=some o/\o.cls=.type "tuple" /\ o.data=.seq items n/\aF h ds items.toList
def aF(h:Heap):List Im->List Value->Prop
 | [],vs=>vs=[]
 | d::ds,vs=>∃ v r,vs=v::r/\E_ h d v/\aF h ds r
end
mutual
def Im.key:Nat->Im->Bool
 | _,.int _=>true
 | _,.str _=>true
 | n+1,.tup ds=>Im.keys n ds
 | _,_=>false
def Im.keys:Nat->List Im->Bool
 | _,[]=>true
 | n,d::ds=>Im.key n d && Im.keys n ds
end
mutual
def EU(w:World):Im->Int
 | .int i=>hashInt i
 | .str x=>hashStr w x
 | .tup ds=>reduceHash (Builtin.Tuple.tupleHashOf<|cx w ds)
 | _=>0
def cx(w:World):List Im->List Int
 | []=>[]
 | d::ds=>EU w d::cx w ds
end
mutual
def MO:Im->Nat
 | .tup ds=>dm ds+1
 | _=>1
def dm:List Im->Nat
 | []=>0
 | d::ds=>MO d+dm ds
end
theorem lJ(w:World):∀ a b:List Im,cx w (a++b)=cx w a++cx w b
 | [],b=>rfl
 | d::a,b=>by rw[WC,cx,cx,lJ w a b,WC]
theorem lK:∀ a b:List Im,dm (a++b)=dm a+dm b
 | [],b=>by simp[dm]
 | d::a,b=>by rw[WC,dm,dm,lK a b];lia
theorem ph{n:Nat}:∀ {a b:List Im},Im.keys n (a++b)=true->Im.keys n b=true
 | [],b,h=>h
 | d::a,b,h=>by rw[WC,Im.keys,ZQ] at h;exact ph h.2
theorem aF.length{h:Heap}:∀ {ds:List Im}{vs:List Value},aF h ds vs->ds.length=vs.length
 | [],vs,e=>by rw[show vs=[] from e];rfl
 | d::ds,vs,e=>by
  obtain⟨v,r,rfl,_,e⟩:=e;rw[ZD,ZD,aF.length e]
def jD(h h':Heap):Prop:=∀ a o items n,h.get? a=some o->o.cls=.type "tuple" -> o.data=.seq items n->h'.get? a=some o
mutual
theorem E_.keep{h h':Heap}(k:jD h h'):∀ {d:Im}{v:Value},E_ h d v->E_ h' d v
 | .h_,_,e=>e
 | .bl _,_,e=>e
 | .int _,_,e=>e
 | .str _,_,e=>e
 | .fn _,_,e=>e
 | .fl _,_,e=>e
 | .fd,_,e=>e
 | .tup ds,_,e=>by
  obtain⟨a,o,items,n,rfl,h1,h2,h3,h4⟩:=e;exact⟨a,o,items,n,rfl,k a o items n h1 h2 h3,h2,h3,aF.keep k h4⟩
theorem aF.keep{h h':Heap}(k:jD h h'):∀ {ds:List Im}{vs:List Value},aF h ds vs->aF h' ds vs
 | [],_,e=>e
 | d::ds,_,e=>by
  obtain⟨v,r,rfl,h1,h2⟩:=e;exact⟨v,r,rfl,E_.keep k h1,aF.keep k h2⟩
end
theorem pi{h:Heap}:∀ (n:Nat) {x y:Im}{v:Value},Im.key n x=true->Im.key n y=true->E_ h x v->E_ h y v->x=y
 | n,.int i,y,v,_,ky,hx,hy=>by
  obtain⟨t,rfl⟩:=hx;cases y with
  | int j=>obtain⟨u,e⟩:=hy;injection e with e;rw[e]
  | str z=>obtain⟨u,e⟩:=hy;cases e
  | tup ds=>obtain⟨_,_,_,_,e,_⟩:=hy;cases e
  | _=>cases n<;>cases ky
 | n,.str z,y,v,_,ky,hx,hy=>by
  obtain⟨t,rfl⟩:=hx;cases y with
  | int j=>obtain⟨u,e⟩:=hy;cases e
  | str z=>obtain⟨u,e⟩:=hy;injection e with e;rw[e]
  | tup ds=>obtain⟨_,_,_,_,e,_⟩:=hy;cases e
  | _=>cases n<;>cases ky
 | n+1,.tup ds,y,v,kx,ky,hx,hy=>by
  obtain⟨a,o,items,m,rfl,h1,h2,h3,h4⟩:=hx;cases y with
  | int j=>obtain⟨u,e⟩:=hy;cases e
  | str z=>obtain⟨u,e⟩:=hy;cases e
  | tup es=>
   obtain⟨a',o',w_,m',e,g1,g2,g3,g4⟩:=hy;cases e;rw[h1] at g1;cases g1;rw[h3] at g3;injection g3 with g3 _;subst g3;have all:∀ (ds es:List Im) (vs:List Value),Im.keys n ds=true->Im.keys n es=true->aF h ds vs->aF h es vs->ds=es:=by
    intro ds;induction ds with
    | nil=>
     intro es vs _ _ a b;cases es with
     | nil=>rfl
     | cons e es=>obtain⟨_,_,q,_⟩:=b;rw[show vs=[] from a] at q;cases q
    | cons d ds ih=>
     intro es vs k1 k2 a b;obtain⟨v,r,rfl,a1,a2⟩:=a;cases es with
     | nil=>cases (show v::r=[] from b)
     | cons e es=>
      obtain⟨v',r',q,b1,b2⟩:=b;cases q;rw[Im.keys,ZQ] at k1 k2;rw[pi n k1.1 k2.1 a1 b1,ih es r k1.2 k2.2 a2 b2]
   rw[all ds es _ kx ky h4 g4]
  | _=>cases ky
 | _,.h_,_,_,k,_,_,_=>by cases ‹Nat›<;>cases k
 | _,.bl _,_,_,k,_,_,_=>by cases ‹Nat›<;>cases k
 | _,.fn _,_,_,k,_,_,_=>by cases ‹Nat›<;>cases k
 | _,.fl _,_,_,k,_,_,_=>by cases ‹Nat›<;>cases k
 | _,.fd,_,_,k,_,_,_=>by cases ‹Nat›<;>cases k
 | 0,.tup _,_,_,k,_,_,_=>by cases k
section
variable{prog:Program}{w:World}
theorem pj:∀ (n:Nat) {A:Around}{E:Value->Shared->Prop}{s:Shared}{d:Im}{v:Value}{Q:Int->Shared->Prop},Im.key n d=true->A.units+n<cLine->E_ s.heap d v->Q (EU w d) { s with toks:=s.toks+MO d }->
  wpAny (model prog w) A (pyHash v) Q E s
 | n,A,E,s,.int i,v,Q,_,_,hv,h=>by
  obtain⟨t,rfl⟩:=hv;exact wpAny_pyHash_int h
 | n,A,E,s,.str i,v,Q,_,_,hv,h=>by
  obtain⟨t,rfl⟩:=hv;exact wpAny_pyHash_str h
 | n+1,A,E,s,.tup ds,v,Q,k,hu,hv,h=>by
  obtain⟨a,o,items,m,rfl,ho,hc,hd,hi⟩:=hv;have hT:s.TypeIs (.ref a) "tuple" := ⟨o,ho,hc⟩;unfold pyHash;first | unfold pyHashByItsType | skip
  first | refine Z9 (wpAny_cRoomFor_or (.inr (by lia)) ?_) | skip
  refine Z9 (W2 hT Xr.lookup ?_);show wpAny _ _ (if (some (Value.builtin "tuple.__hash__") == some Value.none)=true then _ else _) Q E s;rw[ZY (by rw[beq_builtin_none];exact ZM)];refine Z9 (W2 hT Xr.lookup ?_);show wpAny _ _ (callSpecialIfBoundUnlessNone? (.ref a) "__hash__" _ >>= _) Q E s;refine Z9 (wpAny_callSpecialIfBoundUnlessNone?_slot hT Xr<|Zd Xr hT F.entry_tuple_hash ?_<|F.args_tuple_hash_1 _);show wpAny _ _ (Builtin.Tuple.tupleItemsOf (.ref a) >>= _) _ _ s;refine Z9 (wpAny_tupleItemsOf ho hd ?_);refine Z9 ?_;rw[<- WY];refine XM _
   (fun rest (b:Array Int) s'=>∃ done left,ds=done++left/\aF s.heap left rest/\b.toList=cx w done/\s'={ s with toks:=s.toks+dm done })
   _ ?_ ?_ _ _ ⟨[],ds,rfl,hi,rfl,rfl⟩
  ·rintro x rest b s' ⟨done,left,rfl,hl,hb,rfl⟩;cases left with
   | nil=>cases (show x::rest=[] from hl)
   | cons d left=>
    obtain⟨v,r,e,h1,FV⟩:=hl;cases e;have k2:=ph (a:=done) (show Im.keys n (done++d::left)=true from k);rw[Im.keys,ZQ] at k2;refine Z9 (pj n k2.1 (by show A.units+1+n<cLine;lia) h1 ?_);first
     | exact Z4 ⟨done++[d],left,by simp,FV,by simp[hb,lJ,cx],by simp[lK,dm,Wx]⟩
     | exact Z9 (Z4 (Z4 ⟨done++[d],left,by simp,FV,by simp[hb,lJ,cx],by simp[lK,dm,Wx]⟩))
  ·rintro b s' ⟨done,left,rfl,hl,hb,rfl⟩;cases left with
   | cons d left=>obtain⟨_,_,e,_⟩:=hl;cases e
   | nil=>
   rw[ZT] at h;show wpAny _ _ (retInt<|Builtin.Tuple.tupleHashOf b.toList) _ _ _;rw[hb];refine wpAny_ret_mkInt ?_;show wpAny _ _ (if (decide (-(2:Int) ^ 63<=Builtin.Tuple.tupleHashOf (cx w done)) && decide (Builtin.Tuple.tupleHashOf (cx w done)<2 ^ 63))=true then _ else _) Q E _;rw[EU,MO] at h;unfold reduceHash at h;by_cases hr:(decide (-(2:Int) ^ 63<=Builtin.Tuple.tupleHashOf (cx w done)) && decide (Builtin.Tuple.tupleHashOf (cx w done)<2 ^ 63))=true
   ·rw[ZZ hr];rw[ZZ hr] at h;exact Z4 (by simpa [Wx] using h)
   ·rw[ZY hr];rw[ZY hr] at h;exact Z9 (Yb (Z4 (by simpa [Wx] using h)))
 | _,_,_,_,.h_,_,_,k,_,_,_=>by cases ‹Nat›<;>cases k
 | _,_,_,_,.bl _,_,_,k,_,_,_=>by cases ‹Nat›<;>cases k
 | _,_,_,_,.fn _,_,_,k,_,_,_=>by cases ‹Nat›<;>cases k
 | _,_,_,_,.fl _,_,_,k,_,_,_=>by cases ‹Nat›<;>cases k
 | _,_,_,_,.fd,_,_,k,_,_,_=>by cases ‹Nat›<;>cases k
 | 0,_,_,_,.tup _,_,_,k,_,_,_=>by cases k
mutual
def az:Im->Im->Bool
 | .h_,.h_=>true
 | .bl a,.bl b=>a == b
 | .bl a,.int j=>(if a then 1 else 0) == j
 | .int i,.bl b=>i == (if b then 1 else 0)
 | .int i,.int j=>i == j
 | .str x,.str y=>x == y
 | .tup a,.tup b=>br a b
 | _,_=>false
def br:List Im->List Im->Bool
 | [],[]=>true
 | a::r,b::t=>az a b && br r t
 | _,_=>false
end
mutual
def Im.pl:Nat->Im->Bool
 | _,.h_=>true
 | _,.bl _=>true
 | _,.int _=>true
 | _,.str _=>true
 | n+1,.tup ds=>Im.pls n ds
 | _,_=>false
def Im.pls:Nat->List Im->Bool
 | _,[]=>true
 | n,d::ds=>Im.pl n d && Im.pls n ds
end
theorem dn{n:Nat}:∀ {ds:List Im}{j:Nat}{d:Im},Im.pls n ds=true->ds[j]?=some d->Im.pl n d=true
 | [],j,d,_,h=>by simp at h
 | e::ds,0,d,k,h=>by
  rw[Im.pls,ZQ] at k;simp at h;subst h;exact k.1
 | e::ds,j+1,d,k,h=>by
  rw[Im.pls,ZQ] at k;exact dn k.2 (by simpa using h)
theorem aF.get{h:Heap}:∀ {ds:List Im}{vs:List Value}{j:Nat}{v:Value},aF h ds vs->vs[j]?=some v->∃ d,ds[j]?=some d/\E_ h d v
 | [],vs,j,v,a,e=>by rw[show vs=[] from a] at e;simp at e
 | d::ds,vs,0,v,a,e=>by
  obtain⟨u,r,rfl,a1,a2⟩:=a;simp at e;subst e;exact⟨d,rfl,a1⟩
 | d::ds,vs,j+1,v,a,e=>by
  obtain⟨u,r,rfl,a1,a2⟩:=a;obtain⟨d',h1,h2⟩:=aF.get (j:=j) a2 (by simpa using e);exact⟨d',by simpa using h1,h2⟩
theorem pk{h:Heap}:∀ (n:Nat) {x y:Im}{v:Value},Im.pl n x=true->Im.pl n y=true->E_ h x v->E_ h y v->az x y=true
 | n,.h_,y,v,_,ky,hx,hy=>by
  cases (show v=.none from hx);cases y with
  | h_=>rfl
  | bl b=>cases hy
  | int j=>obtain⟨u,e⟩:=hy;cases e
  | str z=>obtain⟨u,e⟩:=hy;cases e
  | tup ds=>obtain⟨_,_,_,_,e,_⟩:=hy;cases e
  | fn a=>cases n<;>cases ky
  | fl a=>cases n<;>cases ky
  | fd=>cases n<;>cases ky
 | n,.bl b,y,v,_,ky,hx,hy=>by
  cases (show v=.bool b from hx);cases y with
  | h_=>cases hy
  | bl c=>cases hy;simp[az]
  | int j=>obtain⟨u,e⟩:=hy;cases e
  | str z=>obtain⟨u,e⟩:=hy;cases e
  | tup ds=>obtain⟨_,_,_,_,e,_⟩:=hy;cases e
  | fn a=>cases n<;>cases ky
  | fl a=>cases n<;>cases ky
  | fd=>cases n<;>cases ky
 | n,.int i,y,v,_,ky,hx,hy=>by
  obtain⟨t,rfl⟩:=hx;cases y with
  | h_=>cases hy
  | bl c=>cases hy
  | int j=>obtain⟨u,e⟩:=hy;cases e;simp[az]
  | str z=>obtain⟨u,e⟩:=hy;cases e
  | tup ds=>obtain⟨_,_,_,_,e,_⟩:=hy;cases e
  | fn a=>cases n<;>cases ky
  | fl a=>cases n<;>cases ky
  | fd=>cases n<;>cases ky
 | n,.str i,y,v,_,ky,hx,hy=>by
  obtain⟨t,rfl⟩:=hx;cases y with
  | h_=>cases hy
  | bl c=>cases hy
  | int j=>obtain⟨u,e⟩:=hy;cases e
  | str z=>obtain⟨u,e⟩:=hy;cases e;simp[az]
  | tup ds=>obtain⟨_,_,_,_,e,_⟩:=hy;cases e
  | fn a=>cases n<;>cases ky
  | fl a=>cases n<;>cases ky
  | fd=>cases n<;>cases ky
 | n+1,.tup ds,y,v,kx,ky,hx,hy=>by
  obtain⟨a,o,items,m,rfl,h1,h2,h3,h4⟩:=hx;cases y with
  | h_=>cases hy
  | bl c=>cases hy
  | int j=>obtain⟨u,e⟩:=hy;cases e
  | str z=>obtain⟨u,e⟩:=hy;cases e
  | fn a=>cases ky
  | fl a=>cases ky
  | fd=>cases ky
  | tup es=>
   obtain⟨a',o',w_,m',e,g1,g2,g3,g4⟩:=hy;cases e;rw[h1] at g1;cases g1;rw[h3] at g3;injection g3 with g3 _;subst g3;have all:∀ (ds es:List Im) (vs:List Value),Im.pls n ds=true->Im.pls n es=true->aF h ds vs->aF h es vs->br ds es=true:=by
    intro ds;induction ds with
    | nil=>
     intro es vs _ _ a b;cases es with
     | nil=>rfl
     | cons e es=>obtain⟨_,_,q,_⟩:=b;rw[show vs=[] from a] at q;cases q
    | cons d ds ih=>
     intro es vs k1 k2 a b;obtain⟨v,r,rfl,a1,a2⟩:=a;cases es with
     | nil=>cases (show v::r=[] from b)
     | cons e es=>
      obtain⟨v',r',q,b1,b2⟩:=b;cases q;rw[Im.pls,ZQ] at k1 k2;rw[br,pk n k1.1 k2.1 a1 b1,ih es r k1.2 k2.2 a2 b2];rfl
   rw[az];exact all ds es _ kx ky h4 g4
 | n,.fn _,_,_,k,_,_,_=>by cases n<;>cases k
 | n,.fl _,_,_,k,_,_,_=>by cases n<;>cases k
 | n,.fd,_,_,k,_,_,_=>by cases n<;>cases k
 | 0,.tup _,_,_,k,_,_,_=>by cases k
theorem iE{e:Nat->Bool}:∀ {ds es:List Im},(∀ (j:Nat) (x y:Im),ds[j]?=some x->es[j]?=some y->e j=az x y)->((range<|min ds.length es.length).all e && ds.length == es.length)=br ds es:=by
 have key:∀ (ds es:List Im) (f:Nat->Bool),(∀ (j:Nat) (x y:Im),ds[j]?=some x->es[j]?=some y->f j=az x y)->((range<|min ds.length es.length).all f && ds.length == es.length)=br ds es:=by
  intro ds;induction ds with
  | nil=>intro es f _;cases es<;>simp[br]
  | cons d ds ih=>
   intro es f h;cases es with
   | nil=>simp[br]
   | cons c es=>
    have:=ih es (fun j=>f<|j+1) fun j x y a b=>h (j+1) x y (by simpa using a) (by simpa using b);rw[br,<- this,<- h 0 d c rfl rfl];rw[ZD,ZD,show min (ds.length+1) (es.length+1)=min ds.length es.length+1 by lia,List.range_succ_eq_map,List.all_cons,List.all_map,Bool.and_assoc];congr 2;rw[VM];simp
 exact fun {ds es} h=>key ds es e h
theorem c9{s:Shared}:∀ (n:Nat) {A:Around}{x y:Im}{u v:Value},Im.pl n x=true->Im.pl n y=true->A.units+n+1<cLine->E_ s.heap x u->E_ s.heap y v->SeqAt.EqAt A s u v (az x y)
 | n,A,.h_,y,u,v,_,ky,hu,hx,hy=>by
  cases (show u=.none from hx);cases y with
  | h_=>cases (show v=.none from hy);exact SeqAt.EqAt.same _
  | bl b=>cases (show v=.bool b from hy);exact SeqAt.EqAt.none_bool b
  | int j=>obtain⟨t,rfl⟩:=hy;exact SeqAt.EqAt.none_int j t
  | str z=>obtain⟨t,rfl⟩:=hy;exact SeqAt.EqAt.none_str z t
  | tup ds=>obtain⟨a,o,items,m,rfl,h1,h2,h3,_⟩:=hy;exact SeqAt.EqAt.none_tuple ⟨o,h1,h2,m,h3⟩ (by lia)
  | fn a=>cases n<;>cases ky
  | fl a=>cases n<;>cases ky
  | fd=>cases n<;>cases ky
 | n,A,.bl b,y,u,v,_,ky,hu,hx,hy=>by
  cases (show u=.bool b from hx);cases y with
  | h_=>cases (show v=.none from hy);exact SeqAt.EqAt.bool_none b
  | bl c=>cases (show v=.bool c from hy);exact SeqAt.EqAt.bool_bool b c
  | int j=>obtain⟨t,rfl⟩:=hy;exact SeqAt.EqAt.bool_int b j t
  | str z=>obtain⟨t,rfl⟩:=hy;exact SeqAt.EqAt.bool_str b z t
  | tup ds=>obtain⟨a,o,items,m,rfl,h1,h2,h3,_⟩:=hy;exact SeqAt.EqAt.bool_tuple b ⟨o,h1,h2,m,h3⟩ (by lia)
  | fn a=>cases n<;>cases ky
  | fl a=>cases n<;>cases ky
  | fd=>cases n<;>cases ky
 | n,A,.int i,y,u,v,_,ky,hu,hx,hy=>by
  obtain⟨t0,rfl⟩:=hx;cases y with
  | h_=>cases (show v=.none from hy);exact SeqAt.EqAt.int_none i t0
  | bl c=>cases (show v=.bool c from hy);exact SeqAt.EqAt.int_bool i t0 c
  | int j=>obtain⟨t,rfl⟩:=hy;exact SeqAt.EqAt.int_int i t0 j t
  | str z=>obtain⟨t,rfl⟩:=hy;exact SeqAt.EqAt.int_str i t0 z t
  | tup ds=>obtain⟨a,o,items,m,rfl,h1,h2,h3,_⟩:=hy;exact SeqAt.EqAt.int_tuple i t0 ⟨o,h1,h2,m,h3⟩ (by lia)
  | fn a=>cases n<;>cases ky
  | fl a=>cases n<;>cases ky
  | fd=>cases n<;>cases ky
 | n,A,.str i,y,u,v,_,ky,hu,hx,hy=>by
  obtain⟨t0,rfl⟩:=hx;cases y with
  | h_=>cases (show v=.none from hy);exact SeqAt.EqAt.str_none i t0
  | bl c=>cases (show v=.bool c from hy);exact SeqAt.EqAt.str_bool i t0 c
  | int j=>obtain⟨t,rfl⟩:=hy;exact SeqAt.EqAt.str_int i t0 j t
  | str z=>obtain⟨t,rfl⟩:=hy;exact SeqAt.EqAt.str_str i t0 z t
  | tup ds=>obtain⟨a,o,items,m,rfl,h1,h2,h3,_⟩:=hy;exact SeqAt.EqAt.str_tuple i t0 ⟨o,h1,h2,m,h3⟩ (by lia)
  | fn a=>cases n<;>cases ky
  | fl a=>cases n<;>cases ky
  | fd=>cases n<;>cases ky
 | n+1,A,.tup ds,y,u,v,kx,ky,hu,hx,hy=>by
  have Hr:=hx;obtain⟨a,o,items,m,rfl,h1,h2,h3,h4⟩:=hx;have ta:s.heap.IsTuple a items:=⟨o,h1,h2,m,h3⟩;cases y with
  | h_=>cases (show v=.none from hy);exact SeqAt.EqAt.tuple_none ta (by lia)
  | bl c=>cases (show v=.bool c from hy);exact SeqAt.EqAt.tuple_bool c ta (by lia)
  | int j=>obtain⟨t,rfl⟩:=hy;exact SeqAt.EqAt.tuple_int j t ta (by lia)
  | str z=>obtain⟨t,rfl⟩:=hy;exact SeqAt.EqAt.tuple_str z t ta (by lia)
  | fn a=>cases ky
  | fl a=>cases ky
  | fd=>cases ky
  | tup es=>
   have Qu:=hy;obtain⟨b,o',w_,m',rfl,g1,g2,g3,g4⟩:=hy;by_cases e:a=b
   ·subst e;rw[pk (n+1) kx ky Hr Qu];exact SeqAt.EqAt.same _
   ·have tb:s.heap.IsTuple b w_:=⟨o',g1,g2,m',g3⟩;have l1:=h4.length;have l2:=g4.length;have l3:items.toList.length=items.size:=by simp
    have l4:w_.toList.length=w_.size:=by simp
    rw[l3] at l1;rw[l4] at l2;have q:=SeqAt.EqAt.of_refs (A:=A) e (SeqAt.RcAt.tuples (e:=fun j=>az (ds.getD j .h_)<|es.getD j .h_) ta tb (by lia) fun j j1 j2=>by
     obtain⟨d1,e1,r1⟩:=h4.get (j:=j) (v:=items[j]) (by rw[ZC];simp[j1]);obtain⟨d2,e2,r2⟩:=g4.get (j:=j) (v:=w_[j]) (by rw[ZC];simp[j2]);rw[Z6,e1,Z6,e2];exact c9 n (dn kx e1) (dn ky e2) (by show A.units+1+n+1<cLine;lia) r1 r2)
    rw[<- l1,<- l2,iE (ds:=ds) (es:=es) (fun j x y a b=>by rw[Z6,a,Z6,b];rfl)] at q;rw[az];exact q
 | n,A,.fn _,_,_,_,k,_,_,_,_=>by cases n<;>cases k
 | n,A,.fl _,_,_,_,k,_,_,_,_=>by cases n<;>cases k
 | n,A,.fd,_,_,_,k,_,_,_,_=>by cases n<;>cases k
 | 0,A,.tup _,_,_,_,k,_,_,_,_=>by cases k
mutual
theorem lL:∀ {n:Nat}{d:Im},Im.key n d=true->Im.pl n d=true
 | n,.int _,_=>by cases n<;>rfl
 | n,.str _,_=>by cases n<;>rfl
 | n+1,.tup ds,h=>by rw[Im.key] at h;rw[Im.pl];exact pp h
 | 0,.tup _,h=>by cases h
 | n,.h_,h=>by cases n<;>cases h
 | n,.bl _,h=>by cases n<;>cases h
 | n,.fn _,h=>by cases n<;>cases h
 | n,.fl _,h=>by cases n<;>cases h
 | n,.fd,h=>by cases n<;>cases h
theorem pp:∀ {n:Nat}{ds:List Im},Im.keys n ds=true->Im.pls n ds=true
 | n,[],_=>by rw[Im.pls]
 | n,d::ds,h=>by rw[Im.keys,ZQ] at h;rw[Im.pls,lL h.1,pp h.2];rfl
end
mutual
theorem pq:∀ {n:Nat}{x y:Im},Im.key n x=true->Im.key n y=true->az x y=decide (x=y)
 | n,.int i,y,_,hy=>by
  cases y with
  | int j=>rw[az];by_cases e:i=j<;>simp[e]
  | str z=>simp[az]
  | tup z=>simp[az]
  | _=>cases n<;>cases hy
 | n,.str i,y,_,hy=>by
  cases y with
  | int j=>simp[az]
  | str z=>rw[az];by_cases e:i=z<;>simp[e]
  | tup z=>simp[az]
  | _=>cases n<;>cases hy
 | n+1,.tup ds,y,hx,hy=>by
  cases y with
  | int j=>simp[az]
  | str z=>simp[az]
  | tup es=>
   rw[Im.key] at hx hy;rw[az,lM hx hy];simp
  | _=>cases hy
 | 0,.tup _,_,h,_=>by cases h
 | n,.h_,_,h,_=>by cases n<;>cases h
 | n,.bl _,_,h,_=>by cases n<;>cases h
 | n,.fn _,_,h,_=>by cases n<;>cases h
 | n,.fl _,_,h,_=>by cases n<;>cases h
 | n,.fd,_,h,_=>by cases n<;>cases h
theorem lM:∀ {n:Nat}{x y:List Im},Im.keys n x=true->Im.keys n y=true->br x y=decide (x=y)
 | n,[],y,_,_=>by cases y<;>simp[br]
 | n,d::ds,[],_,_=>by simp[br]
 | n,d::ds,e::es,hx,hy=>by
  rw[Im.keys,ZQ] at hx hy;rw[br,pq hx.1 hy.1,lM hx.2 hy.2];by_cases h1:d=e<;>by_cases h2:ds=es<;>simp[h1,h2]
end
theorem jE:∀ (n:Nat) {A:Around}{E:Value->Shared->Prop}{s:Shared}{d:Im}{v:Value}{Q:Bool->Shared->Prop},Im.key n d=true->E_ s.heap d v->Q true s->wpAny (model prog w) A (eqIsQuiet n v) Q E s
 | n,A,E,s,.int i,v,Q,_,hv,h=>by
  obtain⟨t,rfl⟩:=hv;rw[eqIsQuiet_byValue n rfl];exact Z4 h
 | n,A,E,s,.str i,v,Q,_,hv,h=>by
  obtain⟨t,rfl⟩:=hv;rw[eqIsQuiet_byValue n rfl];exact Z4 h
 | n+1,A,E,s,.tup ds,v,Q,k,hv,h=>by
  obtain⟨a,o,items,m,rfl,ho,hc,hd,hi⟩:=hv;have hT:s.TypeIs (.ref a) "tuple" := ⟨o,ho,hc⟩;unfold eqIsQuiet;refine Z9 (W2 hT F.slot_tuple_eq.lookup ?_);show wpAny _ _ (isInstance (.ref a) (.type "tuple") >>= _) _ _ s;refine Z9 (Xk hT isSubtype_tuple_tuple ?_);simp only[Xu,Zo,Yz];refine Z9 (YU ho hd ?_);refine Z9 ?_;show wpAny _ _ (forIn items _ _) _ _ s;rw[<- WY];rw[Im.key] at k;refine XM _ (fun rest r s'=>r.1=none/\s'=s/\∃ left,Im.keys n left=true/\aF s.heap left rest) _ ?_ ?_ _ _ ⟨rfl,rfl,ds,k,hi⟩
  ·rintro v rest r s' ⟨hr,rfl,left,hk,hl⟩;cases left with
   | nil=>cases (show v::rest=[] from hl)
   | cons d left=>
    obtain⟨v',r',e,h1,FV⟩:=hl;cases e;rw[Im.keys,ZQ] at hk;refine Z9 (jE n hk.1 h1 ?_);simp only[Xu,Zo,Yz];exact Z4 ⟨rfl,rfl,left,hk.2,FV⟩
  ·rintro⟨r1,r2⟩ s' ⟨hr,rfl,_⟩;simp only at hr;subst hr;exact Z4 h
 | _,_,_,_,.h_,_,_,k,_,_=>by cases ‹Nat›<;>cases k
 | _,_,_,_,.bl _,_,_,k,_,_=>by cases ‹Nat›<;>cases k
 | _,_,_,_,.fn _,_,_,k,_,_=>by cases ‹Nat›<;>cases k
 | _,_,_,_,.fl _,_,_,k,_,_=>by cases ‹Nat›<;>cases k
 | _,_,_,_,.fd,_,_,k,_,_=>by cases ‹Nat›<;>cases k
 | 0,_,_,_,.tup _,_,_,k,_,_=>by cases k
def bt(prog:Program)(w:World):HeapKind prog w (List Im) where
 is:=fun h ds a=>Im.keys 7 ds=true/\E_ h (.tup ds) (.ref a)
 hash:=fun ds=>EU w (.tup ds)
 draws:=fun ds=>MO (.tup ds)
 room:=fun A=>A.units+10<cLine
 inj:=fun hx hy=>by
  have:=pi 8 (x:=.tup _) (y:=.tup _) hx.1 hy.1 hx.2 hy.2;injection this
 keeps:=fun {h h' k a d o es ep} x ho hd hs=>⟨x.1,x.2.keep fun b u items n hb hc Go=>by
  have Nt:b≠d:=by
   rintro rfl;rw[ho] at hb;cases hb;rw[hd] at Go;cases Go
  exact (hs.2 b Nt).trans hb⟩
 pyHash:=fun hu hk h=>pj 8 (d:=.tup _) hk.1 (show _ < _ by have:_+10<cLine:=hu;lia) hk.2 h
 eqBool:=fun {A E s x y a b Q} hu hx hy h=>by
  have q:=c9 (s:=s) 8 (A:=A) (x:=.tup x) (y:=.tup y) (lL (n:=8) (d:=.tup x) hx.1) (lL (n:=8) (d:=.tup y) hy.1) (show _ < _ by have:A.units+10<cLine:=hu;lia) hx.2 hy.2;rw[pq (n:=8) (x:=.tup x) (y:=.tup y) hx.1 hy.1] at q;exact q _ _ E Q (by simpa using h)
 quiet:=fun hk h=>jE 8 (d:=.tup _) hk.1 hk.2 h
end
abbrev Key:=Sum Int Str
def gu:Key->Value->Bool
 | .inl k,v=>Value.isInt k v
 | .inr x,v=>Value.isStrOf x v
def vh(w:World):Key->Int
 | .inl k=>hashInt k
 | .inr x=>hashStr w x
theorem dZ:∀ {k:Key}{v:Value},gu k v=true->(∃ i t,k=Sum.inl i/\v=Value.int i t)\/(∃ x t,k=Sum.inr x/\v=Value.str x t)
 | .inl i,v,h=>by
  obtain⟨t,e⟩:=Value.isInt_shape (k:=i) (v:=v) h;exact .inl ⟨i,t,rfl,e⟩
 | .inr x,v,h=>by
  obtain⟨t,e⟩:=Value.isStrOf_shape (x:=x) (v:=v) h;exact .inr ⟨x,t,rfl,e⟩
theorem vj(i:Int)(t:Tok):gu (.inl i) (.int i t)=true:=by simp[gu,Value.isInt]
theorem vk(x:Str)(t:Tok):gu (.inr x) (.str x t)=true:=by simp[gu,Value.isStrOf]
theorem vm(a b:Int):decide ((Sum.inl a:Key)=Sum.inl b)=(a == b):=by
 by_cases e:a=b
 ·subst e;simp
 ·have h:¬ (Sum.inl a:Key)=Sum.inl b:=fun q=>e (Sum.inl.inj q);rw[Zl h];exact (beq_eq_false_iff_ne.mpr e).symm
theorem vn(a b:Str):decide ((Sum.inr a:Key)=Sum.inr b)=decide (a=b):=by
 by_cases e:a=b
 ·subst e;simp
 ·have h:¬ (Sum.inr a:Key)=Sum.inr b:=fun q=>e (Sum.inr.inj q);rw[Zl h,Zl e]
theorem vo(a:Int)(b:Str):decide ((Sum.inl a:Key)=Sum.inr b)=false:=Zl (fun q=>nomatch q)
theorem vp(a:Str)(b:Int):decide ((Sum.inr a:Key)=Sum.inl b)=false:=Zl (fun q=>nomatch q)
def eJ(prog:Program)(w:World):PySem.KeyKind prog w Key where
 is:=gu
 hash:=vh w
 inj:=fun v a b ha hb=>by
  rcases dZ ha with ⟨i,t,rfl,rfl⟩ | ⟨x,t,rfl,rfl⟩
  ·rcases dZ hb with ⟨j,u,rfl,e⟩ | ⟨y,u,rfl,e⟩
   ·injection e with e1 _;rw[e1]
   ·exact nomatch e
  ·rcases dZ hb with ⟨j,u,rfl,e⟩ | ⟨y,u,rfl,e⟩
   ·exact nomatch e
   ·injection e with e1 _;rw[e1]
 byValue:=fun k v h=>by
  rcases dZ h with ⟨i,t,rfl,rfl⟩ | ⟨x,t,rfl,rfl⟩<;>rfl
 pyHash:=fun hv h=>by
  rcases dZ hv with ⟨i,t,rfl,rfl⟩ | ⟨x,t,rfl,rfl⟩
  ·exact wpAny_pyHash_int h
  ·exact wpAny_pyHash_str h
 eqBool:=fun hu hv h=>by
  rcases dZ hu with ⟨i,t,rfl,rfl⟩ | ⟨x,t,rfl,rfl⟩
  ·rcases dZ hv with ⟨j,u,rfl,rfl⟩ | ⟨y,u,rfl,rfl⟩
   ·rw[vm] at h;exact wpAny_eqBool_int h
   ·rw[vo] at h;exact SeqAt.EqAt.int_str i t y u _ _ _ _ h
  ·rcases dZ hv with ⟨j,u,rfl,rfl⟩ | ⟨y,u,rfl,rfl⟩
   ·rw[vp] at h;exact SeqAt.EqAt.str_int x t j u _ _ _ _ h
   ·rw[vn] at h;exact wpAny_eqBool_str h
 «strs»:=fun k x t v h=>by
  rcases dZ h with ⟨i,u,rfl,e⟩ | ⟨y,u,rfl,e⟩
  ·exact nomatch e
  ·injection e with e1 _;subst e1;cases v<;>rfl
theorem vq(prog:Program)(w:World)(i:Int)(t:Tok):(eJ prog w).is (.inl i) (.int i t)=true:=vj i t
theorem vw(prog:Program)(w:World)(x:Str)(t:Tok):(eJ prog w).is (.inr x) (.str x t)=true:=vk x t
inductive V where
 | h_ | bl (b:Bool) | int (i:Int) | str (x:Str) | Lg (b:Array UInt8) | Nu (b:UInt64) | ref (a:Addr) | ty (n:String)
 deriving DecidableEq
variable{vs:List V}{v:V}
def av:V->Value->Prop
 | .h_,u=>u=Value.none
 | .bl b,u=>u=Value.bool b
 | .int i,u=>∃ t,u=Value.int i t
 | .str x,u=>∃ t,u=Value.str x t
 | .Lg b,u=>∃ t,u=Value.bytes b t
 | .Nu b,u=>∃ t,u=Value.float b t
 | .ref a,u=>u=Value.ref a
 | .ty n,u=>u=Value.type n
abbrev au:List V->List Value->Prop:=Paired av
theorem au.length{xs:List V}{us:List Value}(r:au xs us):xs.length=us.length:=Xc r
theorem au.get:∀ {xs:List V}{us:List Value}{i:Nat}{x:V},au xs us->xs[i]?=some x->∃ u,us[i]?=some u/\av x u
 | _,_,_,_,.nil,e=>by simp at e
 | _,_,0,_,.cons r _,e=>by simp at e;subst e;exact⟨_,rfl,r⟩
 | _,_,i+1,x,.cons _ t,e=>by
  obtain⟨u,h1,h2⟩:=au.get (i:=i) (x:=x) t (by simpa using e);exact⟨u,by simpa using h1,h2⟩
theorem au.set{x:V}{u:Value}(r:av x u):∀ {xs:List V}{us:List Value} (i:Nat),au xs us->au (xs.set i x) (us.set i u)
 | _,_,_,.nil=>.nil
 | _,_,0,.cons _ t=>.cons r t
 | _,_,i+1,.cons q t=>.cons q (au.set r i t)
theorem au.append:∀ {xs ys:List V}{us ws:List Value},au xs us->au ys ws->au (xs++ys) (us++ws)
 | _,_,_,_,.nil,s=>s
 | _,_,_,_,.cons r t,s=>.cons r (au.append t s)
theorem au.take:∀ {xs:List V}{us:List Value} (n:Nat),au xs us->au (xs.take n) (us.take n)
 | _,_,0,_=>.nil
 | _,_,_+1,.nil=>.nil
 | _,_,n+1,.cons r t=>.cons r (au.take n t)
theorem au.drop:∀ {xs:List V}{us:List Value} (n:Nat),au xs us->au (xs.drop n) (us.drop n)
 | _,_,0,r=>r
 | _,_,_+1,.nil=>.nil
 | _,_,n+1,.cons _ t=>au.drop n t
def dG:Option V->Option Value->Prop
 | some v,some u=>av v u
 | none,none=>True
 | _,_=>False
def KV{κ:Type}:List (κ×V)->List (κ×Value)->Prop:=Paired fun (p:κ×V) (q:κ×Value)=>p.1=q.1/\av p.2 q.2
def kV:Key->V
 | .inl i=>.int i
 | .inr x=>.str x
inductive HO where
 | lst (xs:List V)
 | tup (xs:List V)
 | dK (kvs:List (Key×V)) | dT (kvs:List (List Im×V))
 | set (S:Int->Bool) (n:Nat)
 | ins (C dx:Addr) (fs:List (Str×V))
 | own (x:Addr)
 | xd (fs:List (Str×V))
 | met (f x:Addr)
 | Jt (lo hi:Int)
 | Fa (o:Obj) (u:HO)
 | Ju (ps:Array Value)
 | ext (φ:Heap->Prop)
variable{o:HO}
abbrev Hp:=Addr->Option HO
variable{H' H:Hp}
def upd(H:Hp)(a:Addr)(o:HO):Hp:=fun b=>if b=a then some o else H b
theorem bI:upd H a o a=some o:=by unfold upd;rw[ZZ rfl]
theorem aG(h:b≠a):upd H a o b=H b:=by unfold upd;rw[ZY h]
theorem vx{u:HO}(h:H a=some o)(h':H b=some u)(d:o≠u):a≠b:=by
 intro e;subst e;rw[h] at h';exact d (Zr h')
theorem bZ(h:H a=some o)(h':H b=none):a≠b:=by
 intro e;subst e;rw[h] at h';cases h'
mutual
def EG(H:Hp):Im->V->Prop
 | .h_,v=>v=.h_
 | .bl b,v=>v=.bl b
 | .int i,v=>v=.int i
 | .str x,v=>v=.str x
 | .fn a,v=>v=.ref a
 | .fl ds,v=>∃ a xs o,v=.ref a/\H a=some (.Fa o<|.lst xs)/\aj H ds xs
 | .fd,v=>∃ a o,v=.ref a/\H a=some (.Fa o<|.dT [])
 | .tup ds,v=>∃ a xs,v=.ref a/\H a=some (.tup xs)/\aj H ds xs
def aj(H:Hp):List Im->List V->Prop
 | [],vs=>vs=[]
 | d::ds,vs=>∃ v r,vs=v::r/\EG H d v/\aj H ds r
end
def iF(H H':Hp):Prop:=∀ a xs,H a=some (.tup xs)->H' a=some (.tup xs)
structure HC(H H':Hp):Prop where
 t:iF H H'
 z:∀ a o u,H a=some (.Fa o u)->H' a=some (.Fa o u)
instance {H H':Hp}:CoeFun (HC H H') (fun _=>∀ a xs,H a=some (.tup xs)->H' a=some (.tup xs)):=⟨fun t=>t.t⟩
mutual
theorem EG.mono{H H':Hp}(k:HC H H'):∀ {d:Im}{v:V},EG H d v->EG H' d v
 | .h_,_,e=>e
 | .bl _,_,e=>e
 | .int _,_,e=>e
 | .str _,_,e=>e
 | .fn _,_,e=>e
 | .tup ds,_,e=>by
  obtain⟨a,xs,rfl,h1,h2⟩:=e;exact⟨a,xs,rfl,k.t a xs h1,aj.mono k h2⟩
 | .fl ds,_,e=>by
  obtain⟨a,xs,o,rfl,h1,h2⟩:=e;exact⟨a,xs,o,rfl,k.z a _ _ h1,aj.mono k h2⟩
 | .fd,_,e=>by
  obtain⟨a,o,rfl,h1⟩:=e;exact⟨a,o,rfl,k.z a _ _ h1⟩
theorem aj.mono{H H':Hp}(k:HC H H'):∀ {ds:List Im}{vs:List V},aj H ds vs->aj H' ds vs
 | [],_,e=>e
 | d::ds,_,e=>by
  obtain⟨v,r,rfl,h1,h2⟩:=e;exact⟨v,r,rfl,EG.mono k h1,aj.mono k h2⟩
end
def HW(H:Hp)(k:List Im)(b:Addr):Prop:=Im.keys 7 k=true/\EG H (.tup k) (.ref b)
mutual
theorem EG.GV{H H':Hp}(k:iF H H'):∀ {d:Im}{n:Nat}{v:V},Im.key n d=true->EG H d v->EG H' d v
 | .h_,_,_,_,e=>e
 | .bl _,_,_,_,e=>e
 | .int _,_,_,_,e=>e
 | .str _,_,_,_,e=>e
 | .fn _,_,_,_,e=>e
 | .tup ds,n+1,_,q,e=>by
  obtain⟨a,xs,rfl,h1,h2⟩:=e;exact⟨a,xs,rfl,k a xs h1,aj.GV k q h2⟩
 | .tup ds,0,_,q,e=>nomatch q
 | .fl ds,0,_,q,e=>nomatch q
 | .fl ds,n+1,_,q,e=>nomatch q
 | .fd,0,_,q,e=>nomatch q
 | .fd,n+1,_,q,e=>nomatch q
theorem aj.GV{H H':Hp}(k:iF H H'):∀ {ds:List Im}{n:Nat}{vs:List V},Im.keys n ds=true->aj H ds vs->aj H' ds vs
 | [],_,_,_,e=>e
 | d::ds,n,_,q,e=>by
  obtain⟨v,r,rfl,h1,h2⟩:=e;rw[Im.keys,ZQ] at q;exact⟨v,r,rfl,EG.GV k q.1 h1,aj.GV k q.2 h2⟩
end
theorem HW.mono{k:List Im}(h:HW H k b)(t:iF H H'):HW H' k b:=by
 obtain⟨h0,a,xs,e,h1,h2⟩:=h;exact⟨h0,a,xs,e,t a xs h1,h2.GV t h0⟩
section
variable(P:Program)(w:World)
def bg(H:Hp)(h:Heap)(a:Addr):HO->Prop
 | .lst xs=>xs.length<=sizeLine/\∃ (e_:List Value) (n:Nat),au xs e_/\h.get? a=some { cls:=.type "list",data:=.seq e_.toArray n }
 | .tup xs=>xs.length<=sizeLine/\∃ e_:List Value,au xs e_/\IsTup h a e_.toArray
 | .dK kvs=>kvs.length<=sizeLine/\(a == sysModules)=false/\∃ vs,KV kvs vs/\h.DictOf (eJ P w) a vs
 | .dT kvs=>kvs.length<=sizeLine/\(a == sysModules)=false/\∃ xs:List (List Im×Addr×Value),
   Paired (fun (p:List Im×V) (q:List Im×Addr×Value)=>p.1=q.1/\HW H p.1 q.2.1/\av p.2 q.2.2) kvs xs/\
   ∃ o es ep,h.get? a=some o/\o.ExactDict/\o.data=.dict es ep/\es.toList=xs.map (entryOfKey<|bt P w)/\(xs.map (·.1)).Nodup
 | .set S n=>h.SetOf (intKind P w) a S n
 | .ins C dx fs=>H dx=some (.own a)/\fs.length<=1000/\dx≠a/\h.get? a=some (PySem.W.instObj C dx)/\
   ∃ mA,h.Ns1 dx mA/\(∀ f,dG (fs.lookup f)<|mA f)/\PySem.Within mA (fs.map (·.1))
 | .own _=>∃ o,h.get? a=some o
 | .xd fs=>∃ mA,h.Ns1 a mA/\∀ f,dG (fs.lookup f) (mA f)
 | .Jt lo hi=>∃ t u v,h.get? a=some { cls:=.type "range",data:=.fields #[.int lo t,.int hi u,.int 1 v] }
 | .Fa o u=>h.get? a=some o/\bg H h a u
 | .Ju ps=>h.get? a=some { cls:=.none,data:=.fields ps }
 | .met f x=>h.get? a=some (PySem.W.methodObj (.ref f)<|.ref x)
 | .ext φ=>φ h/\(∃ o,h.get? a=some o)/\∀ h1 h2:Heap,φ h1->(∀ o,h1.get? a=some o->h2.get? a=some o)->φ h2
def ES(H:Hp)(h:Heap):Prop:=∀ a o,H a=some o->bg P w H h a o
end
section
variable{P:Program}{w:World}{H H':Hp}{h h':Heap}{a:Addr}{o:HO}
theorem bg.lt(x:bg P w H h a o):a<h.objs.size:=by
 cases o with
 | lst xs=>obtain⟨_,_,_,_,e⟩:=x;exact ZP e
 | tup xs=>obtain⟨_,_,_,p⟩:=x;exact p.lt
 | dK kvs=>obtain⟨_,_,_,_,o,_,_,e,_⟩:=x;exact ZP e
 | dT kvs=>obtain⟨_,_,_,_,o,_,_,e,_⟩:=x;exact ZP e
 | set S n=>obtain⟨o,_,_,_,e,_⟩:=x;exact ZP e
 | ins C dx fs=>obtain⟨_,_,_,e,_⟩:=x;exact ZP e
 | own y=>obtain⟨_,e⟩:=x;exact ZP e
 | xd fs=>obtain⟨_,⟨_,_,_,e,_⟩,_⟩:=x;exact ZP e
 | Jt lo hi=>obtain⟨_,_,_,e⟩:=x;exact ZP e
 | Fa ob u=>obtain⟨e,_⟩:=x;exact ZP e
 | Ju ps=>exact ZP (show h.get? a=some _ from x)
 | met f y=>exact ZP (show h.get? a=some _ from x)
 | ext φ=>obtain⟨_,⟨_,e⟩,_⟩:=x;exact ZP e
theorem Paired.IW{α β:Type}{F G:α->β->Prop}:∀ {l₁:List α}{l₂:List β},Paired F l₁ l₂->(∀ a b,F a b->G a b)->Paired G l₁ l₂
 | _,_,.nil,_=>.nil
 | _,_,.cons r t,f=>.cons (f _ _ r) (Paired.IW t f)
theorem bg.Ge(x:bg P w H h a o)(k:∀ b u,(b=a\/H b=some (.own a))->h.get? b=some u->h'.get? b=some u)(ho:∀ b,H b=some (.own a)->H' b=some (.own a))(ht:∀ b xs,H b=some (.tup xs)->H' b=some (.tup xs)):bg P w H' h' a o:=by
 induction o with
 | lst xs=>obtain⟨z,e_,n,r,e⟩:=x;exact⟨z,e_,n,r,k _ _ (.inl rfl) e⟩
 | tup xs=>obtain⟨z,e_,r,ob,e,c⟩:=x;exact⟨z,e_,r,ob,k _ _ (.inl rfl) e,c⟩
 | dK kvs=>obtain⟨z,y,vs,r,ob,es,ep,e,c⟩:=x;exact⟨z,y,vs,r,ob,es,ep,k _ _ (.inl rfl) e,c⟩
 | dT kvs=>
  obtain⟨z,y,xs,r,ob,es,ep,e,c⟩:=x;exact⟨z,y,xs,Paired.IW r fun p q z=>⟨z.1,z.2.1.mono ht,z.2.2⟩,ob,es,ep,k _ _ (.inl rfl) e,c⟩
 | set S n=>obtain⟨ob,es,ep,t,e,c⟩:=x;exact⟨ob,es,ep,t,k _ _ (.inl rfl) e,c⟩
 | ins C dx fs=>
  obtain⟨d,z,ne,e,mA,⟨od,es,ep,e2,c⟩,r⟩:=x;exact⟨ho _ d,z,ne,k _ _ (.inl rfl) e,mA,⟨od,es,ep,k _ _ (.inr d) e2,c⟩,r⟩
 | own y=>obtain⟨ob,e⟩:=x;exact⟨ob,k _ _ (.inl rfl) e⟩
 | xd fs=>obtain⟨mA,⟨od,es,ep,e,c⟩,r⟩:=x;exact⟨mA,⟨od,es,ep,k _ _ (.inl rfl) e,c⟩,r⟩
 | Jt lo hi=>obtain⟨t,u,v,e⟩:=x;exact⟨t,u,v,k _ _ (.inl rfl) e⟩
 | Fa ob u ih=>obtain⟨e,q⟩:=x;exact⟨k _ _ (.inl rfl) e,ih q⟩
 | Ju ps=>
  have e:h.get? a=some { cls:=.none,data:=.fields ps }:=x;show h'.get? a=some { cls:=.none,data:=.fields ps };exact k a _ (.inl rfl) e
 | met f y=>
  have e:h.get? a=some (PySem.W.methodObj (.ref f)<|.ref y):=x;show h'.get? a=some (PySem.W.methodObj (.ref f)<|.ref y);exact k a _ (.inl rfl) e
 | ext φ=>obtain⟨p,⟨o,e⟩,st⟩:=x;exact⟨st _ _ p fun o q=>k _ _ (.inl rfl) q,⟨o,k _ _ (.inl rfl) e⟩,st⟩
theorem ES.lt(x:ES P w H h)(e:H a=some o):a<h.objs.size:=(x a o e).lt
theorem ES.fresh(x:ES P w H h)(e:h.objs.size<=a):H a=none:=by
 cases q:H a with
 | none=>rfl
 | some u=>exact absurd (Zv (x.lt q) e) (Yh _)
theorem ES.kept(x:ES P w H h)(k:∀ b u,h.get? b=some u->h'.get? b=some u):ES P w H h':=fun a o e=>
 (x a o e).Ge (fun b u _ q=>k b u q) (fun _ q=>q) fun _ _ q=>q
theorem ES.laid(x:ES P w H h)(k:∀ b u,h.get? b=some u->h'.get? b=some u)(hp:h.objs.size<=a)(new:bg P w (upd H a o) h' a o):ES P w (upd H a o) h':=fun b u e=>by
 have hn:=x.fresh hp;by_cases hb:b=a
 ·subst hb;rw[bI] at e;cases e;exact new
 ·rw[aG hb] at e;exact (x b u e).Ge (fun c v _ q=>k c v q) (fun c q=>by rw[aG (bZ q hn)];exact q) fun c xs q=>by rw[aG (bZ q hn)];exact q
end
def Rd(H:Hp)(a:Addr)(u:HO):Prop:=H a=some u\/∃ o,H a=some (.Fa o u)
theorem Rd.ok{u:HO}(r:Rd H a u)(x:ES P w H h):bg P w H h a u:=by
 rcases r with r | ⟨o,r⟩
 ·exact x a u r
 ·obtain⟨_,q⟩:=x a _ r;exact q
def Lh:Option HO->Prop
 | some (.lst _)=>True
 | some (.dK _)=>True
 | some (.dT _)=>True
 | some (.set _ _)=>True
 | some (.ins _ _ _)=>True
 | some (.ext _)=>True
 | _=>False
section
variable{P:Program}{w:World}{H:Hp}{h h':Heap}{x e:Addr}{o':HO}
theorem ES.write(ok:ES P w H h)(mu:Lh (H x))(he:e=x\/H e=some (.own x))(k:∀ b u,b≠e->h.get? b=some u->h'.get? b=some u)(KJ:∃ u,h'.get? e=some u)(new:bg P w (upd H x o') h' x o'):ES P w (upd H x o') h':=fun b u q=>by
 have Li:∀ c y,H c=some (.own y)->c≠x:=fun c y r z=>by subst z;rw[r] at mu;exact mu
 have Nv:∀ c xs,H c=some (.tup xs)->c≠x:=fun c xs r z=>by subst z;rw[r] at mu;exact mu
 by_cases hb:b=x
 ·subst hb;rw[bI] at q;cases q;exact new
 ·rw[aG hb] at q;by_cases JX:b=e
  ·have q':H b=some (.own x):=by
    rcases he with z | z
    ·exact absurd (JX.trans z) hb
    ·rw[JX];exact z
   rw[q] at q';cases q';obtain⟨v,hv⟩:=KJ;exact⟨v,by rw[JX];exact hv⟩
  ·refine (ok b u q).Ge (fun c v hc r=>k c v ?_ r) (fun c r=>by rw[aG (Li c b r)];exact r) fun c xs r=>by rw[aG (Nv c xs r)];exact r
   rcases hc with rfl | hc
   ·exact JX
   ·rintro rfl;rcases he with z | z
    ·exact Li c b hc z
    ·rw[hc] at z;cases z;exact hb rfl
end
structure Un(fs ex:List Addr)(H H':Hp)(h h':Heap):Prop where
 keep:∀ b o,h.get? b=some o->H b=none->b∉fs->b∉ex->h'.get? b=some o
 slot:∀ b o,h.get? b=some o->H b=none->b∈fs->b∉ex->∃ sl,h'.get? b=some { o with slots:=sl }
 free:∀ b o,h.get? b=some o->H b=none->b∉ex->H' b=none
 there:∀ b o,h.get? b=some o->b∉ex->∃ o',h'.get? b=some o'
 Fg:∀ b xs,H b=some (.tup xs)->H' b=some (.tup xs)
 Fb:∀ b o u,H b=some (.Fa o u)->H' b=some (.Fa o u)
 Ft:∀ b ps,H b=some (.Ju ps)->∃ more,H' b=some (.Ju<|ps++more)
section
variable{fs Nw ex Pd:List Addr}{H H1 H2:Hp}{h h1 h2 h':Heap}{a x e:Addr}{o:HO}
theorem Un.any(u:Un fs ex H H1 h h1){b:Addr}{ob:Obj}(q:h.get? b=some ob)(n:H b=none)(hx:b∉ex):∃ sl,h1.get? b=some { ob with slots:=sl }:=by
 by_cases hb:b∈fs
 ·exact u.slot b ob q n hb hx
 ·exact⟨ob.slots,u.keep b ob q n hb hx⟩
theorem Un.kept(k:∀ b u,h.get? b=some u->h'.get? b=some u):Un fs ex H H h h':=
 ⟨fun b ob q _ _ _=>k b ob q,fun b ob q _ _ _=>⟨ob.slots,k b ob q⟩,fun _ _ _ n _=>n,fun b ob q _=>⟨ob,k b ob q⟩,fun _ _ q=>q,fun _ _ _ q=>q,fun _ ps q=>⟨#[],by rw[q];simp⟩⟩
theorem Un.refl:Un fs ex H H h h:=Un.kept fun _ _ q=>q
theorem Un.laid(k:∀ b u,h.get? b=some u->h'.get? b=some u)(hp:h.objs.size<=a)(hn:H a=none):Un fs ex H (upd H a o) h h' where
 keep:=fun b u q _ _ _=>k b u q
 slot:=fun b u q _ _ _=>⟨u.slots,k b u q⟩
 free:=fun b u q n _=>by rw[aG (ZB<|Zv (ZP q) hp)];exact n
 there:=fun b u q _=>⟨u,k b u q⟩
 Fg:=fun b xs q=>by rw[aG (bZ q hn)];exact q
 Fb:=fun b u xs q=>by rw[aG (bZ q hn)];exact q
 Ft:=fun b ps q=>⟨#[],by rw[aG (bZ q hn),q];simp⟩
theorem Un.write(mu:Lh (H x))(he:e=x\/H e=some (.own x))(k:∀ b u,b≠e->h.get? b=some u->h'.get? b=some u)(KJ:∃ u,h'.get? e=some u):Un fs ex H (upd H x o) h h':=by
 have hx:∀ b,H b=none->b≠x:=fun b n z=>by subst z;rw[n] at mu;exact mu
 have hb:∀ b,H b=none->b≠e:=fun b n z=>by
  subst z;rcases he with r | r
  ·exact hx b n r
  ·rw[n] at r;cases r
 have hm:∀ b u,H b=some u->¬ Lh (some u)->b≠x:=fun b u q nm z=>by subst z;rw[q] at mu;exact nm mu
 refine⟨fun b u q n _ _=>k b u (hb b n) q,fun b u q n _ _=>⟨u.slots,k b u (hb b n) q⟩,fun b u q n _=>by rw[aG (hx b n)];exact n,fun b u q _=>?_,
  fun b xs q=>by rw[aG (hm b _ q fun z=>z)];exact q,fun b u xs q=>by rw[aG (hm b _ q fun z=>z)];exact q,fun b ps q=>⟨#[],by rw[aG (hm b _ q fun z=>z),q];simp⟩⟩;by_cases JX:b=e
 ·subst JX;exact KJ
 ·exact⟨u,k b u JX q⟩
theorem Un.mono(u:Un fs ex H H1 h h1)(hs:∀ b∈fs,b∈Nw)(hx:∀ b∈ex,b∈Pd):Un Nw Pd H H1 h h1:=
 ⟨fun b ob q n hb he=>u.keep b ob q n (fun z=>hb<|hs b z) fun z=>he<|hx b z,fun _ _ q n _ he=>u.any q n fun z=>he<|hx _ z,fun b ob q n he=>u.free b ob q n fun z=>he<|hx b z,fun b ob q he=>u.there b ob q fun z=>he<|hx b z,u.Fg,u.Fb,u.Ft⟩
end
def MP(h:Heap)(H:Hp):List Addr:=(range h.objs.size).filter fun a=>(H a).isSome
def d0(h:Heap)(H:Hp):Heap:=PySem.W.hideAll h (MP h H)
theorem vy(h:Heap)(H:Hp):(d0 h H).objs.size=h.objs.size:=PySem.W.hideAll_size _ _
theorem vz{o:Obj}(e:h.get? b=some o)(n:H b=none):(d0 h H).get? b=some o:=
 XQ _ e fun hm=>by
  have q:(H b).isSome=true:=(Ya.mp hm).2;rw[n] at q;simp at q
theorem vA{o:Obj}(e:(d0 h H).get? b=some o):h.get? b=some o/\H b=none:=by
 have e':h.get? b=some o:=WX (MP h H) e;refine⟨e',?_⟩;cases q:H b with
 | none=>rfl
 | some x=>
  have hm:b∈MP h H:=Ya.mpr ⟨Zh.mpr<|ZP e',by simp[q]⟩;have z:(d0 h H).get? b=none:=Yg (MP h H) hm;rw[z] at e;cases e
def vB(g h:Heap)(L:Addr):List (Addr×Obj):=(range h.objs.size).filterMap fun a=>if a=L\/(g.get? a).isSome=true then none else (h.get? a).map fun o=>(a,o)
def rest(g h:Heap)(L d:Addr):List (Addr×Obj):=(vB g h L).filter fun p=>decide (p.1≠d)
structure Mod(K:PySem.W.Frag)(mg:Str->Option Value)(base:Heap):Prop where
 Lj:K.In base
 glob:base.Ns mainGlobals mg
 blt:∃ mb,base.Ns builtinsNs mb/\∀ x:Str,x ≠ "__name__" -> mb x=bootBuiltins x
 nolimit:base.NoLimit
structure Cx where
 prog:Program
 w:World
 K:PySem.W.Frag
 mg:Str->Option Value
 base:Heap
 A:Around
 N:List Str
 s₀:Shared
 H₀:Hp
 env:Env
 outer:List Env
 stack:List Env
 ex:List Addr
 fn:Str->Bool
 calm:Bool
 pn:List (Addr×Obj)
 xe:Value->Shared->Prop
variable{X:Cx}
def EW(l:List Env):List Addr:=l.filterMap (·.frame)
abbrev Cx.fs(X:Cx):List Addr:=EW X.outer
def MQ(sc:Scope)(x:Str):Prop:=sc.names.lookup x=some .local\/sc.names.lookup x=some .cell\/sc.names.lookup x=some .free
def Loc(sc:Scope)(x:Str):Prop:=sc.names.lookup x=some .local\/sc.names.lookup x=some .cell
def vC(env:Env)(h:Heap)(m:Str->Option Value)(x:Str)(u:Value):Prop:=
 (env.kindOf x=some .local/\m x=some u)\/((env.kindOf x=some .cell\/env.kindOf x=some .free)/\∃ c,env.cells.lookup x=some c/\h.IsCell c (some u))
structure Cx.Ok(X:Cx):Prop where
 mod:Mod X.K X.mg X.base
 kind:X.env.scope.kind=.function
 glob:X.env.globals=mainGlobals
 blt:X.env.builtins=builtinsNs
 above:X.s₀.heap.objs.size<=X.env.locals
 inj:∀ x y c,X.env.cells.lookup x=some c->X.env.cells.lookup y=some c->x=y
 has:∀ x,(X.env.kindOf x=some .cell\/X.env.kindOf x=some .free)->∃ c,X.env.cells.lookup x=some c
 IN:∀ x c,X.fn x=true->X.env.cells.lookup x=some c->X.s₀.heap.objs.size<=c
 hd:X.calm=true->X.A.handled=none
 frames:X.A.frames=some X.stack
 IX:X.stack=X.outer\/(X.stack=X.env::X.outer/\X.env.frame=some X.env.locals)
 JY:∀ b∈X.ex,b≠X.env.locals/\∀ x c,X.env.cells.lookup x=some c->c≠b
 bs:∀ b o,X.base.get? b=some o->X.s₀.heap.get? b=some o/\X.H₀ b=none
 HD:X.base.objs.size<=X.s₀.heap.objs.size
 Gf:∀ b o,X.base.get? b=some o->b∉X.ex
 Gh:∀ b∈X.ex,b∉X.fs
 ET:X.s₀.heap.FunFrames X.base X.outer
 H9:∀ b∈X.fs,X.H₀ b=none
structure Inv(X:Cx)(pins:List (Addr×Obj))(σ:List (Option V))(H:Hp)(s:Shared):Prop where
 ok:X.Ok
 os:s.os=X.s₀.os
 bare:AllBare s.gens
 base:Un X.fs X.ex X.H₀ H X.s₀.heap s.heap
 loc:∃ m,s.heap.Ns X.env.locals m/\∀ (i:Nat) (x:Str) (v:V),X.N[i]?=some x->σ[i]?=some (some v)->MQ X.env.scope x->∃ u,av v u/\vC X.env s.heap m x u
 cell:∀ x c,X.env.cells.lookup x=some c->∃ v,s.heap.IsCell c v
 free:H X.env.locals=none
 B_:∀ x c,X.env.cells.lookup x=some c->H c=none
 pin:∀ p∈X.pn++pins,s.heap.get? p.1=some p.2/\H p.1=none/\p.1≠X.env.locals/\p.1∉X.fs/\∀ v,p.2.data≠.cell v
 i_:ES X.prog X.w H s.heap
 len:σ.length=X.N.length
section
variable{X:Cx}{pins:List (Addr×Obj)}{σ:List (Option V)}{H H':Hp}{s:Shared}{h':Heap}
theorem Cx.Ok.Nx(ok:X.Ok){b:Addr}{o:Obj}(e:X.base.get? b=some o):b∉X.fs:=fun hb=>by
 have:=(ok.ET.mem hb).1;rw[e] at this;cases this
theorem Inv.bs(I:Inv X pins σ H s):∀ b o,X.base.get? b=some o->s.heap.get? b=some o/\H b=none:=fun b o e=>
 ⟨I.base.keep b o (I.ok.bs b o e).1 (I.ok.bs b o e).2 (I.ok.Nx e) (I.ok.Gf b o e),I.base.free b o (I.ok.bs b o e).1 (I.ok.bs b o e).2 (I.ok.Gf b o e)⟩
theorem Inv.bk(I:Inv X pins σ H s):∀ b o,X.base.get? b=some o->s.heap.get? b=some o:=fun b o e=>(I.bs b o e).1
theorem Inv.mod(I:Inv X pins σ H s):Mod X.K X.mg X.base:=I.ok.mod
theorem Inv.IO(I:Inv X pins σ H s):X.K.In s.heap:=I.ok.mod.Lj.keeps I.bk
theorem Inv.lt(I:Inv X pins σ H s):X.env.locals<s.heap.objs.size:=let ⟨_,hn,_⟩:=I.loc;hn.lt
theorem Inv.sz(I:Inv X pins σ H s):X.s₀.heap.objs.size<=s.heap.objs.size:=Zg I.ok.above (Xj I.lt)
theorem Inv.Ny(I:Inv X pins σ H s){a:Addr}(h:s.heap.objs.size<=a):a∉X.fs:=fun hb=>by
 obtain⟨_,o,ho,_⟩:=I.ok.ET.mem hb;exact absurd (Zv (ZP ho)<|Zg I.sz h) (Yh _)
theorem Inv.IY(I:Inv X pins σ H s):∀ x c,X.env.cells.lookup x=some c->c≠X.env.locals:=fun x c e z=>by
 obtain⟨v,o,ho,hd⟩:=I.cell x c e;obtain⟨m,⟨o',es,ep,GB,Go,_⟩,_⟩:=I.loc;rw[z,GB] at ho;cases ho;rw[Go] at hd;cases hd
theorem Inv.ET(I:Inv X pins σ H s):s.heap.FunFrames X.base X.outer:=by
 have all:∀ (l:List Env),(∀ b∈EW l,b∈X.fs)->X.s₀.heap.FunFrames X.base l->s.heap.FunFrames X.base l:=by
  intro l;induction l with
  | nil=>intro _ _;trivial
  | cons env r ih=>
   intro hs hl;obtain⟨hk,⟨L,o,hf,hn,ho,hd⟩,hr⟩:=hl;have hL:L∈X.fs:=hs L (by unfold EW;rw[Yo,hf];exact YQ);obtain⟨sl,e⟩:=I.base.slot L o ho (I.ok.H9 L hL) hL fun z=>I.ok.Gh L z hL;exact⟨hk,⟨L,_,hf,hn,e,hd⟩,ih (fun b hb=>hs b (by unfold EW;rw[Yo,hf];exact Y4 _ hb)) hr⟩
 exact all X.outer (fun _ hb=>hb) I.ok.ET
theorem Inv.stack(I:Inv X pins σ H s):s.heap.FunFrames X.base X.stack:=by
 rcases I.ok.IX with e | ⟨e,hf⟩
 ·rw[e];exact I.ET
 ·rw[e];obtain⟨m,hn,_⟩:=I.loc;refine .cons (by rw[I.ok.kind];decide) hf hn ?_ I.ET;exact Heap.get?_none_of_le (Zg I.ok.HD I.ok.above)
theorem Inv.Hf(I:Inv X pins σ H s):∀ b∈EW X.stack,b∈X.env.locals::X.fs:=fun b hb=>by
 rcases I.ok.IX with e | ⟨e,hf⟩
 ·rw[e] at hb;exact Y4 _ hb
 ·rw[e] at hb;unfold EW at hb;rw[Yo,hf] at hb;exact hb
theorem Inv.Fu(I:Inv X pins σ H s):∀ b∈EW X.stack,H b=none:=fun b hb=>by
 rcases ZU.mp (I.Hf b hb) with e | hb
 ·rw[e];exact I.free
 ·obtain⟨_,o,ho,_⟩:=I.ok.ET.mem hb;exact I.base.free b o ho (I.ok.H9 b hb) fun z=>I.ok.Gh b z hb
theorem Inv.step(I:Inv X pins σ H s)(FP:∀ b∈ch,(b∈X.ex\/X.s₀.heap.objs.size<=b)/\b≠X.env.locals/\(∀ x c,X.env.cells.lookup x=some c->c≠b)/\∀ p∈X.pn++pins,p.1≠b)(keep:∀ b o,b≠X.env.locals->b∉X.fs->b∉ch->s.heap.get? b=some o->H b=none->h'.get? b=some o)(slot:∀ b o,b≠X.env.locals->b∈X.fs->b∉ch->s.heap.get? b=some o->H b=none->∃ sl,h'.get? b=some { o with slots:=sl })(free:∀ b o,b∉ch->s.heap.get? b=some o->H b=none->H' b=none)(there:∀ b o,b∉ch->s.heap.get? b=some o->∃ o',h'.get? b=some o')(Fg:∀ b xs,H b=some (.tup xs)->H' b=some (.tup xs))(Fb:∀ b o u,H b=some (.Fa o u)->H' b=some (.Fa o u))(Ft:∀ b ps,H b=some (.Ju ps)->∃ more,H' b=some (.Ju<|ps++more))(ns:∀ m,s.heap.Ns X.env.locals m->h'.Ns X.env.locals m)(i_:ES X.prog X.w H' h')(hg:AllBare g'):
  Inv X pins σ H' { s with heap:=h',gens:=g',drawn:=d',toks:=t' }:=by
 have Pe:∀ b o,X.s₀.heap.get? b=some o->b≠X.env.locals:=fun b o e=>ZB (Zv (ZP e) I.ok.above);have MR:∀ b o,X.s₀.heap.get? b=some o->b∉X.ex->b∉ch:=fun b o e hx hb=>by
  rcases (FP b hb).1 with z | z
  ·exact hx z
  ·exact absurd (Zv (ZP e) z) (Yh _)
 have cellK:∀ x c,X.env.cells.lookup x=some c->∀ v,s.heap.IsCell c v->h'.IsCell c v:=fun x c e v ⟨o,ho,hd⟩=>by
  have Lk:c∉ch:=fun z=>(FP c z).2.2.1 x c e rfl;by_cases hc:c∈X.fs
  ·obtain⟨sl,q⟩:=slot c o (I.IY x c e) hc Lk ho (I.B_ x c e);exact⟨_,q,hd⟩
  ·exact⟨o,keep c o (I.IY x c e) hc Lk ho<|I.B_ x c e,hd⟩
 refine⟨I.ok,I.os,hg,⟨fun b o e n hb hx=>?_,fun b o e n hb hx=>?_,fun b o e n hx=>?_,fun b o e hx=>?_,fun b xs e=>Fg b xs<|I.base.Fg b xs e,fun b o xs e=>Fb b o xs<|I.base.Fb b o xs e,fun b ps e=>?_⟩,?_,fun x c e=>?_,?_,fun x c e=>?_,fun p hp=>?_,i_,I.len⟩
 ·exact keep b o (Pe b o e) hb (MR b o e hx) (I.base.keep b o e n hb hx) (I.base.free b o e n hx)
 ·obtain⟨sl,e1⟩:=I.base.slot b o e n hb hx;obtain⟨Ll,e2⟩:=slot b _ (Pe b o e) hb (MR b o e hx) e1 (I.base.free b o e n hx);exact⟨Ll,e2⟩
 ·obtain⟨o',e1⟩:=I.base.there b o e hx;exact free b o' (MR b o e hx) e1 (I.base.free b o e n hx)
 ·obtain⟨o',e1⟩:=I.base.there b o e hx;exact there b o' (MR b o e hx) e1
 ·obtain⟨m1,e1⟩:=I.base.Ft b ps e;obtain⟨m2,e2⟩:=Ft b _ e1;exact⟨m1++m2,by rw[e2,Array.append_assoc]⟩
 ·obtain⟨m,hn,hl⟩:=I.loc;refine⟨m,ns m hn,fun i x v e1 e2 e3=>?_⟩;obtain⟨u,r,l⟩:=hl i x v e1 e2 e3;refine⟨u,r,?_⟩;rcases l with l | ⟨k,c,e,z⟩
  ·exact .inl l
  ·exact .inr ⟨k,c,e,cellK x c e _ z⟩
 ·obtain⟨v,z⟩:=I.cell x c e;exact⟨v,cellK x c e v z⟩
 ·obtain⟨m,⟨o,_,_,ho,_⟩,_⟩:=I.loc;exact free _ o (fun z=>(FP _ z).2.1 rfl) ho I.free
 ·obtain⟨v,o,ho,hd⟩:=I.cell x c e;exact free c o (fun z=>(FP c z).2.2.1 x c e rfl) ho (I.B_ x c e)
 ·obtain⟨e,n,ne,nf,d⟩:=I.pin p hp;have Lk:p.1∉ch:=fun z=>(FP p.1 z).2.2.2 p hp rfl;exact⟨keep p.1 p.2 ne nf Lk e n,free p.1 p.2 Lk e n,ne,nf,d⟩
theorem Inv.un(I:Inv X pins σ H s)(u:Un X.fs [] H H' s.heap h')(i_:ES X.prog X.w H' h'):Inv X pins σ H' { s with heap:=h',toks:=t' }:=by
 obtain⟨m,⟨o,es,ep,ho,r⟩,_⟩:=id I.loc;obtain⟨sl,hL⟩:=u.any ho I.free (by simp);exact I.step (g':=s.gens) (d':=s.drawn) (ch:=[]) (fun _ z=>nomatch z) (fun b o _ hb _ e n=>u.keep b o e n hb (by simp)) (fun b o _ hb _ e n=>u.slot b o e n hb (by simp)) (fun b o _ e n=>u.free b o e n (by simp)) (fun b o _ e=>u.there b o e (by simp)) u.Fg u.Fb u.Ft (fun m' hm=>by
  obtain⟨o',es',Nz,GB,r'⟩:=hm;rw[ho] at GB;cases GB;exact⟨_,es',Nz,hL,r'⟩) i_ I.bare
theorem Inv.call(I:Inv X pins σ H s)(u:Un (EW X.stack) ch H H' s.heap h')(i_:ES X.prog X.w H' h')(hg:AllBare g')(FP:∀ b∈ch,(b∈X.ex\/X.s₀.heap.objs.size<=b)/\b≠X.env.locals/\(∀ x c,X.env.cells.lookup x=some c->c≠b)/\∀ p∈X.pn++pins,p.1≠b):
  Inv X pins σ H' { s with heap:=h',gens:=g',drawn:=d',toks:=t' }:=by
 obtain⟨m,⟨o,es,ep,ho,r⟩,_⟩:=id I.loc;obtain⟨sl,hL⟩:=u.any ho I.free fun z=>(FP _ z).2.1 rfl;exact I.step (ch:=ch) FP (fun b o hL hb hc e n=>u.keep b o e n (fun z=>(ZU.mp<|I.Hf b z).elim hL hb) hc) (fun b o _ _ hc e n=>u.any e n hc) (fun b o hc e n=>u.free b o e n hc) (fun b o hc e=>u.there b o e hc) u.Fg u.Fb u.Ft (fun m' hm=>by
  obtain⟨o',es',Nz,GB,r'⟩:=hm;rw[ho] at GB;cases GB;exact⟨_,es',Nz,hL,r'⟩) i_ hg
theorem Inv.turned(I:Inv X pins σ H s)(k:∀ b o,b≠it->s.heap.get? b=some o->h'.get? b=some o)(hn:H it=none)(hL:it≠X.env.locals)(h1:it∈X.ex\/X.s₀.heap.objs.size<=it)(h2:∀ x c,X.env.cells.lookup x=some c->c≠it)(h3:∀ p∈X.pn++pins,p.1≠it):Inv X pins σ H { s with heap:=h',toks:=t' }:=by
 have Pf:∀ b u,H b=some u->b≠it:=fun b u e z=>by rw[z,hn] at e;cases e
 refine I.step (g':=s.gens) (d':=s.drawn) (ch:=[it]) (fun b hb=>?_) (fun b o _ _ hc e _=>k b o (fun z=>hc (by simp[z])) e) (fun b o _ _ hc e _=>⟨o.slots,k b o (fun z=>hc (by simp[z])) e⟩) (fun _ _ _ _ n=>n)
  (fun b o hc e=>⟨o,k b o (fun z=>hc (by simp[z])) e⟩) (fun _ _ e=>e) (fun _ _ _ e=>e) (fun b ps e=>⟨#[],by rw[e];simp⟩) (fun m hm=>?_) (fun b u e=>?_) I.bare
 ·have e:b=it:=by simpa using hb
  subst e;exact⟨h1,hL,h2,h3⟩
 ·obtain⟨o,es,ep,ho,r⟩:=hm;exact⟨o,es,ep,k _ o (Yd hL) ho,r⟩
 ·refine (I.i_ b u e).Ge (fun c v hc q=>k c v ?_ q) (fun _ q=>q) fun _ _ q=>q;rcases hc with z | z
  ·rw[z];exact Pf b u e
  ·exact Pf c _ z
theorem Inv.tok(I:Inv X pins σ H s)(t:Nat):Inv X pins σ H { s with toks:=t }:=I.un (h':=s.heap) (t':=t) Un.refl I.i_
theorem Inv.kept(I:Inv X pins σ H s)(k:∀ b u,s.heap.get? b=some u->h'.get? b=some u):Inv X pins σ H { s with heap:=h',toks:=t' }:=I.un (Un.kept k) (I.i_.kept k)
theorem Inv.laid(I:Inv X pins σ H s)(k:∀ b u,s.heap.get? b=some u->h'.get? b=some u)(hp:s.heap.objs.size<=a)(new:bg X.prog X.w (upd H a o) h' a o):
  Inv X pins σ (upd H a o) { s with heap:=h',toks:=t' }:=I.un (Un.laid k hp<|I.i_.fresh hp) (I.i_.laid k hp new)
theorem Inv.write{x e:Addr}(I:Inv X pins σ H s)(mu:Lh (H x))(he:e=x\/H e=some (.own x))(k:∀ b u,b≠e->s.heap.get? b=some u->h'.get? b=some u)(KJ:∃ u,h'.get? e=some u)(new:bg X.prog X.w (upd H x o) h' x o):Inv X pins σ (upd H x o) { s with heap:=h',toks:=t' }:=I.un (Un.write mu he k KJ) (I.i_.write mu he k KJ new)
theorem Inv.weak{σ':List (Option V)}(I:Inv X pins σ H s)(hl:σ'.length=σ.length)(w:∀ (i:Nat) v,σ'[i]?=some (some v)->σ[i]?=some (some v)):Inv X pins σ' H s:=
 ⟨I.ok,I.os,I.bare,I.base,let ⟨m,hn,FV⟩:=I.loc;⟨m,hn,fun i x v e1 e2 e3=>FV i x v e1 (w i v e2) e3⟩,I.cell,I.free,I.B_,I.pin,I.i_,hl.trans I.len⟩
theorem Inv.E7{Gp:List (Addr×Obj)}(I:Inv X pins σ H s)(h:∀ p∈Gp,s.heap.get? p.1=some p.2/\H p.1=none/\p.1≠X.env.locals/\p.1∉X.fs/\∀ v,p.2.data≠.cell v):Inv X Gp σ H s:=
 ⟨I.ok,I.os,I.bare,I.base,I.loc,I.cell,I.free,I.B_,fun p hp=>(Zx.mp hp).elim (fun z=>I.pin p<|ZA _ z)<|h p,I.i_,I.len⟩
theorem lN(hN:N.Nodup){i j:Nat}{x:Str}(a:N[i]?=some x)(b:N[j]?=some x):i=j:=by
 obtain⟨h1,e1⟩:=ZE.mp a;obtain⟨h2,e2⟩:=ZE.mp b;exact (V5 hN).mp (e1.trans e2.symm)
variable{Q:Unit->Shared->Prop}
theorem lO{M:Model}(I:Inv X pins σ H s)(hN:X.N.Nodup)(hi:X.N[i]?=some x)(hx:Loc X.env.scope x)(r:av v u)(h:∀ s',Inv X pins (σ.set i<|some v) H s'->(∃ a,Heap.SameBut a s.heap s'.heap/\(a=X.env.locals\/X.env.cells.lookup x=some a))->Q () s')(hf:X.fn x=true\/X.env.scope.names.lookup x=some .local:=by first | exact .inl rfl | exact .inr rfl | assumption):wpAny M A (storeName X.env x u) Q E s:=by
 obtain⟨m,hn,hl⟩:=id I.loc;have NA:(X.env.scope.kind == .class || (X.env.scope.kind == .module && X.env.locals != X.env.globals))=false:=by rw[I.ok.kind];rfl
 have Lm:i < σ.length:=by rw[I.len];exact (ZE.mp hi).1
 have IY:=I.IY;have tracked:∀ {a:Addr}{h':Heap},(∃ o,s.heap.get? a=some o/\H a=none)->Heap.SameBut a s.heap h'->ES X.prog X.w H h':=fun {a h'} ha hs b ob e=>by
  obtain⟨_,_,GW⟩:=ha;refine (I.i_ b ob e).Ge (fun c w' hc q=>(hs.2 c ?_).trans q) (fun _ q=>q) fun _ _ q=>q;rintro rfl;rcases hc with rfl | hc
  ·rw[GW] at e;cases e
  ·rw[GW] at hc;cases hc
 rcases hx with hk | hk
 ·refine wpAny_storeName_local hk hn (fun h' Hs hs=>?_) NA;obtain⟨oL,_,_,Qw,_⟩:=id hn;refine h _ ⟨I.ok,I.os,I.bare,⟨fun b o e n hb hx=>?_,fun b o e n hb hx=>?_,I.base.free,fun b o e hx=>?_,I.base.Fg,I.base.Fb,I.base.Ft⟩,⟨_,Hs,fun j y v' e1 e2 e3=>?_⟩,fun y c e=>?_,I.free,I.B_,fun p hp=>?_,tracked ⟨oL,Qw,I.free⟩ hs,by simpa using I.len⟩ ⟨_,hs,.inl rfl⟩
  ·exact (hs.2 b<|ZB<|Zv (ZP e) I.ok.above).trans (I.base.keep b o e n hb hx)
  ·obtain⟨sl,e1⟩:=I.base.slot b o e n hb hx;exact⟨sl,(hs.2 b<|ZB<|Zv (ZP e) I.ok.above).trans e1⟩
  ·obtain⟨o',e1⟩:=I.base.there b o e hx;exact⟨o',(hs.2 b<|ZB<|Zv (ZP e) I.ok.above).trans e1⟩
  ·by_cases hj:j=i
   ·subst hj;rw[hi] at e1;cases e1;rw[XE Lm] at e2;cases e2;exact⟨u,r,.inl ⟨hk,by simp⟩⟩
   ·rw[YO (Yd hj)] at e2;obtain⟨u',r',q⟩:=hl j y v' e1 e2 e3;refine⟨u',r',?_⟩;rcases q with ⟨k,e⟩ | ⟨k,c,e,z⟩
    ·refine .inl ⟨k,?_⟩;have:y≠x:=fun e=>hj (lN hN e1<|e ▸ hi);simp[this,e]
    ·exact .inr ⟨k,c,e,z.sameBut hs<|IY y c e⟩
  ·obtain⟨w',z⟩:=I.cell y c e;exact⟨w',z.sameBut hs<|IY y c e⟩
  ·obtain⟨e,n,ne,nf,d⟩:=I.pin p hp;exact⟨(hs.2 p.1 ne).trans e,n,ne,nf,d⟩
 ·have H_:X.fn x=true:=by
   rcases hf with z | z
   ·exact z
   ·rw[z] at hk;cases hk
  obtain⟨c,hc⟩:=I.ok.has x (.inl hk);obtain⟨w',z⟩:=I.cell x c hc;refine wpAny_storeName_cell I.ok.kind hk hc z (fun h' IP hs=>?_);obtain⟨oc,Pg,NB⟩:=id z;refine h { s with heap:=h' } ⟨I.ok,I.os,I.bare,⟨fun b o e n hb hx=>?_,fun b o e n hb hx=>?_,I.base.free,fun b o e hx=>?_,I.base.Fg,I.base.Fb,I.base.Ft⟩,⟨m,hn.sameBut hs<|Yd<|IY x c hc,fun j y v' e1 e2 e3=>?_⟩,fun y c' e=>?_,I.free,I.B_,fun p hp=>?_,tracked ⟨oc,Pg,I.B_ x c hc⟩ hs,by simpa using I.len⟩ ⟨c,hs,.inr hc⟩
  ·exact (hs.2 b<|ZB<|Zv (ZP e)<|I.ok.IN x c H_ hc).trans (I.base.keep b o e n hb hx)
  ·obtain⟨sl,e1⟩:=I.base.slot b o e n hb hx;exact⟨sl,(hs.2 b<|ZB<|Zv (ZP e)<|I.ok.IN x c H_ hc).trans e1⟩
  ·obtain⟨o',e1⟩:=I.base.there b o e hx;exact⟨o',(hs.2 b<|ZB<|Zv (ZP e)<|I.ok.IN x c H_ hc).trans e1⟩
  ·by_cases hj:j=i
   ·subst hj;rw[hi] at e1;cases e1;rw[XE Lm] at e2;cases e2;exact⟨u,r,.inr ⟨.inl hk,c,hc,IP⟩⟩
   ·rw[YO (Yd hj)] at e2;obtain⟨u',r',q⟩:=hl j y v' e1 e2 e3;refine⟨u',r',?_⟩;rcases q with q | ⟨k,c',e,z'⟩
    ·exact .inl q
    ·refine .inr ⟨k,c',e,z'.sameBut hs ?_⟩;rintro rfl;exact hj (lN hN e1<|I.ok.inj _ _ _ e hc ▸ hi)
  ·by_cases Ph:c'=c
   ·subst Ph;exact⟨_,IP⟩
   ·obtain⟨w2,z2⟩:=I.cell y c' e;exact⟨w2,z2.sameBut hs Ph⟩
  ·obtain⟨e,n,ne,nf,d⟩:=I.pin p hp;refine⟨(hs.2 p.1 ?_).trans e,n,ne,nf,d⟩;intro q;rw[q,Pg] at e;have q':oc=p.2:=Zr e;exact d w' (by rw[<- q'];exact NB)
theorem pz{M:Model}(I:Inv X pins σ H s)(hN:X.N.Nodup)(hi:X.N[i]?=some x)(hx:Loc X.env.scope x)(r:av v u)(h:∀ s',Inv X pins (σ.set i<|some v) H s'->Q () s')(hf:X.fn x=true\/X.env.scope.names.lookup x=some .local:=by first | exact .inl rfl | exact .inr rfl | assumption):wpAny M A (storeName X.env x u) Q E s:=
 lO I hN hi hx r (fun s' I' _=>h s' I') hf
theorem Inv.Jv(I:Inv X pins σ H s)(ho:s'.os=s.os)(u:Un (EW X.stack) ch H H' s.heap s'.heap)(i_:ES X.prog X.w H' s'.heap)(hg:AllBare s'.gens)(FP:∀ b∈ch,(b∈X.ex\/X.s₀.heap.objs.size<=b)/\b≠X.env.locals/\(∀ x c,X.env.cells.lookup x=some c->c≠b)/\∀ p∈X.pn++pins,p.1≠b):Inv X pins σ H' s':=by
 obtain⟨h',g',d',t',o'⟩:=s';have e:o'=s.os:=ho;subst e;exact I.call (g':=g') (t':=t') (d':=d') u i_ hg FP
end
abbrev XK:=Value->Option Addr->Hp->Prop
abbrev St:=List (Option V)
variable{σ:St}
abbrev VK:=V->Hp->Prop
abbrev TE:=St->Hp->VK->Prop
variable{te:TE}
abbrev TT:=St->Hp->(Bool->Hp->Prop)->Prop
variable{tc:TT}
abbrev TA:=St->Hp->(List V->Hp->Prop)->Prop
structure Ends where
 nx:St->Hp->Prop
 rt:VK
 bk:St->Hp->Prop:=fun _ _=>False
 ct:St->Hp->Prop:=fun _ _=>False
abbrev TS:=Ends->St->Hp->Prop
variable{tb:TS}
def EP(X:Cx)(pins:List (Addr×Obj))(σ:St)(Q:VK)(u:Value)(s':Shared):Prop:=∃ v H',Inv X pins σ H' s'/\av v u/\Q v H'
def TP(X:Cx)(pins:List (Addr×Obj))(σ:St)(Q:Bool->Hp->Prop)(b:Bool)(s':Shared):Prop:=∃ H',Inv X pins σ H' s'/\Q b H'
def AP(X:Cx)(pins:List (Addr×Obj))(σ:St)(Q:List V->Hp->Prop)(us:List Value)(s':Shared):Prop:=∃ vs H',Inv X pins σ H' s'/\au vs us/\Q vs H'
def SP(X:Cx)(pins:List (Addr×Obj))(D:Ends)(f:Flow)(s':Shared):Prop:=
 match f with
 | .next=>∃ σ' H',Inv X pins σ' H' s'/\D.nx σ' H'
 | .brk=>∃ σ' H',Inv X pins σ' H' s'/\D.bk σ' H'
 | .cont=>∃ σ' H',Inv X pins σ' H' s'/\D.ct σ' H'
 | .ret u=>∃ v σ' H',Inv X pins σ' H' s'/\av v u/\D.rt v H'
def NC(X:Cx)(e:Expr)(t:TE)(pins:List (Addr×Obj)):Prop:=
 ∀ (s:Shared) (σ:St) (H:Hp) (Q:VK),Inv X pins σ H s->t σ H Q->wpAny (model X.prog X.w) X.A (eval e X.env) (EP X pins σ Q) X.xe s
def PE(X:Cx)(e:Expr)(t:TE):Prop:=∀ pins,NC X e t pins
def Pj(X:Cx)(e:Expr)(t:TT)(pins:List (Addr×Obj)):Prop:=
 ∀ (s:Shared) (σ:St) (H:Hp) (Q:Bool->Hp->Prop),Inv X pins σ H s->t σ H Q->wpAny (model X.prog X.w) X.A (isTrue e X.env<|eval e X.env) (TP X pins σ Q) X.xe s
def PT(X:Cx)(e:Expr)(t:TT):Prop:=∀ pins,Pj X e t pins
def Pk(X:Cx)(e:Expr)(t:TT)(whole:Sem Value):Prop:=
 ∀ (pins:List (Addr×Obj)) (s:Shared) (σ:St) (H:Hp) (Q:Bool->Hp->Prop),Inv X pins σ H s->t σ H Q->wpAny (model X.prog X.w) X.A (isTrue e X.env whole) (TP X pins σ Q) X.xe s
def PW(X:Cx)(e:Expr)(t:TT):Prop:=∀ whole,Pk X e t whole
theorem PW.pt{t:TT}(h:PW X e t):PT X e t:=h _
def Pl(X:Cx)(es:List Expr)(t:TA)(pos:Pos):Prop:=
 ∀ (pins:List (Addr×Obj)) (s:Shared) (σ:St) (H:Hp) (Q:List V->Hp->Prop),Inv X pins σ H s->t σ H Q->wpAny (model X.prog X.w) X.A (spliced<|backTo pos<|starEach es X.env) (AP X pins σ Q) X.xe s
def PA(X:Cx)(es:List Expr)(t:TA):Prop:=∀ pos,Pl X es t pos
def Pm(X:Cx)(st:Stmt)(t:TS)(pins:List (Addr×Obj)):Prop:=
 ∀ (s:Shared) (σ:St) (H:Hp) (D:Ends),Inv X pins σ H s->t D σ H->wpAny (model X.prog X.w) X.A (exec st X.env) (SP X pins D) X.xe s
def PS(X:Cx)(st:Stmt)(t:TS):Prop:=∀ pins,Pm X st t pins
def pA(X:Cx)(st:List Stmt)(t:TS)(pins:List (Addr×Obj)):Prop:=
 ∀ (s:Shared) (σ:St) (H:Hp) (D:Ends),Inv X pins σ H s->t D σ H->wpAny (model X.prog X.w) X.A (execs st X.env) (SP X pins D) X.xe s
def GC(X:Cx)(st:List Stmt)(t:TS):Prop:=∀ pins,pA X st t pins
theorem t_{α:Type}{t:Sem α}{Q Q':α->Shared->Prop}{M:Model}(h:wpAny M A t Q E s)(hQ:∀ a s,Q a s->Q' a s):wpAny M A t Q' E s:=YV h hQ fun _ _ x=>x
section
variable{X:Cx}
def gw(i:Nat):TE:=fun σ H Q=>∃ v,σ[i]?=some (some v)/\Q v H
def tC(v:V):TE:=fun _ H Q=>Q v H
theorem pB(hN:X.N[i]?=some x)(hv:MQ X.env.scope x)(hd:(x == ("__debug__" : Str))=false:=by decide)(Hg:(x == ("__classdict__" : Str))=false:=by decide):PE X (.Name x pos) (gw i):=by
 intro pins s σ H Q I h;obtain⟨v,e,h⟩:=h;obtain⟨m,hn,hl⟩:=I.loc;obtain⟨u,r,l⟩:=hl i x v hN e hv;have fin:EP X pins σ Q u s:=⟨v,H,I,r,h⟩;rcases l with ⟨hk,hm⟩ | ⟨hk,c,hc,Ht⟩
 ·exact wpAny_Name (wpAny_loadName_local I.ok.kind hk hn hm fin) hd
 ·rcases hk with hk | hk
  ·exact wpAny_Name (wpAny_loadName_cell I.ok.kind hk hc Ht fin) hd
  ·exact wpAny_Name (wpAny_loadName_free I.ok.kind hk hc Ht fin Hg) hd
theorem vD{i j pos}:PE X (.Constant (.int i) j pos) (tC<|.int i):=fun _ _ _ H _ I h=>wpAny_Constant_int ⟨.int i,H,I.tok _,⟨_,rfl⟩,h⟩
theorem vE{b j pos}:PE X (.Constant (.bool b) j pos) (tC<|.bl b):=fun _ _ _ H _ I h=>Constant_bool ⟨.bl b,H,I,rfl,h⟩
theorem vF{j pos}:PE X (.Constant .none j pos) (tC .h_):=fun _ _ _ H _ I h=>Constant_none ⟨.h_,H,I,rfl,h⟩
theorem pC{x j pos}:PE X (.Constant (.str x) j pos) (tC<|.str x):=fun _ _ _ H _ I h=>Calls.Constant_str ⟨.str x,H,I.tok _,⟨_,rfl⟩,h⟩
def Gl(X:Cx)(x:Str):Prop:=X.env.kindOf x=some .globalImplicit
theorem jF(I:Inv X pins σ H s)(hg:Gl X x)(hm:X.mg x=some u)(h:Q u s)(hd:(x == ("__debug__" : Str))=false:=by decide):wpAny (model X.prog X.w) X.A (eval (.Name x pos) X.env) Q E s:=
 Calls.Name_function_global I.ok.kind hg (Calls.loadGlobal_global (by rw[I.ok.glob];exact I.mod.glob.keeps I.bk) hm h) hd
theorem fJ(I:Inv X pins σ H s)(hg:Gl X x)(hm:X.mg x=none)(hv:bootBuiltins x=some u)(h:Q u s)(hn:x ≠ "__name__" := by decide)(hd:(x == ("__debug__" : Str))=false:=by decide):wpAny (model X.prog X.w) X.A (eval (.Name x pos) X.env) Q E s:=by
 obtain⟨mb,h1,h2⟩:=I.mod.blt;exact Calls.Name_function_global I.ok.kind hg (Calls.loadGlobal_builtin (by rw[I.ok.glob];exact I.mod.glob.keeps I.bk) hm (by rw[I.ok.blt];exact h1.keeps I.bk) ((h2 x hn).trans hv) h) hd
theorem lP(hg:Gl X x)(hm:X.mg x=some u)(r:av v u)(hd:(x == ("__debug__" : Str))=false:=by decide):PE X (.Name x pos) (tC v):=
 fun _ _ _ H _ I h=>jF I hg hm ⟨v,H,I,r,h⟩ hd
theorem pD(hg:Gl X x)(hm:X.mg x=none)(hv:bootBuiltins x=some u)(r:av v u)(hn:x ≠ "__name__" := by decide)(hd:(x == ("__debug__" : Str))=false:=by decide):PE X (.Name x pos) (tC v):=
 fun _ _ _ H _ I h=>fJ I hg hm hv ⟨v,H,I,r,h⟩ hn hd
variable{a b:Expr}{ta tb:TE}{pos:Pos}
variable{tA MT:TT}{rest:List Expr}
def pE(t u:TT):TT:=fun σ H Q=>t σ H fun c H1=>if c=true then u σ H1 Q else Q false H1
def Pn(t u:TT):TT:=fun σ H Q=>t σ H fun c H1=>if c=true then Q true H1 else u σ H1 Q
def vG(t:TT):TT:=fun σ H Q=>t σ H fun c H1=>Q (!c) H1
theorem vH(ha:PT X a tA):PW X (.BoolOp .And [a] pos) tA:=by
 intro wh pins s σ H Q I h;refine isTrue_and (t_ (ha pins s σ H Q I h) fun c s1 e=>?_);cases c with
 | true=>exact isTrue_and_nil e
 | false=>exact e
theorem vI(ha:PT X a tA):PW X (.BoolOp .Or [a] pos) tA:=by
 intro wh pins s σ H Q I h;refine isTrue_or (t_ (ha pins s σ H Q I h) fun c s1 e=>?_);cases c with
 | false=>exact isTrue_or_nil e
 | true=>exact e
theorem vJ(ha:PT X a tA)(hb:PW X (.BoolOp .And (b::rest) pos) MT):PW X (.BoolOp .And (a::b::rest) pos) (pE tA MT):=by
 intro wh pins s σ H Q I h;refine isTrue_and (t_ (ha pins s σ H _ I h) fun c s1 ⟨H1,I1,q1⟩=>?_);cases c with
 | true=>exact hb wh pins s1 σ H1 Q I1 q1
 | false=>exact⟨H1,I1,q1⟩
theorem vK(ha:PT X a tA)(hb:PW X (.BoolOp .Or (b::rest) pos) MT):PW X (.BoolOp .Or (a::b::rest) pos) (Pn tA MT):=by
 intro wh pins s σ H Q I h;refine isTrue_or (t_ (ha pins s σ H _ I h) fun c s1 ⟨H1,I1,q1⟩=>?_);cases c with
 | true=>exact⟨H1,I1,q1⟩
 | false=>exact hb wh pins s1 σ H1 Q I1 q1
theorem vL(ha:PT X a tA):PT X (.UnaryOp .Not a pos) (vG tA):=by
 intro pins s σ H Q I h;exact isTrue_not (ha pins s σ H (fun c H1=>Q (!c) H1) I h)
def vM(ta tb:TE):TE:=fun σ H Q=>ta σ H fun x H1=>∃ c,x=.bl c/\if c=true then tb σ H1 Q else Q (.bl false) H1
def vN(ta tb:TE):TE:=fun σ H Q=>ta σ H fun x H1=>∃ c,x=.bl c/\if c=true then Q (.bl true) H1 else tb σ H1 Q
def vO(ta:TE):TE:=fun σ H Q=>ta σ H fun x H1=>∃ c,x=.bl c/\Q (.bl<|!c) H1
theorem vP{op}{t:TE}(h:PE X a t):PE X (.BoolOp op [a] pos) t:=fun pins s σ H Q I hw=>BoolOp_one (h pins s σ H Q I hw)
theorem vQ(ha:PE X a ta)(hb:PE X (.BoolOp .And (b::rest) pos) tb):PE X (.BoolOp .And (a::b::rest) pos) (vM ta tb):=by
 intro pins s σ H Q I h;refine BoolOp_and (t_ (ha pins s σ H _ I h) fun v s1 ⟨x,H1,I1,r1,q1⟩=>?_);obtain⟨c,rfl,q1⟩:=q1;cases r1;refine YE ?_;cases c with
 | true=>exact hb pins s1 σ H1 Q I1 q1
 | false=>exact⟨.bl false,H1,I1,rfl,q1⟩
theorem vR(ha:PE X a ta)(hb:PE X (.BoolOp .Or (b::rest) pos) tb):PE X (.BoolOp .Or (a::b::rest) pos) (vN ta tb):=by
 intro pins s σ H Q I h;refine BoolOp_or (t_ (ha pins s σ H _ I h) fun v s1 ⟨x,H1,I1,r1,q1⟩=>?_);obtain⟨c,rfl,q1⟩:=q1;cases r1;refine YE ?_;cases c with
 | false=>exact hb pins s1 σ H1 Q I1 q1
 | true=>exact⟨.bl true,H1,I1,rfl,q1⟩
theorem vS(ha:PE X a ta):PE X (.UnaryOp .Not a pos) (vO ta):=by
 intro pins s σ H Q I h;refine UnaryOp_ (t_ (ha pins s σ H _ I h) fun v s1 ⟨x,H1,I1,r1,q1⟩=>?_);obtain⟨c,rfl,q1⟩:=q1;cases r1;exact not_of (YE ⟨.bl<|!c,H1,I1,rfl,q1⟩)
end
def EL(K:PySem.W.Frag)(H:Hp)(a:Addr)(xs:List V):Prop:=
 Rd H a (.lst xs)\/
  ∃ (o:Obj) (e_:Array Value) (n:Nat),K.lookup a=some o/\o.cls=.type "list" /\ o.dict=none/\o.data=.seq e_ n/\e_.size<=sizeLine/\au xs e_.toList
def y_(K:PySem.W.Frag)(H:Hp)(a:Addr)(xs:List V):Prop:=
 Rd H a (.tup xs)\/
  ∃ (o:Obj) (e_:Array Value) (n:Nat),K.lookup a=some o/\o.cls=.type "tuple" /\ o.data=.seq e_ n/\e_.size<=sizeLine/\au xs e_.toList
def vT:Value->Option V
 | .none=>some .h_
 | .bool b=>some (.bl b)
 | .int i _=>some (.int i)
 | .str x _=>some (.str x)
 | .bytes b _=>some (.Lg b)
 | .float b _=>some (.Nu b)
 | .ref a=>some (.ref a)
 | .type n=>some (.ty n)
 | _=>none
theorem av.abs{x:V}(r:av x u):vT u=some x:=by
 cases x with
 | h_=>cases r;rfl
 | bl _=>cases r;rfl
 | int _=>obtain⟨t,rfl⟩:=r;rfl
 | str _=>obtain⟨t,rfl⟩:=r;rfl
 | Lg _=>obtain⟨t,rfl⟩:=r;rfl
 | Nu _=>obtain⟨t,rfl⟩:=r;rfl
 | ref _=>cases r;rfl
 | ty _=>cases r;rfl
theorem av.inj{x y:V}{u:Value}(r:av x u)(q:av y u):x=y:=Zr (r.abs.symm.trans q.abs)
theorem au.inj:∀ {xs ys:List V}{us:List Value},au xs us->au ys us->xs=ys
 | _,_,_,.nil,.nil=>rfl
 | _,_,_,.cons r t,.cons r' t'=>by rw[r.inj r',au.inj t t']
section
variable{X:Cx}{pins:List (Addr×Obj)}{σ:St}{H:Hp}{s:Shared}{a:Addr}{xs ys:List V}
theorem EL.of(h:H a=some (.lst xs)):EL K H a xs:=.inl (.inl h)
theorem y_.of(h:H a=some (.tup xs)):y_ K H a xs:=.inl (.inl h)
theorem Inv.list(I:Inv X pins σ H s)(h:EL X.K H a xs):∃ e_:List Value,au xs e_/\PlainL s.heap a e_.toArray/\xs.length<=sizeLine:=by
 rcases h with h | ⟨o,e_,n,hk,hc,hd,hs,hz,r⟩
 ·obtain⟨z,e_,n,r,e⟩:=h.ok I.i_;exact⟨e_,r,⟨_,n,e,rfl,rfl,rfl⟩,z⟩
 ·refine⟨e_.toList,r,⟨o,n,I.IO a o hk,hc,hd,by simpa using hs⟩,?_⟩;have e:=r.length;simp only[ZO] at e;lia
theorem Inv.tuple(I:Inv X pins σ H s)(h:y_ X.K H a xs):∃ e_:List Value,au xs e_/\IsTup s.heap a e_.toArray/\xs.length<=sizeLine:=by
 rcases h with h | ⟨o,e_,n,hk,hc,hs,hz,r⟩
 ·obtain⟨z,e_,r,p⟩:=h.ok I.i_;exact⟨e_,r,p,z⟩
 ·refine⟨e_.toList,r,⟨o,I.IO a o hk,hc,n,by simpa using hs⟩,?_⟩;have e:=r.length;simp only[ZO] at e;lia
theorem Inv.Ia(I:Inv X pins σ H s)(h:EL X.K H a xs)(h':EL X.K H a ys):xs=ys:=by
 obtain⟨e_,r,⟨o,n,e,_,_,d⟩,_⟩:=I.list h;obtain⟨its',r',⟨o',n',e',_,_,d'⟩,_⟩:=I.list h';rw[e] at e';cases e';rw[d] at d';injection d' with d1 _;have:e_=its':=by simpa using congrArg Array.toList d1
 subst this;exact r.inj r'
theorem Inv.FE(I:Inv X pins σ H s)(h:y_ X.K H a xs)(h':y_ X.K H a ys):xs=ys:=by
 obtain⟨e_,r,⟨o,e,_,n,d⟩,_⟩:=I.tuple h;obtain⟨its',r',⟨o',e',_,n',d'⟩,_⟩:=I.tuple h';rw[e] at e';cases e';rw[d] at d';injection d' with d1 _;have:e_=its':=by simpa using congrArg Array.toList d1
 subst this;exact r.inj r'
end
abbrev Cx.Gi(X:Cx)(E:Value->Shared->Prop):Cx:={ X with xe:=E }
abbrev Cx.KK(X:Cx):Cx:=X.Gi fun _ _=>False
theorem Cx.Ok.Gi(ok:X.Ok)(E:Value->Shared->Prop):(X.Gi E).Ok:=
 ⟨ok.mod,ok.kind,ok.glob,ok.blt,ok.above,ok.inj,ok.has,ok.IN,ok.hd,ok.frames,ok.IX,ok.JY,ok.bs,ok.HD,ok.Gf,ok.Gh,ok.ET,ok.H9⟩
theorem Cx.Ok.EZ(ok:(X.Gi E).Ok):X.Ok:=
 ⟨ok.mod,ok.kind,ok.glob,ok.blt,ok.above,ok.inj,ok.has,ok.IN,ok.hd,ok.frames,ok.IX,ok.JY,ok.bs,ok.HD,ok.Gf,ok.Gh,ok.ET,ok.H9⟩
section
variable{X:Cx}{pins:List (Addr×Obj)}{σ:St}{H:Hp}{s:Shared}{E:Value->Shared->Prop}
theorem Inv.Gi(I:Inv X pins σ H s)(E:Value->Shared->Prop):Inv (X.Gi E) pins σ H s:=⟨I.ok.Gi E,I.os,I.bare,I.base,I.loc,I.cell,I.free,I.B_,I.pin,I.i_,I.len⟩
theorem Inv.EZ(I:Inv (X.Gi E) pins σ H s):Inv X pins σ H s:=⟨I.ok.EZ,I.os,I.bare,I.base,I.loc,I.cell,I.free,I.B_,I.pin,I.i_,I.len⟩
theorem SP.EZ{D:Ends}{f:Flow}(h:SP (X.Gi E) pins D f s'):SP X pins D f s':=by
 cases f with
 | next=>obtain⟨σ',H',I,q⟩:=h;exact⟨σ',H',I.EZ,q⟩
 | brk=>obtain⟨σ',H',I,q⟩:=h;exact⟨σ',H',I.EZ,q⟩
 | cont=>obtain⟨σ',H',I,q⟩:=h;exact⟨σ',H',I.EZ,q⟩
 | ret u=>obtain⟨v,σ',H',I,r,q⟩:=h;exact⟨v,σ',H',I.EZ,r,q⟩
theorem GC.KK{st:List Stmt}{t:TS}(h:GC X.KK st t):GC X st t:=fun pins s σ H D I hw=>
 YV (h pins s σ H D (I.Gi _) hw) (fun _ _ q=>q.EZ) fun _ _ z=>False.elim z
end
section
variable{X:Cx}{st:Stmt}{rest:List Stmt}{t u:TS}{e:Expr}{te:TE}{pos:Pos}
def Ln:TS:=fun D σ H=>D.nx σ H
def pF(t u:TS):TS:=fun D σ H=>t { D with nx:=u D } σ H
theorem vU:GC X [] Ln:=fun _ _ σ H _ I h=>Xy ⟨σ,H,I,h⟩
theorem iG(h1:PS X st t)(h2:GC X rest u):GC X (st::rest) (pF t u):=by
 intro pins s σ H D I h;refine wpAny_execs_cons (t_ (h1 pins s σ H { D with nx:=u D } I h) fun f s1 q=>?_);cases f with
 | next=>
  obtain⟨σ',H',I',q⟩:=q;exact h2 pins s1 σ' H' D I' q
 | ret v=>exact q
 | brk=>exact q
 | cont=>exact q
theorem vV(h1:PS X st t):GC X [st] t:=by
 intro pins s σ H D I h;refine wpAny_execs_cons (t_ (h1 pins s σ H D I h) fun f s1 q=>?_);cases f with
 | next=>exact Xy q
 | ret v=>exact q
 | brk=>exact q
 | cont=>exact q
theorem Inv.quiet(I:Inv X pins σ H s):interactive X.env=false:=by simp[interactive,I.ok.kind]
def vW(te:TE):TS:=fun D σ H=>te σ H fun _ H1=>D.nx σ H1
theorem vX(he:PE X e te)(hs:swapsWith e none pos.line X.env=pure false:=by rfl):PS X (.Expr e pos) (vW te):=by
 intro pins s σ H D I h;exact wpAny_Expr_any (t_ (he pins s σ H _ I h) fun v s1 ⟨x,H1,I1,r1,q1⟩=>⟨σ,H1,I1,q1⟩) I.quiet hs
def vY(te:TE):TS:=fun D σ H=>te σ H D.rt
theorem vZ(he:PE X e te):PS X (.Return (some e) pos) (vY te):=by
 intro pins s σ H D I h;exact wpAny_Return_some (t_ (he pins s σ H _ I h) fun v s1 ⟨x,H1,I1,r1,q1⟩=>⟨x,σ,H1,I1,r1,q1⟩)
def v4(c:TT)(t u:TS):TS:=fun D σ H=>c σ H fun b H1=>if b=true then t D σ H1 else u D σ H1
theorem pG{a b:List Stmt}(hc:PT X c tc)(ha:GC X a t)(hb:GC X b u):PS X (.If c a b pos) (v4 tc t u):=by
 intro pins s σ H D I h;refine wpAny_If (t_ (hc pins s σ H _ I h) fun d s1 ⟨H1,I1,q1⟩=>?_);cases d with
 | true=>exact ha pins s1 σ H1 D I1 q1
 | false=>exact hb pins s1 σ H1 D I1 q1
def JZ:TS:=fun _ _ _=>False
theorem v5:PS X st JZ:=fun _ _ _ _ _ _ h=>h.elim
end
abbrev TG:=V->St->Hp->(St->Hp->Prop)->Prop
abbrev IQ:=List V->St->Hp->(St->Hp->Prop)->Prop
def Po(X:Cx)(target:Expr)(t:TG)(pins:List (Addr×Obj)):Prop:=
 ∀ (s:Shared) (σ:St) (H:Hp) (v:V) (u:Value) (Q:St->Hp->Prop),Inv X pins σ H s->av v u->t v σ H Q->
  wpAny (model X.prog X.w) X.A (assign target X.env u) (fun _ s'=>∃ σ' H',Inv X pins σ' H' s'/\Q σ' H') X.xe s
def PG(X:Cx)(target:Expr)(t:TG):Prop:=∀ pins,Po X target t pins
def pH(X:Cx)(ts:List Expr)(t:IQ)(pins:List (Addr×Obj)):Prop:=
 ∀ (s:Shared) (σ:St) (H:Hp) (vs:List V) (us:List Value) (Q:St->Hp->Prop),Inv X pins σ H s->au vs us->t vs σ H Q->
  wpAny (model X.prog X.w) X.A (assignInOrder ((assignEach ts X.env).map (·.2)) us) (fun _ s'=>∃ σ' H',Inv X pins σ' H' s'/\Q σ' H') X.xe s
def J0(X:Cx)(ts:List Expr)(t:IQ):Prop:=∀ pins,pH X ts t pins
abbrev J1:=V->V->V->Hp->(Hp->Prop)->Prop
def lQ(X:Cx)(t:J1):Prop:=
 ∀ (pins:List (Addr×Obj)) (s:Shared) (σ:St) (H:Hp) (o i v:V) (ov iv u:Value) (Q:Hp->Prop),Inv X pins σ H s->av o ov->av i iv->av v u->t o i v H Q->
  wpAny (model X.prog X.w) X.A (setItem ov iv u) (fun _ s'=>∃ H',Inv X pins σ H' s'/\Q H') X.xe s
section
variable{X:Cx}{pos:Pos}
def lR(i:Nat):TG:=fun v σ H Q=>Q (σ.set i<|some v) H
theorem lS(hN:X.N.Nodup)(hi:X.N[i]?=some x)(hx:Loc X.env.scope x)(hf:X.fn x=true\/X.env.scope.names.lookup x=some .local:=by first | exact .inl rfl | exact .inr rfl | assumption):PG X (.Name x pos) (lR i):=by
 intro pins s σ H v u Q I r h;exact wpAny_assign_Name (pz I hN hi hx r (fun s' I'=>⟨_,H,I',h⟩) hf)
def ND:IQ:=fun vs σ H Q=>vs=[]/\Q σ H
def v7(t:TG)(u:IQ):IQ:=fun vs σ H Q=>∃ v r,vs=v::r/\t v σ H fun σ' H'=>u r σ' H' Q
theorem pI:J0 X [] ND:=by
 intro pins s σ H vs us Q I r h;obtain⟨e,h⟩:=h;subst e;cases r;exact assignInOrder_nil ⟨σ,H,I,h⟩
theorem lT{t:TG}{u:IQ}(h1:PG X e t)(h2:J0 X es u)(hs:(assignEach (e::es) X.env).map (·.2)=assign e X.env::(assignEach es X.env).map (·.2):=by rfl):J0 X (e::es) (v7 t u):=by
 intro pins s σ H vs us Q I r h;obtain⟨v,vr,e1,h⟩:=h;subst e1;cases r with
 | cons r rr=>
  rw[hs];refine assignInOrder_cons (t_ (h1 pins s σ H _ _ _ I r h) fun _ s1 ⟨σ1,H1,I1,q1⟩=>?_);exact h2 pins s1 σ1 H1 _ _ Q I1 rr q1
def v9(K:PySem.W.Frag)(n:Nat)(t:IQ):TG:=fun v σ H Q=>∃ a xs,v=.ref a/\y_ K H a xs/\xs.length=n/\t xs σ H Q
theorem we{t:IQ}(hc:X.calm=true)(h:J0 X es t)(hn:(assignEach es X.env).length=n:=by rfl)(Fv:(assignEach es X.env).findIdx? (·.1)=none:=by rfl):PG X (.Tuple es k pos) (v9 X.K n t):=by
 intro pins s σ H v u Q I r hw;obtain⟨a,xs,e1,hq,hl,hw⟩:=hw;subst e1;cases r;obtain⟨e_,rv,ht,hz⟩:=I.tuple hq;refine assign_Tuple_tuple (I.ok.hd hc) ht (by simp[hn,<- hl,rv.length]) Fv fun h' hx=>?_;have I1:Inv X pins σ H { s with heap:=h' }:=I.kept (t':=s.toks) fun b o e=>hx b o (ZB<|ZP e) e;exact h pins _ σ H xs _ Q I1 (by simpa using rv) hw
def wf(to ti:TE)(t:J1):TG:=fun v σ H Q=>to σ H fun o H1=>ti σ H1 fun i H2=>t o i v H2 fun H3=>Q σ H3
theorem wg{o i:Expr}{to ti:TE}{t:J1}(ho:PE X o to)(hi:PE X i ti)(hs:lQ X t)(ha:∀ v,assign (.Subscript o i pos) X.env v=(do
   let ov <- holding [v] (eval o X.env)
   let iv <- holding [v,ov] (eval i X.env)
   standAt pos
   holding [v,ov,iv] (setItem ov iv v)
   release [v,ov,iv] []):=by intro _;rfl):PG X (.Subscript o i pos) (wf to ti t):=by
 intro pins s σ H v u Q I r h;rw[ha];refine Z9 (Y1<|t_ (ho pins s σ H _ I h) fun ov s1 ⟨x,H1,I1,r1,q1⟩=>?_);refine Z9 (Y1<|t_ (hi pins s1 σ H1 _ I1 q1) fun iv s2 ⟨y,H2,I2,r2,q2⟩=>?_);refine Z9 (wpAny_standAt<|Z9<|Y1<|t_ (hs pins s2 σ H2 x y v ov iv u _ I2 r1 r2 r q2) fun _ s3 ⟨H3,I3,q3⟩=>?_);exact wpAny_release ⟨σ,H3,I3,q3⟩
def lU(te:TE)(g:TG):TS:=fun D σ H=>te σ H fun x H1=>g x σ H1 D.nx
theorem wj{g:TG}(he:PE X e te)(hg:PG X tg g)(hs:swapsWithSole [tg] e pos.line X.env=pure false:=by rfl)(hw:swappedStores [tg] e X.env=pure none:=by rfl)(h1:(assignEach [tg] X.env).map (·.2)=[assign tg X.env]:=by rfl):PS X (.Assign [tg] e pos) (lU te g):=by
 intro pins s σ H D I h;refine wpAny_Assign_stores (t_ (he pins s σ H _ I h) fun v s1 ⟨x,H1,I1,r1,q1⟩=>?_) hs hw;rw[h1];exact t_ (hg pins s1 σ H1 x v _ I1 r1 q1) fun _ s2 q=>q
theorem pJ{pos':Pos}(hN:X.N.Nodup)(hi:X.N[i]?=some x)(hx:Loc X.env.scope x)(he:PE X e te)(hs:swapsWith e (some<|.Name x pos') pos.line X.env=pure false:=by rfl)(hf:X.fn x=true\/X.env.scope.names.lookup x=some .local:=by first | exact .inl rfl | exact .inr rfl | assumption):
  PS X (.Assign [.Name x pos'] e pos) (lU te<|lR i):=by
 intro pins s σ H D I h;refine wpAny_Assign_Name (t_ (he pins s σ H _ I h) fun v s1 ⟨y,H1,I1,r1,q1⟩=>?_) hs;exact pz I1 hN hi hx r1 (fun s2 I2=>⟨_,H1,I2,q1⟩) hf
def wl(i j:Nat)(ta:TA):TS:=fun D σ H=>ta σ H fun vs H1=>∃ v w,vs=[v,w]/\D.nx ((σ.set i<|some v).set j<|some w) H1
end
section
variable{X:Cx}{pos:Pos}
def wm(c:TT)(tb:TS):TS:=fun D σ H=>∃ W:Nat->St->Hp->Prop,(∃ m,W m σ H)/\∀ m σ H,W m σ H->
 c σ H fun b H1=>if b=true then ∃ N:St->Hp->Prop,(∀ σ' H',N σ' H'->∃ m',m'<m/\W m' σ' H')/\tb { D with nx:=N,ct:=N,bk:=D.nx } σ H1 else D.nx σ H1
theorem wn(hp:PassesOwn (model X.prog X.w) X.A X.env X.xe)(hc:PT X c tc)(hb:GC X body tb):PS X (.While c body [] pos) (wm tc tb):=by
 intro pins s σ H D I h;obtain⟨W,⟨m0,w0⟩,turn⟩:=h;refine wpAny_While (codeAny_whileLoop (fun n s'=>∃ σ' H',Inv X pins σ' H' s'/\W n σ' H') ?_ m0 ⟨σ,H,I,w0⟩);rintro n s1 ⟨σ1,H1,I1,w1⟩;refine XW hp (t_ (hc pins s1 σ1 H1 _ I1<|turn n σ1 H1 w1) fun b s2 ⟨H2,I2,q2⟩=>?_);cases b with
 | true=>
  obtain⟨N,hN,q2⟩:=q2;rw[ZZ rfl];refine XW hp (t_ (hb pins s2 σ1 H2 _ I2 q2) fun f s3 q3=>?_);cases f with
  | next=>
   obtain⟨σ3,H3,I3,n3⟩:=q3;obtain⟨m',hm,w3⟩:=hN σ3 H3 n3;exact⟨m',hm,σ3,H3,I3,w3⟩
  | cont=>
   obtain⟨σ3,H3,I3,n3⟩:=q3;obtain⟨m',hm,w3⟩:=hN σ3 H3 n3;exact⟨m',hm,σ3,H3,I3,w3⟩
  | brk=>exact q3
  | ret v=>exact q3
 | false=>
  rw[ZY ZM];exact Xy ⟨σ1,H2,I2,q2⟩
end
structure It where
 go:Nat->Hp->Prop
 Lo:Nat->Hp->V->Hp->Prop
 stop:Nat->Hp->Prop
def dq(X:Cx)(pins:List (Addr×Obj))(H:Hp)(b:Addr):Prop:=
 H b=none/\b≠X.env.locals/\b∉X.fs/\(b∈X.ex\/X.s₀.heap.objs.size<=b)/\(∀ x c,X.env.cells.lookup x=some c->c≠b)/\∀ p∈X.pn++pins,p.1≠b
theorem Inv.IZ(I:Inv X pins σ H s)(hb:s.heap.objs.size<=b)(hn:H' b=none):dq X pins H' b:=by
 refine⟨hn,Xi<|Zv I.lt hb,I.Ny hb,.inr<|Zg I.sz hb,fun x c e z=>?_,fun p hp z=>?_⟩
 ·obtain⟨v,q⟩:=I.cell x c e;exact absurd (Zv q.lt (by rw[z];exact hb)) (Yh _)
 ·exact absurd (Zv (ZP (I.pin p hp).1) (by rw[z];exact hb)) (Yh _)
structure Turn(P:Program)(w:World)(K:PySem.W.Frag)(tg:Expr)(J:It)(fp:List Addr)(it:Addr)(tn:Nat->Heap->Prop):Prop where
 mem:it∈fp
 obj:∀ i h,tn i h->∀ b∈fp,∃ o,h.get? b=some o/\∀ v,o.data≠.cell v
 keep:∀ i h h',tn i h->(∀ b∈fp,∀ o,h.get? b=some o->h'.get? b=some o)->tn i h'
 item:∀ (X:Cx),X.prog=P->X.w=w->X.K=K->X.calm=true->∀ (i:Nat) (pins:List (Addr×Obj)) (s:Shared) (σ:St) (H:Hp) (E:Value->Shared->Prop),Inv X pins σ H s->(∀ b∈fp,dq X pins H b)->tn i s.heap->J.go i H->
  wpAny (model P w) X.A (pyNext<|.ref it) (fun r s1=>∃ u,r=some u/\
   wpAny (model P w) X.A (letOwnedTupleGo tg (.ref it) u) (fun _ s2=>∃ x H',Inv X pins σ H' s2/\av x u/\J.Lo i H x H'/\tn (i+1) s2.heap/\∀ b∈fp,H' b=none) E s1) E s
 done:∀ (X:Cx),X.prog=P->X.w=w->X.K=K->X.calm=true->∀ (i:Nat) (pins:List (Addr×Obj)) (s:Shared) (σ:St) (H:Hp) (E:Value->Shared->Prop),Inv X pins σ H s->(∀ b∈fp,dq X pins H b)->tn i s.heap->J.stop i H->
  wpAny (model P w) X.A (pyNext<|.ref it) (fun r s1=>r=none/\Inv X pins σ H s1) E s
 self:∀ (A:Around) (i:Nat) (s:Shared) (Q:Value->Shared->Prop) (E:Value->Shared->Prop),tn i s.heap->Q (.ref it) s->wpAny (model P w) A (pyIter<|.ref it) Q E s
abbrev TI:=St->Hp->(It->Hp->Prop)->Prop
def Pp(X:Cx)(pins:List (Addr×Obj))(σ:St)(tg:Expr)(R:It->Hp->Prop)(NE:Value)(s2:Shared):Prop:=
 ∃ (it:Addr) (fp:List Addr) (tn:Nat->Heap->Prop) (J:It) (H':Hp),NE=.ref it/\Inv X pins σ H' s2/\Turn X.prog X.w X.K tg J fp it tn/\tn 0 s2.heap/\(∀ b∈fp,dq X pins H' b)/\R J H'
def Pq(X:Cx)(tg iter:Expr)(wi:TI)(pins:List (Addr×Obj)):Prop:=
 ∀ (s:Shared) (σ:St) (H:Hp) (R:It->Hp->Prop),Inv X pins σ H s->wi σ H R->
  wpAny (model X.prog X.w) X.A (eval iter X.env) (fun v s1=>wpAny (model X.prog X.w) X.A (pyIter v) (Pp X pins σ tg R) X.xe s1) X.xe s
def PI(X:Cx)(tg iter:Expr)(wi:TI):Prop:=∀ pins,Pq X tg iter wi pins
theorem lV{M : Model}{E : Value -> Shared -> Prop}{o : Obj}{n : String}{vs : Array Value}{Q : Unit -> Shared -> Prop}(ho : s.heap.get? it = some o)(hc : o.cls = .type n)(hd : o.data = .fields vs)(hn : ["enumerate", "zip", "dict_itemiterator", "dict_reverseitemiterator", "odict_iterator", "itertools.zip_longest", "itertools.pairwise"].contains n = false)(hQ : Q () s): wpAny M A (letOwnedTupleGo tg (.ref it) u) Q E s := by
  unfold letOwnedTupleGo;cases tg <;> first
    | exact Z4 hQ
    | (cases u <;> first
        | exact Z4 hQ
        | (refine Z9 (wpAny_load ho ?_)
           rw [hc, hd];show wpAny M A (if (["enumerate", "zip", "dict_itemiterator", "dict_reverseitemiterator", "odict_iterator", "itertools.zip_longest", "itertools.pairwise"].contains n && vs[0]? == some (rawInt _)) = true then _ else _) Q E s;rw [ZY (by intro h; rw [hn, Bool.false_and] at h; cases h)];exact Z4 hQ))
def Lp(K:PySem.W.Frag)(a:Addr):It:=
 ⟨fun i H=>∃ xs x,EL K H a xs/\xs[i]?=some x,fun i H x H'=>H'=H/\∀ xs,EL K H a xs->xs[i]?=some x,fun i H=>∃ xs,EL K H a xs/\xs.length<=i⟩
def MU(K:PySem.W.Frag)(a:Addr):It:=
 ⟨fun i H=>∃ xs x,y_ K H a xs/\xs[i]?=some x,fun i H x H'=>H'=H/\∀ xs,y_ K H a xs->xs[i]?=some x,fun i H=>∃ xs,y_ K H a xs/\xs.length<=i⟩
def MV(lo:Int)(n:Nat):It:=⟨fun i _=>i<n,fun i H x H'=>H'=H/\x=.int (lo+i),fun i _=>n<=i⟩
theorem wo(a it:Addr):Turn P w K tg (Lp K a) [it] it (fun i h=>h.IsListIter it a i) where
 mem:=by simp
 obj:=fun i h st b hb=>by
  have e:b=it:=by simpa using hb
  subst e;obtain⟨o,e,c,d⟩:=st;exact⟨o,e,fun v z=>by rw[d] at z;cases z⟩
 keep:=fun i h h' st k=>st.at fun o e=>k it (by simp) o e
 item:=by
  intro X hP hw hK hc i pins s σ H E I hf st hg;subst hP hw hK;obtain⟨xs,x,hq,hx⟩:=hg;obtain⟨e_,rv,p,hz⟩:=I.list hq;obtain⟨u,hu,ru⟩:=rv.get hx;obtain⟨f0,f1,f2,f3,f4,f5⟩:=hf it (by simp);refine wpAny_pyNext_list_item st p.isList (x:=u) (by simpa using hu) fun h' f_ sb=>?_;have I1:Inv X pins σ H { s with heap:=h' }:=I.turned (t':=s.toks) (fun b o hb e=>(sb.2 b hb).trans e) f0 f1 f3 f4 f5;obtain⟨o,e,c,d⟩:=id f_;exact⟨u,rfl,lV (s:={ s with heap:=h' }) e c d (by decide) ⟨x,H,I1,ru,⟨rfl,fun ys hy=>by rw[I.Ia hy hq];exact hx⟩,f_,fun b hb=>(hf b hb).1⟩⟩
 done:=by
  intro X hP hw hK hc i pins s σ H E I hf st hg;subst hP hw hK;obtain⟨xs,hq,hx⟩:=hg;obtain⟨e_,rv,p,hz⟩:=I.list hq;obtain⟨f0,f1,f2,f3,f4,f5⟩:=hf it (by simp);have hl:=rv.length;exact wpAny_pyNext_list_end (I.ok.hd hc) st p.isList (by simp;lia) fun h' eb=>⟨rfl,I.turned (t':=s.toks) (fun b o hb e=>eb b o hb e) f0 f1 f3 f4 f5⟩
 self:=fun _ _ _ _ _ st h=>wpAny_pyIter_listiter st h
theorem wt(a it:Addr):Turn P w K tg (MU K a) [it] it (fun i h=>h.IsTupleIter it a i) where
 mem:=by simp
 obj:=fun i h st b hb=>by
  have e:b=it:=by simpa using hb
  subst e;obtain⟨o,e,c,d⟩:=st;exact⟨o,e,fun v z=>by rw[d] at z;cases z⟩
 keep:=fun i h h' st k=>st.at fun o e=>k it (by simp) o e
 item:=by
  intro X hP hw hK hc i pins s σ H E I hf st hg;subst hP hw hK;obtain⟨xs,x,hq,hx⟩:=hg;obtain⟨e_,rv,p,hz⟩:=I.tuple hq;obtain⟨u,hu,ru⟩:=rv.get hx;obtain⟨f0,f1,f2,f3,f4,f5⟩:=hf it (by simp);refine wpAny_pyNext_tuple_item st (show s.heap.IsTuple a e_.toArray from p) (x:=u) (by simpa using hu) fun h' f_ sb=>?_;have I1:Inv X pins σ H { s with heap:=h' }:=I.turned (t':=s.toks) (fun b o hb e=>(sb.2 b hb).trans e) f0 f1 f3 f4 f5;obtain⟨o,e,c,d⟩:=id f_;exact⟨u,rfl,lV (s:={ s with heap:=h' }) e c d (by decide) ⟨x,H,I1,ru,⟨rfl,fun ys hy=>by rw[I.FE hy hq];exact hx⟩,f_,fun b hb=>(hf b hb).1⟩⟩
 done:=by
  intro X hP hw hK hc i pins s σ H E I hf st hg;subst hP hw hK;obtain⟨xs,hq,hx⟩:=hg;obtain⟨e_,rv,p,hz⟩:=I.tuple hq;obtain⟨f0,f1,f2,f3,f4,f5⟩:=hf it (by simp);have hl:=rv.length;exact wpAny_pyNext_tuple_end (I.ok.hd hc) st (show s.heap.IsTuple a e_.toArray from p) (by simp;lia) fun h' eb=>⟨rfl,I.turned (t':=s.toks) (fun b o hb e=>eb b o hb e) f0 f1 f3 f4 f5⟩
 self:=fun _ _ _ _ _ st h=>wpAny_pyIter_tupleiter st h
theorem wu(it:Addr)(lo:Int)(n:Nat):Turn P w K tg (MV lo n) [it] it (fun i h=>IsRangeIter h it (lo+(i:Nat) * 1) ((n:Int) - (i:Nat)) 1) where
 mem:=by simp
 obj:=fun i h st b hb=>by
  have e:b=it:=by simpa using hb
  subst e;exact⟨_,st,fun v z=>by
   have z':Data.fields _=Data.cell v:=z;cases z'⟩
 keep:=fun i h h' st k=>k it (by simp) _ st
 item:=by
  intro X hP hw hK hc i pins s σ H E I hf st hg;subst hP hw hK;obtain⟨f0,f1,f2,f3,f4,f5⟩:=hf it (by simp);have W:=Walks.range (prog:=X.prog) (w:=X.w) (I.ok.hd hc) it lo 1 n;refine W.item i s _ _ hg st fun v h' tk hv f_ kk=>?_;obtain⟨t,rfl⟩:=hv;have I1:Inv X pins σ H { s with heap:=h',toks:=tk }:=I.turned (fun b o hb e=>kk b o (by simpa using hb) e) f0 f1 f3 f4 f5;refine⟨_,rfl,lV (s:={ s with heap:=h',toks:=tk }) (n := "range_iterator") f_ rfl rfl (by decide) ⟨.int<|lo+i,H,I1,⟨t,?_⟩,⟨rfl,rfl⟩,f_,fun b hb=>(hf b hb).1⟩⟩;rw[Int.mul_one]
 done:=by
  intro X hP hw hK hc i pins s σ H E I hf st hg;subst hP hw hK;obtain⟨f0,f1,f2,f3,f4,f5⟩:=hf it (by simp);exact wpAny_pyNext_range_end (I.ok.hd hc) st (by have:n<=i:=hg;lia) fun h' eb=>⟨rfl,I.turned (t':=s.toks) (fun b o hb e=>eb b o hb e) f0 f1 f3 f4 f5⟩
 self:=fun _ _ _ _ _ st h=>wpAny_pyIter_rangeiter st h
section
variable{X:Cx}{tg:Expr}
theorem wv{R:It->Hp->Prop}{lo hi:Int}{t u v:Tok}{tk:Nat}(I:Inv X pins σ H s)(h1 : -(2 ^ 62)<=lo)(h2:lo<2 ^ 62)(h3 : -(2 ^ 62)<=hi)(h4:hi<2 ^ 62)(q:R (MV lo (hi - lo).toNat) H):wpAny (model X.prog X.w) X.A (pyIter<|.ref s.heap.objs.size) (Pp X pins σ tg R) E { s with heap:=s.heap.push { cls:=.type "range",data:=.fields #[.int lo t,.int hi u,.int 1 v] },toks:=tk }:=by
 refine wpAny_pyIter_range (IsRange.new ..) (small_one h1 h2 h3 h4) ?_;have I1:Inv X pins σ H { s with heap:=s.heap.push { cls:=.type "range",data:=.fields #[.int lo t,.int hi u,.int 1 v] },toks:=tk }:=I.kept fun b o e=>Z5 _ e;refine⟨(s.heap.push { cls:=.type "range",data:=.fields #[.int lo t,.int hi u,.int 1 v] }).objs.size,[(s.heap.push { cls:=.type "range",data:=.fields #[.int lo t,.int hi u,.int 1 v] }).objs.size],_,_,H,rfl,
  I1.kept (t':=tk) fun b o e=>Z5 _ e,wu _ lo (hi - lo).toNat,?_,fun b hb=>?_,q⟩
 ·have e1:lo+((0:Nat):Int) * 1=lo:=by simp
  have e2:(((hi - lo).toNat:Nat):Int) - ((0:Nat):Int)=Builtin.Range.rangeSize lo hi 1:=by rw[rangeSize_one];split<;>lia
  show IsRangeIter _ _ (lo+((0:Nat):Int) * 1) ((((hi - lo).toNat:Nat):Int) - ((0:Nat):Int)) 1;rw[e1,e2];exact ZN _ rfl
 ·have e:b=(s.heap.push { cls:=.type "range",data:=.fields #[.int lo t,.int hi u,.int 1 v] }).objs.size:=by simpa using hb
  subst e;exact I1.IZ (ZR _) (I1.i_.fresh<|ZR _)
def ww(ta:TA):TI:=fun σ H R=>ta σ H fun vs H1=>∃ j:Int,vs=[.int j] /\ -(2 ^ 62)<=j/\j<2 ^ 62/\R (MV 0 j.toNat) H1
theorem wx{a:Expr}{ta:TA}{p:Pos}(hg:Gl X "range")(hm:X.mg "range" = none)(ha:PA X [a] ta)(hs:starEach [a] X.env=[(false,eval a X.env)]:=by rfl):PI X tg (.Call (.Name "range" p) [a] [] pos) (ww ta):=by
 intro pins s σ H R I h;refine Call_ (fJ I hg hm boot_range<|X6 (t_ (ha pos pins s σ H _ I h) fun us s1 ⟨vs,H1,I1,r1,q1⟩=>?_) hs rfl);obtain⟨j,e,q1,q2,q⟩:=q1;subst e;cases r1 with
 | cons r rr=>
  cases rr;obtain⟨t,rfl⟩:=r;exact call_range_1 (wv I1 (by lia) (by lia) q1 q2 (by simpa using q))
def pK(wi:TI)(g:TG)(tb:TS):TS:=fun D σ H=>wi σ H fun J H1=>∃ W:Nat->Nat->St->Hp->Prop,(∃ m,W 0 m σ H1)/\∀ i m σ H,W i m σ H->
 (J.stop i H/\D.nx σ H)\/(J.go i H/\∃ N:St->Hp->Prop,(∀ σ' H',N σ' H'->∃ m',m'<m/\W (i+1) m' σ' H')/\∀ x H',J.Lo i H x H'->g x σ H' fun σ2 H2=>tb { D with nx:=N,ct:=N,bk:=D.nx } σ2 H2)
def eO(fp:List Addr)(h:Heap):List (Addr×Obj):=fp.filterMap fun b=>(h.get? b).map fun o=>(b,o)
theorem jG{o:Obj}(hb:b∈fp)(e:h.get? b=some o):(b,o)∈eO fp h:=WW.mpr ⟨b,hb,by rw[e];rfl⟩
theorem pL{p:Addr×Obj}(hp:p∈eO fp h):p.1∈fp/\h.get? p.1=some p.2:=by
 obtain⟨b,hb,e⟩:=WW.mp hp;cases q:h.get? b with
 | none=>rw[q] at e;cases e
 | some o=>
  rw[q] at e;have e':(b,o)=p:=Zr e;subst e';exact⟨hb,q⟩
theorem Inv.pinned(I:Inv X pins σ H s)(hf:∀ b∈fp,dq X pins H b)(ho:∀ b∈fp,∃ o,s.heap.get? b=some o/\∀ v,o.data≠.cell v):Inv X (pins++eO fp s.heap) σ H s:=
 I.E7 fun p hp=>(Zx.mp hp).elim (fun z=>I.pin p<|ZG _ z) fun z=>by
  obtain⟨hb,e⟩:=pL z;obtain⟨f0,f1,f2,_⟩:=hf p.1 hb;obtain⟨o,e',d⟩:=ho p.1 hb;rw[e] at e';cases e';exact⟨e,f0,f1,f2,d⟩
theorem Inv.FW{pl:List (Addr×Obj)}(I:Inv X (pins++pl) σ H s):Inv X pins σ H s:=I.E7 fun p hp=>I.pin p (ZG _<|ZA _ hp)
theorem wy{iter:Expr}{wi:TI}{g:TG}(hp:PassesOwn (model X.prog X.w) X.A X.env X.xe)(hc:X.calm=true)(hi:PI X tg iter wi)(hg:PG X tg g)(hb:GC X body tb)(hs:∀ x,foldedSetIterable iter X.env x=pure x:=by intro _;rfl):PS X (.For tg iter body [] pos) (pK wi g tb):=by
 intro pins s σ H D I h;refine wpAny_For (t_ (hi pins s σ H _ I h) fun v s1 h1=>t_ h1 fun NE s2 h2=>?_) hs;obtain⟨it,fp,tn,J,H2,e,I2,T,m_,f2,W,⟨m0,w0⟩,turn⟩:=h2;subst e;have J3:∀ {H':Hp},(∀ b∈fp,H' b=none)->∀ b∈fp,dq X pins H' b:=fun hn b hb=>⟨hn b hb,(f2 b hb).2⟩;refine codeAny_forLoop_any (fun n s'=>∃ i σ' H',Inv X pins σ' H' s'/\tn i s'.heap/\(∀ b∈fp,H' b=none)/\W i n σ' H') ?_ m0 ⟨0,σ,H2,I2,m_,fun b hb=>(f2 b hb).1,w0⟩;rintro n s3 ⟨i,σ3,H3,I3,E1,Lq,w3⟩;rcases turn i n σ3 H3 w3 with ⟨stop,qn⟩ | ⟨go,N,hN,step⟩
 ·refine XW hp (t_ (T.done X rfl rfl rfl hc i pins s3 σ3 H3 X.xe I3 (J3 Lq) E1 stop) fun r s4 ⟨hr,I4⟩=>?_);subst hr;exact Xy ⟨σ3,H3,I4,qn⟩
 ·refine XW hp (t_ (T.item X rfl rfl rfl hc i pins s3 σ3 H3 X.xe I3 (J3 Lq) E1 go) fun r s4 ⟨u,hr,h4⟩=>?_);subst hr;refine XW hp (t_ h4 fun _ s5 ⟨x,H5,I5,r5,y5,Fp,MW⟩=>?_);have NF:=I5.pinned (J3 MW) (T.obj _ _ Fp);refine XW hp (t_ (hg _ s5 σ3 H5 x u _ NF r5<|step x H5 y5) fun _ s6 ⟨σ6,H6,I6,q6⟩=>?_);refine XW hp (t_ (hb _ s6 σ6 H6 _ I6 q6) fun f s7 q7=>?_);have again:∀ {σ7:St}{H7:Hp},Inv X (pins++eO fp s5.heap) σ7 H7 s7->N σ7 H7->∃ m,m<n/\∃ i σ' H',Inv X pins σ' H' s7/\tn i s7.heap/\(∀ b∈fp,H' b=none)/\W i m σ' H':=fun {σ7 H7} I7 n7=>by
   obtain⟨m',hm,w7⟩:=hN σ7 H7 n7;refine⟨m',hm,i+1,σ7,H7,I7.FW,T.keep _ _ _ Fp fun b hb o e=>(I7.pin (b,o)<|ZG _<|ZG _<|jG hb e).1,fun b hb=>?_,w7⟩;obtain⟨o,e,d⟩:=T.obj _ _ Fp b hb;exact (I7.pin (b,o)<|ZG _<|ZG _<|jG hb e).2.1
  cases f with
  | next=>obtain⟨σ7,H7,I7,n7⟩:=q7;exact again I7 n7
  | cont=>obtain⟨σ7,H7,I7,n7⟩:=q7;exact again I7 n7
  | brk=>obtain⟨σ7,H7,I7,q7⟩:=q7;exact⟨σ7,H7,I7.FW,q7⟩
  | ret v=>obtain⟨x7,σ7,H7,I7,r7,q7⟩:=q7;exact⟨x7,σ7,H7,I7.FW,r7,q7⟩
end
abbrev R2:=V->V->Hp->VK->Prop
variable{r' r:R2}
def Fd(X:Cx)(f:Value->Value->Sem Value)(r:R2):Prop:=
 ∀ (pins:List (Addr×Obj)) (s:Shared) (σ:St) (H:Hp) (x y:V) (v u:Value) (Q:VK),Inv X pins σ H s->av x v->av y u->r x y H Q->
  wpAny (model X.prog X.w) X.A (f v u) (EP X pins σ Q) X.xe s
def NG(X:Cx)(f:Value->Sem Value)(r:V->Hp->VK->Prop):Prop:=
 ∀ (pins:List (Addr×Obj)) (s:Shared) (σ:St) (H:Hp) (x:V) (v:Value) (Q:VK),Inv X pins σ H s->av x v->r x H Q->
  wpAny (model X.prog X.w) X.A (f v) (EP X pins σ Q) X.xe s
def aQ(X:Cx)(f:Value)(r:List V->Hp->VK->Prop):Prop:=
 ∀ (pins:List (Addr×Obj)) (s:Shared) (σ:St) (H:Hp) (xs:List V) (us:List Value) (Q:VK),Inv X pins σ H s->au xs us->r xs H Q->
  wpAny (model X.prog X.w) X.A (call f us) (EP X pins σ Q) X.xe s
def wz(X:Cx)(r:V->Hp->(Bool->Hp->Prop)->Prop):Prop:=
 ∀ (pins:List (Addr×Obj)) (s:Shared) (σ:St) (H:Hp) (x:V) (v:Value) (Q:Bool->Hp->Prop),Inv X pins σ H s->av x v->r x H Q->
  wpAny (model X.prog X.w) X.A (truthy v) (TP X pins σ Q) X.xe s
def MX(r:R2)(ta tb:TE):TE:=fun σ H Q=>ta σ H fun x H1=>tb σ H1 fun y H2=>r x y H2 Q
def Qx(r:V->Hp->VK->Prop)(ta:TE):TE:=fun σ H Q=>ta σ H fun x H1=>r x H1 Q
def rI(C:Int->Int->Prop)(g:Int->Int->V):R2:=fun x y H Q=>∃ i j,x=.int i/\y=.int j/\C i j/\Q (g i j) H
def I_(g:Int->Int->V):R2:=fun x y H Q=>∃ i j,x=.int i/\y=.int j/\Q (g i j) H
def rU(g:Int->V):V->Hp->VK->Prop:=fun x H Q=>∃ i,x=.int i/\Q (g i) H
section
variable{X:Cx}{a b c:Expr}{ta tb tc:TE}{pos:Pos}
theorem lW(ha:PE X a ta)(hb:PE X b tb){pins:List (Addr×Obj)}{s:Shared}{σ:St}{H:Hp}{R:V->V->Hp->Prop}(I:Inv X pins σ H s)(h:ta σ H fun x H1=>tb σ H1 fun y H2=>R x y H2){Q:Value->Shared->Prop}{f:Value->Value->Sem Value}(hf:∀ v u s2 x y H2,Inv X pins σ H2 s2->av x v->av y u->R x y H2->wpAny (model X.prog X.w) X.A (f v u) Q X.xe s2):
  wpAny (model X.prog X.w) X.A (eval a X.env) (fun v s₁=>wpAny (model X.prog X.w) X.A (eval b X.env) (fun u s₂=>wpAny (model X.prog X.w) X.A (f v u) Q X.xe s₂) X.xe s₁) X.xe s:=by
 refine t_ (ha pins s σ H _ I h) fun v s1 ⟨x,H1,I1,r1,q1⟩=>?_;refine t_ (hb pins s1 σ H1 _ I1 q1) fun u s2 ⟨y,H2,I2,r2,q2⟩=>?_;exact hf v u s2 x y H2 I2 r1 r2 q2
theorem wA{op:Operator}(ho:Fd X (binaryOp op) r)(ha:PE X a ta)(hb:PE X b tb):PE X (.BinOp a op b pos) (MX r ta tb):=by
 intro pins s σ H Q I h;exact wpAny_BinOp (lW ha hb I h fun v u s2 x y H2 I2 rx ry q=>ho pins s2 σ H2 x y v u Q I2 rx ry q)
theorem wB{op:UnaryOp}{r:V->Hp->VK->Prop}(ho:NG X (unaryOp op) r)(ha:PE X a ta):PE X (.UnaryOp op a pos) (Qx r ta):=by
 intro pins s σ H Q I h;exact UnaryOp_ (t_ (ha pins s σ H _ I h) fun v s1 ⟨x,H1,I1,r1,q1⟩=>ho pins s1 σ H1 x v Q I1 r1 q1)
theorem MY{C:Int->Int->Prop}(rule:∀ (i j:Int) (t u:Tok) (s:Shared) (Q:Value->Shared->Prop) (E:Value->Shared->Prop),C i j->Q (.int (g i j) s.toks) { s with toks:=s.toks+1 }->wpAny (model X.prog X.w) X.A (f (.int i t)<|.int j u) Q E s):
  Fd X f (rI C fun i j=>.int<|g i j):=by
 intro pins s σ H x y v u Q I rx ry h;obtain⟨i,j,rfl,rfl,hc,q⟩:=h;obtain⟨t,rfl⟩:=rx;obtain⟨t',rfl⟩:=ry;exact rule i j t t' s _ _ hc ⟨.int<|g i j,H,I.tok _,⟨_,rfl⟩,q⟩
theorem pM(rule:∀ (i j:Int) (t u:Tok) (s:Shared) (Q:Value->Shared->Prop) (E:Value->Shared->Prop),Q (.int (g i j) s.toks) { s with toks:=s.toks+1 }->wpAny (model X.prog X.w) X.A (f (.int i t)<|.int j u) Q E s):
  Fd X f (I_ fun i j=>.int<|g i j):=by
 intro pins s σ H x y v u Q I rx ry h;obtain⟨i,j,rfl,rfl,q⟩:=h;obtain⟨t,rfl⟩:=rx;obtain⟨t',rfl⟩:=ry;exact rule i j t t' s _ _ ⟨.int<|g i j,H,I.tok _,⟨_,rfl⟩,q⟩
theorem jH{g:Int->Int->Bool}(rule:∀ (i j:Int) (t u:Tok) (s:Shared) (Q:Value->Shared->Prop) (E:Value->Shared->Prop),Q (.bool<|g i j) s->wpAny (model X.prog X.w) X.A (f (.int i t)<|.int j u) Q E s):
  Fd X f (I_ fun i j=>.bl<|g i j):=by
 intro pins s σ H x y v u Q I rx ry h;obtain⟨i,j,rfl,rfl,q⟩:=h;obtain⟨t,rfl⟩:=rx;obtain⟨t',rfl⟩:=ry;exact rule i j t t' s _ _ ⟨.bl<|g i j,H,I,rfl,q⟩
def wC(i j:Int):Prop:=0<j/\j<1073741824
def wE(i j:Int):Prop:=0<=j/\j<=1000000/\i.natAbs<2 ^ 64
theorem wF:Fd X (binaryOp .Add) (I_ fun i j=>.int<|i+j):=pM fun _ _ _ _ _ _ _ q=>add_int q
theorem wG:Fd X (binaryOp .Sub) (I_ fun i j=>.int<|i - j):=pM fun _ _ _ _ _ _ _ q=>sub_int q
theorem wH:Fd X (binaryOp .FloorDiv) (rI wC fun i j=>.int<|i / j):=MY fun i j _ _ _ _ _ hc q=>by
 have h1:(0:Int)<j:=hc.1;have h2:j<1073741824:=hc.2;exact floordiv_int (by lia) (by rw[Int.fdiv_eq_ediv_of_nonneg i (by lia)];exact q) (.inl (PyProof.noPylong_small (by lia)))
theorem wI:Fd X (binaryOp .Mod) (rI (fun _ j=>0<j) fun i j=>.int<|i % j):=MY fun i j _ _ _ _ _ hc q=>by
 have h1:(0:Int)<j:=hc;exact mod_int' (by lia) (by rw[Int.fmod_eq_emod_of_nonneg i (by lia)];exact q)
theorem wJ:Fd X (binaryOp .Pow) (rI wE fun i j=>.int<|i ^ j.toNat):=MY fun _ _ _ _ _ _ _ hc q=>pow_int_small hc.1 hc.2.1 hc.2.2 q
theorem Qy{f:Value->Sem Value}{g:Int->Int}(rule:∀ (i:Int) (t:Tok) (s:Shared) (Q:Value->Shared->Prop) (E:Value->Shared->Prop),Q (.int (g i) s.toks) { s with toks:=s.toks+1 }->wpAny (model X.prog X.w) X.A (f<|.int i t) Q E s):
  NG X f (rU fun i=>.int<|g i):=by
 intro pins s σ H x v Q I rx h;obtain⟨i,rfl,q⟩:=h;obtain⟨t,rfl⟩:=rx;exact rule i t s _ _ ⟨.int<|g i,H,I.tok _,⟨_,rfl⟩,q⟩
theorem wK:NG X (unaryOp .USub) (rU fun i=>.int<|-i):=Qy fun _ _ _ _ _ q=>neg_int q
end
section
variable{X:Cx}{a b c:Expr}{ta tb tc:TE}{pos:Pos}
theorem wL:Fd X (compareOp .Lt) (I_ fun i j=>.bl<|decide (i<j)):=jH fun _ _ _ _ _ _ _ q=>lt_int q
theorem wM:Fd X (compareOp .LtE) (I_ fun i j=>.bl<|decide (i<=j)):=jH fun _ _ _ _ _ _ _ q=>le_int q
theorem wN:Fd X (compareOp .Gt) (I_ fun i j=>.bl<|decide (j<i)):=jH fun _ _ _ _ _ _ _ q=>gt_int q
theorem wO:Fd X (compareOp .GtE) (I_ fun i j=>.bl<|decide (j<=i)):=jH fun _ _ _ _ _ _ _ q=>ge_int q
theorem Fd.or(h:Fd X f r)(h':Fd X f r'):Fd X f (fun x y H Q=>r x y H Q\/r' x y H Q):=by
 intro pins s σ H x y v u Q I rx ry q;rcases q with q | q
 ·exact h pins s σ H x y v u Q I rx ry q
 ·exact h' pins s σ H x y v u Q I rx ry q
theorem bu(b:Expr){op:CmpOp}(h:op≠.In:=by decide)(h2:op≠.NotIn:=by decide):behindInMarks op b=false:=by
 have e1:(op == CmpOp.In)=false:=by cases op<;>first | rfl | exact absurd rfl h
 have e2:(op == CmpOp.NotIn)=false:=by cases op<;>first | rfl | exact absurd rfl h2
 cases b<;>simp[behindInMarks,e1,e2]
theorem wP(ho:Fd X (compareOp op) r)(ha:PE X a ta)(hb:PE X b tb)(hm:behindInMarks op b=false):PE X (.Compare a [op] [b] pos) (MX r ta tb):=by
 intro pins s σ H Q I h;exact wpAny_Compare1 (lW ha hb I h fun v u s2 x y H2 I2 rx ry q=>ho pins s2 σ H2 x y v u Q I2 rx ry q) hm
def pN(t:TE):TT:=fun σ H Q=>t σ H fun x H'=>∃ k,x=.bl k/\Q k H'
theorem wQ(ho:Fd X (compareOp op) r)(ha:PE X a ta)(hb:PE X b tb)(hm:behindInMarks op b=false):PT X (.Compare a [op] [b] pos) (pN<|MX r ta tb):=by
 intro pins s σ H Q I h;refine wpAny_isTrue_Compare1 (t_ (ha pins s σ H _ I h) fun v s1 ⟨x,H1,I1,r1,q1⟩=>t_ (hb pins s1 σ H1 _ I1 q1) fun u s2 ⟨y,H2,I2,r2,q2⟩=>
  t_ (ho pins s2 σ H2 x y v u _ I2 r1 r2 q2) fun c s3 ⟨z,H3,I3,r3,k,e,q3⟩=>?_) hm;subst e;cases r3;exact YE ⟨H3,I3,q3⟩
def pO(r r':R2)(ta tb tc:TE):TE:=fun σ H Q=>ta σ H fun x H1=>tb σ H1 fun y H2=>r x y H2 fun z H3=>∃ k,z=.bl k/\
 (if k=true then tc σ H3 fun w' H4=>r' y w' H4 Q else Q (.bl false) H3)
theorem wR{J4:CmpOp}(ho:Fd X (compareOp op) r)(GB:Fd X (compareOp J4) r')(ha:PE X a ta)(hb:PE X b tb)(hc:PE X c tc)(hm:lastMarks [op,J4] [b,c]=false:=by with_unfolding_all rfl):PT X (.Compare a [op,J4] [b,c] pos) (pN<|pO r r' ta tb tc):=by
 intro pins s σ H Q I h;refine isTrue_chain (t_ (ha pins s σ H _ I h) fun v s1 ⟨x,H1,I1,r1,q1⟩=>test_link (t_ (hb pins s1 σ H1 _ I1 q1) fun u s2 ⟨y,H2,I2,r2,q2⟩=>
  t_ (ho pins s2 σ H2 x y v u _ I2 r1 r2 q2) fun d s3 ⟨z,H3,I3,r3,k,e,q3⟩=>?_)) hm;subst e;cases r3;refine YE ?_;cases k with
 | false=>
  obtain⟨k',e',q'⟩:=q3;cases e';exact ite_ff ⟨H3,I3,q'⟩
 | true=>
  refine ite_tt (test_last<|t_ (hc pins s3 σ H3 _ I3 q3) fun w' s4 ⟨z',H4,I4,r4,q4⟩=>t_ (GB pins s4 σ H4 y z' u w' _ I4 r2 r4 q4) fun d' s5 ⟨z2,H5,I5,r5,k2,e2,q5⟩=>?_);subst e2;cases r5;exact YE ⟨H5,I5,q5⟩
def lX(K:PySem.W.Frag)(x:V)(H:Hp)(k:Bool):Prop:=
 match x with
 | .h_=>k=false
 | .bl b=>k=b
 | .int i=>k=(i != 0)
 | .str y=>y.length<=sizeLine/\k=((y.length:Int) != 0)
 | .Lg y=>y.size<=sizeLine/\k=((y.size:Int) != 0)
 | .ref p=>(∃ xs,EL K H p xs/\k=!xs.isEmpty)\/(∃ xs,y_ K H p xs/\k=!xs.isEmpty)\/∃ kvs,H p=some (.dK kvs)/\k=!kvs.isEmpty
 | _=>False
theorem wS{κ:Type}{kvs:List (κ×V)}{vs:List (κ×Value)}(r:KV kvs vs):(!vs.isEmpty)=!kvs.isEmpty:=by
 cases r<;>rfl
theorem pP{xs:List V}{e_:List Value}(r:au xs e_):(!e_.toArray.isEmpty)=!xs.isEmpty:=by
 cases r<;>simp
theorem gx:(sizeLine:Nat)<2 ^ 63:=by rw[VC];decide
theorem pQ:wz X (fun x H Q=>∃ k,lX X.K x H k/\Q k H):=by
 intro pins s σ H x v Q I rx h;obtain⟨k,e,q⟩:=h;have hl:=gx;have hs:sizeLine=16777216:=VC;cases x with
 | h_=>
  cases rx;have e':k=false:=e;subst e';exact truthy_none ⟨H,I,q⟩
 | bl b=>
  cases rx;have e':k=b:=e;subst e';exact YE ⟨H,I,q⟩
 | int i=>
  obtain⟨t,rfl⟩:=rx;have e':k=(i != 0):=e;subst e';exact PySem.P.truthy_int ⟨H,I,q⟩
 | str y=>
  obtain⟨t,rfl⟩:=rx;obtain⟨hy,e'⟩:y.length<=sizeLine/\k=((y.length:Int) != 0):=e;subst e';exact PySem.P.truthy_str (by lia) ⟨H,I.tok _,q⟩
 | Lg y=>
  obtain⟨t,rfl⟩:=rx;obtain⟨hy,e'⟩:y.size<=sizeLine/\k=((y.size:Int) != 0):=e;subst e';exact PySem.W.truthy_bytes (by lia) ⟨H,I.tok _,q⟩
 | ref p=>
  cases rx;have e':(∃ xs,EL X.K H p xs/\k=!xs.isEmpty)\/(∃ xs,y_ X.K H p xs/\k=!xs.isEmpty)\/∃ kvs,H p=some (.dK kvs)/\k=!kvs.isEmpty:=e;rcases e' with ⟨xs,hx,e'⟩ | ⟨xs,hx,e'⟩ | ⟨kvs,hx,e'⟩
  ·subst e';obtain⟨e_,r,pl,hz⟩:=I.list hx;have hlen:=r.length;exact wpAny_truthy_list pl.isList (by simp only[ZS];lia) ⟨H,I.tok _,by rw[pP r];exact q⟩
  ·subst e';obtain⟨e_,r,pl,hz⟩:=I.tuple hx;have hlen:=r.length;exact truthy_tuple pl (by simp only[ZS];lia) ⟨H,I.tok _,by rw[pP r];exact q⟩
  ·subst e';obtain⟨hz,hS,vs,r,m⟩:kvs.length<=sizeLine/\(p == sysModules)=false/\∃ vs,KV kvs vs/\s.heap.DictOf (eJ X.prog X.w) p vs:=I.i_ p _ hx;have hlen:kvs.length=vs.length:=Xc r;exact wpAny_truthy_dict hS m (by lia) ⟨H,I.tok _,by rw[wS r];exact q⟩
 | _=>exact (show False from e).elim
theorem wT(ha:PE X a ta)(he:∀ whole,isTrue a X.env whole=(do let v <- whole;standAt a.pos;holding [v] (truthy v))):
  PT X a (fun σ H Q=>ta σ H fun x H'=>∃ k,lX X.K x H' k/\Q k H'):=by
 intro pins s σ H Q I h;exact isTrue_plain (t_ (ha pins s σ H _ I h) fun v s1 ⟨x,H1,I1,r1,q1⟩=>pQ pins s1 σ H1 x v Q I1 r1 q1) (he _)
theorem wU:Fd X (binaryOp .Add) (fun x y H Q=>∃ i j,x=.str i/\y=.str j/\i.length+j.length<=sizeLine/\Q (.str<|i++j) H):=by
 intro pins s σ H x y v u Q I rx ry h;obtain⟨i,j,rfl,rfl,hz,q⟩:=h;obtain⟨t,rfl⟩:=rx;obtain⟨t',rfl⟩:=ry;exact add_str (fun t' tk=>⟨.str<|i++j,H,I.tok _,⟨_,rfl⟩,q⟩) hz
theorem bM{x:V}(r:au [x] us):∃ u,us=[u]/\av x u:=by
 cases r with
 | cons r1 r2=>cases r2;exact⟨_,rfl,r1⟩
theorem pR{x y:V}(r:au [x,y] us):∃ u w',us=[u,w']/\av x u/\av y w':=by
 cases r with
 | cons r1 r2=>
  cases r2 with
  | cons r3 r4=>cases r4;exact⟨_,_,rfl,r1,r3⟩
theorem wV(hc:X.calm=true):aQ X (.builtin "max") (fun xs H Q=>∃ i j,xs=[.int i,.int j]/\Q (.int<|if j > i then j else i) H):=by
 intro pins s σ H xs us Q I r h;obtain⟨i,j,rfl,q⟩:=h;obtain⟨u,w',rfl,⟨t,rfl⟩,⟨t',rfl⟩⟩:=pR r;refine max_two_ints (I.ok.hd hc) fun h' tk k=>⟨_,H,I.kept k,?_,q⟩;by_cases hj:j > i
 ·rw[ZZ hj,ZZ hj];exact⟨_,rfl⟩
 ·rw[ZY hj,ZY hj];exact⟨_,rfl⟩
theorem wW(hc:X.calm=true):aQ X (.builtin "min") (fun xs H Q=>∃ i j,xs=[.int i,.int j]/\Q (.int<|if j<i then j else i) H):=by
 intro pins s σ H xs us Q I r h;obtain⟨i,j,rfl,q⟩:=h;obtain⟨u,w',rfl,⟨t,rfl⟩,⟨t',rfl⟩⟩:=pR r;refine min_two_ints (I.ok.hd hc) fun h' tk k=>⟨_,H,I.kept k,?_,q⟩;by_cases hj:j<i
 ·rw[ZZ hj,ZZ hj];exact⟨_,rfl⟩
 ·rw[ZY hj,ZY hj];exact⟨_,rfl⟩
theorem wX:aQ X (.type "int") (fun xs H Q=>(∃ i,xs=[.int i]/\Q (.int i) H)\/∃ k,xs=[.bl k]/\Q (.int<|if k then 1 else 0) H):=by
 intro pins s σ H xs us Q I r h;rcases h with ⟨i,rfl,q⟩ | ⟨k,rfl,q⟩
 ·obtain⟨u,rfl,t,rfl⟩:=bM r;exact call_int_int ⟨.int i,H,I,⟨_,rfl⟩,q⟩
 ·obtain⟨u,rfl,r1⟩:=bM r;cases r1;exact call_int_bool ⟨.int<|if k then 1 else 0,H,I.tok _,⟨_,rfl⟩,q⟩
end
section
variable{prog:Program}{w:World}{A:Around}{E:Value->Shared->Prop}{s:Shared}{K:PySem.W.Frag}{x dx C f:Addr}{mA:Str->Option Value}{name:Str}{v:Value}
end
theorem dG.some_of{o:Option Value}(r:dG (some v) o):∃ u,o=some u/\av v u:=by
 cases o with
 | none=>exact (show False from r).elim
 | some u=>exact⟨u,rfl,r⟩
section
variable{P:Program}{w:World}{H H':Hp}{h h':Heap}{a C dx:Addr}{fs Nw:List (Str×V)}
end
section
variable{X:Cx}{pins:List (Addr×Obj)}{σ:St}{H:Hp}{s:Shared}{a C dx:Addr}{fs:List (Str×V)}{f:Str}{v:V}{A:Around}{E:Value->Shared->Prop}
end
section
variable{X:Cx}{o e value:Expr}{f:Str}{pos pos' NH:Pos}{ta tv:TE}
end
section
variable{X:Cx}{pins:List (Addr×Obj)}{σ:St}{H:Hp}{s:Shared}{A:Around}{E:Value->Shared->Prop}{Q:Value->Shared->Prop}{c:Value}{b:Bool}
end
structure Ez(k:Nat)(A:Around):Prop where
 hd:A.handled=none
 dp:A.depth+3 * k+5<recursionLimit
 un:A.units+16 * k+200<cLine
 gd:A.guards=some []
theorem Ez.mono{j:Nat}(r:Ez k A)(h:j<=k):Ez j A:=⟨r.hd,by have:=r.dp;lia,by have:=r.un;lia,r.gd⟩
theorem Ez.deeper(r:Ez (k+1) A)(env:Env):Ez k (A.deeper env):=
 ⟨r.hd,by have:=r.dp;show A.depth+1+3 * k+5 < _;lia,by have:=r.un;show A.units+3+16 * k+200 < _;lia,r.gd⟩
theorem Ez.depth(r:Ez k A):A.depth<recursionLimit:=by have:=r.dp;lia
def NI:TA:=fun _ H Q=>Q [] H
def wY(ta:TE)(tr:TA):TA:=fun σ H Q=>ta σ H fun x H1=>tr σ H1 fun xs H2=>Q (x::xs) H2
section
variable{X:Cx}{e:Expr}{es:List Expr}{te:TE}{t:TA}{pos:Pos}
theorem iH:PA X [] NI:=fun _ _ _ _ H Q I h=>Calls.spliced_nil ⟨[],H,I,.nil,h⟩
theorem eQ(ha:PE X e te)(hr:PA X es t)(hs:starEach (e::es) X.env=(false,eval e X.env)::starEach es X.env:=by rfl):PA X (e::es) (wY te t):=by
 intro pos pins s σ H Q I h;rw[hs];show wpAny _ _ (spliced ((false,eval e X.env)::backTo pos (starEach es X.env))) _ _ s;refine Calls.spliced_cons (t_ (ha pins s σ H _ I h) fun u s1 ⟨x,H1,I1,r1,q1⟩=>?_);exact t_ (hr pos pins s1 σ H1 _ I1 q1) fun us s2 ⟨xs,H2,I2,r2,q2⟩=>⟨x::xs,H2,I2,.cons r1 r2,q2⟩
def wZ(t:TA):TE:=fun σ H Q=>t σ H fun xs H1=>xs.length<=sizeLine/\∀ p,H1 p=none->Q (.ref p) (upd H1 p<|.tup xs)
def w9(t:TA):TE:=fun σ H Q=>t σ H fun xs H1=>xs.length<=sizeLine/\∀ p,H1 p=none->Q (.ref p) (upd H1 p<|.lst xs)
theorem xa{x1}(h:PA X es t):PE X (.Tuple es x1 pos) (wZ t):=by
 intro pins s σ H Q I hq;refine wpAny_Tuple_spliced (t_ (h pos pins s σ H _ I hq) fun us s1 ⟨xs,H1,I1,r,z,q⟩=>⟨by rw[<- r.length];exact z,?_⟩);have hf:H1 s1.heap.objs.size=none:=I1.i_.fresh (ZR _);refine⟨.ref s1.heap.objs.size,upd H1 s1.heap.objs.size<|.tup xs,I1.laid (t':=s1.toks) (fun b u e=>Z5 _ e) (ZR _) ?_,rfl,q _ hf⟩;exact⟨z,us,r,⟨_,ZN _ rfl,rfl,_,rfl⟩⟩
theorem xb(h:PA X es t):PE X (.List es pos) (w9 t):=by
 intro pins s σ H Q I hq;refine wpAny_List_spliced (t_ (h pos pins s σ H _ I hq) fun us s1 ⟨xs,H1,I1,r,z,q⟩=>⟨by rw[<- r.length];exact z,?_⟩);have hf:H1 s1.heap.objs.size=none:=I1.i_.fresh (ZR _);refine⟨.ref s1.heap.objs.size,upd H1 s1.heap.objs.size<|.lst xs,I1.laid (t':=s1.toks) (fun b u e=>Z5 _ e) (ZR _) ?_,rfl,q _ hf⟩;exact⟨z,us,0,r,ZN _ rfl⟩
end
abbrev Sp:=List V->Hp->VK->XK->Prop
abbrev Ib:=List Env->Hp->Shared->XK->Value->Shared->Prop
variable{CX:Ib}
structure Ja(P:Program)(w:World)(K:PySem.W.Frag)(mg:Str->Option Value)(base:Heap)(A:Around)(outer:List Env)(s:Shared)(H:Hp):Prop where
 frames:A.frames=some outer
 mod:Mod K mg base
 bs:∀ b o,base.get? b=some o->s.heap.get? b=some o/\H b=none
 HD:base.objs.size<=s.heap.objs.size
 ET:s.heap.FunFrames base outer
 H9:∀ b∈EW outer,H b=none
 i_:ES P w H s.heap
 bare:AllBare s.gens
def CE(outer:List Env)(P:Program)(w:World)(H:Hp)(s:Shared)(Q:VK)(u:Value)(s':Shared):Prop:=
 ∃ v H',s'.os=s.os/\AllBare s'.gens/\Un (EW outer) [] H H' s.heap s'.heap/\ES P w H' s'.heap/\av v u/\Q v H'
def CR(CX:Ib)(outer:List Env)(P:Program)(w:World)(H:Hp)(s:Shared)(Q:VK)(E:XK)(r:Result)(s':Shared):Prop:=
 match r with
 | .ok (.ret u)=>CE outer P w H s Q u s'
 | .ok _=>False
 | .error e=>CX outer H s E e s'
structure E2(P:Program)(w:World)(K:PySem.W.Frag)(mg:Str->Option Value)(base:Heap)(CX:Ib)(k:Nat)(f:Addr)(fd:FuncData)(ps:List Str)(sp:Sp):Prop where
 len:∀ vs H Q E,sp vs H Q E->vs.length=ps.length
 run:∀ (A:Around) (outer:List Env) (s:Shared) (H:Hp) (args:Args) (us:List Value) (vs:List V) (Q:VK) (E:XK),Ez k A->Ja P w K mg base A outer s H->BindsTo s fd args (ps.zip us)->au vs us->sp vs H Q E->
  codeAny (model P w) A (.call (.ref f) args) (CR CX outer P w H s Q E) s
section
variable{X:Cx}{pins:List (Addr×Obj)}{σ:St}{H:Hp}{s s':Shared}
theorem Inv.Lr(I:Inv X pins σ H s):Ja X.prog X.w X.K X.mg X.base X.A X.stack s H:=
 ⟨I.ok.frames,I.ok.mod,I.bs,Zg I.ok.HD I.sz,I.stack,I.Fu,I.i_,I.bare⟩
theorem Inv.after{Q:VK}(I:Inv X pins σ H s)(h:CE X.stack X.prog X.w H s Q u s'):EP X pins σ Q u s':=by
 obtain⟨v,H',os,bare,un,i_,r,q⟩:=h;obtain⟨hh,g,d,t,NJ⟩:=s';obtain rfl:NJ=s.os:=os;exact⟨v,H',I.call (h':=hh) (g':=g) (d':=d) (t':=t) (ch:=[]) un i_ bare (fun b z=>absurd z (by simp)),r,q⟩
end
def pS(sp:Sp)(Jw:List V)(E:XK)(t:TA):TE:=fun σ H Q=>t σ H fun vs H1=>sp (vs++Jw) H1 Q E
def cN(K:PySem.W.Frag)(fd:FuncData)(ps:List Str)(ds:List Value):Prop:=
 ∀ (s:Shared) (us:List Value),K.In s.heap->(us++ds).length=ps.length->BindsTo s fd ⟨us,[]⟩ (ps.zip<|us++ds)
theorem cN.all{fd:FuncData}(h:∀ us:List Value,us.length=ps.length->bindArgs fd ⟨us,[]⟩=pure (ps.zip us)):cN K fd ps []:=fun s us _ hl=>by
 rw[ZT] at hl ⊢;exact .of_eq (h us hl)
def lY(CX:Ib)(X:Cx)(E:XK):Prop:=∀ (pins:List (Addr×Obj)) (σ:St) (H:Hp) (s:Shared) (e:Value) (s':Shared),Inv X pins σ H s->CX X.stack H s E e s'->X.xe e s'
section
variable{X:Cx}{CX:Ib}{k:Nat}{f C:Addr}{fd:FuncData}{ps:List Str}{sp:Sp}{Jw:List V}{ds:List Value}{E:XK}{x m:Str}{p pos apos:Pos}{e o:Expr}{es:List Expr}{ta:TE}{t:TA}
theorem xc{Q:VK}(F:E2 X.prog X.w X.K X.mg X.base CX k f fd ps sp)(hr:Ez k X.A)(hb:cN X.K fd ps ds)(hd:au Jw ds)(hx:lY CX X E)(I:Inv X pins σ H s)(r:au vs us)(h:sp (vs++Jw) H Q E):wpAny (model X.prog X.w) X.A (call (.ref f) us) (EP X pins σ Q) X.xe s:=by
 have r2:au (vs++Jw) (us++ds):=r.append hd;have hl:(us++ds).length=ps.length:=by rw[<- r2.length];exact F.len _ _ _ _ h
 refine wpAny_call (WU (F.run X.A X.stack s H ⟨us,[]⟩ (us++ds) (vs++Jw) Q E hr I.Lr (hb s us I.IO hl) r2 h) fun r s' hq=>?_);cases r with
 | error e=>exact hx pins σ H s e s' I hq
 | ok fl=>
  cases fl with
  | ret u=>exact I.after hq
  | next=>exact False.elim hq
  | brk=>exact False.elim hq
  | cont=>exact False.elim hq
theorem xf(F:E2 X.prog X.w X.K X.mg X.base CX k f fd ps sp)(hr:Ez k X.A)(hg:Gl X x)(hm:X.mg x=some (.ref f))(hk:PySem.W.keepIn X.K (.ref f)=true)(hb:cN X.K fd ps ds)(hd:au Jw ds)(hx:lY CX X E)(ha:PA X (e::es) t)(GX:(x == ("__debug__" : Str))=false:=by decide)(he:starEach (e::es) X.env=(false,eval e X.env)::starEach es X.env:=by rfl)(FQ:(backTo pos<|starEach es X.env).any (·.1)=false:=by rfl):
  PE X (.Call (.Name x p) (e::es) [] pos) (pS sp Jw E t):=by
 intro pins s σ H Q I h;refine XD (jF I hg hm ?_ GX);refine PySem.W.callWith_K (h₀:=X.base) I.ok.mod.Lj hk (t_ (ha pos pins s σ H _ I h) fun us s1 ⟨vs,H1,I1,r,q⟩=>⟨I1.IO,?_⟩) he FQ;exact xc F hr hb hd hx I1 r q
end
section
variable{X:Cx}{CX:Ib}{k:Nat}{f C:Addr}{fd:FuncData}{ps ks:List Str}{sp:Sp}{E:XK}{x m:Str}{p pos apos Qz:Pos}{e o:Expr}{es:List Expr}{EX:List Keyword}{te ta:TE}{t tk:TA}{nm:Option Str}
variable{g:List Value->List Value->List Value}{gV:List V->List V->List V}
end
structure j_(N P:List Str)(sc:Scope):Prop where
 kind:sc.kind=.function
 co:sc.isCoroutine=false
 gen:sc.isGenerator=false
 nd:N.Nodup
 pre:N.take P.length=P
 par:∀ x∈P,sc.names.lookup x=some .local\/sc.names.lookup x=some .cell
 J5:∀ y∈sc.names,y.2≠.free
theorem pT{kindOf:Str->Option NameKind}{x:Str}:∀ {binds:List (Str×Value)}{m:Str->Option Value},(∀ v,(x,v)∉binds)->bindL kindOf binds m x=m x
 | [],_,_=>rfl
 | (n,v)::r,m,h=>by
  unfold bindL;rw[pT fun w hw=>h w<|Y4 _ hw];split
  ·have:x≠n:=by rintro rfl;exact h v YQ
   simp[this]
  ·rfl
theorem pU{kindOf:Str->Option NameKind}{x:Str}:∀ {binds:List (Str×Value)}{m:Str->Option Value},(∀ v,(x,v)∉binds)->bindC kindOf binds m x=m x
 | [],_,_=>rfl
 | (n,v)::r,m,h=>by
  unfold bindC;rw[pU fun w hw=>h w<|Y4 _ hw];split
  ·rfl
  ·have:x≠n:=by rintro rfl;exact h v YQ
   simp[this]
theorem pV{kindOf:Str->Option NameKind}{x:Str}{v:Value}:∀ {P:List Str}{vs:List Value}{i:Nat}{m:Str->Option Value},P.Nodup->P[i]?=some x->vs[i]?=some v->kindOf x=some .local->
  bindL kindOf (P.zip vs) m x=some v
 | [],_,_,_,_,h,_,_=>by simp at h
 | _::_,[],_,_,_,_,h,_=>by simp at h
 | p::P,w::vs,0,m,nd,h1,h2,hk=>by
  simp at h1 h2;subst h1;subst h2;show bindL kindOf ((p,w)::P.zip vs) m p=_;unfold bindL;rw[pT fun v hv=>(Y7.mp nd).1 (VL hv).1,ZZ hk];simp
 | p::P,w::vs,i+1,m,nd,h1,h2,hk=>by
  show bindL kindOf ((p,w)::P.zip vs) m x=_;unfold bindL;exact pV (i:=i) (Y7.mp nd).2 (by simpa using h1) (by simpa using h2) hk
theorem pW{kindOf:Str->Option NameKind}{x:Str}{v:Value}:∀ {P:List Str}{vs:List Value}{i:Nat}{m:Str->Option Value},P.Nodup->P[i]?=some x->vs[i]?=some v->kindOf x≠some .local->
  bindC kindOf (P.zip vs) m x=some v
 | [],_,_,_,_,h,_,_=>by simp at h
 | _::_,[],_,_,_,_,h,_=>by simp at h
 | p::P,w::vs,0,m,nd,h1,h2,hk=>by
  simp at h1 h2;subst h1;subst h2;show bindC kindOf ((p,w)::P.zip vs) m p=_;unfold bindC;rw[pU fun v hv=>(Y7.mp nd).1 (VL hv).1,ZY hk];simp
 | p::P,w::vs,i+1,m,nd,h1,h2,hk=>by
  show bindC kindOf ((p,w)::P.zip vs) m x=_;unfold bindC;exact pW (i:=i) (Y7.mp nd).2 (by simpa using h1) (by simpa using h2) hk
def da(N:List Str)(vs:List V):St:=vs.map some++List.replicate (N.length - vs.length) none
def cP(CX:Ib)(P:Program)(w:World)(K:PySem.W.Frag)(mg:Str->Option Value)(base:Heap)(N:List Str)(qual:Str)(scope:Scope)(f:Addr)(cd:Value)(A:Around)(outer:List Env)(s:Shared)(H:Hp)(E:XK):Cx where
 prog:=P
 w:=w
 K:=K
 mg:=mg
 base:=base
 A:=A.deeper (envOfC qual scope s.heap.objs.size f cd)
 N:=N
 s₀:=s
 H₀:=H
 env:=envOfC qual scope s.heap.objs.size f cd
 outer:=outer
 stack:=envOfC qual scope s.heap.objs.size f cd::outer
 ex:=[]
 calm:=true
 fn:=fun _=>true
 pn:=[]
 xe:=fun e s'=>wpAny (model P w) (A.deeper<|envOfC qual scope s.heap.objs.size f cd) (leaving (envOfC qual scope s.heap.objs.size f cd) e) (fun _ NK=>CX outer H s E e NK) (fun e' NK=>CX outer H s E e' NK) s'
theorem pX{sc:Scope}(h:sc.names.lookup x=some .cell):∃ c,(cellsFrom n sc.names []).lookup x=some c:=by
 have q:=VX sc.names n [] (.inl h);exact Xb.mp q
theorem xg{f:Addr}{cd:Value}{outer:List Env}{s1:Shared}{E:XK}(S:j_ N ps scope)(hd:A.handled=none)(e0:Ja P w K mg base A outer s H)(hl:vs.length=ps.length)(r:au vs us)(x:InCallC s s.heap.objs.size (bindL (envOfC qual scope s.heap.objs.size f cd).kindOf (ps.zip us) fun _=>none) (cellsFrom (s.heap.objs.size+1) scope.names []) (bindC (envOfC qual scope s.heap.objs.size f cd).kindOf (ps.zip us) fun _=>none) s1):
  Inv (cP CX P w K mg base N qual scope f cd A outer s H E) [] (da N vs) H s1:=by
 have FQ:ps.length<=N.length:=by have:=congrArg List.length S.pre;rw[Zm] at this;lia
 obtain⟨h1,tk,rfl,hk⟩:=x.done;have Ls:∀ b:Addr,b∉(cP CX P w K mg base N qual scope f cd A outer s H E).ex:=fun b z=>absurd (show b∈([]:List Addr) from z) (by simp);refine⟨⟨e0.mod,S.kind,rfl,rfl,ZR _,fun y z c h1 h2=>?_,fun y hy=>?_,fun y c _ h=>?_,fun _=>hd,Around.frames_deeper e0.frames,.inr ⟨rfl,rfl⟩,fun b z=>absurd z<|Ls b,e0.bs,e0.HD,fun b _ _=>Ls b,fun b z=>absurd z<|Ls b,e0.ET,e0.H9⟩,
  rfl,e0.bare,Un.kept hk,⟨_,x.toInCall.ns,fun i y v h1 h2 h3=>?_⟩,fun y c h=>⟨_,x.cell y c h⟩,e0.i_.fresh<|ZR _,fun y c h=>?_,fun p hp=>absurd (show p∈([]:List (Addr×Obj)) from hp) (by simp),e0.i_.kept hk,?_⟩
 ·exact name_of_addr x.apart (XO h1) (XO h2)
 ·have hy:scope.names.lookup y=some .cell\/scope.names.lookup y=some .free:=hy;rcases hy with hy | hy
  ·exact pX hy
  ·exact absurd rfl (S.J5 _<|XO hy)
 ·exact Xj (x.above y c<|XO h)
 ·have hi:i<vs.length:=by
   unfold da at h2;by_cases hi:i<vs.length
   ·exact hi
   ·rw[Zf (by simpa using hi)] at h2;rw[List.getElem?_replicate] at h2;split at h2<;>cases h2
  have ha:vs[i]?=some v:=by
   unfold da at h2;rw[Zb (by simpa using hi),Zy] at h2;cases e:vs[i]? with
   | none=>rw[e] at h2;cases h2
   | some a=>rw[e] at h2;cases h2;rfl
  obtain⟨u,hu,rv⟩:=r.get ha;have hp:ps[i]?=some y:=by
   rw[<- S.pre,List.getElem?_take_of_lt (by lia)];exact h1
  have Pr:ps.Nodup:=by rw[<- S.pre];exact S.nd.sublist (XV _ _)
  refine⟨u,rv,?_⟩;rcases S.par y (Zt hp) with k | k
  ·exact .inl ⟨k,pV Pr hp hu k⟩
  ·obtain⟨c,e⟩:=pX (n:=s.heap.objs.size+1) k;refine .inr ⟨.inl k,c,e,?_⟩;have q:=x.cell y c e;rw[pW Pr hp hu (by show scope.names.lookup y≠_;rw[k];decide)] at q;exact q
 ·exact e0.i_.fresh (Xj<|x.above y c<|XO h)
 ·unfold da;show _=N.length;rw[ZI,Z3,List.length_replicate];lia
theorem pY{f:Addr}{name:Str}{params:Arguments}{dV kV doc pm s_ ct oc:Value}{an od:Option Addr}{HE:Array (Option Value)}{sp:Sp}(lk:K.lookup f=some ⟨oc,od,.func<|PySem.W.fnOf name qual params body scope dV kV doc pm an s_ ct,HE⟩)(Hg:PySem.W.codeIn K s_ qual=true)(S:j_ N ps scope)(len:∀ vs H Q E,sp vs H Q E->vs.length=ps.length)(Ic:∀ (A:Around) (outer:List Env) (s:Shared) (H:Hp) (vs:List V) (Q:VK) (E:XK),Ez k (A.deeper<|envOfC qual scope s.heap.objs.size f s_)->sp vs H Q E->
   ∃ t,GC (cP CX P w K mg base N qual scope f s_ A outer s H E) body t/\t { nx:=fun _ H'=>Q .h_ H',rt:=Q } (da N vs) H):
  E2 P w K mg base CX (k+1) f (PySem.W.fnOf name qual params body scope dV kV doc pm an s_ ct) ps sp:=by
 refine⟨len,fun A outer s H args us vs Q E hr e0 hb r Jx=>?_⟩;have hl:=len _ _ _ _ Jx;have KX:K.In s.heap:=e0.mod.Lj.keeps fun b o e=>(e0.bs b o e).1;have lim:s.heap.NoLimit:=e0.mod.nolimit.keeps fun b o e=>(e0.bs b o e).1;have o_:∀ y∈ps.zip us,scope.names.lookup y.1=some .local\/(scope.names.lookup y.1=some .cell/\((cellsFrom (s.heap.objs.size+1) scope.names []).lookup y.1).isSome=true):=fun ⟨n,v⟩ hy=>by
  rcases S.par n (VL hy).1 with q | q
  ·exact .inl q
  ·exact .inr ⟨q,VX _ _ _<|.inl q⟩
 refine codeAny_call_function hr.depth (KX _ _ lk) rfl S.co S.gen rfl (PySem.W.codeRec_of KX Hg) (hb _ _ _ _ ?_);refine wpAny_newFunctionEnv_cells S.kind o_ fun env he s1 x=>?_;subst he;refine⟨lim.keeps x.toInCall.keep,codeAny_func ?_⟩;obtain⟨t,ht,hq⟩:=Ic A outer s H vs Q E (hr.deeper _) Jx;have I:Inv (cP CX P w K mg base N qual scope f s_ A outer s H E) [] (da N vs) H s1:=xg S hr.hd e0 hl r x;refine YV (ht [] s1 (da N vs) H _ I hq) (fun fl s' hs=>?_) fun e s' hs=>hs;have fin:∀ {σ':St}{H':Hp}{v:V}{u:Value},Inv (cP CX P w K mg base N qual scope f s_ A outer s H E) [] σ' H' s'->av v u->Q v H'->CE outer P w H s Q u s':=
  fun {σ' H' v u} J rv q=>⟨v,H',J.os,J.bare,J.base,J.i_,rv,q⟩;cases fl with
 | ret u=>
  obtain⟨v,σ',H',J,rv,q⟩:=hs;exact fin J rv q
 | next=>
  obtain⟨σ',H',J,q⟩:=hs;exact fin (v:=V.h_) (u:=Value.none) J rfl q
 | brk=>
  obtain⟨_,_,_,q⟩:=hs;exact False.elim q
 | cont=>
  obtain⟨_,_,_,q⟩:=hs;exact False.elim q
section
variable{X:Cx}{x:Str}{p pos:Pos}{e:Expr}{es:List Expr}{t:TA}{id T:String}{r:List V->Hp->VK->Prop}
def Ps(r:List V->Hp->VK->Prop)(t:TA):TE:=fun σ H Q=>t σ H fun vs H1=>r vs H1 Q
theorem jI(hc:aQ X (.builtin id) r)(hg:Gl X x)(hm:X.mg x=none)(hv:bootBuiltins x=some (.builtin id))(ha:PA X (e::es) t)(hn:x ≠ "__name__" := by decide)(GX:(x == ("__debug__" : Str))=false:=by decide)(he:starEach (e::es) X.env=(false,eval e X.env)::starEach es X.env:=by rfl)(FQ:(backTo pos<|starEach es X.env).any (·.1)=false:=by rfl):PE X (.Call (.Name x p) (e::es) [] pos) (Ps r t):=by
 intro pins s σ H Q I h;refine XD (fJ I hg hm hv ?_ hn GX);exact WB (t_ (ha pos pins s σ H _ I h) fun us s1 ⟨vs,H1,I1,r1,q1⟩=>hc pins s1 σ H1 vs us Q I1 r1 q1) he FQ
theorem xh(hc:aQ X (.type T) r)(hg:Gl X x)(hm:X.mg x=none)(hv:bootBuiltins x=some (.type T))(ha:PA X (e::es) t)(hn:x ≠ "__name__" := by decide)(GX:(x == ("__debug__" : Str))=false:=by decide)(he:starEach (e::es) X.env=(false,eval e X.env)::starEach es X.env:=by rfl)(FQ:(backTo pos<|starEach es X.env).any (·.1)=false:=by rfl):PE X (.Call (.Name x p) (e::es) [] pos) (Ps r t):=by
 intro pins s σ H Q I h;refine XD (fJ I hg hm hv ?_ hn GX);exact X6 (t_ (ha pos pins s σ H _ I h) fun us s1 ⟨vs,H1,I1,r1,q1⟩=>hc pins s1 σ H1 vs us Q I1 r1 q1) he FQ
end
end L2
namespace HT
open PySem PyProof.Rows
variable{hi lo:Option Int}{vu vl:Value}{sl t:Addr}{Q:Value->Shared->Prop}
theorem xi(A:Around)(s:Shared)(a:Int)(t:Tok)(c:Int)(u:Tok)(prog:Program)(w:World)(E:Value->Shared->Prop)(Q:Value->Shared->Prop)(h:Q (.bool<|decide (a<c)) s):
  wpAny (model prog w) A (richCompare .Lt (.int a t)<|.int c u) Q E s:=
 (PyProof.Rows.lt_int h:wpAny (model prog w) A (compareOp .Lt (.int a t)<|.int c u) Q E s)
section
open PySem.SeqAt
open PySem.AutoSeq1 (wpAny_loadPart')
open PySem.MeetsSeq PySem.MeetsSeq2 PySem.MeetsSeq3
end
section
variable{prog:Program}{w:World}{A:Around}{E:Value->Shared->Prop}{s:Shared}
theorem xl{b:Addr}{vs ws:List Value}(ht:IsTup s.heap t vs.toArray)(hb:IsTup s.heap b ws.toArray)(hv:vs≠[])(h1:ws=[]->Q (.ref t) s)(h2:ws≠[]->Q (.ref s.heap.objs.size) { s with heap:=s.heap.push { cls:=.type "tuple",data:=.seq (vs++ws).toArray } })(hsz:vs.length+ws.length<=sizeLine):wpAny (model prog w) A (binaryOp .Add (.ref t)<|.ref b) Q E s:=by
 obtain⟨⟨cls,dd,data,sl⟩,ho,hc,n,hd⟩:=id ht;obtain⟨⟨NL,KL,data2,KM⟩,J6,J7,n2,hd2⟩:=id hb;simp only at hc hd J7 hd2;subst hc hd J7 hd2;have e:vs.toArray++ws.toArray=(vs++ws).toArray:=by simp
 by_cases hw:ws=[]
 ·exact concat_meets ⟨_,ho,rfl⟩ ⟨_,J6,rfl⟩ V4 seq_tuple_add WT WV (Xa _ _)
   (tuple_addW1 t b vs.toArray ws.toArray n n2 dd KL sl KM (by simpa using hv) (by simp[hw])) ⟨ho,J6,h1 hw⟩
 ·refine concat_meets ⟨_,ho,rfl⟩ ⟨_,J6,rfl⟩ V4 seq_tuple_add WT WV (Xa _ _)
   (tuple_addW2 t b vs.toArray ws.toArray n n2 dd KL sl KM (by simpa using hv) (by simpa using hw) (by rw[ZS,ZS];exact hsz)) ⟨ho,J6,?_⟩;rw[e];exact h2 hw
def C_(n d:Nat):Option Int->Nat
 | none=>d
 | some v=>if v<0 then (v+(n:Int)).toNat else min v.toNat n
theorem xm(n d:Nat):C_ n d none=d:=rfl
theorem xn(n d k:Nat):C_ n d (some (k:Int))=min k n:=by
 show (if (k:Int)<0 then ((k:Int)+(n:Int)).toNat else min (k:Int).toNat n)=min k n;rw[ZY (by lia),Yq]
theorem xo(n d:Nat)(hd:d<=n)(o:Option Int):C_ n d o<=n:=by
 cases o with
 | none=>exact hd
 | some v=>
  show (if v<0 then (v+(n:Int)).toNat else min v.toNat n)<=n;by_cases hv:v<0
  ·rw[ZZ hv];lia
  ·rw[ZY hv];exact Nat.min_le_right _ _
theorem pZ(v:Int)(n d:Nat):(if v<0 then max (v+(n:Int)) 0 else min v (n:Int))=((C_ n d (some v):Nat):Int):=by
 show (if v<0 then max (v+(n:Int)) 0 else min v (n:Int))=(((if v<0 then (v+(n:Int)).toNat else min v.toNat n):Nat):Int);by_cases hv:v<0
 ·simp only[ZZ hv];lia
 ·simp only[ZY hv];lia
theorem xp(lo hi:Option Int)(n:Nat):Builtin.Slice.sliceAdjust lo hi 1 (n:Int)=(((C_ n 0 lo:Nat):Int),((C_ n n hi:Nat):Int)):=by
 have h1:¬ ((1:Int)<0):=by lia
 unfold Builtin.Slice.sliceAdjust;simp only[h1,Yz];refine Xn ?_ ?_
 ·cases lo with
  | none=>rfl
  | some v=>exact pZ v n 0
 ·cases hi with
  | none=>rfl
  | some v=>exact pZ v n n
theorem xq(i j:Nat):Builtin.Slice.slicePlaces (i:Int) (j:Int) 1=j - i:=by
 unfold Builtin.Slice.slicePlaces;have h1:(1:Int) > 0:=by lia
 simp only[h1,Xh,Int.ediv_one];split<;>lia
theorem p0{v:Value}{o:Option Int}{Q:Option Int->Shared->Prop}(p:IsPart v o)(h:Q o s):wpAny (model prog w) A (Builtin.Slice.slicePartIndex v) Q E s:=by
 cases p with
 | none=>exact slicePart_none h
 | int i t=>exact slicePart_int h
theorem p9{n:Nat}{Q:Int×Int×Nat->Shared->Prop}(hs:s.heap.IsSliceOf sl vl vu .none)(pl:IsPart vl lo)(pu:IsPart vu hi)(h:Q (((C_ n 0 lo:Nat):Int),1,C_ n n hi - C_ n 0 lo) s):wpAny (model prog w) A (Builtin.Slice.sliceApplied (.ref sl)<|pure (n:Int)) Q E s:=by
 obtain⟨os,Lu,MZ,J8⟩:=id hs;unfold Builtin.Slice.sliceApplied Builtin.Slice.sliceFields;refine Z9 (Z9<|YD Lu J8 (x:=vl) rfl<|Z9<|YD Lu J8 (x:=vu) rfl<|Z9<|YD Lu J8 (x:=.none) rfl<|Z4 ?_);refine Z9 (slicePart_none ?_);show wpAny _ _ (if ((1:Int) == 0)=true then _ else _) _ _ s;rw[ZY (by decide)];refine Z9 (p0 pl<|Z9<|p0 pu<|Z9<|Z4 ?_);show wpAny _ _ (match Builtin.Slice.sliceAdjust lo hi 1 (n:Int) with | (lo,hi)=>pure (lo,(1:Int),Builtin.Slice.slicePlaces lo hi 1)) _ _ s;rw[xp lo hi n];show wpAny _ _ (pure (((C_ n 0 lo:Nat):Int),(1:Int),Builtin.Slice.slicePlaces ((C_ n 0 lo:Nat):Int) ((C_ n n hi:Nat):Int) 1)) _ _ s;rw[xq];exact Z4 h
theorem xr(xs:Array Value)(i k:Nat):((range k).filterMap fun (m:Nat)=>xs[((i:Int)+(m:Int) * 1).toNat]?).toArray=((xs.toList.drop i).take k).toArray:=by
 have e:(fun (m:Nat)=>xs[((i:Int)+(m:Int) * 1).toNat]?)=fun m=>xs[i+m]?:=by
  funext m;have:((i:Int)+(m:Int) * 1).toNat=i+m:=by lia
  rw[this]
 rw[e];have:=pick_run xs i k;rw[List.filterMap_map] at this;have e2:((fun x=>xs[x]?) ∘ fun x=>i+x)=fun m=>xs[i+m]?:=rfl;rw[e2] at this;rw[this]
theorem xt{items:Array Value}(ht:IsTup s.heap t items)(hs:s.heap.IsSliceOf sl vl vu .none)(pl:IsPart vl lo)(pu:IsPart vu hi)(hw:¬ (C_ items.size 0 lo=0/\C_ items.size items.size hi=items.size))(h:Q (.ref s.heap.objs.size) { s with heap:=s.heap.push { cls:=.type "tuple",data:=.seq ((items.toList.drop<|C_ items.size 0 lo).take<|C_ items.size items.size hi - C_ items.size 0 lo).toArray } })(hsz:items.size<=sizeLine):wpAny (model prog w) A (getItem (.ref t)<|.ref sl) Q E s:=by
 have Hu:sizeOk (.seq ((items.toList.drop<|C_ items.size 0 lo).take<|C_ items.size items.size hi - C_ items.size 0 lo).toArray):=by
  show ((items.toList.drop<|C_ items.size 0 lo).take<|C_ items.size items.size hi - C_ items.size 0 lo).toArray.size<=sizeLine;rw[ZS,Zm,Zp,ZO];lia
 have hj:C_ items.size items.size hi<=items.size:=xo _ _ (ZR _) hi;obtain⟨os,Lu,MZ,J8⟩:=id hs;have QA:s.TypeIs (.ref sl) "slice" := ⟨os,Lu,MZ⟩;unfold getItem;try with_reducible refine Y1 ?_
 first | refine Z9 (Z4 ?_) | skip
 refine Z9 (wpAny_sequenceKey ht.typeIs (by decide) ?_);refine Z9 (Zc (name:=Str.ofString "__getitem__") ht.typeIs YZ
  (Zd YZ ht.typeIs entry_tuple_getitem ?_<|args_tuple_getitem _ _));show wpAny _ _ (Builtin.Tuple.tupleItemsOf (.ref t) >>= _) _ _ s;refine Z9 (tupleItemsOf_ ht ?_);refine Z9 (WS QA ?_);rw[ZZ (by decide)];refine Z9 (p9 hs pl pu ?_);have QB:¬ ((((C_ items.size 0 lo:Nat):Int) == 0 && (1:Int) == 1 && (C_ items.size items.size hi - C_ items.size 0 lo) == items.size)=true):=by
  intro q;rw[ZQ,ZQ] at q;have q1:((C_ items.size 0 lo:Nat):Int)=0:=eq_of_beq q.1.1;have q2:C_ items.size items.size hi - C_ items.size 0 lo=items.size:=eq_of_beq q.2;exact hw ⟨by lia,by lia⟩
 show wpAny _ _ (if (((C_ items.size 0 lo:Nat):Int) == 0 && (1:Int) == 1 && (C_ items.size items.size hi - C_ items.size 0 lo) == items.size)=true then _ else _) _ _ s;rw[ZY QB,xr];first
  | exact Z9 (m:=Builtin.Tuple.tupleExact _) (Zj (Z4 ⟨_,rfl,Z4 h⟩) Hu)
  | exact Z9 (m:=Builtin.Tuple.tupleExact _) (Zj (Z9<|Z4<|Z4 ⟨_,rfl,Z4 h⟩) Hu)
  | exact Z9 (Z9 (m:=Builtin.Tuple.tupleExact _)<|Zj (Z4<|Z4 ⟨_,rfl,Z4 h⟩) Hu)
  | exact Z9 (Z9 (m:=Builtin.Tuple.tupleExact _)<|Zj (Z4 ⟨_,rfl,Z4 h⟩) Hu)
end
end HT
namespace L2
open PySem PySem.Spec PyProof.Rows
variable{h':Heap}{Q:Value->Shared->Prop}{b a p:Addr}{H' H:Hp}{kvs:List (List Im×V)}{w:World}{P:Program}{o:Option V}{t' n:Nat}{its' e_:List Value}{s:Shared}{σ:St}{pins:List (Addr×Obj)}{r:R2}{i:Int}{xs:List (List Im×Addr×Value)}
abbrev TO:=St->Hp->(Option Int->Hp->Prop)->Prop
def Pt(X:Cx)(e:Option Expr)(t:TO)(pins:List (Addr×Obj)):Prop:=
 ∀ (s:Shared) (σ:St) (H:Hp) (Q:Option Int->Hp->Prop),Inv X pins σ H s->t σ H Q->
  wpAny (model X.prog X.w) X.A (evalPart e X.env) (fun u s'=>∃ o H',Inv X pins σ H' s'/\IsPart u o/\Q o H') X.xe s
def PO(X:Cx)(e:Option Expr)(t:TO):Prop:=∀ pins,Pt X e t pins
def Jb:TO:=fun _ H Q=>Q none H
def xu(t:TE):TO:=fun σ H Q=>t σ H fun x H1=>∃ i,x=.int i/\Q (some i) H1
section
variable{X:Cx}{e:Expr}{te:TE}{lo hi:Option Expr}{tl th:TO}{pos p2:Pos}
theorem xv:PO X none Jb:=by
 intro pins s σ H Q I h;rw[evalPart_none];exact Z4 ⟨none,H,I,.none,h⟩
theorem xw(h:PE X e te):PO X (some e) (xu te):=by
 intro pins s σ H Q I hw;rw[evalPart_some];refine t_ (h pins s σ H _ I hw) fun u s1 ⟨x,H1,I1,r1,q1⟩=>?_;obtain⟨i,rfl,q⟩:=q1;obtain⟨t,rfl⟩:=r1;exact⟨some i,H1,I1,.int i t,q⟩
def Lv(X:Cx)(r:V->Option Int->Option Int->Hp->VK->Prop):Prop:=
 ∀ (pins:List (Addr×Obj)) (s:Shared) (σ:St) (H:Hp) (x:V) (v vl vu:Value) (lo hi:Option Int) (sl:Addr) (Q:VK),Inv X pins σ H s->av x v->s.heap.IsSliceOf sl vl vu .none->IsPart vl lo->IsPart vu hi->r x lo hi H Q->
  ∃ T id,typeLookup (.type T) "__getitem__" = pure (some<|.builtin id)/\s.TypeIs v T/\wpAny (model X.prog X.w) X.A (getItem v<|.ref sl) (EP X pins σ Q) X.xe s
def QC(r:V->Option Int->Option Int->Hp->VK->Prop)(te:TE)(tl th:TO):TE:=fun σ H Q=>te σ H fun x H1=>tl σ H1 fun l H2=>th σ H2 fun u H3=>r x l u H3 Q
theorem xx{r:V->Option Int->Option Int->Hp->VK->Prop}(hr:Lv X r)(he:PE X e te)(hl:PO X lo tl)(hu:PO X hi th):PE X (.Subscript e (.Slice lo hi none p2) pos) (QC r te tl th):=by
 intro pins s σ H Q I h;refine Subscript_ (t_ (he pins s σ H _ I h) fun v s1 ⟨x,H1,I1,r1,q1⟩=>?_);refine wpAny_Slice (t_ (hl pins s1 σ H1 _ I1 q1) fun vl s2 ⟨l,H2,I2,pl,q2⟩=>t_ (hu pins s2 σ H2 _ I2 q2) fun vu s3 ⟨u,H3,I3,pu,q3⟩=>?_);rw[evalPart_none];refine Z4 ?_;have I4:Inv X pins σ H3 { s3 with heap:=s3.heap.push { cls:=.type "slice",data:=.fields #[vl,vu,.none] } }:=I3.kept (t':=s3.toks) fun b ob q=>Z5 _ q;obtain⟨T,id,hT,ht,hg⟩:=hr pins { s3 with heap:=s3.heap.push { cls:=.type "slice",data:=.fields #[vl,vu,.none] } } σ H3 x v vl vu l u s3.heap.objs.size Q I4 r1 (Heap.IsSliceOf.new ..) pl pu q3;show wpAny (model X.prog X.w) X.A (subscriptTail e (.Slice lo hi none p2) v<|.ref s3.heap.objs.size) (EP X pins σ Q) X.xe { s3 with heap:=s3.heap.push { cls:=.type "slice",data:=.fields #[vl,vu,.none] } };exact tail_any (ops:=[.ref s3.heap.objs.size,v]) ht hT hg (by with_unfolding_all rfl)
def eR(xs:List V)(lo hi:Option Int):List V:=(xs.drop<|HT.C_ xs.length 0 lo).take (HT.C_ xs.length xs.length hi - HT.C_ xs.length 0 lo)
theorem qc(xs:List V)(lo hi:Option Int):(eR xs lo hi).length<=xs.length:=by
 unfold eR;rw[Zm,Zp];lia
def xy(K:PySem.W.Frag):V->Option Int->Option Int->Hp->VK->Prop:=fun x lo hi H Q=>∃ a xs,x=.ref a/\y_ K H a xs/\
 ¬ (HT.C_ xs.length 0 lo=0/\HT.C_ xs.length xs.length hi=xs.length)/\∀ p,H p=none->Q (.ref p) (upd H p<|.tup<|eR xs lo hi)
theorem xz:Lv X (xy X.K):=by
 intro pins s σ H x v vl vu lo hi sl Q I rx hs pl pu h;obtain⟨a,xs,rfl,hx,hw,q⟩:=h;cases rx;obtain⟨e_,r,ht,hz⟩:=I.tuple hx;have hlen:e_.toArray.size=xs.length:=by rw[ZS];exact r.length.symm
 refine⟨"tuple",_,YZ.lookup,ht.typeIs,?_⟩;refine HT.xt ht hs pl pu (by rw[hlen];exact hw) ?_ (by rw[hlen];exact hz);rw[hlen];refine⟨.ref s.heap.objs.size,_,I.laid (t':=s.toks) (o:=.tup (eR xs lo hi)) (fun b ob q=>Z5 _ q) (ZR _) ?_,rfl,q _<|I.i_.fresh<|ZR _⟩;exact⟨Zg (qc xs lo hi) hz,_,(r.drop<|HT.C_ xs.length 0 lo).take<|HT.C_ xs.length xs.length hi - HT.C_ xs.length 0 lo,IsTup.new _ _⟩
def xA(K:PySem.W.Frag):R2:=fun x y H Q=>∃ a b xs ys,x=.ref a/\y=.ref b/\y_ K H a xs/\y_ K H b ys/\xs≠[]/\xs.length+ys.length<=sizeLine/\
 (ys=[]->Q (.ref a) H)/\(ys≠[]->∀ p,H p=none->Q (.ref p) (upd H p<|.tup<|xs++ys))
theorem au.FR{xs:List V}{us:List Value}(r:au xs us):us=[]↔xs=[]:=by
 cases r with
 | nil=>simp
 | cons _ _=>simp
theorem xB:Fd X (binaryOp .Add) (xA X.K):=by
 intro pins s σ H x y v u Q I rx ry h;obtain⟨a,b,xs,ys,rfl,rfl,ha,hb,hx,hz,q1,q2⟩:=h;cases rx;cases ry;obtain⟨e_,r1,p1,_⟩:=I.tuple ha;obtain⟨Fh,r2,p2,_⟩:=I.tuple hb;refine HT.xl p1 p2 (fun z=>hx<|r1.FR.mp z) (fun z=>⟨.ref a,H,I,rfl,q1<|r2.FR.mp z⟩) (fun z=>?_) (by rw[<- r1.length,<- r2.length];exact hz);refine⟨.ref s.heap.objs.size,_,I.laid (t':=s.toks) (o:=.tup (xs++ys)) (fun b ob q=>Z5 _ q) (ZR _) ?_,rfl,q2 (fun w=>z<|r2.FR.mpr w) _<|I.i_.fresh<|ZR _⟩;exact⟨by rw[ZI];exact hz,_,r1.append r2,IsTup.new _ _⟩
end
def Jc(n:Nat)(i:Int):Option Nat:=if 0<=i then (if i<n then some i.toNat else none) else if -(n:Int)<=i then some (i+n).toNat else none
def Fw{α:Type}(xs:List α)(i:Int):Option α:=(Jc xs.length i).bind fun j=>xs[j]?
theorem qd{j:Nat}(h:Jc n i=some j):seqIndex? i n=some j/\j<n /\ -(n:Int)<=i/\i<n:=by
 unfold Jc at h;by_cases h0:0<=i
 ·rw[ZZ h0] at h;by_cases h1:i<n
  ·rw[ZZ h1] at h;have e:i.toNat=j:=Zr h;exact⟨by rw[seqIndex_of h0 h1,e],by lia,by lia,h1⟩
  ·rw[ZY h1] at h;cases h
 ·rw[ZY h0] at h;by_cases h1 : -(n:Int)<=i
  ·rw[ZZ h1] at h;have e:(i+n).toNat=j:=Zr h;exact⟨by rw[seqIndex_neg (by lia) h1,e],by lia,h1,by lia⟩
  ·rw[ZY h1] at h;cases h
theorem qe{α:Type}{xs:List α}{v:α}(h:Fw xs i=some v):∃ j,seqIndex? i xs.length=some j/\xs[j]?=some v/\j<xs.length /\ -(xs.length:Int)<=i/\i<xs.length:=by
 unfold Fw at h;cases e:Jc xs.length i with
 | none=>rw[e] at h;cases h
 | some j=>
  rw[e] at h;obtain⟨h1,h2,h3,h4⟩:=qd e;exact⟨j,h1,h,h2,h3,h4⟩
def lZ(b:Expr):Prop:=∀ o i,subscripted b false o i=operate [o,i] (getItem o i)
def HF(X:Cx)(r:R2):Prop:=
 ∀ (value slice:Expr) (pins:List (Addr×Obj)) (s:Shared) (σ:St) (H:Hp) (x y:V) (v u:Value) (Q:VK),Inv X pins σ H s->av x v->av y u->r x y H Q->
  subscripted slice false v u=operate [v,u] (getItem v u)->wpAny (model X.prog X.w) X.A (subscriptTail value slice v u) (EP X pins σ Q) X.xe s
def Pu(X:Cx)(id:String)(r:V->List V->Hp->VK->Prop):Prop:=
 ∀ (pins:List (Addr×Obj)) (s:Shared) (σ:St) (H:Hp) (x:V) (xs:List V) (v:Value) (us:List Value) (Q:VK),Inv X pins σ H s->av x v->au xs us->r x xs H Q->
  wpAny (model X.prog X.w) X.A (call (.builtin id) (v::us)) (EP X pins σ Q) X.xe s
section
variable{X:Cx}{a b:Expr}{ta tb:TE}{pos:Pos}
theorem HF.or{r':R2}(h:HF X r)(h':HF X r'):HF X (fun x y H Q=>r x y H Q\/r' x y H Q):=by
 intro value slice pins s σ H x y v u Q I rx ry q hs;rcases q with q | q
 ·exact h value slice pins s σ H x y v u Q I rx ry q hs
 ·exact h' value slice pins s σ H x y v u Q I rx ry q hs
theorem xC(hr:HF X r)(ha:PE X a ta)(hb:PE X b tb)(hs:lZ b):PE X (.Subscript a b pos) (MX r ta tb):=by
 intro pins s σ H Q I h;exact Subscript_ (lW ha hb I h fun v u s2 x y H2 I2 rx ry q=>hr a b pins s2 σ H2 x y v u Q I2 rx ry q<|hs _ _)
def xD(K:PySem.W.Frag):R2:=fun x y H Q=>∃ p xs i v,x=.ref p/\y=.int i/\EL K H p xs/\Fw xs i=some v/\Q v H
def xE(K:PySem.W.Frag):R2:=fun x y H Q=>∃ p xs i v,x=.ref p/\y=.int i/\y_ K H p xs/\Fw xs i=some v/\Q v H
theorem xF:HF X (xD X.K):=by
 intro value slice pins s σ H x y v u Q I rx ry h hs;obtain⟨p,xs,i,z,rfl,rfl,hq,he,q⟩:=h;cases rx;obtain⟨t,rfl⟩:=ry;obtain⟨e_,r,pl,hz⟩:=I.list hq;obtain⟨j,h1,h2,h3,h4,h5⟩:=qe he;obtain⟨w,ew,Id⟩:=r.get h2;have hl:=r.length;have hn:=gx;have fin:EP X pins σ Q w s:=⟨z,H,I,Id,q⟩;by_cases h0:0<=i
 ·have hj:i.toNat=j:=by
   rw[seqIndex_of h0 h5] at h1;exact Zr h1
  exact item_listR pl.isList h0 (by lia) (by rw[hj];simpa using ew) fin hs
 ·have hj:(i+(e_.toArray.size:Int)).toNat=j:=by
   rw[seqIndex_neg (by lia) h4] at h1;rw[ZS,<- hl];exact Zr h1
  exact subscriptTail_builtinR (x:=w) pl.isList.typeIs slot_list_getitem.lookup
   (wpAny_getItem_list_neg (Q:=fun r s'=>r=w/\EP X pins σ Q r s') pl.isList (by lia) (by rw[ZS]<;>lia) (by lia) (by rw[hj];simpa using ew) ⟨rfl,fin⟩) hs
theorem xG:HF X (xE X.K):=by
 intro value slice pins s σ H x y v u Q I rx ry h hs;obtain⟨p,xs,i,z,rfl,rfl,hq,he,q⟩:=h;cases rx;obtain⟨t,rfl⟩:=ry;obtain⟨e_,r,pl,hz⟩:=I.tuple hq;obtain⟨j,h1,h2,h3,h4,h5⟩:=qe he;obtain⟨w,ew,Id⟩:=r.get h2;have hl:=r.length;have hn:=gx;have fin:EP X pins σ Q w s:=⟨z,H,I,Id,q⟩;exact subscriptTail_builtinR (x:=w) pl.typeIs slot_tuple_getitem.lookup
  (getItem_tuple (j:=j) (Q:=fun r s'=>r=w/\EP X pins σ Q r s') pl (by lia) (by lia) (by rw[ZS,<- hl];exact h1) (by simpa using ew) ⟨rfl,fin⟩) hs
theorem xH(e_:List Value)(n j:Nat)(u:Value):Obj.mapSeq (·.setIfInBounds j u) { cls:=.type "list",data:=.seq e_.toArray n }={ cls:=.type "list",data:=.seq (e_.set j u).toArray n }:=by
 simp[Obj.mapSeq]
variable{xs:List V}
theorem Inv.lst(I:Inv X pins σ H s)(h:H p=some (.lst xs)):
  ∃ (e_:List Value) (n:Nat),au xs e_/\s.heap.get? p=some { cls:=.type "list",data:=.seq e_.toArray n }/\xs.length<=sizeLine:=by
 obtain⟨z,e_,n,r,e⟩:=I.i_ p _ h;exact⟨e_,n,r,e,z⟩
theorem Inv.J9{ys:List V}{n':Nat}{f:Obj->Obj}(I:Inv X pins σ H s)(h:H p=some (.lst xs))(ho:s.heap.get? p=some { cls:=.type "list",data:=.seq e_.toArray n })(hf:f { cls:=.type "list",data:=.seq e_.toArray n }={ cls:=.type "list",data:=.seq its'.toArray n' })(r:au ys its')(hz:ys.length<=sizeLine)(t:Nat):
  Inv X pins σ (upd H p<|.lst ys) { s with heap:=s.heap.update p f,toks:=t }:=by
 have e:(s.heap.update p f).get? p=some { cls:=.type "list",data:=.seq its'.toArray n' }:=by
  rw[YB f ho (by rw[hf]<;>rfl),hf]
 refine I.write (x:=p) (e:=p) (by rw[h];trivial) (.inl rfl) (fun b u hb q=>(Y3 _ _<|Yd hb).trans q) ⟨_,e⟩ ?_;exact⟨hz,its',n',r,e⟩
def Lw:V->V->V->Hp->(Hp->Prop)->Prop:=fun o i v H Q=>∃ p xs k j,o=.ref p/\i=.int k/\H p=some (.lst xs)/\Jc xs.length k=some j/\Q (upd H p<|.lst<|xs.set j v)
theorem xI:lQ X Lw:=by
 intro pins s σ H o i v ov iv u Q I ro ri rv h;obtain⟨p,xs,k,j,rfl,rfl,hp,hj,q⟩:=h;cases ro;obtain⟨t,rfl⟩:=ri;obtain⟨e_,n,r,ho,hz⟩:=I.lst hp;obtain⟨h1,h2,h3,h4⟩:=qd hj;have hl:=r.length;have hn:=gx;have I':Inv X pins σ (upd H p<|.lst<|xs.set j v) { s with heap:=s.heap.update p (Obj.mapSeq (·.setIfInBounds j u)) }:=
  I.J9 hp ho (xH e_ n j u) (r.set rv j) (by rw[W1];exact hz) s.toks;by_cases h0:0<=k
 ·have hk:k.toNat=j:=by
   rw[seqIndex_of h0 h4] at h1;exact Zr h1
  exact PySem.W.ki_setAt ho h0 (by lia) (by rw[ZS,<- hl];exact h4) (by rw[hk];exact⟨_,I',q⟩)
 ·have hk:(k+(e_.toArray.size:Int)).toNat=j:=by
   rw[seqIndex_neg (by lia) h3] at h1;rw[ZS,<- hl];exact Zr h1
  exact PySem.W.ki_setBack ho (by lia) (by rw[ZS,<- hl];exact h3) (by lia) (by rw[hk];exact⟨_,I',q⟩)
theorem xJ(lo hi:Option Int)(n:Nat):(sliceBounds lo hi none n).1=((HT.C_ n 0 lo:Nat):Int)/\(sliceBounds lo hi none n).2.1=((HT.C_ n n hi:Nat):Int)/\(sliceBounds lo hi none n).2.2=1:=by
 refine⟨?_,?_,rfl⟩
 ·cases lo with
  | none=>simp[sliceBounds,HT.C_]
  | some i=>
   simp only[sliceBounds,HT.C_,getD_none,show (1:Int) > 0 by decide,Xh];by_cases h:i<0
   ·simp only[h,Xh]<;>lia
   ·simp only[h,Yz]<;>lia
 ·cases hi with
  | none=>simp[sliceBounds,HT.C_]
  | some i=>
   simp only[sliceBounds,HT.C_,getD_none,show (1:Int) > 0 by decide,Xh];by_cases h:i<0
   ·simp only[h,Xh]<;>lia
   ·simp only[h,Yz]<;>lia
theorem xK(e_:List Value)(lo hi:Option Int):slicePick e_.toArray lo hi none=((e_.drop<|HT.C_ e_.length 0 lo).take<|HT.C_ e_.length e_.length hi - HT.C_ e_.length 0 lo).toArray:=by
 obtain⟨h1,h2,h3⟩:=xJ lo hi e_.toArray.size;unfold slicePick;rw[h1,h2,h3];simp only[sliceRange_one,pick_run,ZS]<;>rfl
def xL(K:PySem.W.Frag):V->Option Int->Option Int->Hp->VK->Prop:=fun x lo hi H Q=>∃ a xs,x=.ref a/\EL K H a xs/\∀ p,H p=none->Q (.ref p) (upd H p<|.lst<|eR xs lo hi)
theorem qf:Lv X (xL X.K):=by
 intro pins s σ H x v vl vu lo hi sl Q I rx hs pl pu h;obtain⟨a,xs,rfl,hx,q⟩:=h;cases rx;obtain⟨e_,r,ht,hz⟩:=I.list hx;have hlen:=r.length;refine⟨"list",_,slot_list_getitem.lookup,ht.isList.typeIs,?_⟩;refine wpAny_getItem_list_slice ht.isList hs pl pu .none (by simp) ?_ (by rw[ZS]<;>lia);rw[xK,<- hlen];refine⟨.ref s.heap.objs.size,_,I.laid (t':=s.toks) (o:=.lst (eR xs lo hi)) (fun b ob q=>Z5 _ q) (ZR _) ?_,rfl,q _<|I.i_.fresh<|ZR _⟩;exact⟨Zg (qc xs lo hi) hz,_,0,(r.drop<|HT.C_ xs.length 0 lo).take<|HT.C_ xs.length xs.length hi - HT.C_ xs.length 0 lo,ZN _ rfl⟩
theorem xM:aQ X (.builtin "len") (fun xs H Q=>∃ p ys,xs=[.ref p]/\(EL X.K H p ys\/y_ X.K H p ys)/\Q (.int ys.length) H):=by
 intro pins s σ H xs us Q I r h;obtain⟨p,ys,rfl,hq,q⟩:=h;obtain⟨u,rfl,rx⟩:=bM r;cases rx;have hn:=gx;rcases hq with hq | hq
 ·obtain⟨e_,r',pl,hz⟩:=I.list hq;have hlen:=r'.length;exact Calls.call_len_list pl.isList (by simp only[ZS]<;>lia) ⟨.int ys.length,H,I.tok _,⟨s.toks+1,by rw[ZS,hlen]⟩,q⟩
 ·obtain⟨e_,r',pl,hz⟩:=I.tuple hq;have hlen:=r'.length;exact len_tuple pl (by simp only[ZS]<;>lia) ⟨.int ys.length,H,I.tok _,⟨s.toks+1,by rw[ZS,hlen]⟩,q⟩
theorem xN:aQ X (.builtin "len") (fun xs H Q=>∃ z,xs=[.str z]/\z.length<=sizeLine/\Q (.int z.length) H):=by
 intro pins s σ H xs us Q I r h;obtain⟨z,rfl,hz,q⟩:=h;obtain⟨u,rfl,t,rfl⟩:=bM r;have hn:=gx;exact len_str (by lia) ⟨.int z.length,H,I.tok _,⟨_,rfl⟩,q⟩
theorem aQ.or{f:Value}{r r':List V->Hp->VK->Prop}(h:aQ X f r)(h':aQ X f r'):aQ X f (fun xs H Q=>r xs H Q\/r' xs H Q):=by
 intro pins s σ H xs us Q I rs q;rcases q with q | q
 ·exact h pins s σ H xs us Q I rs q
 ·exact h' pins s σ H xs us Q I rs q
theorem xO:aQ X (.type "list") (fun xs H Q=>∃ p ys,xs=[.ref p]/\(EL X.K H p ys\/y_ X.K H p ys)/\∀ l,H l=none->Q (.ref l) (upd H l<|.lst ys)):=by
 intro pins s σ H xs us Q I r h;obtain⟨p,ys,rfl,hq,q⟩:=h;obtain⟨u,rfl,rx⟩:=bM r;cases rx;have fin:∀ (e_:List Value),au ys e_->ys.length<=sizeLine->∀ (h':Heap) (c':Nat),(∀ b o',s.heap.get? b=some o'->h'.get? b=some o')->
   h'.get? s.heap.objs.size=some { cls:=.type "list",dict:=none,data:=.seq e_.toArray c',slots:=#[] }->EP X pins σ Q (.ref s.heap.objs.size) { s with heap:=h' }:=fun e_ r' hz h' c' kp e=>
  ⟨.ref s.heap.objs.size,_,I.laid (t':=s.toks) kp (ZR _)<|show bg X.prog X.w _ h' _ (.lst ys) from ⟨hz,e_,c',r',e⟩,rfl,q _<|I.i_.fresh<|ZR _⟩;rcases hq with hq | hq
 ·obtain⟨e_,r',pl,hz⟩:=I.list hq;have hlen:=r'.length;obtain⟨o,ho,hc,n,hd⟩:=pl.isList;exact call_list_seq p (.inl rfl) ho hc hd (fun h' c' kp e=>fin e_ r' hz h' c' kp e) (by simp only[ZS]<;>lia)
 ·obtain⟨e_,r',pl,hz⟩:=I.tuple hq;have hlen:=r'.length;obtain⟨o,ho,hc,n,hd⟩:=pl;exact call_list_seq p (.inr rfl) ho hc hd (fun h' c' kp e=>fin e_ r' hz h' c' kp e) (by simp only[ZS]<;>lia)
theorem xP:aQ X (.type "tuple") (fun xs H Q=>∃ p ys,xs=[.ref p]/\((EL X.K H p ys/\∀ l,H l=none->Q (.ref l) (upd H l<|.tup ys))\/(y_ X.K H p ys/\Q (.ref p) H))):=by
 intro pins s σ H xs us Q I r h;obtain⟨p,ys,rfl,h⟩:=h;obtain⟨u,rfl,rx⟩:=bM r;cases rx;rcases h with ⟨hq,q⟩ | ⟨hq,q⟩
 ·obtain⟨e_,r',pl,hz⟩:=I.list hq;have hlen:=r'.length;refine call_tuple_list pl.isList (fun h' kp=>?_) (by simp only[ZS]<;>lia);have I1:Inv X pins σ H { s with heap:=h' }:=I.kept (t':=s.toks) kp;have I2:Inv X pins σ (upd H h'.objs.size<|.tup ys) { s with heap:=h'.push { cls:=.type "tuple",data:=.seq e_.toArray } }:=
   I1.laid (t':=s.toks) (fun b o e=>Z5 _ e) (ZR _) (show bg X.prog X.w _ _ _ (.tup ys) from ⟨hz,e_,r',IsTup.new _ _⟩);exact⟨.ref h'.objs.size,_,I2,rfl,q _<|I1.i_.fresh<|ZR _⟩
 ·obtain⟨e_,r',pl,hz⟩:=I.tuple hq;exact call_tuple_same pl ⟨.ref p,H,I,rfl,q⟩
def KN(K:PySem.W.Frag)(T:String)(x:V)(H:Hp):Prop:=match x with
 | .str _=>T = "str"
 | .int _=>T = "int"
 | .ref p=>(T = "list" /\ ∃ xs,EL K H p xs)\/(T = "tuple" /\ ∃ o,K.lookup p=some o/\o.cls=.type "tuple" /\ o.dict=none)\/
   (T = "dict" /\ ((∃ kvs,H p=some (.dK kvs))\/∃ kvs,H p=some (.dT kvs)))\/(T = "set" /\ ∃ S n,H p=some (.set S n))
 | _=>False
theorem xQ{T:String}{x:V}{v:Value}(I:Inv X pins σ H s)(r:av x v)(ty:KN X.K T x H):
  s.TypeIs v T/\∀ a,v=.ref a->∃ ob,s.heap.get? a=some ob/\ob.dict=none:=by
 cases x with
 | str z=>
  obtain⟨t,rfl⟩:=r;cases (show T = "str" from ty);exact⟨typeIs_str s z t,fun _ e=>nomatch e⟩
 | int i=>
  obtain⟨t,rfl⟩:=r;cases (show T = "int" from ty);exact⟨typeIs_int s i t,fun _ e=>nomatch e⟩
 | ref p=>
  cases r;rcases ty with ⟨rfl,xs,hq⟩ | ⟨rfl,o,hk,hc,hd⟩ | ⟨rfl,hk⟩ | ⟨rfl,S,n,hk⟩
  ·obtain⟨e_,_,pl,_⟩:=I.list hq;refine⟨pl.isList.typeIs,fun a e=>?_⟩;cases e;obtain⟨o,n,e,c,hd,_⟩:=pl;exact⟨o,e,hd⟩
  ·refine⟨⟨o,I.IO p o hk,hc⟩,fun a e=>?_⟩;cases e;exact⟨o,I.IO _ o hk,hd⟩
  ·have z:∃ o,s.heap.get? p=some o/\o.ExactDict:=by
    rcases hk with ⟨kvs,hk⟩ | ⟨kvs,hk⟩
    ·obtain⟨_,_,_,_,o,_,_,e,ex,_⟩:=I.i_ p _ hk;exact⟨o,e,ex⟩
    ·obtain⟨_,_,_,_,o,_,_,e,ex,_⟩:=I.i_ p _ hk;exact⟨o,e,ex⟩
   obtain⟨o,e,ex⟩:=z;refine⟨⟨o,e,ex.1⟩,fun a e2=>?_⟩;cases e2;exact⟨o,e,ex.2.1⟩
  ·obtain⟨o,_,_,_,e,ex,_⟩:=I.i_ p _ hk;refine⟨⟨o,e,ex.1⟩,fun a e2=>?_⟩;cases e2;exact⟨o,e,ex.2.1⟩
 | _=>exact False.elim ty
def QD(K:PySem.W.Frag)(T:String)(r:V->List V->Hp->VK->Prop)(to:TE)(t:TA):TE:=fun σ H Q=>to σ H fun x H1=>KN K T x H1/\t σ H1 fun xs H2=>r x xs H2 Q
variable{o e:Expr}{es:List Expr}{to:TE}{t:TA}{name:Str}{apos EO:Pos}{T id:String}{r:V->List V->Hp->VK->Prop}
theorem xR(pa:PlainAttrs T)(slot:Slot T name id)(IR:typeOf (.builtin id)=pure (.type "method_descriptor"))(hm:Pu X id r)(ho:PE X o to)(ha:PA X (e::es) t)(Ie:attributeBase o name X.env (eval o X.env)=eval o X.env:=by rfl)(J_:((backTo EO<|starEach (e::es) X.env).all (fun x=>!x.1) && (backToKw EO<|keywordEach [] X.env).all (fun x=>x.1.isSome)
   && decide ((e::es).length+([]:List Keyword).length+(if ([]:List Keyword).isEmpty then 0 else 1)<30))=true:=by rfl)(Ig:(apos.endLine == EO.line)=true:=by rfl)(hs:starEach (e::es) X.env=(false,eval e X.env)::starEach es X.env:=by rfl)(Hh:(backTo EO<|starEach es X.env).any (·.1)=false:=by rfl):
  PE X (.Call (.Attribute o name apos) (e::es) [] EO) (QD X.K T r to t):=by
 intro pins s σ H Q I h;refine wpAny_Call_method_late Ie J_ Ig rfl (t_ (ho pins s σ H _ I h) fun v s1 ⟨x,H1,I1,r1,ty,q1⟩=>?_);obtain⟨h1,h2⟩:=xQ I1 r1 ty;refine⟨T,id,pa,slot,IR,h1,h2,?_⟩;have hA:=ha EO pins s1 σ H1 _ I1 q1;rw[hs] at hA ⊢;refine Calls.callWith_builtin (by show (false || (backTo EO<|starEach es X.env).any (·.1))=false;rw[Hh]<;>rfl) (Calls.evalArgs_plain ?_);exact t_ hA fun us s2 ⟨vs,H2,I2,r2,q2⟩=>hm pins s2 σ H2 x vs v us Q I2 r1 r2 q2
end
def Pv(X:Cx)(id:String)(r:V->List V->Hp->VK->Prop):Prop:=
 ∀ (pins:List (Addr×Obj)) (s:Shared) (σ:St) (H:Hp) (x:V) (xs:List V) (v:Value) (us:List Value) (Q:VK),Inv X pins σ H s->av x v->au xs us->r x xs H Q->
  wpAny (model X.prog X.w) X.A (call (.builtin id) (v::us)) (EP X pins σ Q) X.xe s
theorem au.one:∀ {x:V}{us:List Value},au [x] us->∃ u,us=[u]/\av x u
 | _,_,.cons r .nil=>⟨_,rfl,r⟩
section
variable{X:Cx}{pins:List (Addr×Obj)}{σ:St}{H:Hp}{s:Shared}{l b:Addr}{xs ys zs:List V}
theorem Inv.Lx{f:Array Value->Array Value}(I:Inv X pins σ H s)(hH:H l=some (.lst xs))(e:s.heap.get? l=some { cls:=.type "list",data:=.seq e_.toArray n })(hf:f e_.toArray=its'.toArray)(hv:au ys its')(hz:ys.length<=sizeLine):
  Inv X pins σ (upd H l<|.lst ys) { s with heap:=s.heap.update l (Obj.mapSeq f),toks:=t' }:=by
 have q:=PySem.IsL.update e f;rw[hf] at q;refine I.write (x:=l) (e:=l) (by rw[hH];exact trivial) (.inl rfl) (fun b' u hb hu=>(Y3 s.heap (Obj.mapSeq f)<|Yd hb).trans hu) ⟨_,q⟩ ?_;exact⟨hz,its',_,hv,q⟩
theorem Inv.NM(I:Inv X pins σ H s)(hv:au ys e_)(hz:ys.length<=sizeLine):
  Inv X pins σ (upd H s.heap.objs.size<|.lst ys) { s with heap:=s.heap.push { cls:=.type "list",data:=.seq e_.toArray },toks:=t' }:=
 I.laid (fun _ _ q=>Z5 _ q) (ZR _) ⟨hz,e_,0,hv,ZN _ rfl⟩
theorem Inv.fresh(I:Inv X pins σ H s):H s.heap.objs.size=none:=I.i_.fresh (ZR _)
theorem Inv.Fx(I:Inv X pins σ H s)(hH:H l=some (.lst xs)):xs.length<=sizeLine/\∃ (e_:List Value) (n:Nat),au xs e_/\xs.length=e_.length/\s.heap.get? l=some { cls:=.type "list",data:=.seq e_.toArray n }:=by
 obtain⟨z,e_,n,r,e⟩:=I.i_ l _ hH;exact⟨z,e_,n,r,r.length,e⟩
theorem xS(h:n<=sizeLine):Builtin.List.listTooLong n=false:=by
 unfold Builtin.List.listTooLong;exact Zl (by lia)
end
section
variable{X:Cx}
def Jd:V->List V->Hp->VK->Prop:=fun x vs H Q=>∃ l xs y,x=.ref l/\vs=[y]/\H l=some (.lst xs)/\xs.length<sizeLine/\Q .h_ (upd H l<|.lst<|xs++[y])
theorem xT:Pv X "list.append" Jd:=by
 intro pins s σ H x vs v us Q I rx rv h;obtain⟨l,xs,y,rfl,rfl,hH,hz,q⟩:=h;cases rx;obtain⟨u,rfl,ru⟩:=rv.one;obtain⟨z,e_,n,r,hl,e⟩:=I.Fx hH;refine call_meets F.slot_list_append ⟨_,e,rfl⟩ F.entry_list_append (F.args_list_append_2 _ _) (PySem.list_append l e_.toArray n u (by rw[ZS];lia)) ⟨e,?_⟩;refine⟨.h_,_,I.Lx (its':=e_++[u]) hH e (by simp) (r.append<|.cons ru .nil) ?_,rfl,q⟩;rw[ZI,Yj];lia
def Je:V->List V->Hp->VK->Prop:=fun x vs H Q=>∃ l b xs zs,x=.ref l/\vs=[.ref b]/\H l=some (.lst xs)/\H b=some (.lst zs)/\xs.length+zs.length<=sizeLine/\Q .h_ (upd H l<|.lst<|xs++zs)
theorem xU:Pv X "list.extend" Je:=by
 intro pins s σ H x vs v us Q I rx rv h;obtain⟨l,b,xs,zs,rfl,rfl,hH,hB,hz,q⟩:=h;cases rx;obtain⟨u,rfl,ru⟩:=rv.one;cases ru;obtain⟨z,e_,n,r,hl,e⟩:=I.Fx hH;obtain⟨z2,Fh,n2,r2,Ih,e2⟩:=I.Fx hB;have hsz:e_.toArray.size+Fh.toArray.size<=sizeLine:=by rw[ZS,ZS];lia
 have Ly:¬ (!e_.toArray.isEmpty && Builtin.List.listTooLong (e_.toArray.size+Fh.toArray.size))=true:=by
  rw[xS hsz,Bool.and_false];exact ZM
 refine call_meets F.slot_list_extend ⟨_,e,rfl⟩ F.entry_list_extend (F.args_list_extend_2 _ _)
  (AutoSeq1.list_extend_list_list_0 l e_.toArray n b Fh.toArray n2 Ly (by rw[ZS];lia) (by lia)) ⟨e,e2,?_⟩;refine⟨.h_,_,I.Lx (its':=e_++Fh) hH e (by simp) (r.append r2) ?_,rfl,q⟩;rw[ZI];lia
def NN:R2:=fun x y H Q=>∃ l b xs zs,x=.ref l/\y=.ref b/\H l=some (.lst xs)/\H b=some (.lst zs)/\xs.length+zs.length<=sizeLine/\∀ p,H p=none->Q (.ref p) (upd H p<|.lst<|xs++zs)
theorem xV:Fd X (binaryOp .Add) NN:=by
 intro pins s σ H x y v u Q I rx ry h;obtain⟨l,b,xs,zs,rfl,rfl,hH,hB,hz,q⟩:=h;cases rx;cases ry;obtain⟨z,e_,n,r,hl,e⟩:=I.Fx hH;obtain⟨z2,Fh,n2,r2,Ih,e2⟩:=I.Fx hB;refine PySem.P.add_list e e2 ?_ (by rw[ZS,ZS];lia);have ea:e_.toArray++Fh.toArray=(e_++Fh).toArray:=by simp
 rw[ea];exact⟨.ref _,_,I.NM (t':=s.toks) (r.append r2) (by rw[ZI];lia),rfl,q _ I.fresh⟩
end
section
variable{prog:Program}{w:World}{A:Around}{E:Value->Shared->Prop}{s:Shared}
end
section
variable{X:Cx}
end
section
variable{κ:Type}[DecidableEq κ]
def cf(kvs:List (κ×V))(k:κ):Option V:=(kvs.find? fun kv=>decide (kv.1=k)).map (·.2)
def cy(kvs:List (κ×V))(k:κ)(v:V):List (κ×V):=
 if (kvs.any fun kv=>decide (kv.1=k))=true then kvs.map (fun kv=>if kv.1=k then (kv.1,v) else kv) else kvs++[(k,v)]
theorem jJ{p:κ×V}{r:List (κ×V)}{k:κ}(e:p.1=k):cf (p::r) k=some p.2:=by simp[cf,Ym,e]
theorem jK{p:κ×V}{r:List (κ×V)}{k:κ}(e:¬ p.1=k):cf (p::r) k=cf r k:=by simp[cf,Ym,e]
theorem qg(k:κ):∀ kvs:List (κ×V),(kvs.any fun kv=>decide (kv.1=k))=(cf kvs k).isSome
 | []=>rfl
 | p::r=>by
  rw[Xt];by_cases e:p.1=k
  ·simp only[jJ e,Zu e,Bool.true_or,Option.isSome_some]
  ·rw[jK e,Zl e,Bool.false_or];exact qg k r
theorem qh(kvs:List (κ×V))(k:κ)(v:V):(cy kvs k v).length<=kvs.length+1:=by
 unfold cy;split
 ·rw[Z3];lia
 ·rw[ZI,ZD,List.length_nil];lia
theorem dG.EQ{u:Option Value}(r:dG o u):o.isSome=u.isSome:=by
 cases o with
 | none=>cases u with
  | none=>rfl
  | some _=>exact (show False from r).elim
 | some _=>cases u with
  | none=>exact (show False from r).elim
  | some _=>rfl
theorem KV.val{kvs:List (κ×V)}{vs:List (κ×Value)}(r:KV kvs vs)(k:κ):dG (cf kvs k) (valueAt vs k):=by
 unfold KV at r;induction r with
 | nil=>exact True.intro
 | @cons p q ps qs h t ih=>
  obtain⟨h1,h2⟩:=h;by_cases e:p.1=k
  ·have e':q.1=k:=h1.symm.trans e;have b:valueAt (q::qs) k=some q.2:=by simp[valueAt,Ym,e']
   rw[jJ e,b];exact h2
  ·have e':¬ q.1=k:=fun z=>e (h1.trans z);have b:valueAt (q::qs) k=valueAt qs k:=by simp[valueAt,Ym,e']
   rw[jK e,b];exact ih
theorem KV.any{kvs:List (κ×V)}{vs:List (κ×Value)}(r:KV kvs vs)(k:κ):(kvs.any fun kv=>decide (kv.1=k))=vs.any fun kv=>decide (kv.1=k):=by
 unfold KV at r;induction r with
 | nil=>rfl
 | cons h t ih=>rw[Xt,Xt,ih,h.1]
theorem KV.Ka{kvs:List (κ×V)}{vs:List (κ×Value)}(r:KV kvs vs)(k:κ){y:V}{u:Value}(ry:av y u):
  KV (kvs.map fun kv=>if kv.1=k then (kv.1,y) else kv) (vs.map fun kv=>if kv.1=k then (kv.1,u) else kv):=by
 unfold KV at r ⊢;induction r with
 | nil=>exact .nil
 | @cons p q ps qs h t ih=>
  rw[ZH,ZH];refine .cons ?_ ih;obtain⟨h1,h2⟩:=h;by_cases e:p.1=k
  ·rw[ZZ e,ZZ<|h1.symm.trans e];exact⟨h1,ry⟩
  ·rw[ZY e,ZY<|fun z=>e<|h1.trans z];exact⟨h1,h2⟩
theorem KV.put{kvs:List (κ×V)}{vs:List (κ×Value)}(r:KV kvs vs)(k:κ){y:V}{u:Value}(ry:av y u):KV (cy kvs k y) (stored vs k u):=by
 unfold cy stored;rw[r.any k];by_cases e:(vs.any fun kv=>decide (kv.1=k))=true
 ·rw[ZZ e,ZZ e];exact r.Ka k ry
 ·rw[ZY e,ZY e];exact Paired.snoc r ⟨rfl,ry⟩
theorem KV.length{kvs:List (κ×V)}{vs:List (κ×Value)}(r:KV kvs vs):kvs.length=vs.length:=Xc r
end
theorem jL{k:Key}{u:Value}(r:av (kV k) u):(eJ P w).is k u=true:=by
 cases k with
 | inl i=>obtain⟨t,e⟩:=(show ∃ t,u=Value.int i t from r);subst e;exact vq P w i t
 | inr x=>obtain⟨t,e⟩:=(show ∃ t,u=Value.str x t from r);subst e;exact vw P w x t
abbrev KT(H:Hp):List (List Im×V)->List (List Im×Addr×Value)->Prop:=Paired fun p q=>p.1=q.1/\HW H p.1 q.2.1/\av p.2 q.2.2
theorem KT.val(r:KT H kvs xs)(k:List Im):dG (cf kvs k) ((atKey xs k).map (·.2)):=by
 induction r with
 | nil=>exact True.intro
 | @cons p q ps qs h t ih=>
  obtain⟨h1,_,h2⟩:=h;by_cases e:p.1=k
  ·have e':q.1=k:=h1.symm.trans e;have b:atKey (q::qs) k=some q.2:=by simp[atKey,Ym,e']
   rw[jJ e,b];exact h2
  ·have e':¬ q.1=k:=fun z=>e (h1.trans z);have b:atKey (q::qs) k=atKey qs k:=by simp[atKey,Ym,e']
   rw[jK e,b];exact ih
theorem KT.Ka(r:KT H kvs xs)(k:List Im){y:V}{u:Value}(ry:av y u):
  KT H (kvs.map fun kv=>if kv.1=k then (kv.1,y) else kv) (xs.map<|putAt k u):=by
 induction r with
 | nil=>exact .nil
 | @cons p q ps qs h t ih=>
  rw[ZH,ZH];refine .cons ?_ ih;obtain⟨h1,h2,h3⟩:=h;unfold putAt;by_cases e:p.1=k
  ·rw[ZZ e,ZZ<|h1.symm.trans e];exact⟨h1,h2,ry⟩
  ·rw[ZY e,ZY<|fun z=>e<|h1.trans z];exact⟨h1,h2,h3⟩
theorem KT.put(r:KT H kvs xs)(k:List Im){b:Addr}{y:V}{u:Value}(hb:HW H k b)(ry:av y u):
  KT H (cy kvs k y) (storedH xs k b u):=by
 have e:(kvs.any fun kv=>decide (kv.1=k))=(atKey xs k).isSome:=by
  rw[qg,(r.val k).EQ,Wb]
 unfold cy storedH;rw[e];by_cases q:(atKey xs k).isSome=true
 ·rw[ZZ q,ZZ q];exact r.Ka k ry
 ·rw[ZY q,ZY q];exact Paired.snoc r ⟨rfl,hb,ry⟩
theorem KT.keeps(r:KT H kvs xs)(ht:∀ b ys,H b=some (.tup ys)->H' b=some (.tup ys)):KT H' kvs xs:=
 Paired.IW r fun _ _ z=>⟨z.1,z.2.1.mono ht,z.2.2⟩
section
variable{P:Program}{w:World}{H:Hp}{h:Heap}{a:Addr}
theorem qi{u:HO}(ok:ES P w H h)(e:Rd H a u):bg P w H h a u:=e.ok ok
theorem gy{kvs:List (Key×V)}(ok:ES P w H h)(e:Rd H a (.dK kvs)):kvs.length<=sizeLine/\(a == sysModules)=false/\∃ vs,KV kvs vs/\h.DictOf (eJ P w) a vs:=
 show bg P w H h a (.dK kvs) from qi ok e
theorem xW{kvs:List (Key×V)}(ok:ES P w H h)(e:H a=some (.dK kvs)):kvs.length<=sizeLine/\(a == sysModules)=false/\∃ vs,KV kvs vs/\h.DictOf (eJ P w) a vs:=gy ok (.inl e)
mutual
theorem EG.Gq(ok:ES P w H h):∀ {d:Im}{v:V}{u:Value},EG H d v->av v u->E_ h d u
 | .h_,_,_,e,r=>by cases (show _=V.h_ from e);exact r
 | .bl b,_,_,e,r=>by cases (show _=V.bl b from e);exact r
 | .int i,_,_,e,r=>by cases (show _=V.int i from e);exact r
 | .str x,_,_,e,r=>by cases (show _=V.str x from e);exact r
 | .fn a,_,_,e,r=>by cases (show _=V.ref a from e);exact r
 | .tup ds,_,_,e,r=>by
  obtain⟨a,xs,rfl,h1,h2⟩:=e;cases r;obtain⟨_,e_,rv,o,g1,g2,n,g3⟩:=(show bg P w H h a (.tup xs) from ok a _ h1);exact⟨a,o,e_.toArray,n,rfl,g1,g2,g3,by simpa using aj.Gq ok h2 rv⟩
 | .fl ds,_,_,e,r=>by
  obtain⟨a,xs,o,rfl,h1,h2⟩:=e;cases r;exact⟨a,rfl⟩
 | .fd,_,_,e,r=>by
  obtain⟨a,o,rfl,h1⟩:=e;cases r;exact⟨a,rfl⟩
theorem aj.Gq(ok:ES P w H h):∀ {ds:List Im}{vs:List V}{us:List Value},aj H ds vs->au vs us->aF h ds us
 | [],_,_,e,r=>by cases (show _=[] from e);cases r;rfl
 | d::ds,_,_,e,r=>by
  obtain⟨v,t,rfl,h1,h2⟩:=e;cases r with
  | cons r1 r2=>exact⟨_,_,rfl,EG.Gq ok h1 r1,aj.Gq ok h2 r2⟩
end
theorem iJ{ks:List Im}(ok:ES P w H h)(e:HW H ks a):(bt P w).is h ks a:=⟨e.1,e.2.Gq ok rfl⟩
theorem jM{P:Program}{w:World}{A:Around}(h:A.units+20<cLine):(bt P w).room A.in1:=show A.units+1+10<cLine by lia
theorem iK(ok:ES P w H h)(e:Rd H a (.dT kvs)):kvs.length<=sizeLine/\(a == sysModules)=false/\
  ∃ xs,KT H kvs xs/\h.DictOfH (bt P w) a xs:=by
 obtain⟨z,y,xs,r,o,es,ep,h1,h2,h3,h4,h5⟩:=(show bg P w H h a (.dT kvs) from qi ok e);refine⟨z,y,xs,r,o,es,ep,h1,h2,h3,h4,fun x hx=>?_,h5⟩;have all:∀ {l:List (List Im×V)}{m:List (List Im×Addr×Value)},KT H l m->∀ x∈m,(bt P w).is h x.1 x.2.1:=by
  intro l m q;induction q with
  | nil=>intro x hx;exact nomatch hx
  | @cons p q ps qs hq t ih=>
   intro x hx;rcases ZU.mp hx with e | hx
   ·subst e;exact iJ ok (by rw[<- hq.1];exact hq.2.1)
   ·exact ih x hx
 exact all r x hx
theorem qj(ok:ES P w H h)(e:H a=some (.dT kvs)):kvs.length<=sizeLine/\(a == sysModules)=false/\
  ∃ xs,KT H kvs xs/\h.DictOfH (bt P w) a xs:=iK ok (.inl e)
end
def bN(H:Hp)(a:Addr)(y:V)(r:Option V):Prop:=
 (∃ kvs k,Rd H a (.dK kvs)/\y=kV k/\r=cf kvs k)\/∃ kvs k b,Rd H a (.dT kvs)/\y=.ref b/\HW H k b/\r=cf kvs k
def fK(H:Hp)(a:Addr)(y v:V)(H':Hp):Prop:=
 (∃ kvs k,H a=some (.dK kvs)/\y=kV k/\kvs.length<sizeLine/\H'=upd H a (.dK<|cy kvs k v))\/
 ∃ kvs k b,H a=some (.dT kvs)/\y=.ref b/\HW H k b/\kvs.length<sizeLine/\H'=upd H a (.dT<|cy kvs k v)
theorem bN.k{H:Hp}{a:Addr}{kvs:List (Key×V)}{k:Key}(e:H a=some (.dK kvs)):bN H a (kV k) (cf kvs k):=.inl ⟨kvs,k,.inl e,rfl,rfl⟩
theorem bN.t{k:List Im}(e:H a=some (.dT kvs))(eb:HW H k b):bN H a (.ref b) (cf kvs k):=.inr ⟨kvs,k,b,.inl e,rfl,eb,rfl⟩
theorem fK.k{H:Hp}{a:Addr}{kvs:List (Key×V)}{k:Key}{v:V}(e:H a=some (.dK kvs))(hl:kvs.length<sizeLine):fK H a (kV k) v (upd H a<|.dK<|cy kvs k v):=.inl ⟨kvs,k,e,rfl,hl,rfl⟩
theorem fK.t{k:List Im}{v:V}(e:H a=some (.dT kvs))(eb:HW H k b)(hl:kvs.length<sizeLine):
  fK H a (.ref b) v (upd H a<|.dT<|cy kvs k v):=.inr ⟨kvs,k,b,e,rfl,eb,hl,rfl⟩
section
variable{X:Cx}{pins:List (Addr×Obj)}{σ:St}{H:Hp}{s:Shared}{a:Addr}{y v:V}{u r:Value}{o:Option V}{A:Around}{E:Value->Shared->Prop}
theorem Inv.big(I:Inv X pins σ H s):sysModules<s.heap.objs.size:=by
 have h:mainGlobals<s.heap.objs.size:=(I.mod.glob.keeps I.bk).lt;exact Wn (by decide) h
theorem xX(hu:A.units+20<cLine)(I:Inv X pins σ H s)(g:bN H a y (some v))(ry:av y u)(h:∀ w' s',Inv X pins σ H s'->av v w'->Q w' s'):
  wpAny (model X.prog X.w) A (getItem (.ref a) u) Q E s:=by
 rcases g with ⟨kvs,k,e,ey,l⟩ | ⟨kvs,k,b,e,ey,eb,l⟩
 ·subst ey;obtain⟨z,hd,vs,rel,dd⟩:=gy I.i_ e;obtain⟨w',hw,Id⟩:=dG.some_of (v:=v) (o:=valueAt vs k) (by rw[l];exact rel.val k);exact wpAny_getItem_of (jL ry) dd.mapOf hw (h w' _ (I.tok _) Id)
 ·subst ey;cases (show u=Value.ref b from ry);obtain⟨z,hd,xs,rel,dd⟩:=iK I.i_ e;obtain⟨w',hw,Id⟩:=dG.some_of (v:=v) (o:=(atKey xs k).map (·.2)) (by rw[l];exact rel.val k);obtain⟨p,hp,Jf⟩:=Z2.mp hw;refine wpAny_getItem_heap (jM hu) (iJ I.i_ eb) dd hp ?_;rw[Jf];exact h w' _ (I.tok _) Id
theorem l5(hu:A.units+20<cLine)(I:Inv X pins σ H s)(g:bN H a y o)(ry:av y u)(h:∀ s',Inv X pins σ H s'->Q (.bool o.isSome) s'):
  wpAny (model X.prog X.w) A (compareOp .In u<|.ref a) Q E s:=by
 rcases g with ⟨kvs,k,e,ey,l⟩ | ⟨kvs,k,b,e,ey,eb,l⟩
 ·subst ey;obtain⟨z,hd,vs,rel,dd⟩:=gy I.i_ e;refine wpAny_in_of (jL ry) hd dd.mapOf ?_;rw[<- (rel.val k).EQ,<- l];exact h _ (I.tok _)
 ·subst ey;cases (show u=Value.ref b from ry);obtain⟨z,hd,xs,rel,dd⟩:=iK I.i_ e;refine wpAny_in_heap (jM hu) (iJ I.i_ eb) hd dd ?_;have q:=(rel.val k).EQ;rw[Wb] at q;rw[<- q,<- l];exact h _ (I.tok _)
theorem l7(hu:A.units+20<cLine)(I:Inv X pins σ H s)(g:bN H a y o)(ry:av y u)(h:∀ s',Inv X pins σ H s'->Q (.bool<|!o.isSome) s'):
  wpAny (model X.prog X.w) A (compareOp .NotIn u<|.ref a) Q E s:=by
 rcases g with ⟨kvs,k,e,ey,l⟩ | ⟨kvs,k,b,e,ey,eb,l⟩
 ·subst ey;obtain⟨z,hd,vs,rel,dd⟩:=gy I.i_ e;refine wpAny_notIn_of (jL ry) hd dd.mapOf ?_;rw[<- (rel.val k).EQ,<- l];exact h _ (I.tok _)
 ·subst ey;cases (show u=Value.ref b from ry);obtain⟨z,hd,xs,rel,dd⟩:=iK I.i_ e;refine wpAny_notIn_heap (jM hu) (iJ I.i_ eb) hd dd ?_;have q:=(rel.val k).EQ;rw[Wb] at q;rw[<- q,<- l];exact h _ (I.tok _)
theorem qk{ob:HO}(I:Inv X pins σ H s)(mu:Lh (H a))(hs:Heap.SameBut a s.heap h')(he:∃ q,h'.get? a=some q)(new:bg X.prog X.w (upd H a ob) h' a ob):
  Inv X pins σ (upd H a ob) { s with heap:=h',toks:=t' }:=
 I.write (x:=a) (e:=a) mu (.inl rfl) (fun b q hb z=>(hs.2 b hb).trans z) he new
theorem xY{kvs:List (Key×V)}{vs:List (Key×Value)}(z:kvs.length<=sizeLine)(hd:(a == sysModules)=false)(rel:KV kvs vs)(dd:h'.DictOf (eJ P w) a vs):
  bg P w H' h' a (.dK kvs):=⟨z,hd,vs,rel,dd⟩
theorem ql{Q:Unit->Shared->Prop}(hu:A.units+20<cLine)(I:Inv X pins σ H s)(g:fK H a y v H')(ry:av y u)(rv:av v r)(h:∀ s',Inv X pins σ H' s'->Q () s'):
  wpAny (model X.prog X.w) A (setItem (.ref a) u r) Q E s:=by
 rcases g with ⟨kvs,k,e,ey,l,eH⟩ | ⟨kvs,k,b,e,ey,eb,l,eH⟩
 ·subst ey eH;obtain⟨z,hd,vs,rel,dd⟩:=xW I.i_ e;have hz:vs.length<=sizeLine:=by rw[<- rel.length];exact z
  have hl:(cy kvs k v).length<=sizeLine:=by have:=qh kvs k v;lia
  refine wpAny_setItem_pairs (hsz:=hz) (jL ry) dd fun h' KO hs=>h _ ?_;have he:∃ q,h'.get? a=some q:=let ⟨q,_,_,hq,_⟩:=KO;⟨q,hq⟩
  exact qk I (by rw[e];exact True.intro) hs he (xY hl hd (rel.put k rv) KO)
 ·subst ey eH;cases (show u=Value.ref b from ry);obtain⟨z,hd,xs,rel,dd⟩:=qj I.i_ e;have hz:xs.length<=sizeLine:=by rw[<- Xc rel];exact z
  have hl:(cy kvs k v).length<=sizeLine:=by have:=qh kvs k v;lia
  refine wpAny_setItem_heap (hsz:=hz) (jM hu) (iJ I.i_ eb) dd fun h' KO hs=>h _ ?_;obtain⟨q,es,ep,hq,h2,h3,h4,_,h5⟩:=KO;refine qk I (by rw[e];exact True.intro) hs ⟨q,hq⟩ ⟨hl,hd,_,(rel.put k eb rv).keeps fun c ys ec=>?_,q,es,ep,hq,h2,h3,h4,h5⟩;rw[aG (vx ec e<|fun z=>nomatch z)];exact ec
end
section
variable{X:Cx}{pins:List (Addr×Obj)}{σ:St}{H:Hp}{s:Shared}{a:Addr}{kvs:List (Key×V)}{k:Key}{u:Value}{A:Around}{E:Value->Shared->Prop}
theorem xZ(I:Inv X pins σ H s)(e:Rd H a (.dK kvs))(h:∀ t s',Inv X pins σ H s'->Q (.int kvs.length t) s'):wpAny (model X.prog X.w) A (call (.builtin "len") [.ref a]) Q E s:=by
 obtain⟨z,hd,vs,rel,dd⟩:=gy I.i_ e;refine call_len_dict hd dd (by rw[<- rel.length];rw[VC] at z;lia) ?_;rw[<- rel.length];exact h _ _ (I.tok _)
end
theorem x5{X:Cx}{y:V}(I:Inv X pins σ H s)(g:bN H a y o):s.TypeIs (.ref a) "dict" := by
 rcases g with ⟨kvs,k,e,_,_⟩ | ⟨kvs,k,b,e,_,_,_⟩
 ·obtain⟨_,_,vs,_,dd⟩:=gy I.i_ e;exact dd.typeIs
 ·obtain⟨_,_,xs,_,dd⟩:=iK I.i_ e;exact dd.typeIs
section
variable{X:Cx}{o i e value:Expr}{pos pos' NH:Pos}{td ty tv:TE}
end
theorem x6(h:Heap)(hb:sysModules<h.objs.size):bg P w H (h.push { cls:=.type "dict",data:=.dict #[] }) h.objs.size (.dT []):=
 ⟨Yl _,beq_eq_false_iff_ne.mpr<|Yd<|ZB hb,[],.nil,_,#[],0,ZN _ rfl,⟨rfl,rfl,rfl⟩,rfl,rfl,Yy⟩
def Kb:TE:=fun _ H Q=>∀ p,H p=none->Q (.ref p) (upd H p<|.dT [])
section
variable{X:Cx}{pos:Pos}
theorem x8:PE X (.Dict [] [] pos) Kb:=fun pins s σ H Q I h=>
 wpAny_Dict_empty ⟨.ref s.heap.objs.size,_,I.laid (a:=s.heap.objs.size) (o:=.dT []) (t':=s.toks) (fun _ _ q=>Z5 _ q) (ZR _)<|x6 s.heap I.big,rfl,h _<|I.i_.fresh<|ZR _⟩
end
section
variable{X:Cx}{pins:List (Addr×Obj)}{σ:St}{H:Hp}{s:Shared}{a:Addr}{y d:V}{u r:Value}{o:Option V}{A:Around}{E:Value->Shared->Prop}
end
section
variable{X:Cx}{o e f:Expr}{apos EO:Pos}{td ty tx:TE}
end
section
variable{X:Cx}{pins:List (Addr×Obj)}{σ:St}{H:Hp}{s:Shared}{a:Addr}{kvs:List (Key×V)}{A:Around}{E:Value->Shared->Prop}
end
section
variable{X:Cx}{pins:List (Addr×Obj)}{σ:St}{H:Hp}{s:Shared}{a:Addr}{y:V}{u:Value}{A:Around}{E:Value->Shared->Prop}
end
end L2
namespace Pw
open PySem PySem.W PySem.Calls PyProof.Rows
variable{n:Nat}{l:OpenLaw}
theorem x9{P:Params}{h:Heap}:∀ (ns:List Int) (vs:List Value),WellAll P h vs (ns.map WData.int)->IntsAre vs ns:=by
 intro ns;induction ns with
 | nil=>
  intro vs w;rw[Vt] at w;cases w;exact .nil
 | cons n ns ih=>
  intro vs w;rw[ZH] at w;cases w with
  | cons a b=>
   cases a;exact .cons _ _ (ih _ b)
theorem ya(hn:l.most=some n){P:Params}{h:Heap}{args:List WData}{vals:List Value}(Jg:l.row.toRowW.claim.pre args=true)(NO:WellAll P h vals args):
  ∃ a vs ns,vals=[Value.ref a]/\args=[WData.list (ns.map WData.int)]/\h.get? a=some { cls:=.type "list",data:=.seq vs.toArray }/\IntsAre vs ns/\ns.length<=n:=by
 have QE:WShape.hasAll [] args [.list .int]=true:=(pre_splitW Jg).1;have hc:l.pre.holds [] { args:=args }=true:=(pre_splitW Jg).2;obtain⟨d,r,rfl,h1,h2⟩:=hasAllW_cons QE;obtain rfl:=hasAllW_nil h2;obtain⟨xs,rfl,h3⟩:=hasW_list h1;obtain⟨ns,rfl⟩:=items_int h3;have hlen:ns.length<=n:=by
  unfold OpenLaw.pre at hc;have h4:(WTm.not<|.lt (.lit<|.int (n:Int))<|.len<|.arg 0).holds [] { args:=[.list (ns.map .int)] }=true:=by
   have h4:=(holds_andW hc).1;rw[hn] at h4;exact h4
  have h5:=condW_of h4 (w_not<|w_lt w_lit<|w_len_list<|w_arg rfl);rw[Z3] at h5;refine Nat.le_of_not_lt fun q=>?_;have q':(n:Int)<((ns.length:Nat):Int):=by lia
  first
   | (rw[Zu q'] at h5;exact absurd h5 (by decide))
   | (simp at h5;lia)
 cases NO with
 | cons w1 w2=>
  cases w2;cases w1 with
  | list ho FF=>exact⟨_,_,ns,rfl,rfl,ho,x9 ns _ FF,hlen⟩
theorem yb(l:OpenLaw)(args:List WData):l.row.toRowW.claim.post args (.bool true) args=true:=
 postW_of (r:=l.row.toRowW) (X:=(true == true))
  (show WShape.has [] (.bool true) .bool=true by first | rfl | decide | simp[WShape.has,WShape.arms,WShape.armsAll])
  (show (WTm.eq .res<|.lit<|.bool true).value [] { args:=args,res:=some (.bool true),after:=args }=some (.bool<|true == true) from w_eq_bool (w_res rfl) w_lit) rfl
theorem GY{q:Program}{loose:List Str}{XP:(Str->Option Value)->Heap->Prop}{YP:World->Heap->Prop}{d:DefRec}(hn:l.most=some n)(Lz:d.params.defaults=[])(call:∀ (w:World) (s₀ s₁:Shared) (mg mb:Str->Option Value) (fa:Addr) (o:Obj) (pm cd doc:Value) (a:Addr) (vs:List Value) (ns:List Int),
   Ground q loose [] XP w s₀ mg mb s₁.heap->YP w s₁.heap->
   s₁.heap.get? fa=some o->o.data=.func (docDef d.name d.params d.body d.scope pm cd doc)->s₁.heap.CodeRec cd d.name->mg d.name=some (.ref fa)->
   s₁.heap.get? a=some { cls:=.type "list",data:=.seq vs.toArray }->IntsAre vs ns->ns.length<=n->s₁.gens=#[]->
   codeAny (model l.prog w) callerA (.call (.ref fa) ⟨[.ref a],[]⟩) (fun r s'=>r=.ok (.ret<|.bool true)/\OldK s₁.heap s'.heap/\s'.os=s₁.os/\AllBare s'.gens) s₁):
  WalkO q loose XP YP l.row.toRowW d [] (fun f vs=>PySem.call f vs):=by
 intro w s₀ s₁ mg mb G Y fa o pm cd doc dV kV ho hd Hg hD hmg hg args vals as Jg QF SJ NO QG;obtain rfl:dV=.none:=Dflts.none hD Lz;obtain rfl:kV=.none:=Dflts.noKw hD;obtain⟨a,vs,ns,rfl,rfl,Kc,hints,hlen⟩:=ya hn Jg NO;refine enter_call (WU (call w s₀ s₁ mg mb fa o pm cd doc a vs ns G Y ho (fd_plain hd) Hg hmg Kc hints hlen hg) fun r s' hq=>?_);obtain⟨rfl,h2,h3,h4⟩:=hq;exact⟨.inl ⟨.bool true,.bool true,[],rfl,fun _=>rfl,.bool true,yb l _,fun _=>⟨List.Pairwise.nil,fun _ hm=>(nomatch hm)⟩⟩,h2,h3,h4⟩
section
variable{prog:Program}{w:World}{A:Around}{E:Value->Shared->Prop}{s:Shared}{K:Frag}
end
end Pw
namespace L2
open PySem PySem.Spec PyProof.Rows
variable{ps:List Str}{f:Addr}{qual x:Str}{sp:Sp}{fd:FuncData}{k:Nat}
theorem qm:∀ {vs:List Value}{ns:List Int},IntsAre vs ns->au (ns.map V.int) vs
 | _,_,.nil=>.nil
 | _,_,.cons n t h=>.cons ⟨t,rfl⟩ (qm h)
def jN(H:Hp):Prop:=∀ b,H b=none\/∃ o xs,H b=some (.Fa o<|.lst xs)
theorem yc{P:Program}{w:World}{K:PySem.W.Frag}{mg mb:Str->Option Value}{CX:Ib}{fa a:Addr}{s₁:Shared}{vs:List Value}{ns:List Int}(KX:K.In s₁.heap)(NP:s₁.heap.Ns mainGlobals mg)(hb:s₁.heap.Ns builtinsNs mb)(QH:∀ x:Str,x ≠ "__name__" -> mb x=bootBuiltins x)(NQ:s₁.heap.NoLimit)(hg:s₁.gens=#[])(ha:s₁.heap.get? a=some { cls:=.type "list",data:=.seq vs.toArray })(hi:IntsAre vs ns)(hl:ns.length<=sizeLine)(hr:Ez k callerA)(F:∀ base:Heap,K.In base->base.Ns mainGlobals mg->E2 P w K mg base CX k fa fd [x] sp)(LC:∀ (s:Shared) (u:Value),BindsTo s fd ⟨[u],[]⟩ [(x,u)])(Jx:∀ H:Hp,jN H->EL K H a (ns.map V.int)->sp [.ref a] H (fun v _=>v=.bl true) fun _ _ _=>False)(NR:∀ H e s',CX [] H s₁ (fun _ _ _=>False) e s'->False):
  codeAny (model P w) callerA (.call (.ref fa) ⟨[.ref a],[]⟩) (fun r s'=>r=.ok (.ret<|.bool true)/\OldK s₁.heap s'.heap/\s'.os=s₁.os/\AllBare s'.gens) s₁:=by
 have rv:=qm hi;have NS:=hi.length;have core:∀ H:Hp,jN H->EL K H a (ns.map V.int)->ES P w H s₁.heap->(∀ b,H b≠none->b=a)->(H a≠none->K.lookup a=none)->
   codeAny (model P w) callerA (.call (.ref fa) ⟨[.ref a],[]⟩) (fun r s'=>r=.ok (.ret<|.bool true)/\OldK s₁.heap s'.heap/\s'.os=s₁.os/\AllBare s'.gens) s₁:=by
  intro H hO hS i_ hA hK;have Hv:∀ {b:Addr}{o:Obj},s₁.heap.get? b=some o->H b=none->(d0 s₁.heap H).get? b=some o:=fun e n=>vz e n;have Ls:∀ {b:Addr}{o:Obj}{es:Array DictEntry}{ep:Nat},s₁.heap.get? b=some o->o.data=.dict es ep->H b=none:=fun {b o es ep} e d=>by
   cases q:H b with
   | none=>rfl
   | some u=>
    have e':b=a:=hA b (by rw[q];simp);subst e';rw[ha] at e;cases e;have d':Data.seq vs.toArray _=Data.dict es ep:=d;cases d'
  have M0:∀ {b:Addr}{m:Str->Option Value},s₁.heap.Ns b m->(d0 s₁.heap H).Ns b m:=fun {b m} ⟨o,es,ep,e,d,r⟩=>⟨o,es,ep,Hv e<|Ls e d,d,r⟩;have Px:K.In (d0 s₁.heap H):=fun b o e=>Hv (KX b o e) (by
   cases q:H b with
   | none=>rfl
   | some u=>
    have e':b=a:=hA b (by rw[q];simp);subst e';rw[hK (by rw[q];simp)] at e;cases e)
  have hM:Mod K mg (d0 s₁.heap H):=⟨Px,M0 NP,⟨mb,M0 hb,QH⟩,let ⟨mc,h1,h2⟩:=NQ;⟨mc,M0 h1,h2⟩⟩;have e0:Ja P w K mg (d0 s₁.heap H) callerA [] s₁ H:=⟨rfl,hM,fun b o e=>vA e,Nat.le_of_eq<|vy _ _,trivial,fun b hb=>absurd (show b∈([]:List Addr) from hb) (by simp),i_,.of_eq hg⟩;refine WU ((F _ Px<|M0 NP).run callerA [] s₁ H ⟨[.ref a],[]⟩ [.ref a] [.ref a] _ _ hr e0 (LC s₁<|.ref a) (.cons rfl .nil)<|Jx H hO hS) fun r s' h=>?_;cases r with
  | error e=>exact (NR H e s' h).elim
  | ok fl=>
   cases fl with
   | next=>exact False.elim h
   | brk=>exact False.elim h
   | cont=>exact False.elim h
   | ret u=>
    obtain⟨v,H',os,bare,un,Ii,r',q⟩:=h;have q':v=.bl true:=q;subst q';obtain rfl:u=Value.bool true:=r';refine⟨rfl,OldK.of_keep fun b o e=>?_,os,bare⟩;cases q:H b with
    | none=>exact un.keep b o e q (by intro z;exact absurd (show b∈([]:List Addr) from z) (by simp)) (by simp)
    | some u=>
     rcases hO b with z | ⟨ob,xs,z⟩
     ·rw[q] at z;cases z
     ·have z2:=un.Fb b ob _ z;obtain⟨e1,_⟩:=i_ b _ z;obtain⟨e2,_⟩:=Ii b _ z2;rw[e] at e1;cases e1;exact e2
 cases hk:K.lookup a with
 | some o=>
  have e:=KX a o hk;rw[ha] at e;cases e;refine core (fun _=>none) (fun _=>.inl rfl) (.inr ⟨_,vs.toArray,_,hk,rfl,rfl,rfl,by rw[ZS,NS];exact hl,by simpa using rv⟩) (fun b u z=>by have z':(none:Option HO)=some u:=z;cases z') (fun b z=>absurd rfl z) fun z=>absurd rfl z
 | none=>
  refine core (fun b=>if b=a then some (.Fa { cls:=.type "list",data:=.seq vs.toArray } (.lst<|ns.map V.int)) else none) (fun b=>?_) (.inl<|.inr ⟨{ cls:=.type "list",data:=.seq vs.toArray },ZZ rfl⟩) (fun b u z=>?_) (fun b z=>?_) fun _=>hk
  ·by_cases hb:b=a
   ·exact .inr ⟨_,_,ZZ hb⟩
   ·exact .inl (ZY hb)
  ·by_cases hb:b=a
   ·have z':=(ZZ hb).symm.trans z;cases z';subst hb;exact⟨ha,by rw[Z3];exact hl,vs,_,rv,ha⟩
   ·have z':=(ZY hb).symm.trans z;cases z'
  ·by_cases hb:b=a
   ·exact hb
   ·exact absurd (ZY hb) z
theorem yd{l:PySem.W.OpenLaw}{n:Nat}{q:Program}{loose:List Str}{XP:(Str->Option Value)->Heap->Prop}{YP:World->Heap->Prop}{d:DefRec}{K:Params->PySem.W.Frag}{CX:World->Ib}{sp:World->Sp}(hn:l.most=some n)(NT:n<=sizeLine)(Lz:d.params.defaults=[])(hr:Ez k callerA)(hY:∀ (w:World) (h:Heap),YP w h->(K w.params).In h)(F:∀ (w:World) (mg:Str->Option Value) (fa:Addr) (h:Heap),(K w.params).In h->h.Ns mainGlobals mg->mg d.name=some (.ref fa)->
   ∃ fd:FuncData,(∀ (s:Shared) (u:Value),BindsTo s fd ⟨[u],[]⟩ [(x,u)])/\
    ∀ base:Heap,(K w.params).In base->base.Ns mainGlobals mg->E2 l.prog w (K w.params) mg base (CX w) k fa fd [x] (sp w))(Jx:∀ (w:World) (H:Hp) (a:Addr) (ns:List Int),ns.length<=n->jN H->EL (K w.params) H a (ns.map V.int)->sp w [.ref a] H (fun v _=>v=.bl true) fun _ _ _=>False)(NR:∀ (w:World) (H:Hp) (s:Shared) (e:Value) (s':Shared),CX w [] H s (fun _ _ _=>False) e s'->False):
  PySem.W.WalkO q loose XP YP l.row.toRowW d [] (fun f vs=>PySem.call f vs):=by
 refine Pw.GY hn Lz fun w s₀ s₁ mg mb fa o pm cd doc a vs ns G Y ho hd Hg hmg Kc hints hlen hg=>?_;have KX:=hY w _ Y;obtain⟨fd,hb,hF⟩:=F w mg fa _ KX G.T.g hmg;exact yc KX G.T.g G.T.b G.T.builtins G.T.nolimit hg Kc hints (Zg hlen NT) hr hF hb (fun H hO hS=>Jx w H a ns hlen hO hS) fun H e s'=>NR w H s₁ e s'
def dH(s:Stmt):Arguments:=match s with
 | .FunctionDef _ a _ _ _ _ _ _ _ _=>a
 | _=>{ posonlyargs:=[],args:=[],vararg:=none,kwonlyargs:=[],kw_defaults:=[],kwarg:=none,defaults:=[] }
def cg(s:Stmt):List Stmt:=match s with
 | .FunctionDef _ _ b _ _ _ _ _ _ _=>b
 | _=>[]
def ay(s:Stmt):Scope:=match s with
 | .FunctionDef _ _ _ _ _ _ sc _ _ _=>sc
 | _=>{ kind:=.function,names:=[],isGenerator:=false,isCoroutine:=false }
abbrev Hw:Ib:=fun _ _ _ _ _ _=>False
abbrev E0:XK:=fun _ _ _=>False
theorem ye{X:Cx}:lY Hw X E0:=fun _ _ _ _ _ _ _ h=>h.elim
structure GZ(K:PySem.W.Frag)(x qual:Str)(st:Stmt)(f:Addr)(fd:FuncData):Prop where
 ex:∃ (oc:Value) (od:Option Addr) (kV doc pm:Value) (an:Option Addr) (s_ ct:Value) (HE:Array (Option Value)),
  fd=PySem.W.fnOf x qual (dH st) (cg st) (ay st) .none kV doc pm an s_ ct/\K.lookup f=some ⟨oc,od,.func fd,HE⟩/\PySem.W.codeIn K s_ qual=true
 kp:PySem.W.keepIn K (.ref f)=true
section
variable{P:Program}{w:World}{K:PySem.W.Frag}{mg:Str->Option Value}{base:Heap}
theorem GZ.ok{st:Stmt}{N:List Str}(F:GZ K x qual st f fd)(S:j_ N ps (ay st))(len:∀ vs H Q E,sp vs H Q E->vs.length=ps.length)(Ic:∀ (s_:Value) (A:Around) (outer:List Env) (s:Shared) (H:Hp) (vs:List V) (Q:VK) (E:XK),Ez k (A.deeper<|envOfC qual (ay st) s.heap.objs.size f s_)->sp vs H Q E->
   ∃ t,GC (cP Hw P w K mg base N qual (ay st) f s_ A outer s H E).KK (cg st) t/\t { nx:=fun _ H'=>Q .h_ H',rt:=Q } (da N vs) H):E2 P w K mg base Hw (k+1) f fd ps sp:=by
 obtain⟨oc,od,kV,doc,pm,an,s_,ct,HE,rfl,lk,Hg⟩:=F.ex;refine pY lk Hg S len fun A outer s H vs Q E hr Jx=>?_;obtain⟨t,h,q⟩:=Ic s_ A outer s H vs Q E hr Jx;exact⟨t,h.KK,q⟩
theorem GZ.binds{st:Stmt}(F:GZ K x qual st f fd)(h:∀ (kV doc pm:Value) (an:Option Addr) (s_ ct:Value) (us:List Value),us.length=ps.length->bindArgs (PySem.W.fnOf x qual (dH st) (cg st) (ay st) .none kV doc pm an s_ ct) ⟨us,[]⟩=pure (ps.zip us)):cN K fd ps []:=by
 obtain⟨oc,od,kV,doc,pm,an,s_,ct,HE,rfl,lk,Hg⟩:=F.ex;exact .all (h kV doc pm an s_ ct)
theorem yf{st:Stmt}{oc:Value}{od an:Option Addr}{HE:Array (Option Value)}{kV doc pm s_ ct:Value}(l:K.lookup f=some ⟨oc,od,.func<|PySem.W.fnOf x qual (dH st) (cg st) (ay st) .none kV doc pm an s_ ct,HE⟩)(c:PySem.W.codeIn K s_ qual=true)(k:PySem.W.keepIn K (.ref f)=true):GZ K x qual st f (PySem.W.fnOf x qual (dH st) (cg st) (ay st) .none kV doc pm an s_ ct):=⟨⟨oc,od,kV,doc,pm,an,s_,ct,HE,rfl,l,c⟩,k⟩
end
section
variable{X:Cx}
theorem pv(i:Nat){x:Str}{pos:Pos}(hN:X.N[i]?=some x:=by rfl)(hv:MQ X.env.scope x:=by first | exact Or.inl rfl | exact Or.inr (Or.inl rfl) | exact Or.inr (Or.inr rfl))(hd:(x == ("__debug__" : Str))=false:=by decide)(Hg:(x == ("__classdict__" : Str))=false:=by decide):PE X (.Name x pos) (gw i):=pB hN hv hd Hg
end
def aA(H H':Hp):Prop:=∀ b o,H b=some o->H' b=some o
theorem aA.refl(H:Hp):aA H H:=fun _ _ h=>h
end L2
namespace L2
section
variable{X:Cx}
theorem yg:aQ X (.builtin "len") (fun xs H Q=>∃ a kvs,xs=[V.ref a]/\H a=some (.dK kvs)/\Q (.int kvs.length) H):=by
 intro pins s σ H xs us Q I r h;obtain⟨a,kvs,rfl,ha,q⟩:=h;obtain⟨u,rfl,ru⟩:=bM r;cases ru;exact xZ I (.inl ha) fun t s' I'=>⟨.int kvs.length,H,I',⟨t,rfl⟩,q⟩
end
section
variable{κ:Type}[DecidableEq κ]
end
end L2
namespace L2
open PySem PySem.Spec PyProof.Rows
variable{Q:Option Value->Shared->Prop}{i ep:Nat}{it d C:Addr}{h:Heap}{ks:List Value}{wi:TI}{tg iter elt:Expr}{fp:List Addr}{H:Hp}{σ:St}{pins:List (Addr×Obj)}{caps:List Nat}{own:List Str}{env:Env}{pos:Pos}{scope:Scope}{ifs:List Expr}{s:Shared}
theorem yh{prog:Program}{w:World}{A:Around}{R:Result->Shared->Prop}{target:Expr}{it acc:Value}(I:Nat->Shared->Prop)(turn:∀ n s,I n s->wpAny (model prog w) A (pyNext it) (fun r s₁=>match r with
   | none=>R (.ok .next) s₁
   | some v=>wpAny (model prog w) A (letOwnedTupleGo target it v) (fun _ s₁=>wpAny (model prog w) A (assign target env v) (fun _ s₂=>
     wpAny (model prog w) A (forIn ifs true fun c r=>if r=true then do let ok <- isTrue c env (eval c env);pure (ForInStep.yield ok) else pure (ForInStep.yield r)) (fun ok s₃=>
      if ok=true then wpAny (model prog w) A (eval elt env) (fun x s₄=>
       wpAny (model prog w) A (call (.builtin "list.append") [acc,x]) (fun _ s₅=>∃ m,m<n/\I m s₅) (fun _ _=>False) s₄) (fun _ _=>False) s₃
      else ∃ m,m<n/\I m s₃) (fun _ _=>False) s₂) (fun _ _=>False) s₁) (fun _ _=>False) s₁) (fun _ _=>False) s)(n:Nat)(h:I n s):
  codeAny (model prog w) A (.compLoop (.ListComp elt [⟨target,iter,ifs,0⟩] scope pos) 0 it acc env) R s:=by
 refine codeAny_loop rfl I (fun n s hI=>?_) n h;show wpAny _ A ((compTurn (.ListComp elt [⟨target,iter,ifs,0⟩] scope pos) 0 it acc env).onRaise (fun x=>do noteFrame x env;theTreesLotGoes x)) _ _ s;refine wpAny_noted ?_;rw[compTurn_list];refine Z9 (wpAny_standAt<|Z9<|YV (turn n s hI) (fun r s₁ h₁=>?_) fun _ _ h'=>h'.elim);cases r with
 | none=>exact Z4 h₁
 | some v=>
  refine Z9 (YV h₁ (fun _ s₁ h₁=>?_) fun _ _ h'=>h'.elim);refine Z9 (YV h₁ (fun _ s₂ h₂=>Z9<|YV h₂ (fun ok s₃ h₃=>?_) fun _ _ h'=>h'.elim) fun _ _ h'=>h'.elim);cases ok with
  | false=>exact Z4 ⟨rfl,h₃⟩
  | true=>
   exact Z9 (Z9<|YV h₃ (fun x s₄ h₄=>Z9<|YV h₄ (fun _ s₅ h₅=>Z4<|Z4 ⟨rfl,h₅⟩) fun _ _ h'=>h'.elim) fun _ _ h'=>h'.elim)
def fL(env:Env)(names:List (Str×NameKind)):List (Str×Addr):=names.foldl (fun cs y=>if y.2 == .free then (y.1,(env.cells.lookup y.1).getD 0)::cs else cs) []
theorem l9{env:Env}:∀ (names:List (Str×NameKind)) (cs:List (Str×Addr)),(∀ y∈names,y.2=.free->∃ c,env.cells.lookup y.1=some c)->
  (forIn names cs fun (y:Str×NameKind) cs=>if y.2 == .free then (do let c <- cellOf env y.1;pure (ForInStep.yield ((y.1,c)::cs))) else pure (ForInStep.yield cs):Sem _)=
   pure (names.foldl (fun cs y=>if y.2 == .free then (y.1,(env.cells.lookup y.1).getD 0)::cs else cs) cs)
 | [],cs,_=>rfl
 | y::r,cs,h=>by
  rw[VJ,Yk];by_cases hy:y.2=.free
  ·obtain⟨c,hc⟩:=h y YQ hy;have e:(y.2 == NameKind.free)=true:=by simp[hy]
   rw[ZZ e,ZZ e];have ec:cellOf env y.1=pure c:=by unfold cellOf;rw[hc]
   rw[ec,hc];show (forIn r ((y.1,c)::cs) _:Sem _)=_;exact l9 r _ fun z hz=>h z (Y4 _ hz)
  ·have e:¬ (y.2 == NameKind.free)=true:=by simp[hy]
   rw[ZY e,ZY e];show (forIn r cs _:Sem _)=_;exact l9 r _ fun z hz=>h z (Y4 _ hz)
theorem yi(h:∀ y∈scope.names,y.2=.free->∃ c,env.cells.lookup y.1=some c):closureFor scope env=pure (fL env scope.names):=by
 have:=l9 (env:=env) scope.names [] h;unfold closureFor;dsimp only;have e:(forIn scope.names ([]:List (Str×Addr))<|fun (x:Str×NameKind) (r:List (Str×Addr))=>(if x.2 == .free then (do let c <- cellOf env x.1;pure (ForInStep.yield ((x.1,c)::r))) else pure (ForInStep.yield r):Sem (ForInStep<|List<|Str×Addr)))=pure (fL env scope.names):=this;rw[e];rfl
theorem qo{env:Env}:∀ (names:List (Str×NameKind)) (cs:List (Str×Addr)) (x:Str) (c:Addr),
  (names.foldl (fun cs y=>if y.2 == .free then (y.1,(env.cells.lookup y.1).getD 0)::cs else cs) cs).lookup x=some c->
  (c=(env.cells.lookup x).getD 0/\(x,NameKind.free)∈names)\/cs.lookup x=some c
 | [],cs,x,c,h=>.inr h
 | y::r,cs,x,c,h=>by
  rw[Yk] at h;rcases qo r _ x c h with ⟨e,m⟩ | h
  ·exact .inl ⟨e,Y4 _ m⟩
  ·by_cases hy:y.2=.free
   ·rw[ZZ (by simp[hy])] at h;rw[Y5] at h;by_cases hx:x=y.1
    ·subst hx;rw[YH] at h;refine .inl ⟨(Zr h).symm,?_⟩;rw[<- hy];exact YQ
    ·have:(x == y.1)=false:=by simpa using hx
     rw[this] at h;exact .inr h
   ·rw[ZY (by simp[hy])] at h;exact .inr h
theorem ma{env:Env}:∀ (names:List (Str×NameKind)) (cs:List (Str×Addr)) (x:Str),(x,NameKind.free)∈names\/(∃ c,cs.lookup x=some c)->
  ∃ c,(names.foldl (fun cs y=>if y.2 == .free then (y.1,(env.cells.lookup y.1).getD 0)::cs else cs) cs).lookup x=some c
 | [],cs,x,h=>by
  rcases h with h | h
  ·cases h
  ·exact h
 | y::r,cs,x,h=>by
  rw[Yk];apply ma r _ x;rcases h with h | ⟨c,h⟩
  ·rcases ZU.mp h with e | h
   ·right;subst e;rw[ZZ (by rfl),Y5,YH];exact⟨_,rfl⟩
   ·exact .inl h
  ·right;by_cases hy:(y.2 == NameKind.free)=true
   ·rw[ZZ hy,Y5];cases x == y.1
    ·exact⟨c,h⟩
    ·exact⟨_,rfl⟩
   ·rw[ZY hy];exact⟨c,h⟩
structure Ij where
 C:Addr
 s:Shared
 H:Hp
 fp:List Addr
variable{te:Ij->TE}{tt:Ij->TT}{g:Ij->TG}
def Cx.Ga(X : Cx)(N' : List Str)(scope : Scope)(Y : Ij): Cx :=
  { prog := X.prog, w := X.w, K := X.K, mg := X.mg, base := X.base, A := X.A, N := N', s₀ := Y.s, H₀ := Y.H, env := compEnvC scope (fL X.env scope.names) Y.C X.env, outer := X.stack, stack := X.stack,
    ex := Y.fp, fn := fun _ => false, calm := X.calm, pn := [], xe := fun _ _ => False }
theorem md{env:Env}:∀ {names:List (Str×NameKind)}{x:Str}{k:NameKind},
  (names.map fun (n,k)=>if (k == NameKind.free && env.scope.kind == .function && env.kindOf n == some .cell) then (n,NameKind.cell) else (n,k)).lookup x=some k->
  (k=.cell\/k=.free)->(∀ y∈names,y.2≠.cell)->(x,NameKind.free)∈names
 | [],x,k,h,_,_=>by simp at h
 | (n,k')::r,x,k,h,hk,hc=>by
  rw[ZH] at h;dsimp only at h;by_cases hx:x=n
  ·subst hx;by_cases hf:(k' == NameKind.free && env.scope.kind == .function && env.kindOf x == some .cell)=true
   ·have:k'=NameKind.free:=by
     simp only[ZQ] at hf;exact by simpa using hf.1.1
    subst this;exact YQ
   ·simp only[hf] at h;have e:k'=k:=by simpa [Y5] using h
    subst e;rcases hk with hk | hk
    ·exact absurd hk (hc (x,k') YQ)
    ·rw[hk];exact YQ
  ·have hb:(x == n)=false:=by simpa using hx
   have h':(r.map fun (n,k)=>if (k == NameKind.free && env.scope.kind == .function && env.kindOf n == some .cell) then (n,NameKind.cell) else (n,k)).lookup x=some k:=by
    by_cases hf:(k' == NameKind.free && env.scope.kind == .function && env.kindOf n == some .cell)=true
    ·rw[ZZ hf,Y5,hb] at h;exact h
    ·rw[ZY hf,Y5,hb] at h;exact h
   exact Y4 _ (md h' hk fun y hy=>hc y<|Y4 _ hy)
section
variable{X:Cx}
structure n_(X:Cx)(scope:Scope)(own:List Str)(caps:List Nat):Prop where
 kind:scope.kind=.function
 cell:∀ y∈scope.names,y.2≠.cell
 free:∀ y∈scope.names,y.2=.free->X.env.scope.names.lookup y.1=some .cell
 loc:∀ y∈scope.names,y.2=.local->scope.names.lookup y.1=some .local
 NU:∀ i∈caps,∃ x,X.N[i]?=some x/\(x,NameKind.free)∈scope.names/\scope.names.lookup x=some .free
def bn(X:Cx)(own:List Str)(caps:List Nat):List Str:=own++caps.map fun i=>X.N.getD i ""
def b6(own:List Str)(caps:List Nat)(σ:St):St:=own.map (fun _=>none)++caps.map fun i=>σ.getD i none
theorem n_.cells(S:n_ X scope own caps)(ok:X.Ok):∀ y∈scope.names,y.2=.free->∃ c,X.env.cells.lookup y.1=some c:=
 fun y hy hf=>ok.has y.1 (.inl<|S.free y hy hf)
theorem n_.sub(S:n_ X scope own caps)(ok:X.Ok){x:Str}{c:Addr}(h:(fL X.env scope.names).lookup x=some c):X.env.cells.lookup x=some c/\(x,NameKind.free)∈scope.names:=by
 rcases qo scope.names [] x c h with ⟨e,m⟩ | h
 ·obtain⟨c',e'⟩:=S.cells ok (x,.free) m rfl;rw[show (List.lookup x X.env.cells)=some c' from e'] at e;refine⟨?_,m⟩;rw[e];exact e'
 ·simp at h
theorem qp(S:n_ X scope own caps)(I:Inv X pins σ H s)(hC:s.heap.objs.size<=C)(hf:∀ b∈fp,dq X pins H b)(Fq:∀ b∈fp,b<s.heap.objs.size):(X.Ga (bn X own caps) scope ⟨C,s,H,fp⟩).Ok where
 mod:=I.ok.mod
 kind:=S.kind
 glob:=I.ok.glob
 blt:=I.ok.blt
 above:=hC
 inj:=fun x y c h1 h2=>I.ok.inj x y c (S.sub I.ok h1).1 (S.sub I.ok h2).1
 has:=fun x hx=>by
  have m:(x,NameKind.free)∈scope.names:=by
   rcases hx with hx | hx
   ·exact md hx (.inl rfl) S.cell
   ·exact md hx (.inr rfl) S.cell
  exact ma scope.names [] x (.inl m)
 IN:=fun x c h _=>nomatch h
 hd:=I.ok.hd
 frames:=I.ok.frames
 IX:=.inl rfl
 JY:=fun b hb=>⟨ZB<|Zv (Fq b hb) hC,fun x c h=>(hf b hb).2.2.2.2.1 x c (S.sub I.ok h).1⟩
 bs:=I.bs
 HD:=Zg I.ok.HD I.sz
 Gf:=fun b o e hb=>by
  rcases (hf b hb).2.2.2.1 with z | z
  ·exact I.ok.Gf b o e z
  ·exact absurd (Zv (ZP e)<|Zg I.ok.HD z) (Yh _)
 Gh:=fun b hb z=>by
  rcases ZU.mp (I.Hf b z) with e | e
  ·exact (hf b hb).2.1 e
  ·exact (hf b hb).2.2.1 e
 ET:=I.stack
 H9:=I.Fu
theorem yj{h1:Heap}{tk:Nat}{m:Str->Option Value}(S:n_ X scope own caps)(I:Inv X pins σ H s)(hC:s.heap.objs.size<=C)(hf:∀ b∈fp,dq X pins H b)(Fq:∀ b∈fp,b<s.heap.objs.size)(old:∀ b o,s.heap.get? b=some o->h1.get? b=some o)(hn:h1.Ns C m):
  Inv (X.Ga (bn X own caps) scope ⟨C,s,H,fp⟩) [] (b6 own caps σ) H { s with heap:=h1,toks:=tk } where
 ok:=qp S I hC hf Fq
 os:=rfl
 bare:=I.bare
 base:=Un.kept old
 loc:=by
  obtain⟨m0,SK,QI⟩:=I.loc;refine⟨m,hn,fun j x v e1 e2 hv=>?_⟩;have e1:(own++caps.map fun i=>X.N.getD i "")[j]?=some x:=e1;have e2:(own.map (fun _=>(none:Option V))++caps.map fun i=>σ.getD i none)[j]?=some (some v):=e2;by_cases hj:j<own.length
  ·rw[Zb (by rw[Z3];exact hj),Zy] at e2;cases q:own[j]? with
   | none=>rw[q] at e2;cases e2
   | some z=>rw[q] at e2;cases e2
  ·rw[Zf (by lia),Zy] at e1;rw[Zf (by rw[Z3];lia),Zy,Z3] at e2;cases q:caps[j - own.length]? with
   | none=>rw[q] at e1;cases e1
   | some i=>
    rw[q] at e1 e2;have e1:X.N.getD i "" = x:=Zr e1;have e2:σ.getD i none=some v:=Zr e2;obtain⟨x',Hr,hm,QJ⟩:=S.NU i (Zt q);have ex:x'=x:=by
     rw[<- e1,Z6,Hr];rfl
    subst ex;have hs:σ[i]?=some (some v):=by
     rw[Z6] at e2;cases q2:σ[i]? with
     | none=>rw[q2] at e2;cases e2
     | some z=>rw[q2] at e2;rw[show z=some v from e2]
    have LD:=S.free (x',.free) hm rfl;obtain⟨u,r,lk⟩:=QI i x' v Hr hs (.inr<|.inl LD);refine⟨u,r,.inr ⟨?_,?_⟩⟩
    ·rcases hv with hv | hv | hv
     ·
      exfalso;have:∀ {names:List (Str×NameKind)},names.lookup x'=some .free->(names.map fun (n,k)=>if (k == NameKind.free && X.env.scope.kind == .function && X.env.kindOf n == some .cell) then (n,NameKind.cell) else (n,k)).lookup x'≠some .local:=by
       intro names;induction names with
       | nil=>intro h;simp at h
       | cons y r ih=>
        obtain⟨n,k⟩:=y;intro h;rw[ZH];dsimp only;by_cases hx:x'=n
        ·subst hx;have ek:k=.free:=by simpa [Y5] using h
         subst ek;by_cases hq:(NameKind.free == NameKind.free && X.env.scope.kind == ScopeKind.function && X.env.kindOf x' == some NameKind.cell)=true
         ·rw[ZZ hq];simp[Y5]
         ·rw[ZY hq];simp[Y5]
        ·have hb:(x' == n)=false:=by simpa using hx
         rw[Y5,hb] at h;by_cases hq:(k == NameKind.free && X.env.scope.kind == ScopeKind.function && X.env.kindOf n == some NameKind.cell)=true
         ·rw[ZZ hq,Y5,hb];exact ih h
         ·rw[ZY hq,Y5,hb];exact ih h
      exact this QJ hv
     ·exact .inl hv
     ·exact .inr hv
    ·rcases lk with ⟨hk,_⟩ | ⟨_,c,hc,Ht⟩
     ·exact absurd (hk.symm.trans LD) (by simp)
     ·obtain⟨c',IP⟩:=ma (env:=X.env) scope.names [] x' (.inl hm);have:=(S.sub I.ok IP).1;rw[hc] at this;cases this;obtain⟨o,ho,hd⟩:=Ht;exact⟨c,IP,o,old _ _ ho,hd⟩
 cell:=fun x c h=>by
  obtain⟨v,o,ho,hd⟩:=I.cell x c (S.sub I.ok h).1;exact⟨v,o,old _ _ ho,hd⟩
 free:=I.i_.fresh hC
 B_:=fun x c h=>I.B_ x c (S.sub I.ok h).1
 pin:=fun p hp=>nomatch hp
 i_:=I.i_.kept old
 len:=by simp[b6,bn,Cx.Ga]
end
section
variable{X:Cx}
def qq(X:Cx)(ifs:List Expr)(t:TT)(pins:List (Addr×Obj)):Prop:=
 ∀ (s:Shared) (σ:St) (H:Hp) (Q:Bool->Hp->Prop),Inv X pins σ H s->t σ H Q->
  wpAny (model X.prog X.w) X.A (forIn ifs true fun c r=>if r=true then do let ok <- isTrue c X.env (eval c X.env);pure (ForInStep.yield ok) else pure (ForInStep.yield r)) (TP X pins σ Q) X.xe s
def LE(X:Cx)(ifs:List Expr)(t:TT):Prop:=∀ pins,qq X ifs t pins
def NV:TT:=fun _ H Q=>Q true H
theorem yk:LE X [] NV:=fun pins s σ H Q I h=>wpAny_tests_nil ⟨H,I,h⟩
theorem yl{c:Expr}{t:TT}(h:PT X c t):LE X [c] t:=fun pins s σ H Q I hw=>wpAny_tests_one (h pins s σ H Q I hw)
def ym(own:List Str)(caps:List Nat)(g:TG)(tt:TT)(te:TE)(σ:St)(N:List V->Hp->Prop)(ys:List V)(x:V)(H':Hp):Prop:=
 g x (b6 own caps σ) H' fun σ2 H2=>(∀ (j:Nat) (v:V),(b6 own caps σ)[j]?=some (some v)->σ2[j]?=some (some v))/\tt σ2 H2 fun b H3=>if b=true then te σ2 H3 fun v H4=>ys.length<sizeLine/\N (ys++[v]) H4 else N ys H3
def yn(J:It)(own:List Str)(caps:List Nat)(g:TG)(tt:TT)(te:TE)(σ:St)(H1:Hp)(Q:VK):Prop:=
 ∃ W:Nat->Nat->List V->Hp->Prop,(∃ m,W 0 m [] H1)/\∀ i m ys H,W i m ys H->(J.stop i H/\∀ D,H D=none->Q (.ref D) (upd H D<|.lst ys))\/
  (J.go i H/\∃ N:List V->Hp->Prop,(∀ Py H',N Py H'->∃ m',m'<m/\W (i+1) m' Py H')/\∀ x H',J.Lo i H x H'->ym own caps g tt te σ N ys x H')
def iL(own:List Str)(caps:List Nat)(wi:TI)(g:Ij->TG)(tt:Ij->TT)(te:Ij->TE):TE:=fun σ H Q=>wi σ H fun J H1=>∀ Y:Ij,yn J own caps (g Y) (tt Y) (te Y) σ H1 Q
def qr(sc:Scope)(N:List Str)(scope:Scope)(caps:List Nat):Bool:=
 scope.kind == .function && scope.names.all (fun y=>y.2 != .cell) && scope.names.all (fun y=>y.2 != .free || sc.names.lookup y.1 == some .cell) && scope.names.all (fun y=>y.2 != .local || scope.names.lookup y.1 == some .local) &&
  caps.all (fun i=>match N[i]? with | some x=>scope.names.lookup x == some .free | none=>false)
theorem mem_of_lookup:∀ {l:List (Str×NameKind)}{x:Str}{k:NameKind},l.lookup x=some k->(x,k)∈l
 | [],_,_,h=>by simp at h
 | (n,k')::r,x,k,h=>by
  rw[Y5] at h;by_cases hx:x=n
  ·subst hx;rw[YH] at h;cases h;exact YQ
  ·rw[show (x == n)=false by simpa using hx] at h;exact Y4 _ (mem_of_lookup h)
theorem db{X:Cx}(sc:Scope)(N:List Str)(h:qr sc N scope caps=true)(e:X.env.scope=sc:=by rfl)(eN:X.N=N:=by rfl):n_ X scope own caps:=by
 unfold qr at h;simp only[ZQ,YG,bne_iff_ne,ne_eq,VH,XC] at h;obtain⟨⟨⟨⟨h1,h2⟩,h3⟩,h4⟩,h5⟩:=h;refine⟨h1,h2,fun y hy hf=>?_,fun y hy hf=>?_,fun i hi=>?_⟩
 ·rw[e];exact (h3 y hy).resolve_left fun z=>z hf
 ·exact (h4 y hy).resolve_left fun z=>z hf
 ·have:=h5 i hi;rw[eN];cases q:N[i]? with
  | none=>rw[q] at this;cases this
  | some x=>
   rw[q] at this;have hl:scope.names.lookup x=some .free:=by simpa using this
   exact⟨x,rfl,mem_of_lookup hl,hl⟩
theorem qt{p2:Pos}{use:Option (Value->Sem Unit)}{Qp:Value->Shared->Prop}{Qv:VK}(hc:X.calm=true)(S:n_ X scope own caps)(hi:PI X tg iter wi)(hg:∀ Y,PG (X.Ga (bn X own caps) scope Y) tg<|g Y)(ht:∀ Y,LE (X.Ga (bn X own caps) scope Y) ifs<|tt Y)(he:∀ Y,PE (X.Ga (bn X own caps) scope Y) elt<|te Y)(hs:∀ x,foldedSetIterable iter X.env x=pure x)(I:Inv X pins σ H s)(h:iL own caps wi g tt te σ H Qv)(GD:∀ (D C:Addr) (H4:Hp) (s4:Shared) (m:Str->Option Value),Inv X pins σ H4 s4->s4.heap.Ns C m->H4 C=none->X.env.locals≠C->(∀ x c,X.env.cells.lookup x=some c->c≠C)->X.s₀.heap.objs.size<=C->(∀ p∈X.pn++pins,p.1≠C)->Qv (.ref D) H4->compPost (model X.prog X.w) X.A X.xe use Qp (.ref D) C (.ok .next) s4):
  wpAny (model X.prog X.w) X.A (comprehension (.ListComp elt [⟨tg,iter,ifs,0⟩] scope pos) scope X.env p2 (newList []) false (eval iter X.env) use) Qp X.xe s:=by
 refine wpAny_comprehension_free (use:=use) rfl hs (yi<|S.cells I.ok) S.kind S.loc (t_ (hi pins s σ H _ I h) fun v s1 h1=>t_ h1 fun NE s2 h2=>?_);obtain⟨it,fp,tn,J,H2,e,I2,T,m_,f2,hW⟩:=h2;subst e;have Fq:∀ b∈fp,b<s2.heap.objs.size:=fun b hb=>by
  obtain⟨o,e,_⟩:=T.obj _ _ m_ b hb;exact ZP e
 refine Zj (wpAny_newFunctionEnv S.cell (by intro y hy;simp at hy) (fun h₁ GE FX=>?_) S.kind);dsimp only at GE FX ⊢;generalize NW:s2.heap.push { cls:=.type "list",dict:=none,data:=.seq ([]:List Value).toArray }=Hq at GE FX ⊢;have hC:Hq.objs.size=s2.heap.objs.size+1:=by rw[<- NW,YY]
 have Kd:s2.heap.objs.size≠Hq.objs.size:=by rw[hC];exact ZB (Yt _)
 have Ke:s2.heap.objs.size<=Hq.objs.size:=by rw[hC];exact Nat.le_succ _
 have old:∀ b o,s2.heap.get? b=some o->h₁.get? b=some o:=fun b o e=>
  FX.extBut b o (by rw[hC];exact ZB (XU<|ZP e)) (Z5 _<|NW ▸ Z5 _ e);have Fy:h₁.get? s2.heap.objs.size=some { cls:=.type "list",data:=.seq ([]:List Value).toArray 0 }:=FX.extBut _ _ Kd (Z5 _<|NW ▸ ZN _ rfl);generalize SL:Hq.objs.size=C at GE FX hC Kd Ke ⊢;generalize Kf:s2.heap.objs.size=D at Fy hC Kd Ke ⊢;have LF:s2.heap.objs.size<=C:=by rw[Kf];exact Ke
 obtain⟨W,⟨m0,w0⟩,turn⟩:=hW ⟨C,s2,H2,fp⟩;have Pz:=fun (tk:Nat)=>yj (tk:=tk) S I2 LF f2 Fq old GE;have PB:=hg ⟨C,s2,H2,fp⟩;have PC:=ht ⟨C,s2,H2,fp⟩;have PD:=he ⟨C,s2,H2,fp⟩;have Ii:=qp S I2 LF f2 Fq;generalize FH:X.Ga (bn X own caps) scope ⟨C,s2,H2,fp⟩=X' at Pz PB PC PD Ii;have eP:X'.prog=X.prog:=by rw[<- FH];rfl
 have ew:X'.w=X.w:=by rw[<- FH];rfl
 have eK:X'.K=X.K:=by rw[<- FH];rfl
 have eA:X'.A=X.A:=by rw[<- FH];rfl
 have ec:X'.calm=true:=by rw[<- FH];exact hc
 have eL:X'.env.locals=C:=by rw[<- FH];rfl
 have NX:X'.ex=fp:=by rw[<- FH];rfl
 have M1:X'.s₀=s2:=by rw[<- FH];rfl
 have QK:X'.H₀=H2:=by rw[<- FH];rfl
 have QL:X'.fs=EW X.stack:=by rw[<- FH];rfl
 have M2:X'.pn=[]:=by rw[<- FH];rfl
 have NY:X'.xe=fun _ _=>False:=by rw[<- FH];rfl
 have LG:X'.env=compEnvC scope (fL X.env scope.names) C X.env:=by rw[<- FH];rfl
 have Jy:∀ x c,X'.env.cells.lookup x=some c->X.env.cells.lookup x=some c:=fun x c h=>(S.sub I2.ok (by rw[LG] at h;exact h)).1;have nD:∀ x c,X'.env.cells.lookup x=some c->c≠D:=fun x c h z=>by
  obtain⟨v,o,ho,_⟩:=I2.cell x c (Jy x c h);have:=ZP ho;rw[z,<- Kf] at this;exact Yh _ this
 have NZ:∀ b∈fp,b≠D:=fun b hb z=>by
  have:=Fq b hb;rw[z,<- Kf] at this;exact Yh _ this
 have QM:D∉X'.fs:=fun z=>by
  obtain⟨_,o,ho,_⟩:=Ii.ET.mem z;rw[M1] at ho;have:=ZP ho;rw[Kf] at this;exact Yh _ this
 have N0:∀ (H':Hp) (o:Obj),(∀ b∈fp,H' b=none)->∀ b∈fp,dq X' [(D,o)] H' b:=fun H' o hn b hb=>by
  refine⟨hn b hb,?_,?_,.inl (by rw[NX];exact hb),fun x c h=>(f2 b hb).2.2.2.2.1 x c (Jy x c h),fun p hp=>?_⟩
  ·rw[eL];exact ZB (Zv (Fq b hb) LF)
  ·exact Ii.Gh b (by rw[NX];exact hb)
  ·rw[M2] at hp;have:p=(D,o):=by simpa using hp
   rw[this];exact Yd (NZ b hb)
 have loop:∀ s₃:Shared,s₃={ s2 with heap:=h₁,toks:=s2.toks+([]:List (Str×Value)).length }->
   codeAny (model X.prog X.w) X.A (.compLoop (.ListComp elt [⟨tg,iter,ifs,0⟩] scope pos) 0 (.ref it) (.ref D) X'.env)
    (compPost (model X.prog X.w) X.A X.xe use Qp (.ref D) C) s₃:=by
  rintro s₃ rfl;refine yh (fun n s'=>∃ (i:Nat) (ys:List V) (H':Hp) (e_:List Value) (k:Nat),Inv X' [(D,{ cls:=.type "list",data:=.seq e_.toArray k })] (b6 own caps σ) H' s'/\au ys e_/\ys.length<=sizeLine/\tn i s'.heap/\
   (∀ b∈fp,H' b=none)/\W i n ys H') ?_ m0 ?_
  ·rintro n s3 ⟨i,ys,H3,e_,k,I3,rv,hz,E1,Lq,w3⟩;rcases turn i n ys H3 w3 with ⟨stop,qn⟩ | ⟨go,N,hN,step⟩
   ·have:=T.done X' eP ew eK ec i _ s3 _ H3 (fun _ _=>False) I3 (N0 H3 _ Lq) E1 stop;rw[eA] at this;refine t_ this fun r s4 ⟨hr,I4⟩=>?_;subst hr;obtain⟨m,hn,_⟩:=I4.loc;have QN:s4.heap.Ns C m:=by rw[<- eL];exact hn
    have hp:=I4.pin (D,{ cls:=.type "list",data:=.seq e_.toArray k }) (by rw[M2];simp);have KP:H3 D=none:=hp.2.1;have kp:∀ b,b≠C->s4.heap.get? b=s4.heap.get? b:=fun b hb=>rfl;have nC:∀ b o,s2.heap.get? b=some o->b≠C:=fun b o e=>ZB (Zv (ZP e) LF);have QO:∀ b o,s2.heap.get? b=some o->b≠D:=fun b o e=>by rw[<- Kf];exact ZB (ZP e)
    have ub:Un (EW X.stack) fp H2 H3 s2.heap s4.heap:=by
     have:=I4.base;rw[QL,NX,QK,M1] at this;exact this
    have u:Un (EW X.stack) fp H2 (upd H3 D<|.lst ys) s2.heap s4.heap:=
     ⟨fun b o e n hb hx=>(kp b<|nC b o e).trans<|ub.keep b o e n hb hx,
      fun b o e n hb hx=>by
      obtain⟨sl,q⟩:=ub.slot b o e n hb hx;exact⟨sl,(kp b<|nC b o e).trans q⟩,
      fun b o e n hx=>by rw[aG (QO b o e)];exact ub.free b o e n hx,
      fun b o e hx=>by
      obtain⟨o',q⟩:=ub.there b o e hx;exact⟨o',(kp b<|nC b o e).trans q⟩,
      fun b xs e=>by rw[aG (bZ (ub.Fg b xs e) KP)];exact ub.Fg b xs e,
      fun b o xs e=>by rw[aG (bZ (ub.Fb b o xs e) KP)];exact ub.Fb b o xs e,
      fun b ps e=>by
      obtain⟨more,q⟩:=ub.Ft b ps e;exact⟨more,by rw[aG (bZ q KP)];exact q⟩⟩
    have LJ:∀ b o,H3 b=some o->b≠C:=fun b o e z=>by
     have:=I4.free;rw[eL,<- z,e] at this;cases this
    have hk:ES X.prog X.w (upd H3 D<|.lst ys) s4.heap:=fun a o e=>by
     by_cases ha:a=D
     ·subst ha;rw[bI] at e;cases e;exact⟨hz,e_,k,rv,(kp _ Kd).trans hp.1⟩
     ·rw[aG ha] at e;have:=I4.i_ a o e;rw[eP,ew] at this;refine this.Ge (fun b u hb q=>(kp b ?_).trans q) (fun b q=>by rw[aG (bZ q KP)];exact q) fun b xs q=>by rw[aG (bZ q KP)];exact q
      rcases hb with z | z
      ·rw[z];exact LJ a o e
      ·exact LJ b _ z
    have QP:Inv X pins σ (upd H3 D<|.lst ys) s4:=I2.Jv (s':=s4) (ch:=fp) (by have:=I4.os;rw[M1] at this;exact this) u hk I4.bare fun b hb=>⟨(f2 b hb).2.2.2.1,(f2 b hb).2.1,(f2 b hb).2.2.2.2.1,(f2 b hb).2.2.2.2.2⟩;have M3:X.env.locals≠C:=by
     obtain⟨m2,NT,_⟩:=I2.loc;obtain⟨o,_,_,ho,_⟩:=NT;exact nC _ _ ho
    have M4:∀ x c,X.env.cells.lookup x=some c->c≠C:=fun x c h=>by
     obtain⟨v,o,ho,_⟩:=I2.cell x c h;exact nC _ _ ho
    refine GD D C _ s4 m QP QN ?_ M3 M4 ?_ (fun p hp=>nC _ _ (I2.pin p hp).1) (qn D KP)
    ·rw[aG (Yd Kd)];have:=I4.free
     rwa [eL] at this
    ·exact Zg I2.sz LF
   ·have:=T.item X' eP ew eK ec i _ s3 _ H3 (fun _ _=>False) I3 (N0 H3 _ Lq) E1 go;rw[eA] at this;refine t_ this fun r s4 ⟨u,hr,h4⟩=>?_;subst hr;refine t_ h4 fun _ s5 ⟨x,H5,I5,r5,y5,Fp,MW⟩=>?_;have NF:=I5.pinned (N0 H5 _ MW) (T.obj _ _ Fp);have a6:=PB _ s5 _ H5 x u _ NF r5 (step x H5 y5);rw[eP,ew,eA,NY] at a6;refine t_ a6 fun _ s6 ⟨σ6,H6,I6,Kg,q6⟩=>?_;have a7:=PC _ s6 σ6 H6 _ I6 q6;rw[eP,ew,eA,NY] at a7;refine t_ a7 fun b s7 ⟨H7,I7,q7⟩=>?_;have Jz:∀ {σ':St}{H':Hp}{s':Shared},Inv X' ([(D,{ cls:=.type "list",data:=.seq e_.toArray k })]++eO fp s5.heap) σ' H' s'->(∀ b∈fp,H' b=none)/\tn (i+1) s'.heap:=fun {σ' H' s'} I'=>by
     refine⟨fun b hb=>?_,T.keep _ _ _ Fp fun b hb o e=>(I'.pin (b,o)<|ZG _<|ZG _<|jG hb e).1⟩;obtain⟨o,e,_⟩:=T.obj _ _ Fp b hb;exact (I'.pin (b,o)<|ZG _<|ZG _<|jG hb e).2.1
    have wk:∀ {Gp:List (Addr×Obj)}{H':Hp}{s':Shared},Inv X' Gp σ6 H' s'->Inv X' Gp (b6 own caps σ) H' s':=fun {Gp H' s'} I'=>
     I'.weak (by rw[I'.len,I3.len]) Kg;cases b with
    | false=>
     rw[ZY ZM] at q7;obtain⟨m',hm,w7⟩:=hN _ _ q7;rw[ZY ZM];obtain⟨k1,k2⟩:=Jz I7;exact⟨m',hm,i+1,ys,H7,e_,k,wk (I7.E7 fun p hp=>I7.pin p (by
      rw[M2];simp at hp ⊢;exact .inl hp)),rv,hz,k2,k1,w7⟩
    | true=>
     rw[ZZ rfl] at q7 ⊢;have a8:=PD _ s7 σ6 H7 _ I7 q7;rw[eP,ew,eA,NY] at a8;refine t_ a8 fun uv s8 ⟨v8,H8,I8,r8,SM,n8⟩=>?_;obtain⟨m',hm,w8⟩:=hN _ _ n8;have hp:=I8.pin (D,{ cls:=.type "list",data:=.seq e_.toArray k }) (ZG _ (ZA _ (by simp)));have eD:=hp.1;refine call_meets F.slot_list_append ⟨_,eD,rfl⟩ F.entry_list_append (F.args_list_append_2 _ _) (PySem.list_append D e_.toArray k uv (by rw[ZS,<- rv.length];lia)) ⟨eD,?_⟩;have q:=PySem.IsL.update eD (fun a=>a.push uv);obtain⟨k1,k2⟩:=Jz I8;have QQ:Inv X' (eO fp s5.heap) σ6 H8 s8:=I8.E7 fun p hp=>I8.pin p (ZG _<|ZG _ hp);have PF:∀ b o,b≠D->s8.heap.get? b=some o->(s8.heap.update D<|Obj.mapSeq fun a=>a.push uv).get? b=some o:=fun b o hb e=>(Y3 s8.heap _<|Yd hb).trans e;have I9:Inv X' (eO fp s5.heap) σ6 H8 { s8 with heap:=s8.heap.update D (Obj.mapSeq fun a=>a.push uv),toks:=s8.toks }:=
      QQ.turned (it:=D) PF hp.2.1 (by rw[eL];exact Kd) (.inr (by rw[M1,Kf];exact ZR _)) nD fun p Jh=>by
       rw[M2] at Jh;obtain⟨hb,_⟩:=pL (show p∈eO fp s5.heap by simpa using Jh);exact NZ _ hb
     refine⟨m',hm,i+1,ys++[v8],H8,e_++[uv],k+1,wk<|I9.E7 fun p Jh=>?_,rv.append<|.cons r8 .nil,?_,?_,k1,w8⟩
     ·have e:p=(D,{ cls:=.type "list",data:=.seq (e_++[uv]).toArray (k+1) }):=by simpa using Jh
      subst e;refine⟨?_,hp.2.1,hp.2.2.1,hp.2.2.2.1,fun v z=>by cases z⟩;have e2:e_.toArray.push uv=(e_++[uv]).toArray:=by simp
      rw[<- e2];have q':IsL (s8.heap.update D<|Obj.mapSeq fun a=>a.push uv) D (e_.toArray.push uv) (if (e_.toArray.push uv).size == e_.toArray.size then k else k+1):=q;rw[ZY (by simp)] at q';exact q'
     ·rw[ZI,Yj];lia
     ·refine T.keep _ _ _ k2 fun b hb o e=>PF b o (NZ b hb) e
  ·refine⟨0,[],H2,[],0,?_,.nil,Yl _,T.keep _ _ _ m_ fun b _ o e=>old b o e,fun b hb=>(f2 b hb).1,w0⟩;refine (Pz _).E7 fun p hp=>?_;have e:p=(D,{ cls:=.type "list",data:=.seq ([]:List Value).toArray 0 }):=by simpa using hp
   subst e;exact⟨Fy,I2.i_.fresh (by rw[Kf];exact ZR _),by rw[eL];exact Kd,QM,fun v z=>by cases z⟩
 have LK:compEnvC scope (fL X.env scope.names) C X.env=X'.env:=LG.symm;show codeAny (model X.prog X.w) X.A (.compStart _ 0 (.ref it) (.ref D)<|compEnvC scope (fL X.env scope.names) C X.env) _ _;rw[LK];exact codeAny_compStart_list (loop _ rfl) (T.self X.A 0 _ _ _ (T.keep _ _ _ m_ fun b _ o e=>old b o e)<|loop _ rfl)
theorem qu(hc:X.calm=true)(S:n_ X scope own caps)(hi:PI X tg iter wi)(hg:∀ Y,PG (X.Ga (bn X own caps) scope Y) tg<|g Y)(ht:∀ Y,LE (X.Ga (bn X own caps) scope Y) ifs<|tt Y)(he:∀ Y,PE (X.Ga (bn X own caps) scope Y) elt<|te Y)(hs:∀ x,foldedSetIterable iter X.env x=pure x:=by intro _;rfl):PE X (.ListComp elt [⟨tg,iter,ifs,0⟩] scope pos) (iL own caps wi g tt te):=by
 intro pins s σ H Q I h;show wpAny _ X.A (comprehension (.ListComp elt [⟨tg,iter,ifs,0⟩] scope pos) scope X.env _ (newList []) false (eval iter X.env) none) _ _ s;refine qt (use:=none) (Qp:=EP X pins σ Q) hc S hi hg ht he hs I h fun D C H4 s4 m I4 hn f l c z p q=>?_;show ∃ m,s4.heap.Ns C m/\∀ h',Heap.SameBut C s4.heap h'->EP X pins σ Q (.ref D) { s4 with heap:=h' };refine⟨m,hn,fun h' sb=>⟨.ref D,H4,?_,rfl,q⟩⟩;exact I4.turned (it:=C) (t':=s4.toks) (fun b o hb e=>(sb.2 b hb).trans e) f (Yd l) (.inr z) c p
end
def HG(h:Heap)(d:Addr)(ks:List Value)(ep:Nat):Prop:=∃ o es,h.get? d=some o/\o.ExactDict/\o.data=.dict es ep/\es.toList.map (·.key)=ks
theorem HG.ty(x:HG s.heap d ks ep):s.TypeIs (.ref d) "dict" := let ⟨o,_,e,c,_⟩:=x;⟨o,e,c.1⟩
theorem HG.lt(x:HG h d ks ep):d<h.objs.size:=let ⟨_,_,e,_⟩:=x;ZP e
theorem HG.go{h':Heap}(x:HG h d ks ep)(k:∀ o,h.get? d=some o->h'.get? d=some o):HG h' d ks ep:=let ⟨o,es,e,r⟩:=x;⟨o,es,k o e,r⟩
section
variable{prog:Program}{w:World}{A:Around}{E:Value->Shared->Prop}{s:Shared}
theorem yo{Q:Value->Shared->Prop}(lo:(d == sysModules)=false)(x:HG s.heap d ks ep)(q:Q (.ref s.heap.objs.size) { s with heap:=s.heap.push { cls:=.type "dict_keyiterator",data:=.fields #[.ref d,.int 0 0,.int ks.length 0,.int ep 0] } }):wpAny (model prog w) A (pyIter<|.ref d) Q E s:=by
 have ty:=x.ty;obtain⟨o,es,e1,e2,e3,e4⟩:=x;have n:es.size=ks.length:=by rw[<- e4,Z3,ZO]
 refine Wa ty F.slot_dict_iter (Zd F.slot_dict_iter ty F.entry_dict_iter ?z<|F.args_dict_iter_1 _)
 case z=>
  unfold Builtin.«dict.__iter__» Builtin.Dict.dictSlotNone;refine Z9 (Z9<|wpAny_notOrdered_dict ty ?_);show wpAny _ _ (pure<|Value.ref d) _ _ s;apply Z4;show wpAny _ _ (Builtin.Dict.showsAll d >>= _) _ _ s;unfold Builtin.Dict.showsAll;rw[ZY (by rw[lo];simp)];refine Z9 (Z4<|Z9<|WR e1 e3<|Z9<|VF e1 e3<|Z9<|Zj<|Z4 ⟨_,rfl,"dict_keyiterator",_,⟨_,ZN _ rfl,rfl⟩,Yx.lookup,?_⟩);simpa [rawInt,n] using q
theorem yp{v:Value}(hit:s.heap.IsKeyIter it d i ks.length ep)(x:HG s.heap d ks ep)(hv:ks[i]?=some v)(q:∀ h',h'.IsKeyIter it d (i+1) ks.length ep->Heap.SameBut it s.heap h'->Q (some v) { s with heap:=h' }):wpAny (model prog w) A (pyNext<|.ref it) Q E s:=by
 obtain⟨oi,f1,f2,f3⟩:=id hit;obtain⟨o,es,e1,e2,e3,e4⟩:=x;have n:es.size=ks.length:=by rw[<- e4,Z3,ZO]
 have hi:i<es.size:=by
  have:i<ks.length:=(ZE.mp hv).1;lia
 have ek:es[i].key=v:=by
  rw[<- e4,Zy,ZC,Zi hi] at hv;exact Zr hv
 unfold pyNext;refine Z9 (W9<|Zc (name:=Str.ofString "__next__") hit.typeIs Yx<|Zd Yx hit.typeIs Wv ?z<|WA _)
 case z=>
  refine Z9 (Z4<|Z9<|Z9 ?_);refine Z9 (Yf hit.typeIs<|Z4<|Z9<|Xm f1 f3 ?_);simp only[show Builtin.Dict_items.ownsTuple "dict_keyiterator" = false by decide,Zo,Yz];show wpAny _ _ (if (Value.ref d == Value.none)=true then _ else _) _ _ s;rw[ZY (show ¬ (Value.ref d == Value.none)=true by intro z;cases z)];refine Z9 (Z4<|Z9<|WR e1 e3 ?_);rw[ZY (by simp[n])];refine Z9 (Z4<|Z9<|VF e1 e3 ?_);rw[ZY (by simp)];apply Z4;simp only[show ¬ ((i:Int)<0) by lia,Yz,Yq,Zi hi];refine Z9 (Z9<|Yf hit.typeIs<|Z4<|Z9<|wpAny_isOneOf_keyiter hit.typeIs ?_);show wpAny _ _ (setField (.ref it) 1 (rawInt<|(i:Int)+1) >>= _) _ _ s;have LL:(s.heap.update it (Obj.mapFields (·.setIfInBounds 1 (rawInt<|(i:Int)+1)))).IsKeyIter it d (i+1) ks.length ep:=
   ⟨_,YB _ f1<|WF<|X2 f3 _,(V9 ..).trans f2,by rw[X2 f3];simp[rawInt]⟩;refine Z9 (XL f1 f3 (by simp) (Z9 (Y1 (Z9 (wpAny_isOneOf_keyiter (s:={ s with heap:=s.heap.update it (Obj.mapFields (·.setIfInBounds 1 (rawInt<|(i:Int)+1))) }) LL.typeIs ?_)))));show wpAny _ _ (pure es[i].key) _ _ _;rw[ek];exact Z4 (Z4 ⟨_,rfl,Z4<|q _ LL<|YT ..⟩)
theorem yq(hh:A.handled=none)(hit:s.heap.IsKeyIter it d i ks.length ep)(x:HG s.heap d ks ep)(hv:ks.length<=i)(q:∀ h',Heap.ExtBut it s.heap h'->Q none { s with heap:=h' }):wpAny (model prog w) A (pyNext<|.ref it) Q E s:=by
 obtain⟨oi,f1,f2,f3⟩:=id hit;obtain⟨o,es,e1,e2,e3,e4⟩:=x;have n:es.size=ks.length:=by rw[<- e4,Z3,ZO]
 unfold pyNext;refine Z9 (W9<|Zc (name:=Str.ofString "__next__") hit.typeIs Yx<|Zd Yx hit.typeIs Wv ?z<|WA _)
 case z=>
  refine Z9 (Z4<|Z9<|Z9 ?_);refine Z9 (Yf hit.typeIs<|Z4<|Z9<|Xm f1 f3 ?_);simp only[show Builtin.Dict_items.ownsTuple "dict_keyiterator" = false by decide,Zo,Yz];show wpAny _ _ (if (Value.ref d == Value.none)=true then _ else _) _ _ s;rw[ZY (show ¬ (Value.ref d == Value.none)=true by intro z;cases z)];refine Z9 (Z4<|Z9<|WR e1 e3 ?_);rw[ZY (by simp[n])];refine Z9 (Z4<|Z9<|VF e1 e3 ?_);rw[ZY (by simp)];apply Z4;simp only[show ¬ ((i:Int)<0) by lia,Yz,Yq,WQ (show es.size<=i by lia)];refine Z9 (Z9<|Yf hit.typeIs<|Z4 ?_);show wpAny _ _ (setField (.ref it) 0 .none >>= _) _ _ s;refine Z9 (XL f1 f3 (by simp) ?_);show wpAny _ _ (newExc (.type "StopIteration") [] >>= _) _ _ _;apply Z9;simp only[newExc,newTuple];refine Z9 (Zj (Z9 (m:=firstArgMember _ _) (VB (a:=Value.none) (by first | rfl | (simp only[firstArgMember];rfl)) (Zj ?_ (by size_fits)))) (by size_fits));simp only[raiseNew];apply Z9;apply wpAny_handled;rw[show A.in1.handled=none from hh];refine Z9 (m:=pure _) (Z4<|wpAny_throw ?_);apply Z9;refine Xk (T := "StopIteration") (b:=true) ⟨_,ZN _ rfl,rfl⟩ isSubtype_stop ?_;exact Z4 (q _<|((YT ..).extBut.push _).push _)
theorem yr(hh:A.handled=none)(it d:Addr)(ne:d≠it)(ks:List Value)(ep:Nat):Walks prog w A it [it,d] [it] ks.length (fun i v=>ks[i]?=some v) (fun i h=>h.IsKeyIter it d i ks.length ep/\HG h d ks ep) where
 sub:=fun b hb=>by
  have:b=it:=by simpa using hb
  simp[this]
 frame:=fun i h h' st k=>⟨let ⟨o,e,r⟩:=st.1;⟨o,k it (by simp) o e,r⟩,st.2.go (k d (by simp))⟩
 item:=fun i s Q E hi st hQ=>by
  have hv:ks[i]?=some ks[i]:=by simp[hi]
  refine yp st.1 st.2 hv fun h' a b=>hQ _ h' s.toks hv ⟨a,st.2.go fun o e=>b.extBut d o ne e⟩ fun c o hc e=>b.extBut c o (by simpa using hc) e
 done:=fun s Q E st hQ=>yq hh st.1 st.2 (ZR _) fun h' b=>hQ h' s.toks fun c o hc e=>b c o (by simpa using hc) e
 self:=fun i s Q E st hQ=>wpAny_pyIter_keyiter st.1 hQ
theorem yt(lo:(d == sysModules)=false):PySem.W.KdlSrc prog w "dict" d d ks.length (fun i v=>ks[i]?=some v) (fun h=>HG h d ks ep) where
 type:=fun s x=>x.ty
 there:=fun h x=>⟨x.lt,x.lt⟩
 keep:=fun h h' x k=>x.go (k d<|.inl rfl)
 notList:=by decide
 notTuple:=by decide
 hint:=fun A E s Q x q=>PySem.W.kdl_hint_dict x.ty q
 iter:=fun A s hh x=>⟨_,_,(fun E Q q=>yo lo x q),yr hh _ d (ZB x.lt) ks ep,⟨⟨_,ZN _ rfl,rfl,rfl⟩,x.go fun o e=>Z5 _ e⟩⟩
end
end L2
namespace L2
open PySem PySem.Spec PyProof.Rows PySem.W
section
variable{n:Nat}{key:Nat->Int}{cmp:Nat->Nat->(Bool->Shared->Prop)->Shared->Prop}
def x_(key:Nat->Int)(p:Array Nat)(i:Nat):Int:=key (p.getD i 0)
def Up(key:Nat->Int)(p:Array Nat)(m:Nat):Prop:=∀ i j,i<=j->j<m->x_ key p i<=x_ key p j
def b7(n:Nat)(key:Nat->Int)(cmp:Nat->Nat->(Bool->Shared->Prop)->Shared->Prop)(s:Shared):Prop:=∀ i j C,i<n->j<n->C (decide (key i<key j)) s->cmp i j C s
def Rg(n:Nat)(p:Array Nat):Prop:=p.toList.Perm (range n)
variable{p:Array Nat}
theorem Rg.size(h:Rg n p):p.size=n:=by
 have:=h.length_eq;simpa using this
theorem Rg.lt(h:Rg n p){i:Nat}(hi:i<n):p.getD i 0<n:=by
 have hs:=h.size;have e:p.getD i 0=p[i]:=by simp[Array.getD,hs,hi]
 rw[e];have:p[i]∈p.toList:=by simp
 exact Zh.mp (h.mem_iff.mp this)
theorem Rg.ne(h:Rg n p)(inj:∀ i j,i<n->j<n->key i=key j->i=j){i j:Nat}(GF:i<j)(hj:j<n):x_ key p i≠x_ key p j:=by
 intro e;have hs:=h.size;have e':=inj _ _ (h.lt (by lia)) (h.lt hj) e;have e1:p.getD i 0=p[i]:=by simp[Array.getD,hs,show i<n by lia]
 have e2:p.getD j 0=p[j]:=by simp[Array.getD,hs,hj]
 rw[e1,e2] at e';have nd:p.toList.Nodup:=h.nodup_iff.mpr Wz;have e3:p.toList[i]'(by simpa [hs] using (show i<n by lia))=p.toList[j]'(by simpa [hs] using hj):=by simpa using e'
 have:=(V5 nd).mp e3;lia
theorem gz{q:Array Nat}{i j:Nat}(e:p[i]?=q[j]?):x_ key p i=x_ key q j:=by
 unfold x_;rw[Wm,Wm,e]
theorem Rg.rev(h:Rg n p)(i j:Nat):Rg n (kas_rev p i j):=(Wj.mp<|mirror_perm p i j _).trans h
theorem Rg.QR(h:Rg n p)(i j:Nat):Rg n (bubble p i j):=(Wj.mp<|bubble_perm p i j).trans h
end
section
variable{prog:Program}{w:World}{A:Around}{E:Value->Shared->Prop}{κ:SortKind}{it:Array Keyed}{key:Nat->Int}
end
section
variable{prog:Program}{w:World}{A:Around}{E:Value->Shared->Prop}{κ:SortKind}{it:Array Keyed}{key:Nat->Int}{n:Nat}{s:Shared}
def jO:Bool->Keyed->Array Keyed->Nat->Nat->Nat->StateT SortSt Sem (Option Nat):=sortPriv% PySem.Builtin.gallop
theorem iM(hc:b7 n key (kas_cmp prog w A κ it) s){i j:Nat}(hi:i<n)(hj:j<n){st:SortSt}(hk:kindOf st=κ){Q:Option Bool->SortSt->Shared->Prop}(h:Q (some<|decide (key i<key j)) st s):
  kasC (model prog w) A E (lt' (kas_item it i)<|kas_item it j) Q st s:=by
 rw[lt'_eq];apply ZW;apply Xx;have:=hc i j (fun c s'=>s'=s/\c=decide (key i<key j)) hi hj ⟨rfl,rfl⟩;unfold kas_cmp at this;rw[hk];refine ZW (Wk<|W9<|YV this (fun c s' MZ=>?_) fun _ _ hF=>hF.elim);obtain⟨rfl,rfl⟩:=MZ;exact Z0 h
theorem bJ{σ β:Type}{M:Model}{f:Nat->β->StateT σ Sem (ForInStep β)}{Q:β->σ->Shared->Prop}(I:Nat->β->σ->Shared->Prop)(step:∀ x c st s',I x c st s'->kasC M A E (f x c) (fun r m_ s2=>match r with | .yield c'=>I (x+1) c' m_ s2 | .done c'=>Q c' m_ s2) st s'):∀ (m a:Nat) (c:β) (st:σ) (s':Shared),(∀ c st s',I (a+m) c st s'->Q c st s')->I a c st s'->
   kasC M A E (forIn (range' a m) c f) Q st s'
 | 0,a,c,st,s',fin,h=>by
  show kasC M A E (forIn ([]:List Nat) c f) Q st s';exact kasC_nil (fin c st s' h)
 | m+1,a,c,st,s',fin,h=>by
  show kasC M A E (forIn (a::range' (a+1) m) c f) Q st s';refine kasC_cons (YV (step a c st s' h) (fun r s2 h'=>?_) fun _ _ e=>e);obtain⟨r,m_⟩:=r;cases r with
  | done c'=>exact h'
  | yield c'=>exact bJ I step m (a+1) c' m_ s2 (fun c st s' hi=>fin c st s' (by rw[show a+(m+1)=a+1+m by lia];exact hi)) h'
def EA(key:Nat->Int)(left:Bool)(k:Nat)(pa:Array Nat)(base i:Nat):Bool:=if left=true then decide (key (pa.getD (base+i) 0)<key k) else !decide (key k<key (pa.getD (base+i) 0))
theorem qv(hc:b7 n key (kas_cmp prog w A κ it) s){left:Bool}{k:Nat}(hk:k<n){pa:Array Nat}(QS:∀ i,i<pa.size->pa.getD i 0<n){base m hint:Nat}(hb:base+m<=pa.size)(hh:hint<m)(mono:∀ i j,i<=j->j<m->EA key left k pa base j=true->EA key left k pa base i=true){st:SortSt}(o_:kindOf st=κ){Q:Option Nat->SortSt->Shared->Prop}(h:∀ r,r<=m->(∀ i,i<r->EA key left k pa base i=true)->(∀ i,r<=i->i<m->EA key left k pa base i=false)->Q (some r) st s):
  kasC (model prog w) A E (jO left (kas_item it k) (pa.map<|kas_item it) base m hint) Q st s:=by
 have el:∀ i,i<m->(pa.map<|kas_item it)[base+i]?=some (kas_item it<|pa.getD (base+i) 0):=fun i hi=>by
  have:base+i<pa.size:=by lia
  simp[Array.getD,this]
 have ask:∀ i,i<m->∀ Q':Option Bool->SortSt->Shared->Prop,Q' (some<|EA key left k pa base i) st s->
   kasC (model prog w) A E (do let x <- elem' (pa.map<|kas_item it) (base+i);if left=true then lt' x (kas_item it k) else do let r <- lt' (kas_item it k) x;pure (r.map fun x=>!x)) Q' st s:=fun i hi Q' hq=>by
  rw[elem'_eq,el i hi];apply ZW;apply Z0;have hx:=QS (base+i) (by lia);unfold EA at hq;cases left with
  | true=>
   rw[ZZ rfl] at hq ⊢;exact iM hc hx hk o_ hq
  | false=>
   rw[ZY ZM] at hq ⊢;exact ZW (iM hc hk hx o_<|Z0 hq)
 unfold jO;with_unfolding_all refine ZW ?_;refine ask hint hh _ ?_;dsimp only;cases PH:EA key left k pa base hint with
 | true=>
  rw[ZZ rfl];apply ZW;apply Y0;have Kh:∀ last EH,last<EH->hint+last<m->EA key left k pa base (hint+last)=true->(EH >= m - hint\/EA key left k pa base (hint+EH)=false)->
    hint+last+1<=hint+min EH (m - hint)/\hint+min EH (m - hint)<=m/\(∀ i,i<hint+last+1->EA key left k pa base i=true)/\(∀ i,hint+min EH (m - hint)<=i->i<m->EA key left k pa base i=false)/\hint+min EH (m - hint) - (hint+last+1)<=m - 0:=fun last EH a1 a2 a3 a4=>by
   refine⟨by lia,by lia,fun i hi=>mono i (hint+last) (by lia) a2 a3,fun i h1 h2=>?_,by lia⟩;rcases a4 with a4 | a4
   ·lia
   ·cases Fr:EA key left k pa base i with
    | false=>rfl
    | true=>rw[mono (hint+EH) i (by lia) h2 Fr] at a4;cases a4
  refine bJ (fun x c f_ s'=>f_=st/\s'=s/\∃ last EH,c=(none,last,EH)/\last<EH/\x<EH/\hint+last<m/\EA key left k pa base (hint+last)=true) ?_ _ 0 _ _ _ ?_ ⟨rfl,rfl,0,1,rfl,by lia,by lia,by lia,PH⟩
  ·rintro x c f_ s' ⟨e1,e2,last,EH,rfl,h1,h2,h3,h4⟩;rw[e1,e2];dsimp only;by_cases ho:EH >= m - hint
   ·rw[ZZ ho];apply Z0;dsimp only;have LH:=Kh last EH h1 h3 h4 (.inl ho);apply ZW;apply Y0;refine bJ (fun x c f_ s'=>f_=st/\s'=s/\∃ lo hi,c=(none,lo,hi)/\lo<=hi/\hi<=m/\(∀ i,i<lo->EA key left k pa base i=true)/\(∀ i,hi<=i->i<m->EA key left k pa base i=false)/\hi - lo<=m - x) ?_ _ 0 _ _ _ ?_ ⟨rfl,rfl,_,_,rfl,LH⟩
    ·rintro x c f_ s' ⟨e1,e2,lo,hi,rfl,h1,h2,h3,h4,h5⟩;rw[e1,e2];dsimp only;by_cases G0:lo >= hi
     ·rw[ZZ G0];apply Z0;dsimp only;have e:lo=hi:=by lia
      subst e;exact Z0 (h lo h2 h3 h4)
     ·rw[ZY G0];have m1:lo<=lo+(hi - lo) / 2:=by lia
      have m2:lo+(hi - lo) / 2<hi:=by lia
      generalize lo+(hi - lo) / 2=mid at m1 m2 ⊢;refine ZW (ask mid (by lia) _ ?_);dsimp only;cases hB:EA key left k pa base mid with
      | true=>
       rw[ZZ rfl];exact Z0 ⟨rfl,rfl,mid+1,hi,rfl,by lia,h2,fun i Gb=>mono i mid (by lia) (by lia) hB,h4,by lia⟩
      | false=>
       rw[ZY ZM];refine Z0 ⟨rfl,rfl,lo,mid,rfl,by lia,by lia,h3,fun i a b=>?_,by lia⟩;cases Fr:EA key left k pa base i with
       | false=>rfl
       | true=>rw[mono mid i a b Fr] at hB;cases hB
    ·rintro c f_ s' ⟨e1,e2,lo,hi,rfl,h1,h2,h3,h4,h5⟩;rw[e1,e2];dsimp only;have e:lo=hi:=by lia
     subst e;exact Z0 (h lo h2 h3 h4)
   ·rw[ZY ho];refine ZW (ask (hint+EH) (by lia) _ ?_);dsimp only;cases hB:EA key left k pa base (hint+EH) with
    | true=>
     simp only[Xu,Zo,Yz];exact Z0 ⟨rfl,rfl,EH,2 * EH+1,rfl,by lia,by lia,by lia,hB⟩
    | false=>
     simp only[Bool.not_false,Xh];apply Z0;dsimp only;have LH:=Kh last EH h1 h3 h4 (.inr hB);apply ZW;apply Y0;refine bJ (fun x c f_ s'=>f_=st/\s'=s/\∃ lo hi,c=(none,lo,hi)/\lo<=hi/\hi<=m/\(∀ i,i<lo->EA key left k pa base i=true)/\(∀ i,hi<=i->i<m->EA key left k pa base i=false)/\hi - lo<=m - x) ?_ _ 0 _ _ _ ?_ ⟨rfl,rfl,_,_,rfl,LH⟩
     ·rintro x c f_ s' ⟨e1,e2,lo,hi,rfl,h1,h2,h3,h4,h5⟩;rw[e1,e2];dsimp only;by_cases G0:lo >= hi
      ·rw[ZZ G0];apply Z0;dsimp only;have e:lo=hi:=by lia
       subst e;exact Z0 (h lo h2 h3 h4)
      ·rw[ZY G0];have m1:lo<=lo+(hi - lo) / 2:=by lia
       have m2:lo+(hi - lo) / 2<hi:=by lia
       generalize lo+(hi - lo) / 2=mid at m1 m2 ⊢;refine ZW (ask mid (by lia) _ ?_);dsimp only;cases hB:EA key left k pa base mid with
       | true=>
        rw[ZZ rfl];exact Z0 ⟨rfl,rfl,mid+1,hi,rfl,by lia,h2,fun i Gb=>mono i mid (by lia) (by lia) hB,h4,by lia⟩
       | false=>
        rw[ZY ZM];refine Z0 ⟨rfl,rfl,lo,mid,rfl,by lia,by lia,h3,fun i a b=>?_,by lia⟩;cases Fr:EA key left k pa base i with
        | false=>rfl
        | true=>rw[mono mid i a b Fr] at hB;cases hB
     ·rintro c f_ s' ⟨e1,e2,lo,hi,rfl,h1,h2,h3,h4,h5⟩;rw[e1,e2];dsimp only;have e:lo=hi:=by lia
      subst e;exact Z0 (h lo h2 h3 h4)
  ·rintro c f_ s' ⟨e1,e2,last,EH,rfl,h1,h2,h3,h4⟩;rw[e1,e2];dsimp only;have LH:=Kh last EH h1 h3 h4 (.inl (by lia));apply ZW;apply Y0;refine bJ (fun x c f_ s'=>f_=st/\s'=s/\∃ lo hi,c=(none,lo,hi)/\lo<=hi/\hi<=m/\(∀ i,i<lo->EA key left k pa base i=true)/\(∀ i,hi<=i->i<m->EA key left k pa base i=false)/\hi - lo<=m - x) ?_ _ 0 _ _ _ ?_ ⟨rfl,rfl,_,_,rfl,LH⟩
   ·rintro x c f_ s' ⟨e1,e2,lo,hi,rfl,h1,h2,h3,h4,h5⟩;rw[e1,e2];dsimp only;by_cases G0:lo >= hi
    ·rw[ZZ G0];apply Z0;dsimp only;have e:lo=hi:=by lia
     subst e;exact Z0 (h lo h2 h3 h4)
    ·rw[ZY G0];have m1:lo<=lo+(hi - lo) / 2:=by lia
     have m2:lo+(hi - lo) / 2<hi:=by lia
     generalize lo+(hi - lo) / 2=mid at m1 m2 ⊢;refine ZW (ask mid (by lia) _ ?_);dsimp only;cases hB:EA key left k pa base mid with
     | true=>
      rw[ZZ rfl];exact Z0 ⟨rfl,rfl,mid+1,hi,rfl,by lia,h2,fun i Gb=>mono i mid (by lia) (by lia) hB,h4,by lia⟩
     | false=>
      rw[ZY ZM];refine Z0 ⟨rfl,rfl,lo,mid,rfl,by lia,by lia,h3,fun i a b=>?_,by lia⟩;cases Fr:EA key left k pa base i with
      | false=>rfl
      | true=>rw[mono mid i a b Fr] at hB;cases hB
   ·rintro c f_ s' ⟨e1,e2,lo,hi,rfl,h1,h2,h3,h4,h5⟩;rw[e1,e2];dsimp only;have e:lo=hi:=by lia
    subst e;exact Z0 (h lo h2 h3 h4)
 | false=>
  rw[ZY ZM];apply ZW;apply Y0;have Kh:∀ last EH,last<EH->last<=hint->EA key left k pa base (hint - last)=false->(EH >= hint+1\/EA key left k pa base (hint - EH)=true)->
    hint+1 - min EH (hint+1)<=hint - last/\hint - last<=m/\(∀ i,i<hint+1 - min EH (hint+1)->EA key left k pa base i=true)/\(∀ i,hint - last<=i->i<m->EA key left k pa base i=false)/\hint - last - (hint+1 - min EH (hint+1))<=m - 0:=fun last EH a1 a2 a3 a4=>by
   refine⟨by lia,by lia,fun i hi=>?_,fun i h1 h2=>?_,by lia⟩
   ·rcases a4 with a4 | a4
    ·lia
    ·exact mono i (hint - EH) (by lia) (by lia) a4
   ·cases Fr:EA key left k pa base i with
    | false=>rfl
    | true=>rw[mono (hint - last) i (by lia) h2 Fr] at a3;cases a3
  refine bJ (fun x c f_ s'=>f_=st/\s'=s/\∃ last EH,c=(none,last,EH)/\last<EH/\x<EH/\last<=hint/\EA key left k pa base (hint - last)=false) ?_ _ 0 _ _ _ ?_ ⟨rfl,rfl,0,1,rfl,by lia,by lia,by lia,PH⟩
  ·rintro x c f_ s' ⟨e1,e2,last,EH,rfl,h1,h2,h3,h4⟩;rw[e1,e2];dsimp only;by_cases ho:EH >= hint+1
   ·rw[ZZ ho];apply Z0;dsimp only;have LH:=Kh last EH h1 h3 h4 (.inl ho);apply ZW;apply Y0;refine bJ (fun x c f_ s'=>f_=st/\s'=s/\∃ lo hi,c=(none,lo,hi)/\lo<=hi/\hi<=m/\(∀ i,i<lo->EA key left k pa base i=true)/\(∀ i,hi<=i->i<m->EA key left k pa base i=false)/\hi - lo<=m - x) ?_ _ 0 _ _ _ ?_ ⟨rfl,rfl,_,_,rfl,LH⟩
    ·rintro x c f_ s' ⟨e1,e2,lo,hi,rfl,h1,h2,h3,h4,h5⟩;rw[e1,e2];dsimp only;by_cases G0:lo >= hi
     ·rw[ZZ G0];apply Z0;dsimp only;have e:lo=hi:=by lia
      subst e;exact Z0 (h lo h2 h3 h4)
     ·rw[ZY G0];have m1:lo<=lo+(hi - lo) / 2:=by lia
      have m2:lo+(hi - lo) / 2<hi:=by lia
      generalize lo+(hi - lo) / 2=mid at m1 m2 ⊢;refine ZW (ask mid (by lia) _ ?_);dsimp only;cases hB:EA key left k pa base mid with
      | true=>
       rw[ZZ rfl];exact Z0 ⟨rfl,rfl,mid+1,hi,rfl,by lia,h2,fun i Gb=>mono i mid (by lia) (by lia) hB,h4,by lia⟩
      | false=>
       rw[ZY ZM];refine Z0 ⟨rfl,rfl,lo,mid,rfl,by lia,by lia,h3,fun i a b=>?_,by lia⟩;cases Fr:EA key left k pa base i with
       | false=>rfl
       | true=>rw[mono mid i a b Fr] at hB;cases hB
    ·rintro c f_ s' ⟨e1,e2,lo,hi,rfl,h1,h2,h3,h4,h5⟩;rw[e1,e2];dsimp only;have e:lo=hi:=by lia
     subst e;exact Z0 (h lo h2 h3 h4)
   ·rw[ZY ho];refine ZW (ask (hint - EH) (by lia) _ ?_);dsimp only;cases hB:EA key left k pa base (hint - EH) with
    | false=>
     rw[ZY ZM];exact Z0 ⟨rfl,rfl,EH,2 * EH+1,rfl,by lia,by lia,by lia,hB⟩
    | true=>
     rw[ZZ rfl];apply Z0;dsimp only;have LH:=Kh last EH h1 h3 h4 (.inr hB);apply ZW;apply Y0;refine bJ (fun x c f_ s'=>f_=st/\s'=s/\∃ lo hi,c=(none,lo,hi)/\lo<=hi/\hi<=m/\(∀ i,i<lo->EA key left k pa base i=true)/\(∀ i,hi<=i->i<m->EA key left k pa base i=false)/\hi - lo<=m - x) ?_ _ 0 _ _ _ ?_ ⟨rfl,rfl,_,_,rfl,LH⟩
     ·rintro x c f_ s' ⟨e1,e2,lo,hi,rfl,h1,h2,h3,h4,h5⟩;rw[e1,e2];dsimp only;by_cases G0:lo >= hi
      ·rw[ZZ G0];apply Z0;dsimp only;have e:lo=hi:=by lia
       subst e;exact Z0 (h lo h2 h3 h4)
      ·rw[ZY G0];have m1:lo<=lo+(hi - lo) / 2:=by lia
       have m2:lo+(hi - lo) / 2<hi:=by lia
       generalize lo+(hi - lo) / 2=mid at m1 m2 ⊢;refine ZW (ask mid (by lia) _ ?_);dsimp only;cases hB:EA key left k pa base mid with
       | true=>
        rw[ZZ rfl];exact Z0 ⟨rfl,rfl,mid+1,hi,rfl,by lia,h2,fun i Gb=>mono i mid (by lia) (by lia) hB,h4,by lia⟩
       | false=>
        rw[ZY ZM];refine Z0 ⟨rfl,rfl,lo,mid,rfl,by lia,by lia,h3,fun i a b=>?_,by lia⟩;cases Fr:EA key left k pa base i with
        | false=>rfl
        | true=>rw[mono mid i a b Fr] at hB;cases hB
     ·rintro c f_ s' ⟨e1,e2,lo,hi,rfl,h1,h2,h3,h4,h5⟩;rw[e1,e2];dsimp only;have e:lo=hi:=by lia
      subst e;exact Z0 (h lo h2 h3 h4)
  ·rintro c f_ s' ⟨e1,e2,last,EH,rfl,h1,h2,h3,h4⟩;rw[e1,e2];dsimp only;have LH:=Kh last EH h1 h3 h4 (.inl (by lia));apply ZW;apply Y0;refine bJ (fun x c f_ s'=>f_=st/\s'=s/\∃ lo hi,c=(none,lo,hi)/\lo<=hi/\hi<=m/\(∀ i,i<lo->EA key left k pa base i=true)/\(∀ i,hi<=i->i<m->EA key left k pa base i=false)/\hi - lo<=m - x) ?_ _ 0 _ _ _ ?_ ⟨rfl,rfl,_,_,rfl,LH⟩
   ·rintro x c f_ s' ⟨e1,e2,lo,hi,rfl,h1,h2,h3,h4,h5⟩;rw[e1,e2];dsimp only;by_cases G0:lo >= hi
    ·rw[ZZ G0];apply Z0;dsimp only;have e:lo=hi:=by lia
     subst e;exact Z0 (h lo h2 h3 h4)
    ·rw[ZY G0];have m1:lo<=lo+(hi - lo) / 2:=by lia
     have m2:lo+(hi - lo) / 2<hi:=by lia
     generalize lo+(hi - lo) / 2=mid at m1 m2 ⊢;refine ZW (ask mid (by lia) _ ?_);dsimp only;cases hB:EA key left k pa base mid with
     | true=>
      rw[ZZ rfl];exact Z0 ⟨rfl,rfl,mid+1,hi,rfl,by lia,h2,fun i Gb=>mono i mid (by lia) (by lia) hB,h4,by lia⟩
     | false=>
      rw[ZY ZM];refine Z0 ⟨rfl,rfl,lo,mid,rfl,by lia,by lia,h3,fun i a b=>?_,by lia⟩;cases Fr:EA key left k pa base i with
      | false=>rfl
      | true=>rw[mono mid i a b Fr] at hB;cases hB
   ·rintro c f_ s' ⟨e1,e2,lo,hi,rfl,h1,h2,h3,h4,h5⟩;rw[e1,e2];dsimp only;have e:lo=hi:=by lia
    subst e;exact Z0 (h lo h2 h3 h4)
end
section
variable{key:Nat->Int}
def Ey(key:Nat->Int)(l:List Nat):Prop:=l.Pairwise fun x y=>key x<=key y
structure QT(key:Nat->Int)(la lb:List Nat)(po:List Nat)(ia ib:Nat):Prop where
 perm:po.Perm (la.take ia++lb.take ib)
 sa:Ey key (po++la.drop ia)
 sb:Ey key (po++lb.drop ib)
 pa:ia+1<la.length
 pb:ib<lb.length
variable{l m:List Nat}
theorem bi:Ey key (l++m)↔Ey key l/\Ey key m/\∀ x∈l,∀ y∈m,key x<=key y:=List.pairwise_append
theorem gC(l:List Nat)(i k:Nat):l.take i++(l.drop i).take k=l.take (i+k):=by rw[List.take_add]
variable{la lb po:List Nat}{ia ib:Nat}
theorem fM(k:Nat)(perm:po.Perm (la.take ia++lb.take ib))(sa:Ey key (po++la.drop ia))(sb:Ey key (po++lb.drop ib))(h:∀ x∈(la.drop ia).take k,∀ y∈lb.drop ib,key x<=key y):
  (po++(la.drop ia).take k).Perm (la.take (ia+k)++lb.take ib)/\Ey key (po++(la.drop ia).take k++la.drop (ia+k))/\Ey key (po++(la.drop ia).take k++lb.drop ib):=by
 refine⟨?_,?_,?_⟩
 ·rw[<- gC la ia k];refine (perm.append_right _).trans ?_;rw[Z7,Z7];exact ZL _ ZX
 ·rw[Z7,<- XJ,Zz];exact sa
 ·rw[Z7];have s1:=bi.mp sa;have s2:=bi.mp sb;refine bi.mpr ⟨s1.1,bi.mpr ⟨s1.2.1.sublist<|XV _ _,s2.2.1,h⟩,fun x hx y hy=>?_⟩;rcases Zx.mp hy with hy | hy
  ·exact s1.2.2 x hx y (YN hy)
  ·exact s2.2.2 x hx y hy
theorem iN(k:Nat)(perm:po.Perm (la.take ia++lb.take ib))(sa:Ey key (po++la.drop ia))(sb:Ey key (po++lb.drop ib))(h:∀ x∈(lb.drop ib).take k,∀ y∈la.drop ia,key x<=key y):
  (po++(lb.drop ib).take k).Perm (la.take ia++lb.take (ib+k))/\Ey key (po++(lb.drop ib).take k++la.drop ia)/\Ey key (po++(lb.drop ib).take k++lb.drop (ib+k)):=by
 have:=fM (la:=lb) (lb:=la) k (perm.trans ZX) sb sa h;exact⟨this.1.trans ZX,this.2.2,this.2.1⟩
variable{i:Nat}
theorem bK(h:i<l.length):(l.drop i).take 1=[l.getD i 0]:=by
 rw[Za h,Z6,ZV h];rfl
variable{y:Nat}
theorem b8(h:y∈l.drop i):∃ j,i<=j/\j<l.length/\y=l.getD j 0:=by
 obtain⟨j,hj,e⟩:=YM.mp h;have hl:=hj;rw[Zp] at hl;exact⟨i+j,by lia,by lia,by rw[<- e,XT];simp[List.getD,show i+j<l.length by lia]⟩
variable{k:Nat}
theorem fN(h:y∈(l.drop i).take k):∃ j,j<k/\i+j<l.length/\y=l.getD (i+j) 0:=by
 obtain⟨j,hj,e⟩:=YM.mp h;have hl:=hj;rw[Zm,Zp] at hl;exact⟨j,by lia,by lia,by rw[<- e,WP,XT];simp[List.getD,show i+j<l.length by lia]⟩
theorem fO(h:Ey key l){i j:Nat}(GF:i<=j)(hj:j<l.length):key (l.getD i 0)<=key (l.getD j 0):=by
 rcases Nat.lt_or_eq_of_le GF with Fq | rfl
 ·have:=YW.mp h i j (by lia) hj Fq;simpa [List.getD,hj,show i<l.length by lia] using this
 ·exact X4 _
theorem qw(h:Ey key (l++m)):Ey key m:=(bi.mp h).2.1
theorem eS{j:Nat}(h:Ey key (po++l.drop i))(hj:i<=j)(PJ:j<=k)(hk:k<l.length):key (l.getD j 0)<=key (l.getD k 0):=by
 have:=fO (qw h) (i:=j - i) (j:=k - i) (by lia) (by rw[Zp];lia);simpa [List.getD,YL,show i+(j - i)=j by lia,show i+(k - i)=k by lia] using this
def GR(key:Nat->Int)(it:Array Keyed)(la lb:List Nat)(out:Array Keyed):Prop:=∃ po:List Nat,out=(po.map<|kas_item it).toArray/\po.Perm (la++lb)/\Ey key po
variable{it:Array Keyed}
theorem fP(perm:po.Perm (la.take ia++lb.take ib))(sa:Ey key (po++la.drop ia))(sb:Ey key (po++lb.drop ib))(QU:ib=lb.length\/ia=la.length):
  GR key it la lb ((po.map<|kas_item it).toArray++(la.map<|kas_item it).toArray.extract ia la.length++(lb.map<|kas_item it).toArray.extract ib lb.length):=by
 refine⟨po++la.drop ia++lb.drop ib,?_,?_,?_⟩
 ·apply XB;simp[Yr,WO]
 ·rw[Z7];refine (perm.append_right _).trans ?_;have:(la.take ia++lb.take ib++(la.drop ia++lb.drop ib)).Perm ((la.take ia++la.drop ia)++(lb.take ib++lb.drop ib)):=by
   rw[Z7,Z7];refine ZL _ ?_;rw[<- Z7,<- Z7];exact ZJ _ ZX
  rw[Zz,Zz] at this;exact this
 ·rcases QU with e | e
  ·rw[e,V3,ZT];exact sa
  ·rw[e,V3,ZT];exact sb
theorem fQ(perm:po.Perm (la.take ia++lb.take ib))(sa:Ey key (po++la.drop ia))(sb:Ey key (po++lb.drop ib))(SN:ia+1=la.length)(top:∀ x∈lb,key x<=key (la.getD (la.length - 1) 0)):
  GR key it la lb ((po.map<|kas_item it).toArray++(lb.map<|kas_item it).toArray.extract ib lb.length++(la.map<|kas_item it).toArray.extract ia la.length):=by
 refine⟨po++lb.drop ib++la.drop ia,?_,?_,?_⟩
 ·apply XB;simp[Yr,WO]
 ·rw[Z7];refine (perm.append_right _).trans ?_;have:(la.take ia++lb.take ib++(lb.drop ib++la.drop ia)).Perm ((la.take ia++la.drop ia)++(lb.take ib++lb.drop ib)):=by
   rw[Z7,Z7];refine ZL _ ?_;rw[<- Z7];exact ZX
  rw[Zz,Zz] at this;exact this
 ·refine bi.mpr ⟨sb,qw sa,fun x hx y hy=>?_⟩;rcases Zx.mp hx with hx | hx
  ·exact (bi.mp sa).2.2 x hx y hy
  ·obtain⟨j,h1,h2,rfl⟩:=b8 hy;have:j=la.length - 1:=by lia
   rw[this];exact top x (YK hx)
end
section
variable{prog:Program}{w:World}{A:Around}{E:Value->Shared->Prop}{κ:SortKind}{it:Array Keyed}{key:Nat->Int}{n:Nat}{s:Shared}
def qx:Array Keyed->Array Keyed->StateT SortSt Sem (Array Keyed):=sortPriv% PySem.Builtin.mergeLo
structure g_(M5 st:SortSt):Prop where
 k:kindOf st=kindOf M5
 a:arrOf st=arrOf M5
 p:pendingOf st=pendingOf M5
 f:failedOf st=failedOf M5
theorem g_.refl(st:SortSt):g_ st st:=⟨rfl,rfl,rfl,rfl⟩
theorem b9{σ α:Type}{M:Model}{m:StateT σ Sem α}{Q Q':α->σ->Shared->Prop}{st:σ}{s':Shared}(h:kasC M A E m Q' st s')(g:∀ a st s',Q' a st s'->Q a st s'):kasC M A E m Q st s':=
 YV h (fun r s' x=>g r.1 r.2 s' x) fun _ _ e=>e
variable{l:List Nat}
theorem aR{i:Nat}(hi:i<l.length){st:SortSt}{Q:Keyed->SortSt->Shared->Prop}(h:Q (kas_item it<|l.getD i 0) st s):kasC (model prog w) A E (elem' (l.map<|kas_item it).toArray i) Q st s:=by
 rw[elem'_eq,show ((l.map<|kas_item it).toArray)[i]?=some (kas_item it<|l.getD i 0) by simp[List.getD,hi]];exact Z0 h
theorem cz(hl:∀ x∈l,x<n){i:Nat}(hi:i<l.length):l.getD i 0<n:=by
 rw[Z6,ZV hi];exact hl _ (XI hi)
theorem d6(l:List Nat)(i:Nat):l.toArray.getD i 0=l.getD i 0:=by simp[Array.getD,List.getD];split<;>simp_all
theorem mh(hc:b7 n key (kas_cmp prog w A κ it) s){k:Nat}(hk:k<n){l:List Nat}(hl:∀ x∈l,x<n){base m hint:Nat}(hb:base+m<=l.length)(hh:hint<m)(mono:∀ i j,base<=i->i<=j->j<base+m->key (l.getD i 0)<=key (l.getD j 0)){st:SortSt}(o_:kindOf st=κ){Q:Option Nat->SortSt->Shared->Prop}(h:∀ r,r<=m->(∀ i,base<=i->i<base+r->key (l.getD i 0)<=key k)->(∀ i,base+r<=i->i<base+m->key k<key (l.getD i 0))->Q (some r) st s):
  kasC (model prog w) A E (jO false (kas_item it k) (l.map<|kas_item it).toArray base m hint) Q st s:=by
 rw[<- List.map_toArray];refine qv hc hk (fun i hi=>by rw[d6];exact cz hl (by simpa using hi)) (by simpa using hb) hh (fun i j GF hj hB=>?_) o_ fun r hr a b=>h r hr (fun i h1 h2=>?_) (fun i h1 h2=>?_)
 ·simp only[EA,d6,Zo,Yz,WN,XH,Int.not_lt] at hB ⊢;have:=mono (base+i) (base+j) (by lia) (by lia) (by lia);lia
 ·have:=a (i - base) (by lia);simp only[EA,d6,Zo,Yz,WN,XH,Int.not_lt] at this
  rwa [show base+(i - base)=i by lia] at this
 ·have:=b (i - base) (by lia) (by lia);simp only[EA,d6,Zo,Yz,Bool.not_eq_false',WM] at this
  rwa [show base+(i - base)=i by lia] at this
theorem iO(hc:b7 n key (kas_cmp prog w A κ it) s){k:Nat}(hk:k<n){l:List Nat}(hl:∀ x∈l,x<n){base m hint:Nat}(hb:base+m<=l.length)(hh:hint<m)(mono:∀ i j,base<=i->i<=j->j<base+m->key (l.getD i 0)<=key (l.getD j 0)){st:SortSt}(o_:kindOf st=κ){Q:Option Nat->SortSt->Shared->Prop}(h:∀ r,r<=m->(∀ i,base<=i->i<base+r->key (l.getD i 0)<key k)->(∀ i,base+r<=i->i<base+m->key k<=key (l.getD i 0))->Q (some r) st s):
  kasC (model prog w) A E (jO true (kas_item it k) (l.map<|kas_item it).toArray base m hint) Q st s:=by
 rw[<- List.map_toArray];refine qv hc hk (fun i hi=>by rw[d6];exact cz hl (by simpa using hi)) (by simpa using hb) hh (fun i j GF hj hB=>?_) o_ fun r hr a b=>h r hr (fun i h1 h2=>?_) (fun i h1 h2=>?_)
 ·simp only[EA,d6,Xh,WM] at hB ⊢;have:=mono (base+i) (base+j) (by lia) (by lia) (by lia);lia
 ·have:=a (i - base) (by lia);simp only[EA,d6,Xh,WM] at this
  rwa [show base+(i - base)=i by lia] at this
 ·have:=b (i - base) (by lia) (by lia);simp only[EA,d6,Xh,XH,Int.not_lt] at this
  rwa [show base+(i - base)=i by lia] at this
theorem aS(po:List Nat)(y:Nat):(po.map<|kas_item it).toArray.push (kas_item it y)=((po++[y]).map<|kas_item it).toArray:=by simp
theorem bO(po l:List Nat)(i k:Nat):(po.map<|kas_item it).toArray++(l.map<|kas_item it).toArray.extract i (i+k)=((po++(l.drop i).take k).map<|kas_item it).toArray:=by
 apply XB;simp[Yr,YJ,WL]
end
section
variable{prog:Program}{w:World}{A:Around}{E:Value->Shared->Prop}{κ:SortKind}{it:Array Keyed}{key:Nat->Int}{n:Nat}{s:Shared}
def HX(key:Nat->Int)(it:Array Keyed)(la lb:List Nat)(out:Array Keyed)(ia ib:Nat):Prop:=∃ po:List Nat,out=(po.map<|kas_item it).toArray/\QT key la lb po ia ib
theorem qy{M:Model}{A:Around}{E:Value->Shared->Prop}{σ α:Type}{c:Nat->Prop}{dc:∀ g,Decidable (c g)}{a P:Nat->StateT σ Sem α}{Q:α->σ->Shared->Prop}{st:σ}{s:Shared}(x:Nat->Nat)(ha:∀ g,a g=P (x g))(H:∀ g,kasC M A E (P g) Q st s):∀ g,kasC M A E (if c g then a g else P g) Q st s:=by
 intro g;rw[ha];split
 ·exact H _
 ·exact H _
def LM(key:Nat->Int)(it:Array Keyed)(la lb:List Nat)(st:SortSt)(s:Shared): Option (Array Keyed)×Array Keyed×Nat×Nat×Nat->SortSt->Shared->Prop:=fun c f_ s'=>s=s'/\g_ st f_/\∃ EB p q r g,c=(some EB,p,q,r,g)/\GR key it la lb EB
def LN(key:Nat->Int)(it:Array Keyed)(la lb:List Nat)(st:SortSt)(s:Shared)(x:Nat):Option (Array Keyed)×Array Keyed×Nat×Nat×Nat->SortSt->Shared->Prop:=fun c f_ s'=>s=s'/\g_ st f_/\∃ o ia ib g,c=(none,o,ia,ib,g)/\HX key it la lb o ia ib/\x+1<=ia+ib
def IS(key:Nat->Int)(it:Array Keyed)(la lb:List Nat)(st:SortSt)(s:Shared)(x:Nat):Option (Array Keyed)×Array Keyed×Nat×Nat×Nat×Nat->SortSt->Shared->Prop:=fun c f_ s'=>s=s'/\g_ st f_/\((∃ EB p q r ac bc,c=(some EB,p,q,r,ac,bc)/\GR key it la lb EB)\/∃ o ia ib ac bc,c=(none,o,ia,ib,ac,bc)/\HX key it la lb o ia ib/\x+2<=ia+ib)
def KQ(key:Nat->Int)(it:Array Keyed)(la lb:List Nat)(st:SortSt)(s:Shared)(x y:Nat):Option (Array Keyed)×Array Keyed×Nat×Nat×Nat×Nat->SortSt->Shared->Prop:=fun c f_ s'=>s=s'/\g_ st f_/\∃ o ia ib ac bc,c=(none,o,ia,ib,ac,bc)/\HX key it la lb o ia ib/\x+1+y<=ia+ib
def Gs(key:Nat->Int)(it:Array Keyed)(la lb:List Nat)(st:SortSt)(s:Shared)(x:Nat):Option (Array Keyed)×Array Keyed×Nat×Nat×Nat×Nat×Nat->SortSt->Shared->Prop:=fun c f_ s'=>s=s'/\g_ st f_/\((∃ EB p q r g ac bc,c=(some EB,p,q,r,g,ac,bc)/\GR key it la lb EB)\/∃ o ia ib g ac bc,c=(none,o,ia,ib,g,ac,bc)/\HX key it la lb o ia ib/\x+2<=ia+ib)
def JA(key:Nat->Int)(it:Array Keyed)(la lb:List Nat)(st:SortSt)(s:Shared)(x y:Nat):Option (Array Keyed)×Array Keyed×Nat×Nat×Nat×Nat×Nat->SortSt->Shared->Prop:=fun c f_ s'=>s=s'/\g_ st f_/\∃ o ia ib g ac bc,c=(none,o,ia,ib,g,ac,bc)/\HX key it la lb o ia ib/\x+2<=ia+ib
variable{la lb:List Nat}{out p:Array Keyed}{q r g:Nat}
theorem LM.a{key:Nat->Int}{it:Array Keyed}{st f_:SortSt}{s:Shared}(h:g_ st f_)(m:GR key it la lb out):LM key it la lb st s (some out,p,q,r,g) f_ s:=⟨rfl,h,_,_,_,_,_,rfl,m⟩
variable{x ia ib:Nat}{o:Array Keyed}
theorem LN.k{key:Nat->Int}{it:Array Keyed}{st f_:SortSt}{s:Shared}(h:g_ st f_)(j:HX key it la lb o ia ib)(e:x+1<=ia+ib):LN key it la lb st s x (none,o,ia,ib,g) f_ s:=⟨rfl,h,_,_,_,_,rfl,j,e⟩
variable{g2:Nat}
theorem IS.a{key:Nat->Int}{it:Array Keyed}{st f_:SortSt}{s:Shared}(h:g_ st f_)(m:GR key it la lb out):IS key it la lb st s x (some out,p,q,r,g,g2) f_ s:=⟨rfl,h,.inl ⟨_,_,_,_,_,_,rfl,m⟩⟩
theorem IS.b{key:Nat->Int}{it:Array Keyed}{st f_:SortSt}{s:Shared}(h:g_ st f_)(j:HX key it la lb o ia ib)(e:x+2<=ia+ib):IS key it la lb st s x (none,o,ia,ib,g,g2) f_ s:=⟨rfl,h,.inr ⟨_,_,_,_,_,rfl,j,e⟩⟩
variable{y:Nat}
theorem KQ.k{key:Nat->Int}{it:Array Keyed}{st f_:SortSt}{s:Shared}(h:g_ st f_)(j:HX key it la lb o ia ib)(e:x+1+y<=ia+ib):KQ key it la lb st s x y (none,o,ia,ib,g,g2) f_ s:=⟨rfl,h,_,_,_,_,_,rfl,j,e⟩
variable{g3:Nat}
theorem Gs.a{key:Nat->Int}{it:Array Keyed}{st f_:SortSt}{s:Shared}(h:g_ st f_)(m:GR key it la lb out):Gs key it la lb st s x (some out,p,q,r,g,g2,g3) f_ s:=⟨rfl,h,.inl ⟨_,_,_,_,_,_,_,rfl,m⟩⟩
theorem Gs.b{key:Nat->Int}{it:Array Keyed}{st f_:SortSt}{s:Shared}(h:g_ st f_)(j:HX key it la lb o ia ib)(e:x+2<=ia+ib):Gs key it la lb st s x (none,o,ia,ib,g,g2,g3) f_ s:=⟨rfl,h,.inr ⟨_,_,_,_,_,_,rfl,j,e⟩⟩
theorem JA.k{key:Nat->Int}{it:Array Keyed}{st f_:SortSt}{s:Shared}(h:g_ st f_)(j:HX key it la lb o ia ib)(e:x+2<=ia+ib):JA key it la lb st s x y (none,o,ia,ib,g,g2,g3) f_ s:=⟨rfl,h,_,_,_,_,_,_,rfl,j,e⟩
theorem bq{a b:Nat}(h:a=b):(a == b)=true:=by simp[h]
theorem Fz{a b:Nat}(h:¬ a=b):¬ (a == b)=true:=by simp[h]
theorem yu(hc:b7 n key (kas_cmp prog w A κ it) s){la lb:List Nat}(Ji:∀ x∈la,x<n)(Jj:∀ x∈lb,x<n)(N1:Ey key la)(N2:Ey key lb)(h0:0<la.length)(h1:0<lb.length)(first:∀ x∈la,key (lb.getD 0 0)<=key x)(top:∀ x∈lb,key x<=key (la.getD (la.length - 1) 0)){st:SortSt}(o_:kindOf st=κ){Q:Array Keyed->SortSt->Shared->Prop}(h:∀ out f_,GR key it la lb out->g_ st f_->Q out f_ s):
  kasC (model prog w) A E (qx (la.map<|kas_item it).toArray (lb.map<|kas_item it).toArray) Q st s:=by
 unfold qx;with_unfolding_all refine ZW (Wk<|Yb ?_);refine ZW (aR h1 ?_);dsimp only;generalize N3:(List.map (kas_item it) la).toArray.size=za;obtain rfl:la.length=za:=by rw[<- N3];simp
 generalize N4:(List.map (kas_item it) lb).toArray.size=zb;obtain rfl:lb.length=zb:=by rw[<- N4];simp
 have FY:[lb.getD 0 0].Perm (la.take 0++lb.take 1):=by
  have:=bK (l:=lb) (i:=0) h1;simp only[Ye] at this;rw[this];exact ZF _
 have Ki:Ey key ([lb.getD 0 0]++lb.drop 1):=by
  have:=bK (l:=lb) (i:=0) h1;simp only[Ye] at this;rw[<- this,Zz];exact N2
 have Kj:Ey key ([lb.getD 0 0]++la.drop 0):=bi.mpr ⟨Zw _ _,by rw[Ye];exact N1,fun x hx y hy=>by
  rw[Z1.mp hx];exact first y (by rwa [Ye] at hy)⟩
 have e0:#[kas_item it (lb.getD 0 0)]=([lb.getD 0 0].map<|kas_item it).toArray:=rfl;rw[e0];by_cases c1:1=lb.length
 ·rw[ZZ (bq c1)];exact Z0 (h _ _ (fP FY Kj Ki<|.inl c1)<|g_.refl st)
 rw[ZY (Fz c1)];by_cases c2:0+1=la.length
 ·rw[ZZ (bq c2)];exact Z0 (h _ _ (fQ FY Kj Ki c2 top)<|g_.refl st)
 rw[ZY (Fz c2)];refine ZW (Xx ?_);refine ZW (b9 (Q':=LM key it la lb st s) (Y0 (bJ (LN key it la lb st s) ?step _ 0 _ _ _ ?fin (LN.k (g_.refl st) ⟨_,rfl,FY,Kj,Ki,by lia,by lia⟩ (by lia)))) ?after)
 case after=>
  rintro c f_ s' ⟨rfl,hs,EB,o,ia,ib,g,rfl,hm⟩;exact Z0 (h _ _ hm hs)
 case fin=>
  rintro c f_ s' ⟨rfl,hs,o,ia,ib,g,rfl,⟨po,rfl,m⟩,hx⟩;have:=m.pa;have:=m.pb;lia
 case step=>
  rintro x c f_ s' ⟨rfl,hs,o,ia,ib,g,rfl,hJ,hx⟩;dsimp only;refine ZW (b9 (Q':=IS key it la lb st s x)
   (Y0 (bJ (KQ key it la lb st s x) ?Ik _ 0 _ _ _ ?Kk (KQ.k hs hJ (by lia)))) ?Hi)
  case Kk=>
   rintro c f_ s' ⟨rfl,hs,o,ia,ib,ac,bc,rfl,hJ,hx⟩;exact IS.b hs hJ (by lia)
  case Ik=>
   rintro y c f_ s' ⟨rfl,hs,o,ia,ib,ac,bc,rfl,⟨po,rfl,m⟩,hx⟩;have m1:=m.pa;have m2:=m.pb;have FK:kindOf f_=κ:=hs.k.trans o_;dsimp only;refine ZW (aR m2 ?_);refine ZW (aR (show ia<la.length by lia) ?_);refine ZW (iM hc (cz Jj m2) (cz Ji (show ia<la.length by lia)) FK ?_);dsimp only;by_cases hw:key (lb.getD ib 0)<key (la.getD ia 0)
   ·rw[ZZ (by simpa using hw)];refine ZW (aR m2 ?_);have b1:=iN 1 m.perm m.sa m.sb (fun x hx y hy=>by
     rw[bK m2,Z1] at hx;obtain⟨j,j1,j2,rfl⟩:=b8 hy;have:=eS m.sa (ZR _) j1 j2;rw[hx];lia)
    rw[bK m2] at b1;rw[aS];try dsimp only
    by_cases hz:ib+1=lb.length
    ·rw[ZZ (bq hz)];exact Z0 (IS.a hs<|fP b1.1 b1.2.1 b1.2.2<|.inl hz)
    ·rw[ZY (Fz hz)];have J':HX key it la lb ((po++[lb.getD ib 0]).map<|kas_item it).toArray ia (ib+1):=⟨_,rfl,b1.1,b1.2.1,b1.2.2,m1,by lia⟩;by_cases hg:bc+1 >= g
     ·rw[ZZ hg];exact Z0 (IS.b hs J' (by lia))
     ·rw[ZY hg];exact Z0 (KQ.k hs J' (by lia))
   ·rw[ZY (by simpa using hw)];refine ZW (aR (show ia<la.length by lia) ?_);have b1:=fM 1 m.perm m.sa m.sb (fun x hx y hy=>by
     rw[bK (show ia<la.length by lia),Z1] at hx;obtain⟨j,j1,j2,rfl⟩:=b8 hy;have:=eS m.sb (ZR _) j1 j2;rw[hx];lia)
    rw[bK (show ia<la.length by lia)] at b1;rw[aS];try dsimp only
    by_cases hz:ia+1+1=la.length
    ·rw[ZZ (bq hz)];exact Z0 (IS.a hs<|fQ b1.1 b1.2.1 b1.2.2 hz top)
    ·rw[ZY (Fz hz)];have J':HX key it la lb ((po++[la.getD ia 0]).map<|kas_item it).toArray (ia+1) ib:=⟨_,rfl,b1.1,b1.2.1,b1.2.2,by lia,m2⟩;by_cases hg:ac+1 >= g
     ·rw[ZZ hg];exact Z0 (IS.b hs J' (by lia))
     ·rw[ZY hg];exact Z0 (KQ.k hs J' (by lia))
  case Hi=>
   rintro c f_ s' ⟨rfl,hs,⟨EB,o,ia,ib,ac,bc,rfl,hm⟩ | ⟨o,ia,ib,ac,bc,rfl,hJ,hx⟩⟩
   ·exact Z0 (LM.a hs hm)
   ·dsimp only;refine ZW (Wk<|Yb ?_);try dsimp only
    refine ZW (b9 (Q':=Gs key it la lb st s x)
     (Y0 (bJ (JA key it la lb st s x) ?Il _ 0 _ _ _ ?fin2 (JA.k hs hJ (by lia)))) ?Hj)
    case fin2=>
     rintro c f_ s' ⟨rfl,hs,o,ia,ib,g,ac,bc,rfl,hJ,hx⟩;exact Gs.b hs hJ (by lia)
    case Hj=>
     rintro c f_ s' ⟨rfl,hs,⟨EB,o,ia,ib,g,ac,bc,rfl,hm⟩ | ⟨o,ia,ib,g,ac,bc,rfl,hJ,hx⟩⟩
     ·exact Z0 (LM.a hs hm)
     ·dsimp only;refine ZW (Ys ?_);exact Z0 (LN.k ⟨hs.k,hs.a,hs.p,hs.f⟩ hJ (by lia))
    case Il=>
     rintro y c f_ s' ⟨rfl,hs,o,ia,ib,g,ac,bc,rfl,⟨po,rfl,m⟩,hx⟩;have m1:=m.pa;have m2:=m.pb;dsimp only;revert g;refine qy (fun g=>g - 1) ?ha ?_
     case ha=>exact fun g=>rfl
     intro g;refine ZW (Ys ?_);refine ZW (aR m2 ?_);refine ZW (mh hc (cz Jj m2) Ji (base:=ia) (m:=la.length - ia) (hint:=0) (by lia) (by lia) (fun i j a b c=>eS m.sa a b (by lia)) (by exact hs.k.trans o_) ?_);intro k M6 lo1 KR;dsimp only;by_cases LO:k > 0
     ·rw[ZZ LO];have p1:=fM k m.perm m.sa m.sb (fun x hx y hy=>by
       obtain⟨j,j0,j1,rfl⟩:=fN hx;obtain⟨j',a1,a2,rfl⟩:=b8 hy;have:=lo1 (ia+j) (by lia) (by lia);have:=eS m.sb (ZR _) a1 a2;lia)
      by_cases hz:ia+k+1=la.length
      ·rw[ZZ (bq hz)];exact Z0 (Gs.a ⟨hs.k,hs.a,hs.p,hs.f⟩ (by rw[bO];exact fQ p1.1 p1.2.1 p1.2.2 hz top))
      rw[ZY (Fz hz)];by_cases KS:ia+k=la.length
      ·rw[ZZ (bq KS)];exact Z0 (Gs.a ⟨hs.k,hs.a,hs.p,hs.f⟩ (by rw[bO];exact fP p1.1 p1.2.1 p1.2.2 (.inr KS)))
      rw[ZY (Fz KS)];have Kl:∀ i,ia+k<=i->i<la.length->key (lb.getD ib 0)<key (la.getD i 0):=fun i a b=>KR i a (by lia);refine ZW (aR m2 ?_);have p2:=iN 1 p1.1 p1.2.1 p1.2.2 (fun x hx y hy=>by
       rw[bK m2,Z1] at hx;obtain⟨j,j1,j2,rfl⟩:=b8 hy;have:=Kl j j1 j2;rw[hx];lia)
      rw[bK m2] at p2;by_cases Hk:ib+1=lb.length
      ·rw[ZZ (bq Hk)];exact Z0 (Gs.a ⟨hs.k,hs.a,hs.p,hs.f⟩ (by rw[bO,aS];exact fP p2.1 p2.2.1 p2.2.2 (.inl Hk)))
      rw[ZY (Fz Hk)];refine ZW (aR (show ia+k<la.length by lia) ?_);refine ZW (iO hc (cz Ji (show ia+k<la.length by lia)) Jj (base:=ib+1) (m:=lb.length - (ib+1)) (hint:=0) (by lia) (by lia) (fun i j a b c=>eS p2.2.2 a b (by lia)) (by exact hs.k.trans o_) ?_);intro k2 G7 Io Fr;dsimp only;by_cases HI:k2 > 0
      ·rw[ZZ HI];have p3:=iN k2 p2.1 p2.2.1 p2.2.2 (fun x hx y hy=>by
        obtain⟨j,j0,j1,rfl⟩:=fN hx;obtain⟨j',a1,a2,rfl⟩:=b8 hy;have:=Io (ib+1+j) (by lia) (by lia);have:=eS p2.2.1 (ZR _) a1 a2;lia)
       by_cases Hl:ib+1+k2=lb.length
       ·rw[ZZ (bq Hl)];exact Z0 (Gs.a ⟨hs.k,hs.a,hs.p,hs.f⟩ (by rw[bO,aS,bO];exact fP p3.1 p3.2.1 p3.2.2 (.inl Hl)))
       rw[ZY (Fz Hl)];have Hm:∀ i,ib+1+k2<=i->i<lb.length->key (la.getD (ia+k) 0)<=key (lb.getD i 0):=fun i a b=>Fr i a (by lia);refine ZW (aR (show ia+k<la.length by lia) ?_);have p4:=fM 1 p3.1 p3.2.1 p3.2.2 (fun x hx y hy=>by
        rw[bK (show ia+k<la.length by lia),Z1] at hx;obtain⟨j,j1,j2,rfl⟩:=b8 hy;have:=Hm j j1 j2;rw[hx];exact this)
       rw[bK (show ia+k<la.length by lia)] at p4;by_cases Fi:ia+k+1+1=la.length
       ·rw[ZZ (bq Fi)];exact Z0 (Gs.a ⟨hs.k,hs.a,hs.p,hs.f⟩ (by rw[bO,aS,bO,aS];exact fQ p4.1 p4.2.1 p4.2.2 Fi top))
       rw[ZY (Fz Fi)];by_cases hb:(decide (k<7) && decide (k2<7))=true
       ·rw[ZZ hb];exact Z0 (Gs.b ⟨hs.k,hs.a,hs.p,hs.f⟩ ⟨_,by rw[bO,aS,bO,aS],p4.1,p4.2.1,p4.2.2,by lia,by lia⟩ (by lia))
       ·rw[ZY hb];exact Z0 (JA.k ⟨hs.k,hs.a,hs.p,hs.f⟩ ⟨_,by rw[bO,aS,bO,aS],p4.1,p4.2.1,p4.2.2,by lia,by lia⟩ (by lia))
      ·rw[ZY HI];have p3:=p2;have Hm:∀ i,ib+1<=i->i<lb.length->key (la.getD (ia+k) 0)<=key (lb.getD i 0):=fun i a b=>Fr i (by lia) (by lia);refine ZW (aR (show ia+k<la.length by lia) ?_);have p4:=fM 1 p3.1 p3.2.1 p3.2.2 (fun x hx y hy=>by
        rw[bK (show ia+k<la.length by lia),Z1] at hx;obtain⟨j,j1,j2,rfl⟩:=b8 hy;have:=Hm j j1 j2;rw[hx];exact this)
       rw[bK (show ia+k<la.length by lia)] at p4;by_cases Fi:ia+k+1+1=la.length
       ·rw[ZZ (bq Fi)];exact Z0 (Gs.a ⟨hs.k,hs.a,hs.p,hs.f⟩ (by rw[bO,aS,aS];exact fQ p4.1 p4.2.1 p4.2.2 Fi top))
       rw[ZY (Fz Fi)];by_cases hb:(decide (k<7) && decide (k2<7))=true
       ·rw[ZZ hb];exact Z0 (Gs.b ⟨hs.k,hs.a,hs.p,hs.f⟩ ⟨_,by rw[bO,aS,aS],p4.1,p4.2.1,p4.2.2,by lia,by lia⟩ (by lia))
       ·rw[ZY hb];exact Z0 (JA.k ⟨hs.k,hs.a,hs.p,hs.f⟩ ⟨_,by rw[bO,aS,aS],p4.1,p4.2.1,p4.2.2,by lia,by lia⟩ (by lia))
     ·rw[ZY LO];have p1:po.Perm (la.take ia++lb.take ib)/\Ey key (po++la.drop ia)/\Ey key (po++lb.drop ib):=⟨m.perm,m.sa,m.sb⟩;have Kl:∀ i,ia<=i->i<la.length->key (lb.getD ib 0)<key (la.getD i 0):=fun i a b=>KR i (by lia) (by lia);refine ZW (aR m2 ?_);have p2:=iN 1 p1.1 p1.2.1 p1.2.2 (fun x hx y hy=>by
       rw[bK m2,Z1] at hx;obtain⟨j,j1,j2,rfl⟩:=b8 hy;have:=Kl j j1 j2;rw[hx];lia)
      rw[bK m2] at p2;by_cases Hk:ib+1=lb.length
      ·rw[ZZ (bq Hk)];exact Z0 (Gs.a ⟨hs.k,hs.a,hs.p,hs.f⟩ (by rw[aS];exact fP p2.1 p2.2.1 p2.2.2 (.inl Hk)))
      rw[ZY (Fz Hk)];refine ZW (aR (show ia<la.length by lia) ?_);refine ZW (iO hc (cz Ji (show ia<la.length by lia)) Jj (base:=ib+1) (m:=lb.length - (ib+1)) (hint:=0) (by lia) (by lia) (fun i j a b c=>eS p2.2.2 a b (by lia)) (by exact hs.k.trans o_) ?_);intro k2 G7 Io Fr;dsimp only;by_cases HI:k2 > 0
      ·rw[ZZ HI];have p3:=iN k2 p2.1 p2.2.1 p2.2.2 (fun x hx y hy=>by
        obtain⟨j,j0,j1,rfl⟩:=fN hx;obtain⟨j',a1,a2,rfl⟩:=b8 hy;have:=Io (ib+1+j) (by lia) (by lia);have:=eS p2.2.1 (ZR _) a1 a2;lia)
       by_cases Hl:ib+1+k2=lb.length
       ·rw[ZZ (bq Hl)];exact Z0 (Gs.a ⟨hs.k,hs.a,hs.p,hs.f⟩ (by rw[aS,bO];exact fP p3.1 p3.2.1 p3.2.2 (.inl Hl)))
       rw[ZY (Fz Hl)];have Hm:∀ i,ib+1+k2<=i->i<lb.length->key (la.getD (ia) 0)<=key (lb.getD i 0):=fun i a b=>Fr i a (by lia);refine ZW (aR (show ia<la.length by lia) ?_);have p4:=fM 1 p3.1 p3.2.1 p3.2.2 (fun x hx y hy=>by
        rw[bK (show ia<la.length by lia),Z1] at hx;obtain⟨j,j1,j2,rfl⟩:=b8 hy;have:=Hm j j1 j2;rw[hx];exact this)
       rw[bK (show ia<la.length by lia)] at p4;by_cases Fi:ia+1+1=la.length
       ·rw[ZZ (bq Fi)];exact Z0 (Gs.a ⟨hs.k,hs.a,hs.p,hs.f⟩ (by rw[aS,bO,aS];exact fQ p4.1 p4.2.1 p4.2.2 Fi top))
       rw[ZY (Fz Fi)];by_cases hb:(decide (k<7) && decide (k2<7))=true
       ·rw[ZZ hb];exact Z0 (Gs.b ⟨hs.k,hs.a,hs.p,hs.f⟩ ⟨_,by rw[aS,bO,aS],p4.1,p4.2.1,p4.2.2,by lia,by lia⟩ (by lia))
       ·rw[ZY hb];exact Z0 (JA.k ⟨hs.k,hs.a,hs.p,hs.f⟩ ⟨_,by rw[aS,bO,aS],p4.1,p4.2.1,p4.2.2,by lia,by lia⟩ (by lia))
      ·rw[ZY HI];have p3:=p2;have Hm:∀ i,ib+1<=i->i<lb.length->key (la.getD (ia) 0)<=key (lb.getD i 0):=fun i a b=>Fr i (by lia) (by lia);refine ZW (aR (show ia<la.length by lia) ?_);have p4:=fM 1 p3.1 p3.2.1 p3.2.2 (fun x hx y hy=>by
        rw[bK (show ia<la.length by lia),Z1] at hx;obtain⟨j,j1,j2,rfl⟩:=b8 hy;have:=Hm j j1 j2;rw[hx];exact this)
       rw[bK (show ia<la.length by lia)] at p4;by_cases Fi:ia+1+1=la.length
       ·rw[ZZ (bq Fi)];exact Z0 (Gs.a ⟨hs.k,hs.a,hs.p,hs.f⟩ (by rw[aS,aS];exact fQ p4.1 p4.2.1 p4.2.2 Fi top))
       rw[ZY (Fz Fi)];by_cases hb:(decide (k<7) && decide (k2<7))=true
       ·rw[ZZ hb];exact Z0 (Gs.b ⟨hs.k,hs.a,hs.p,hs.f⟩ ⟨_,by rw[aS,aS],p4.1,p4.2.1,p4.2.2,by lia,by lia⟩ (by lia))
       ·rw[ZY hb];exact Z0 (JA.k ⟨hs.k,hs.a,hs.p,hs.f⟩ ⟨_,by rw[aS,aS],p4.1,p4.2.1,p4.2.2,by lia,by lia⟩ (by lia))
end
section
variable{prog:Program}{w:World}{A:Around}{E:Value->Shared->Prop}{κ:SortKind}{it:Array Keyed}{key:Nat->Int}{n:Nat}{s:Shared}
def qz:Array Keyed->Array Keyed->StateT SortSt Sem (Array Keyed):=sortPriv% PySem.Builtin.mergeHi
variable{l:List Nat}{i j:Nat}
theorem mo(GF:i<=j)(hj:j<=l.length):l.drop i=(l.take j).drop i++l.drop j:=by
 have e:l.drop i=(l.take j++l.drop j).drop i:=by rw[Zz]
 rw[e,List.drop_append_of_le_length (by rw[Zm];lia)]
theorem yv(GF:i<=j):l.take i++(l.take j).drop i=l.take j:=by
 have:=Zz i (l.take j)
 rwa [Wi,W0 GF] at this
variable{la lb ro:List Nat}{na nb:Nat}
theorem fR(k:Nat)(hk:k<=na)(QV:na<=la.length)(perm:ro.Perm (la.drop na++lb.drop nb))(sa:Ey key (la.take na++ro))(sb:Ey key (lb.take nb++ro))(h:∀ x∈(la.take na).drop k,∀ y∈lb.take nb,key y<=key x):
  ((la.take na).drop k++ro).Perm (la.drop k++lb.drop nb)/\Ey key (la.take k++((la.take na).drop k++ro))/\Ey key (lb.take nb++((la.take na).drop k++ro)):=by
 refine⟨?_,?_,?_⟩
 ·rw[mo hk QV,Z7];exact ZL _ perm
 ·rw[<- Z7,yv hk];exact sa
 ·have s1:=bi.mp sa;have s2:=bi.mp sb;refine bi.mpr ⟨s2.1,bi.mpr ⟨s1.1.sublist<|WK _ _,s2.2.1,fun x hx y hy=>s1.2.2 x (YK hx) y hy⟩,fun x hx y hy=>?_⟩;rcases Zx.mp hy with hy | hy
  ·exact h y hy x hx
  ·exact s2.2.2 x hx y hy
theorem iP(k:Nat)(hk:k<=nb)(QW:nb<=lb.length)(perm:ro.Perm (la.drop na++lb.drop nb))(sa:Ey key (la.take na++ro))(sb:Ey key (lb.take nb++ro))(h:∀ x∈(lb.take nb).drop k,∀ y∈la.take na,key y<=key x):
  ((lb.take nb).drop k++ro).Perm (la.drop na++lb.drop k)/\Ey key (la.take na++((lb.take nb).drop k++ro))/\Ey key (lb.take k++((lb.take nb).drop k++ro)):=by
 have:=fR (la:=lb) (lb:=la) k hk QW (perm.trans ZX) sb sa h;exact⟨this.1.trans ZX,this.2.2,this.2.1⟩
theorem bS(h0:0<i)(h:i<=l.length):(l.take i).drop (i - 1)=[l.getD (i - 1) 0]:=by
 rw[WL,show i - (i - 1)=1 by lia];exact bK (by lia)
variable{y:Nat}
theorem cC(h:y∈l.take i):∃ j,j<i/\j<l.length/\y=l.getD j 0:=by
 have:=fN (i:=0) (k:=i) (y:=y) (l:=l) (by rwa [Ye]);obtain⟨j,a,b,e⟩:=this;exact⟨j,a,by lia,by rw[e];congr 1;lia⟩
variable{k:Nat}
theorem mq(h:y∈(l.take k).drop i):∃ j,i<=j/\j<k/\j<l.length/\y=l.getD j 0:=by
 rw[WL] at h;obtain⟨j,a,b,e⟩:=fN h;exact⟨i+j,by lia,by lia,b,e⟩
theorem eT(h:Ey key (l.take i++ro))(PJ:j<=k)(hk:k<i)(hl:k<l.length):key (l.getD j 0)<=key (l.getD k 0):=by
 have:=fO (bi.mp h).1 (i:=j) (j:=k) PJ (by rw[Zm];lia);simpa [List.getD,Yi,show j<i by lia,hk] using this
theorem d7(perm:ro.Perm (la.drop na++lb.drop nb))(sa:Ey key (la.take na++ro))(sb:Ey key (lb.take nb++ro))(hz:na=0\/nb=0):
  GR key it la lb ((la.map<|kas_item it).toArray.extract 0 na++(lb.map<|kas_item it).toArray.extract 0 nb++(ro.reverse.map<|kas_item it).toArray.reverse):=by
 refine⟨la.take na++lb.take nb++ro,?_,?_,?_⟩
 ·apply XB;simp[YJ]
 ·refine (ZL _ perm).trans ?_;have:(la.take na++lb.take nb++(la.drop na++lb.drop nb)).Perm ((la.take na++la.drop na)++(lb.take nb++lb.drop nb)):=by
   rw[Z7,Z7];refine ZL _ ?_;rw[<- Z7,<- Z7];exact ZJ _ ZX
  rw[Zz,Zz] at this;exact this
 ·rcases hz with e | e
  ·rw[e,Vz,Wr];exact sb
  ·rw[e,Vz,ZT];exact sa
theorem gD(perm:ro.Perm (la.drop na++lb.drop nb))(sa:Ey key (la.take na++ro))(sb:Ey key (lb.take nb++ro))(hz:nb=1)(first:∀ x∈la,key (lb.getD 0 0)<=key x):
  GR key it la lb ((lb.map<|kas_item it).toArray.extract 0 nb++(la.map<|kas_item it).toArray.extract 0 na++(ro.reverse.map<|kas_item it).toArray.reverse):=by
 refine⟨lb.take nb++la.take na++ro,?_,?_,?_⟩
 ·apply XB;simp[YJ]
 ·refine (ZL _ perm).trans ?_;have:(lb.take nb++la.take na++(la.drop na++lb.drop nb)).Perm ((la.take na++la.drop na)++(lb.take nb++lb.drop nb)):=by
   rw[Z7,<- Z7 (la.take na),<- Z7 (la.take na++la.drop na)];rw[<- Z7 (lb.take nb)];exact ZJ _ ZX
  rw[Zz,Zz] at this;exact this
 ·rw[Z7];refine bi.mpr ⟨(bi.mp sb).1,sa,fun x hx y hy=>?_⟩;rcases Zx.mp hy with hy | hy
  ·obtain⟨j,h1,h2,rfl⟩:=cC hx;have:j=0:=by lia
   rw[this];exact first y (YN hy)
  ·exact (bi.mp sb).2.2 x hx y hy
theorem aN(ro:List Nat)(y:Nat):(ro.reverse.map<|kas_item it).toArray.push (kas_item it y)=(([y]++ro).reverse.map<|kas_item it).toArray:=by simp
theorem bC(ro l:List Nat)(i k:Nat):(ro.reverse.map<|kas_item it).toArray++((l.map<|kas_item it).toArray.extract i k).reverse=(((l.take k).drop i++ro).reverse.map<|kas_item it).toArray:=by
 apply XB;simp[Yr,YJ,WL]
structure QX(key:Nat->Int)(la lb:List Nat)(ro:List Nat)(na nb:Nat):Prop where
 perm:ro.Perm (la.drop na++lb.drop nb)
 sa:Ey key (la.take na++ro)
 sb:Ey key (lb.take nb++ro)
 pa:0<na
 pb:1<nb
 qa:na<=la.length
 qb:nb<=lb.length
def HY(key:Nat->Int)(it:Array Keyed)(la lb:List Nat)(out:Array Keyed)(na nb:Nat):Prop:=∃ ro:List Nat,out=(ro.reverse.map<|kas_item it).toArray/\QX key la lb ro na nb
end
section
variable{prog:Program}{w:World}{A:Around}{E:Value->Shared->Prop}{κ:SortKind}{it:Array Keyed}{key:Nat->Int}{n:Nat}{s:Shared}
def LP(key:Nat->Int)(it:Array Keyed)(la lb:List Nat)(st:SortSt)(s:Shared): Option (Array Keyed)×Nat×Nat×Array Keyed×Nat->SortSt->Shared->Prop:=fun c f_ s'=>s=s'/\g_ st f_/\∃ EB p q r g,c=(some EB,p,q,r,g)/\GR key it la lb EB
def LQ(key:Nat->Int)(it:Array Keyed)(la lb:List Nat)(st:SortSt)(s:Shared)(x:Nat):Option (Array Keyed)×Nat×Nat×Array Keyed×Nat->SortSt->Shared->Prop:=fun c f_ s'=>s=s'/\g_ st f_/\∃ na nb o g,c=(none,na,nb,o,g)/\HY key it la lb o na nb/\na+nb+x+1<=la.length+lb.length
def IT(key:Nat->Int)(it:Array Keyed)(la lb:List Nat)(st:SortSt)(s:Shared)(x:Nat):Option (Array Keyed)×Nat×Nat×Array Keyed×Nat×Nat->SortSt->Shared->Prop:=fun c f_ s'=>s=s'/\g_ st f_/\((∃ EB p q r ac bc,c=(some EB,p,q,r,ac,bc)/\GR key it la lb EB)\/∃ na nb o ac bc,c=(none,na,nb,o,ac,bc)/\HY key it la lb o na nb/\na+nb+x+2<=la.length+lb.length)
def KU(key:Nat->Int)(it:Array Keyed)(la lb:List Nat)(st:SortSt)(s:Shared)(x y:Nat):Option (Array Keyed)×Nat×Nat×Array Keyed×Nat×Nat->SortSt->Shared->Prop:=fun c f_ s'=>s=s'/\g_ st f_/\∃ na nb o ac bc,c=(none,na,nb,o,ac,bc)/\HY key it la lb o na nb/\na+nb+x+1+y<=la.length+lb.length
def Gj(key:Nat->Int)(it:Array Keyed)(la lb:List Nat)(st:SortSt)(s:Shared)(x:Nat):Option (Array Keyed)×Nat×Nat×Array Keyed×Nat×Nat×Nat->SortSt->Shared->Prop:=fun c f_ s'=>s=s'/\g_ st f_/\((∃ EB p q r g ac bc,c=(some EB,p,q,r,g,ac,bc)/\GR key it la lb EB)\/∃ na nb o g ac bc,c=(none,na,nb,o,g,ac,bc)/\HY key it la lb o na nb/\na+nb+x+2<=la.length+lb.length)
def JB(key:Nat->Int)(it:Array Keyed)(la lb:List Nat)(st:SortSt)(s:Shared)(x y:Nat):Option (Array Keyed)×Nat×Nat×Array Keyed×Nat×Nat×Nat->SortSt->Shared->Prop:=fun c f_ s'=>s=s'/\g_ st f_/\∃ na nb o g ac bc,c=(none,na,nb,o,g,ac,bc)/\HY key it la lb o na nb/\na+nb+x+2<=la.length+lb.length
variable{la lb:List Nat}{out r:Array Keyed}{p q g:Nat}
theorem LP.a{key:Nat->Int}{it:Array Keyed}{st f_:SortSt}{s:Shared}(h:g_ st f_)(m:GR key it la lb out):LP key it la lb st s (some out,p,q,r,g) f_ s:=⟨rfl,h,_,_,_,_,_,rfl,m⟩
variable{x na nb:Nat}{o:Array Keyed}
theorem LQ.k{key:Nat->Int}{it:Array Keyed}{st f_:SortSt}{s:Shared}(h:g_ st f_)(j:HY key it la lb o na nb)(e:na+nb+x+1<=la.length+lb.length):LQ key it la lb st s x (none,na,nb,o,g) f_ s:=⟨rfl,h,_,_,_,_,rfl,j,e⟩
variable{g2:Nat}
theorem IT.a{key:Nat->Int}{it:Array Keyed}{st f_:SortSt}{s:Shared}(h:g_ st f_)(m:GR key it la lb out):IT key it la lb st s x (some out,p,q,r,g,g2) f_ s:=⟨rfl,h,.inl ⟨_,_,_,_,_,_,rfl,m⟩⟩
theorem IT.b{key:Nat->Int}{it:Array Keyed}{st f_:SortSt}{s:Shared}(h:g_ st f_)(j:HY key it la lb o na nb)(e:na+nb+x+2<=la.length+lb.length):IT key it la lb st s x (none,na,nb,o,g,g2) f_ s:=⟨rfl,h,.inr ⟨_,_,_,_,_,rfl,j,e⟩⟩
variable{y:Nat}
theorem KU.k{key:Nat->Int}{it:Array Keyed}{st f_:SortSt}{s:Shared}(h:g_ st f_)(j:HY key it la lb o na nb)(e:na+nb+x+1+y<=la.length+lb.length):KU key it la lb st s x y (none,na,nb,o,g,g2) f_ s:=⟨rfl,h,_,_,_,_,_,rfl,j,e⟩
variable{g3:Nat}
theorem Gj.a{key:Nat->Int}{it:Array Keyed}{st f_:SortSt}{s:Shared}(h:g_ st f_)(m:GR key it la lb out):Gj key it la lb st s x (some out,p,q,r,g,g2,g3) f_ s:=⟨rfl,h,.inl ⟨_,_,_,_,_,_,_,rfl,m⟩⟩
theorem Gj.b{key:Nat->Int}{it:Array Keyed}{st f_:SortSt}{s:Shared}(h:g_ st f_)(j:HY key it la lb o na nb)(e:na+nb+x+2<=la.length+lb.length):Gj key it la lb st s x (none,na,nb,o,g,g2,g3) f_ s:=⟨rfl,h,.inr ⟨_,_,_,_,_,_,rfl,j,e⟩⟩
theorem JB.k{key:Nat->Int}{it:Array Keyed}{st f_:SortSt}{s:Shared}(h:g_ st f_)(j:HY key it la lb o na nb)(e:na+nb+x+2<=la.length+lb.length):JB key it la lb st s x y (none,na,nb,o,g,g2,g3) f_ s:=⟨rfl,h,_,_,_,_,_,_,rfl,j,e⟩
theorem yw(hc:b7 n key (kas_cmp prog w A κ it) s){la lb:List Nat}(Ji:∀ x∈la,x<n)(Jj:∀ x∈lb,x<n)(N1:Ey key la)(N2:Ey key lb)(h0:0<la.length)(h1:0<lb.length)(first:∀ x∈la,key (lb.getD 0 0)<=key x)(top:∀ x∈lb,key x<=key (la.getD (la.length - 1) 0)){st:SortSt}(o_:kindOf st=κ){Q:Array Keyed->SortSt->Shared->Prop}(h:∀ out f_,GR key it la lb out->g_ st f_->Q out f_ s):
  kasC (model prog w) A E (qz (la.map<|kas_item it).toArray (lb.map<|kas_item it).toArray) Q st s:=by
 unfold qz;with_unfolding_all refine ZW (Wk<|Yb ?_);dsimp only;generalize N3:(List.map (kas_item it) la).toArray.size=za;obtain rfl:la.length=za:=by rw[<- N3];simp
 generalize N4:(List.map (kas_item it) lb).toArray.size=zb;obtain rfl:lb.length=zb:=by rw[<- N4];simp
 refine ZW (aR (show la.length - 1<la.length by lia) ?_);try dsimp only
 have l1:=bS h0 (ZR _);rw[XG] at l1;have FY:[la.getD (la.length - 1) 0].Perm (la.drop (la.length - 1)++lb.drop lb.length):=by
  rw[l1,V3];exact ZF _
 have Kj:Ey key (la.take (la.length - 1)++[la.getD (la.length - 1) 0]):=by
  rw[<- l1,Zz];exact N1
 have Ki:Ey key (lb.take lb.length++[la.getD (la.length - 1) 0]):=bi.mpr ⟨by rw[XG];exact N2,Zw _ _,fun x hx y hy=>by
  rw[Z1.mp hy];exact top x (by rwa [XG] at hx)⟩
 have e0:#[kas_item it (la.getD (la.length - 1) 0)]=([la.getD (la.length - 1) 0].reverse.map<|kas_item it).toArray:=rfl;rw[e0];by_cases c1:la.length - 1=0
 ·rw[ZZ (bq c1)];exact Z0 (h _ _ (d7 FY Kj Ki<|.inl c1)<|g_.refl st)
 rw[ZY (Fz c1)];by_cases c2:lb.length=1
 ·rw[ZZ (bq c2)];exact Z0 (h _ _ (gD FY Kj Ki c2 first)<|g_.refl st)
 rw[ZY (Fz c2)];refine ZW (Xx ?_);refine ZW (b9 (Q':=LP key it la lb st s) (Y0 (bJ (LQ key it la lb st s) ?step _ 0 _ _ _ ?fin (LQ.k (g_.refl st) ⟨_,rfl,FY,Kj,Ki,by lia,by lia,by lia,by lia⟩ (by lia)))) ?after)
 case after=>
  rintro c f_ s' ⟨rfl,hs,EB,o,ia,ib,g,rfl,hm⟩;exact Z0 (h _ _ hm hs)
 case fin=>
  rintro c f_ s' ⟨rfl,hs,na,nb,o,g,rfl,⟨po,rfl,m⟩,hx⟩;have:=m.pa;have:=m.pb;lia
 case step=>
  rintro x c f_ s' ⟨rfl,hs,na,nb,o,g,rfl,hJ,hx⟩;dsimp only;refine ZW (b9 (Q':=IT key it la lb st s x)
   (Y0 (bJ (KU key it la lb st s x) ?Ik _ 0 _ _ _ ?Kk (KU.k hs hJ (by lia)))) ?Hi)
  case Kk=>
   rintro c f_ s' ⟨rfl,hs,na,nb,o,ac,bc,rfl,hJ,hx⟩;exact IT.b hs hJ (by lia)
  case Ik=>
   rintro y c f_ s' ⟨rfl,hs,na,nb,o,ac,bc,rfl,⟨po,rfl,m⟩,hx⟩;have m1:=m.pa;have m2:=m.pb;have m3:=m.qa;have m4:=m.qb;have FK:kindOf f_=κ:=hs.k.trans o_;dsimp only;refine ZW (aR (show nb - 1<lb.length by lia) ?_);refine ZW (aR (show na - 1<la.length by lia) ?_);refine ZW (iM hc (cz Jj (show nb - 1<lb.length by lia)) (cz Ji (show na - 1<la.length by lia)) FK ?_);dsimp only;by_cases hw:key (lb.getD (nb - 1) 0)<key (la.getD (na - 1) 0)
   ·rw[ZZ (by simpa using hw)];refine ZW (aR (show na - 1<la.length by lia) ?_);have b1:=fR (na - 1) (by lia) m3 m.perm m.sa m.sb (fun x hx y hy=>by
     rw[bS m1 m3,Z1] at hx;obtain⟨j,j1,j2,rfl⟩:=cC hy;have:=eT m.sb (show j<=nb - 1 by lia) (by lia) (by lia);rw[hx];lia)
    rw[bS m1 m3] at b1;rw[aN];try dsimp only
    by_cases hz:na - 1=0
    ·rw[ZZ (bq hz)];exact Z0 (IT.a hs<|d7 b1.1 b1.2.1 b1.2.2<|.inl hz)
    ·rw[ZY (Fz hz)];have J':HY key it la lb (([la.getD (na - 1) 0]++po).reverse.map<|kas_item it).toArray (na - 1) nb:=⟨_,rfl,b1.1,b1.2.1,b1.2.2,by lia,m2,by lia,m4⟩;by_cases hg:ac+1 >= g
     ·rw[ZZ hg];exact Z0 (IT.b hs J' (by lia))
     ·rw[ZY hg];exact Z0 (KU.k hs J' (by lia))
   ·rw[ZY (by simpa using hw)];refine ZW (aR (show nb - 1<lb.length by lia) ?_);have b1:=iP (nb - 1) (by lia) m4 m.perm m.sa m.sb (fun x hx y hy=>by
     rw[bS (by lia) m4,Z1] at hx;obtain⟨j,j1,j2,rfl⟩:=cC hy;have:=eT m.sa (show j<=na - 1 by lia) (by lia) (by lia);rw[hx];lia)
    rw[bS (by lia) m4] at b1;rw[aN];try dsimp only
    by_cases hz:nb - 1=1
    ·rw[ZZ (bq hz)];exact Z0 (IT.a hs<|gD b1.1 b1.2.1 b1.2.2 hz first)
    ·rw[ZY (Fz hz)];have J':HY key it la lb (([lb.getD (nb - 1) 0]++po).reverse.map<|kas_item it).toArray na (nb - 1):=⟨_,rfl,b1.1,b1.2.1,b1.2.2,m1,by lia,m3,by lia⟩;by_cases hg:bc+1 >= g
     ·rw[ZZ hg];exact Z0 (IT.b hs J' (by lia))
     ·rw[ZY hg];exact Z0 (KU.k hs J' (by lia))
  case Hi=>
   rintro c f_ s' ⟨rfl,hs,⟨EB,o,ia,ib,ac,bc,rfl,hm⟩ | ⟨na,nb,o,ac,bc,rfl,hJ,hx⟩⟩
   ·exact Z0 (LP.a hs hm)
   ·try dsimp only
    refine ZW (Wk<|Yb ?_);try dsimp only
    refine ZW (b9 (Q':=Gj key it la lb st s x)
     (Y0 (bJ (JB key it la lb st s x) ?Il _ 0 _ _ _ ?fin2 (JB.k hs hJ (by lia)))) ?Hj)
    case fin2=>
     rintro c f_ s' ⟨rfl,hs,na,nb,o,g,ac,bc,rfl,hJ,hx⟩;exact Gj.b hs hJ (by lia)
    case Hj=>
     rintro c f_ s' ⟨rfl,hs,⟨EB,o,ia,ib,g,ac,bc,rfl,hm⟩ | ⟨na,nb,o,g,ac,bc,rfl,hJ,hx⟩⟩
     ·exact Z0 (LP.a hs hm)
     ·try dsimp only
      refine ZW (Ys ?_);exact Z0 (LQ.k ⟨hs.k,hs.a,hs.p,hs.f⟩ hJ (by lia))
    case Il=>
     rintro y c f_ s' ⟨rfl,hs,na,nb,o,g,ac,bc,rfl,⟨po,rfl,m⟩,hx⟩;have m1:=m.pa;have m2:=m.pb;have m3:=m.qa;have m4:=m.qb;dsimp only;revert g;refine qy (fun g=>g - 1) ?ha ?_
     case ha=>exact fun g=>rfl
     intro g;refine ZW (Ys ?_);refine ZW (aR (show nb - 1<lb.length by lia) ?_);refine ZW (mh hc (cz Jj (show nb - 1<lb.length by lia)) Ji (base:=0) (m:=na) (hint:=na - 1) (by lia) (by lia) (fun i j a b c=>eT m.sa b (by lia) (by lia)) (by exact hs.k.trans o_) ?_);intro k M6 lo1 KR;dsimp only;by_cases LO:na - k > 0
     ·rw[ZZ LO];have p1:=fR k (by lia) m3 m.perm m.sa m.sb (fun x hx y hy=>by
       obtain⟨j,j0,j1,j2,rfl⟩:=mq hx;obtain⟨j',a1,a2,rfl⟩:=cC hy;have:=KR j (by lia) (by lia);have:=eT m.sb (show j'<=nb - 1 by lia) (by lia) (by lia);lia)
      by_cases hz:k=0
      ·rw[ZZ (bq hz)];exact Z0 (Gj.a ⟨hs.k,hs.a,hs.p,hs.f⟩ (by rw[bC];exact d7 p1.1 p1.2.1 p1.2.2 (.inl hz)))
      rw[ZY (Fz hz)];have Kl:∀ i,i<k->key (la.getD i 0)<=key (lb.getD (nb - 1) 0):=fun i a=>lo1 i (by lia) (by lia);refine ZW (aR (show nb - 1<lb.length by lia) ?_);have p2:=iP (nb - 1) (by lia) m4 p1.1 p1.2.1 p1.2.2 (fun x hx y hy=>by
       rw[bS (by lia) m4,Z1] at hx;obtain⟨j,j1,j2,rfl⟩:=cC hy;have:=Kl j j1;rw[hx];lia)
      rw[bS (by lia) m4] at p2;by_cases Hk:nb - 1=1
      ·rw[ZZ (bq Hk)];exact Z0 (Gj.a ⟨hs.k,hs.a,hs.p,hs.f⟩ (by rw[bC,aN];exact gD p2.1 p2.2.1 p2.2.2 Hk first))
      rw[ZY (Fz Hk)];refine ZW (aR (show k - 1<la.length by lia) ?_);refine ZW (iO hc (cz Ji (show k - 1<la.length by lia)) Jj (base:=0) (m:=nb - 1) (hint:=nb - 1 - 1) (by lia) (by lia) (fun i j a b c=>eT p2.2.2 b (by lia) (by lia)) (by exact hs.k.trans o_) ?_);intro k2 G7 Io Fr;dsimp only;by_cases HI:nb - 1 - k2 > 0
      ·rw[ZZ HI];have p3:=iP k2 (by lia) (show nb - 1<=lb.length by lia) p2.1 p2.2.1 p2.2.2 (fun x hx y hy=>by
        obtain⟨j,j0,j1,j2,rfl⟩:=mq hx;obtain⟨j',a1,a2,rfl⟩:=cC hy;have:=Fr j (by lia) (by lia);have:=eT p2.2.1 (show j'<=k - 1 by lia) (by lia) (by lia);lia)
       by_cases Hl:k2=1
       ·rw[ZZ (bq Hl)];exact Z0 (Gj.a ⟨hs.k,hs.a,hs.p,hs.f⟩ (by rw[bC,aN,bC];exact gD p3.1 p3.2.1 p3.2.2 Hl first))
       rw[ZY (Fz Hl)];by_cases Km:k2=0
       ·rw[ZZ (bq Km)];exact Z0 (Gj.a ⟨hs.k,hs.a,hs.p,hs.f⟩ (by rw[bC,aN,bC];exact d7 p3.1 p3.2.1 p3.2.2 (.inr Km)))
       rw[ZY (Fz Km)];have Hm:∀ i,i<k2->key (lb.getD i 0)<key (la.getD (k - 1) 0):=fun i a=>Io i (by lia) (by lia);refine ZW (aR (show k - 1<la.length by lia) ?_);have p4:=fR (k - 1) (by lia) (show k<=la.length by lia) p3.1 p3.2.1 p3.2.2 (fun x hx y hy=>by
        rw[bS (by lia) (show k<=la.length by lia),Z1] at hx;obtain⟨j,j1,j2,rfl⟩:=cC hy;have:=Hm j j1;rw[hx];lia)
       rw[bS (by lia) (show k<=la.length by lia)] at p4;by_cases Fi:k - 1=0
       ·rw[ZZ (bq Fi)];exact Z0 (Gj.a ⟨hs.k,hs.a,hs.p,hs.f⟩ (by rw[bC,aN,bC,aN];exact d7 p4.1 p4.2.1 p4.2.2 (.inl Fi)))
       rw[ZY (Fz Fi)];by_cases hb:(decide (na - k<7) && decide (nb - 1 - k2<7))=true
       ·rw[ZZ hb];exact Z0 (Gj.b ⟨hs.k,hs.a,hs.p,hs.f⟩ ⟨_,by rw[bC,aN,bC,aN],p4.1,p4.2.1,p4.2.2,by lia,by lia,by lia,by lia⟩ (by lia))
       ·rw[ZY hb];exact Z0 (JB.k ⟨hs.k,hs.a,hs.p,hs.f⟩ ⟨_,by rw[bC,aN,bC,aN],p4.1,p4.2.1,p4.2.2,by lia,by lia,by lia,by lia⟩ (by lia))
      ·rw[ZY HI];have p3:=p2;have Hm:∀ i,i<nb - 1->key (lb.getD i 0)<key (la.getD (k - 1) 0):=fun i a=>Io i (by lia) (by lia);refine ZW (aR (show k - 1<la.length by lia) ?_);have p4:=fR (k - 1) (by lia) (show k<=la.length by lia) p3.1 p3.2.1 p3.2.2 (fun x hx y hy=>by
        rw[bS (by lia) (show k<=la.length by lia),Z1] at hx;obtain⟨j,j1,j2,rfl⟩:=cC hy;have:=Hm j j1;rw[hx];lia)
       rw[bS (by lia) (show k<=la.length by lia)] at p4;by_cases Fi:k - 1=0
       ·rw[ZZ (bq Fi)];exact Z0 (Gj.a ⟨hs.k,hs.a,hs.p,hs.f⟩ (by rw[bC,aN,aN];exact d7 p4.1 p4.2.1 p4.2.2 (.inl Fi)))
       rw[ZY (Fz Fi)];by_cases hb:(decide (na - k<7) && decide (nb - 1 - k2<7))=true
       ·rw[ZZ hb];exact Z0 (Gj.b ⟨hs.k,hs.a,hs.p,hs.f⟩ ⟨_,by rw[bC,aN,aN],p4.1,p4.2.1,p4.2.2,by lia,by lia,by lia,by lia⟩ (by lia))
       ·rw[ZY hb];exact Z0 (JB.k ⟨hs.k,hs.a,hs.p,hs.f⟩ ⟨_,by rw[bC,aN,aN],p4.1,p4.2.1,p4.2.2,by lia,by lia,by lia,by lia⟩ (by lia))
     ·rw[ZY LO];have p1:po.Perm (la.drop na++lb.drop nb)/\Ey key (la.take na++po)/\Ey key (lb.take nb++po):=⟨m.perm,m.sa,m.sb⟩;have Kl:∀ i,i<na->key (la.getD i 0)<=key (lb.getD (nb - 1) 0):=fun i a=>lo1 i (by lia) (by lia);refine ZW (aR (show nb - 1<lb.length by lia) ?_);have p2:=iP (nb - 1) (by lia) m4 p1.1 p1.2.1 p1.2.2 (fun x hx y hy=>by
       rw[bS (by lia) m4,Z1] at hx;obtain⟨j,j1,j2,rfl⟩:=cC hy;have:=Kl j j1;rw[hx];lia)
      rw[bS (by lia) m4] at p2;by_cases Hk:nb - 1=1
      ·rw[ZZ (bq Hk)];exact Z0 (Gj.a ⟨hs.k,hs.a,hs.p,hs.f⟩ (by rw[aN];exact gD p2.1 p2.2.1 p2.2.2 Hk first))
      rw[ZY (Fz Hk)];refine ZW (aR (show na - 1<la.length by lia) ?_);refine ZW (iO hc (cz Ji (show na - 1<la.length by lia)) Jj (base:=0) (m:=nb - 1) (hint:=nb - 1 - 1) (by lia) (by lia) (fun i j a b c=>eT p2.2.2 b (by lia) (by lia)) (by exact hs.k.trans o_) ?_);intro k2 G7 Io Fr;dsimp only;by_cases HI:nb - 1 - k2 > 0
      ·rw[ZZ HI];have p3:=iP k2 (by lia) (show nb - 1<=lb.length by lia) p2.1 p2.2.1 p2.2.2 (fun x hx y hy=>by
        obtain⟨j,j0,j1,j2,rfl⟩:=mq hx;obtain⟨j',a1,a2,rfl⟩:=cC hy;have:=Fr j (by lia) (by lia);have:=eT p2.2.1 (show j'<=na - 1 by lia) (by lia) (by lia);lia)
       by_cases Hl:k2=1
       ·rw[ZZ (bq Hl)];exact Z0 (Gj.a ⟨hs.k,hs.a,hs.p,hs.f⟩ (by rw[aN,bC];exact gD p3.1 p3.2.1 p3.2.2 Hl first))
       rw[ZY (Fz Hl)];by_cases Km:k2=0
       ·rw[ZZ (bq Km)];exact Z0 (Gj.a ⟨hs.k,hs.a,hs.p,hs.f⟩ (by rw[aN,bC];exact d7 p3.1 p3.2.1 p3.2.2 (.inr Km)))
       rw[ZY (Fz Km)];have Hm:∀ i,i<k2->key (lb.getD i 0)<key (la.getD (na - 1) 0):=fun i a=>Io i (by lia) (by lia);refine ZW (aR (show na - 1<la.length by lia) ?_);have p4:=fR (na - 1) (by lia) (show na<=la.length by lia) p3.1 p3.2.1 p3.2.2 (fun x hx y hy=>by
        rw[bS (by lia) (show na<=la.length by lia),Z1] at hx;obtain⟨j,j1,j2,rfl⟩:=cC hy;have:=Hm j j1;rw[hx];lia)
       rw[bS (by lia) (show na<=la.length by lia)] at p4;by_cases Fi:na - 1=0
       ·rw[ZZ (bq Fi)];exact Z0 (Gj.a ⟨hs.k,hs.a,hs.p,hs.f⟩ (by rw[aN,bC,aN];exact d7 p4.1 p4.2.1 p4.2.2 (.inl Fi)))
       rw[ZY (Fz Fi)];by_cases hb:(decide (na - k<7) && decide (nb - 1 - k2<7))=true
       ·rw[ZZ hb];exact Z0 (Gj.b ⟨hs.k,hs.a,hs.p,hs.f⟩ ⟨_,by rw[aN,bC,aN],p4.1,p4.2.1,p4.2.2,by lia,by lia,by lia,by lia⟩ (by lia))
       ·rw[ZY hb];exact Z0 (JB.k ⟨hs.k,hs.a,hs.p,hs.f⟩ ⟨_,by rw[aN,bC,aN],p4.1,p4.2.1,p4.2.2,by lia,by lia,by lia,by lia⟩ (by lia))
      ·rw[ZY HI];have p3:=p2;have Hm:∀ i,i<nb - 1->key (lb.getD i 0)<key (la.getD (na - 1) 0):=fun i a=>Io i (by lia) (by lia);refine ZW (aR (show na - 1<la.length by lia) ?_);have p4:=fR (na - 1) (by lia) (show na<=la.length by lia) p3.1 p3.2.1 p3.2.2 (fun x hx y hy=>by
        rw[bS (by lia) (show na<=la.length by lia),Z1] at hx;obtain⟨j,j1,j2,rfl⟩:=cC hy;have:=Hm j j1;rw[hx];lia)
       rw[bS (by lia) (show na<=la.length by lia)] at p4;by_cases Fi:na - 1=0
       ·rw[ZZ (bq Fi)];exact Z0 (Gj.a ⟨hs.k,hs.a,hs.p,hs.f⟩ (by rw[aN,aN];exact d7 p4.1 p4.2.1 p4.2.2 (.inl Fi)))
       rw[ZY (Fz Fi)];by_cases hb:(decide (na - k<7) && decide (nb - 1 - k2<7))=true
       ·rw[ZZ hb];exact Z0 (Gj.b ⟨hs.k,hs.a,hs.p,hs.f⟩ ⟨_,by rw[aN,aN],p4.1,p4.2.1,p4.2.2,by lia,by lia,by lia,by lia⟩ (by lia))
       ·rw[ZY hb];exact Z0 (JB.k ⟨hs.k,hs.a,hs.p,hs.f⟩ ⟨_,by rw[aN,aN],p4.1,p4.2.1,p4.2.2,by lia,by lia,by lia,by lia⟩ (by lia))
end
section
variable{prog:Program}{w:World}{A:Around}{E:Value->Shared->Prop}{κ:SortKind}{it:Array Keyed}{key:Nat->Int}{n:Nat}{s:Shared}
theorem yx{σ:Type}{M:Model}{Q:PUnit->σ->Shared->Prop}{st m_:σ}{s:Shared}(h:Q ⟨⟩ m_ s):kasC M A E (set m_:StateT σ Sem PUnit) Q st s:=by
 unfold kasC;rw[StateT.run_set];exact Z4 h
theorem mw{α:Type}:∀ (l:List α) (arr:List α) (q j0 s0:Nat),q+l.length<=arr.length->q=s0+j0->((l.zipIdx j0).foldl (fun (a:Array α) (x:α×Nat)=>a.setIfInBounds (s0+x.2) x.1) arr.toArray)=(arr.take q++l++arr.drop (q+l.length)).toArray
 | [],arr,q,j0,s0,h,e=>by simp
 | x::l,arr,q,j0,s0,h,e=>by
  rw[ZD] at h;rw[V2,Yk];dsimp only;rw[<- e,Wh,mw l (arr.set q x) (q+1) (j0+1) s0 (by rw[W1];lia) (by lia)];congr 1;have e1:(arr.set q x).take (q+1)=arr.take q++[x]:=by
   apply Yc;intro i;rw[Yi,List.getElem?_append,Zm,Yi,WJ];by_cases h1:i<q
   ·rw[ZZ (by lia),ZY (by lia),ZZ (by lia),ZZ h1]
   ·by_cases h2:i=q
    ·subst h2;rw[ZZ (by lia),ZZ rfl,ZZ (by lia),ZY (by lia)];simp[show i - min i arr.length=0 by lia]
    ·rw[ZY (by lia),ZY (by lia)];rw[YA];rw[Yj];lia
  have e2:(arr.set q x).drop (q+1+l.length)=arr.drop (q+(l.length+1)):=by
   apply Yc;intro i;rw[YL,YL,WJ,ZY (by lia)];congr 1;lia
  rw[e1,e2,ZD,Z7,Z7,Z7];rfl
theorem qA{LA LB po:List Nat}{k m:Nat}(sA:Ey key LA)(sB:Ey key LB)(hb:0<LB.length)(ha:0<LA.length)(h1:∀ x∈LA.take k,key x<=key (LB.getD 0 0))(h4:∀ x∈LB.drop m,key (LA.getD (LA.length - 1) 0)<=key x)(hp:po.Perm (LA.drop k++LB.take m))(sp:Ey key po):Ey key (LA.take k++po++LB.drop m)/\(LA.take k++po++LB.drop m).Perm (LA++LB):=by
 have b0:∀ y∈LB,key (LB.getD 0 0)<=key y:=fun y hy=>by
  obtain⟨j,_,hj,rfl⟩:=b8 (i:=0) (l:=LB) (by rwa [Ye]);exact fO sB (Yl _) hj
 have aL:∀ x∈LA,key x<=key (LA.getD (LA.length - 1) 0):=fun x hx=>by
  obtain⟨j,_,hj,rfl⟩:=b8 (i:=0) (l:=LA) (by rwa [Ye]);exact fO sA (by lia) (by lia)
 have cA:Ey key (LA.take k++LA.drop k):=by rwa [Zz]
 have cB:Ey key (LB.take m++LB.drop m):=by rwa [Zz]
 have cA:=bi.mp cA;have cB:=bi.mp cB;refine⟨bi.mpr ⟨bi.mpr ⟨cA.1,sp,fun x hx y hy=>?_⟩,cB.2.1,fun x hx y hy=>?_⟩,?_⟩
 ·rcases Zx.mp (hp.mem_iff.mp hy) with hy | hy
  ·exact cA.2.2 x hx y hy
  ·exact Vs (h1 x hx) (b0 y<|YN hy)
 ·rcases Zx.mp hx with hx | hx
  ·exact Vs (h1 x hx) (b0 y<|YK hy)
  ·rcases Zx.mp (hp.mem_iff.mp hx) with hx | hx
   ·exact Vs (aL x<|YK hx) (h4 y hy)
   ·exact cB.2.2 x hx y hy
 ·refine (ZJ _<|ZL _ hp).trans ?_;rw[<- Z7,Zz,Z7,Zz]
theorem yy(hc:b7 n key (kas_cmp prog w A κ it) s){lp:List Nat}(JC:∀ x∈lp,x<n){i sa na nb pw pw2:Nat}{st:SortSt}(o_:PyProof.Rows.kindOf st=κ)(N5:arrOf st=(lp.map<|kas_item it).toArray)(hf:failedOf st=none)(hi:(pendingOf st)[i]?=some (sa,na,pw))(hj:(pendingOf st)[i+1]?=some (sa+na,nb,pw2))(ha:0<na)(hb:0<nb)(hz:sa+na+nb<=lp.length)(sA:Ey key ((lp.drop sa).take na))(sB:Ey key ((lp.drop<|sa+na).take nb)){Q:Bool->SortSt->Shared->Prop}(h:∀ mid f_,PyProof.Rows.kindOf f_=κ->failedOf f_=none->pendingOf f_=((pendingOf st).setIfInBounds i (sa,na+nb,pw)).eraseIdxIfInBounds (i+1)->mid.Perm ((lp.drop sa).take<|na+nb)->Ey key mid->
   arrOf f_=((lp.take sa++mid++lp.drop (sa+(na+nb))).map<|kas_item it).toArray->Q true f_ s):
  kasC (model prog w) A E (mergeAt' i) Q st s:=by
 have lA:((lp.drop sa).take na).length=na:=by rw[Zm,Zp];lia
 have lB:((lp.drop<|sa+na).take nb).length=nb:=by rw[Zm,Zp];lia
 have KW:∀ j,j<na->((lp.drop sa).take na).getD j 0=lp.getD (sa+j) 0:=fun j hj=>by simp[List.getD,Yi,YL,hj]
 have gtB:∀ j,j<nb->((lp.drop<|sa+na).take nb).getD j 0=lp.getD (sa+na+j) 0:=fun j hj=>by simp[List.getD,Yi,YL,hj]
 have eW:(lp.drop sa).take na++(lp.drop<|sa+na).take nb=(lp.drop sa).take (na+nb):=by rw[<- XJ,gC]
 have Jk:lp.take sa++(lp.drop sa).take (na+nb)++lp.drop (sa+(na+nb))=lp:=by rw[gC,Zz]
 have gA:∀ i j,sa<=i->i<=j->j<sa+na->key (lp.getD i 0)<=key (lp.getD j 0):=fun i j a b c=>by
  have:=fO sA (i:=i - sa) (j:=j - sa) (by lia) (by lia)
  rwa [KW _ (by lia),KW _ (by lia),show sa+(i - sa)=i by lia,show sa+(j - sa)=j by lia] at this
 have gB:∀ i j,sa+na<=i->i<=j->j<sa+na+nb->key (lp.getD i 0)<=key (lp.getD j 0):=fun i j a b c=>by
  have:=fO sB (i:=i - (sa+na)) (j:=j - (sa+na)) (by lia) (by lia)
  rwa [gtB _ (by lia),gtB _ (by lia),show sa+na+(i - (sa+na))=i by lia,show sa+na+(j - (sa+na))=j by lia] at this
 have mA:∀ x∈(lp.drop sa).take na,∃ j,sa<=j/\j<sa+na/\x=lp.getD j 0:=fun x hx=>by
  obtain⟨j,j0,j1,rfl⟩:=fN hx;exact⟨sa+j,by lia,by lia,rfl⟩
 have mB:∀ x∈(lp.drop<|sa+na).take nb,∃ j,sa+na<=j/\j<sa+na+nb/\x=lp.getD j 0:=fun x hx=>by
  obtain⟨j,j0,j1,rfl⟩:=fN hx;exact⟨sa+na+j,by lia,by lia,rfl⟩
 unfold mergeAt';with_unfolding_all refine ZW (Xx ?_);simp only[hi,hj,N5];refine ZW (yx ?_);refine ZW (aR (show sa+na<lp.length by lia) ?_);refine ZW (mh hc (cz JC (show sa+na<lp.length by lia)) JC (base:=sa) (m:=na) (hint:=0) (by lia) ha gA (by exact o_) ?_);intro k M6 lo1 KR;dsimp only;by_cases c1:na - k=0
 ·rw[ZZ (by simpa using c1)];refine Z0 (h _ _ (by exact o_) (by exact hf) rfl (ZF _) ?_ ?_)
  ·rw[<- eW];refine bi.mpr ⟨sA,sB,fun x hx y hy=>?_⟩;obtain⟨j,j1,j2,rfl⟩:=mA x hx;obtain⟨j',j3,j4,rfl⟩:=mB y hy;have:=lo1 j j1 (by lia);have:=gB (sa+na) j' (by lia) j3 j4;lia
  ·rw[Jk]
 rw[ZY (by simpa using c1)];rw[show sa+k+(na - k) - 1=sa+na - 1 by lia];refine ZW (aR (show sa+na - 1<lp.length by lia) ?_);refine ZW (iO hc (cz JC (show sa+na - 1<lp.length by lia)) JC (base:=sa+na) (m:=nb) (hint:=nb - 1) (by lia) (by lia) gB (by exact o_) ?_);intro FD G7 Io Fr;dsimp only;by_cases c2:FD=0
 ·rw[ZZ (by simpa using c2)];refine Z0 (h _ _ (by exact o_) (by exact hf) rfl (ZF _) ?_ ?_)
  ·rw[<- eW];refine bi.mpr ⟨sA,sB,fun x hx y hy=>?_⟩;obtain⟨j,j1,j2,rfl⟩:=mA x hx;obtain⟨j',j3,j4,rfl⟩:=mB y hy;have:=Fr j' (by lia) j4;have:=gA j (sa+na - 1) j1 (by lia) (by lia);lia
  ·rw[Jk]
 rw[ZY (by simpa using c2)];have eX:(lp.map<|kas_item it).toArray.extract (sa+k) (sa+na)=((((lp.drop sa).take na).drop k).map<|kas_item it).toArray:=by
  apply XB;simp only[List.extract_toArray,List.extract_eq_drop_take,Yr,YJ];rw[WL,XJ,show sa+na - (sa+k)=na - k by lia]
 have eY:(lp.map<|kas_item it).toArray.extract (sa+na) (sa+na+FD)=((((lp.drop<|sa+na).take nb).take FD).map<|kas_item it).toArray:=by
  apply XB;simp only[List.extract_toArray,List.extract_eq_drop_take,Yr,YJ];rw[Wi,W0 G7,show sa+na+FD - (sa+na)=FD by lia]
 rw[eX,eY];have h1:∀ x∈((lp.drop sa).take na).take k,key x<=key (((lp.drop<|sa+na).take nb).getD 0 0):=fun x hx=>by
  rw[gtB 0 hb];obtain⟨j,j0,j1,rfl⟩:=cC hx;rw[KW j (by lia)];exact lo1 _ (by lia) (by lia)
 have h4:∀ x∈((lp.drop<|sa+na).take nb).drop FD,key (((lp.drop sa).take na).getD (((lp.drop sa).take na).length - 1) 0)<=key x:=fun x hx=>by
  rw[lA,KW _ (by lia)];obtain⟨j,j0,j1,rfl⟩:=b8 hx;rw[gtB j (by lia),show sa+(na - 1)=sa+na - 1 by lia];exact Fr _ (by lia) (by lia)
 have f1:∀ x∈((lp.drop sa).take na).drop k,key ((((lp.drop<|sa+na).take nb).take FD).getD 0 0)<=key x:=fun x hx=>by
  rw[show (((lp.drop<|sa+na).take nb).take FD).getD 0 0=((lp.drop<|sa+na).take nb).getD 0 0 by simp only[List.getD,Yi,ZZ (show 0<FD by lia)],gtB 0 hb];obtain⟨j,j0,j1,rfl⟩:=b8 hx;rw[KW j (by lia)];have:=KR (sa+j) (by lia) (by lia);rw[VV];lia
 have l2:(((lp.drop sa).take na).drop k).length=na - k:=by rw[Zp,lA]
 have l3:(((lp.drop<|sa+na).take nb).take FD).length=FD:=by rw[Zm,lB];lia
 have f2:∀ x∈((lp.drop<|sa+na).take nb).take FD,key x<=key ((((lp.drop sa).take na).drop k).getD ((((lp.drop sa).take na).drop k).length - 1) 0):=fun x hx=>by
  rw[l2,show (((lp.drop sa).take na).drop k).getD (na - k - 1) 0=((lp.drop sa).take na).getD (na - 1) 0 by simp only[List.getD,YL,show k+(na - k - 1)=na - 1 by lia],KW _ (by lia),show sa+(na - 1)=sa+na - 1 by lia];obtain⟨j,j0,j1,rfl⟩:=cC hx;rw[gtB j (by lia)];have:=Io (sa+na+j) (by lia) (by lia);lia
 have u1:∀ x∈((lp.drop sa).take na).drop k,x<n:=fun x hx=>JC x (YK<|YN<|YK hx);have u2:∀ x∈((lp.drop<|sa+na).take nb).take FD,x<n:=fun x hx=>JC x (YK<|YN<|YN hx);by_cases c3:na - k<=FD
 ·rw[ZZ c3];refine ZW (yu hc u1 u2 (sA.sublist<|WK _ _) (sB.sublist<|XV _ _) (by lia) (by lia) f1 f2 (by exact o_) ?_);intro out f_ hM Jl;obtain⟨po,rfl,G8,Kn⟩:=hM;have Ip:=qA (key:=key) sA sB (by lia) (by lia) h1 h4 G8 Kn;refine ZW (Ys ?_);refine ZW (Xx ?_);refine Z0 ?_;have e:failedOf f_=none:=Jl.f.trans hf;show Q (failedOf f_).isNone _ s;rw[e];refine h (((lp.drop sa).take na).take k++po++((lp.drop<|sa+na).take nb).drop FD) _ (Jl.k.trans o_) (by first | rfl | exact e) (by exact Jl.p) (by rw[<- eW];exact Ip.2) Ip.1 ?_;have ea:arrOf f_=(lp.map<|kas_item it).toArray:=Jl.a;have pl:po.length=na - k+FD:=by rw[G8.length_eq,ZI,l2,l3]
  have N6:=mw (po.map<|kas_item it) (lp.map<|kas_item it) (sa+k) 0 (sa+k) (by rw[Z3,Z3,pl];lia) rfl;show List.foldl (fun a x=>a.setIfInBounds (sa+k+x.2) x.1) (arrOf f_) (po.map<|kas_item it).toArray.toList.zipIdx=_;rw[ea];refine N6.trans ?_;rw[Z3,pl,<- YJ,<- Yr,<- YI,<- YI];congr 2;have q1:lp.take (sa+k)=lp.take sa++((lp.drop sa).take na).take k:=by
   rw[Wi,W0 M6,gC]
  have q2:lp.drop (sa+k+(na - k+FD))=((lp.drop<|sa+na).take nb).drop FD++lp.drop (sa+(na+nb)):=by
   have:=mo (l:=lp.drop (sa+na)) (i:=FD) (j:=nb) G7 (by rw[Zp];lia);rw[XJ,XJ] at this;rw[show sa+k+(na - k+FD)=sa+na+FD by lia,this,show sa+na+nb=sa+(na+nb) by lia]
  rw[q1,q2];simp only[Z7]
 ·rw[ZY c3];refine ZW (yw hc u1 u2 (sA.sublist<|WK _ _) (sB.sublist<|XV _ _) (by lia) (by lia) f1 f2 (by exact o_) ?_);intro out f_ hM Jl;obtain⟨po,rfl,G8,Kn⟩:=hM;have Ip:=qA (key:=key) sA sB (by lia) (by lia) h1 h4 G8 Kn;refine ZW (Ys ?_);refine ZW (Xx ?_);refine Z0 ?_;have e:failedOf f_=none:=Jl.f.trans hf;show Q (failedOf f_).isNone _ s;rw[e];refine h (((lp.drop sa).take na).take k++po++((lp.drop<|sa+na).take nb).drop FD) _ (Jl.k.trans o_) (by first | rfl | exact e) (by exact Jl.p) (by rw[<- eW];exact Ip.2) Ip.1 ?_;have ea:arrOf f_=(lp.map<|kas_item it).toArray:=Jl.a;have pl:po.length=na - k+FD:=by rw[G8.length_eq,ZI,l2,l3]
  have N6:=mw (po.map<|kas_item it) (lp.map<|kas_item it) (sa+k) 0 (sa+k) (by rw[Z3,Z3,pl];lia) rfl;show List.foldl (fun a x=>a.setIfInBounds (sa+k+x.2) x.1) (arrOf f_) (po.map<|kas_item it).toArray.toList.zipIdx=_;rw[ea];refine N6.trans ?_;rw[Z3,pl,<- YJ,<- Yr,<- YI,<- YI];congr 2;have q1:lp.take (sa+k)=lp.take sa++((lp.drop sa).take na).take k:=by
   rw[Wi,W0 M6,gC]
  have q2:lp.drop (sa+k+(na - k+FD))=((lp.drop<|sa+na).take nb).drop FD++lp.drop (sa+(na+nb)):=by
   have:=mo (l:=lp.drop (sa+na)) (i:=FD) (j:=nb) G7 (by rw[Zp];lia);rw[XJ,XJ] at this;rw[show sa+k+(na - k+FD)=sa+na+FD by lia,this,show sa+na+nb=sa+(na+nb) by lia]
  rw[q1,q2];simp only[Z7]
end
section
variable{prog:Program}{w:World}{A:Around}{E:Value->Shared->Prop}{κ:SortKind}{it:Array Keyed}{key:Nat->Int}{n:Nat}{s:Shared}{pend:Array (Nat×Nat×Nat)}
structure Hd(κ:SortKind)(it:Array Keyed)(pend:Array (Nat×Nat×Nat))(st:SortSt)(p:Array Nat):Prop where
 k:PyProof.Rows.kindOf st=κ
 a:arrOf st=p.map (kas_item it)
 p:pendingOf st=pend
 f:failedOf st=none
theorem iQ(hc:b7 n key (kas_cmp prog w A κ it) s){p:Array Nat}(hp:Rg n p){i j:Nat}(hi:i<n)(hj:j<n){st:SortSt}(H:Hd κ it pend st p){Q:Option Bool->SortSt->Shared->Prop}(h:Q (some<|decide (x_ key p i<x_ key p j)) st s):
  kasC (model prog w) A E (ltAt' i j) Q st s:=by
 have el:∀ i,i<n->(p.map<|kas_item it)[i]?=some (kas_item it<|p.getD i 0):=fun i hi=>by
  have:i<p.size:=by rw[hp.size];exact hi
  simp[Array.getD,this]
 rw[ltAt'_eq];refine ZW (Xx ?_);rw[H.a];dsimp only;rw[elem'_eq,elem'_eq,el i hi,el j hj];refine ZW (Z0 ?_);refine ZW (Z0 ?_);exact iM hc (hp.lt hi) (hp.lt hj) H.k h
variable{p:Array Nat}
theorem yz{st:SortSt}(H:Hd κ it pend st p){i j:Nat}{Q:Unit->SortSt->Shared->Prop}(h:∀ f_,Hd κ it pend f_ (kas_rev p i j)->Q () f_ s):kasC (model prog w) A E (reverseSlice' i j) Q st s:=by
 rw[reverseSlice'_eq];refine Ys (h _ ⟨H.k,?_,H.p,H.f⟩);show mirror (arrOf st) i j ((j - i) / 2)=_;rw[H.a];exact kas_swaps_map (kas_item it) (fun k=>i+k) (fun k=>j - 1 - k) _ p
theorem yA{st:SortSt}(H:Hd κ it pend st p){i j:Nat}{Q:Unit->SortSt->Shared->Prop}(h:∀ f_,Hd κ it pend f_ (bubble p i<|i - j)->Q () f_ s):kasC (model prog w) A E (moveDown' i j) Q st s:=by
 rw[moveDown'_eq];refine Ys (h _ ⟨H.k,?_,H.p,H.f⟩);show bubble (arrOf st) i (i - j)=_;rw[H.a];exact kas_swaps_map (kas_item it) (fun k=>i - k) (fun k=>i - k - 1) _ p
theorem iR{σ β:Type}{M:Model}{f:Nat->β->StateT σ Sem (ForInStep β)}{Q:β->σ->Shared->Prop}(I:Nat->β->σ->Shared->Prop)(B:Nat)(step:∀ x c st s',x<B->I x c st s'->kasC M A E (f x c) (fun r m_ s2=>match r with | .yield c'=>I (x+1) c' m_ s2 | .done c'=>Q c' m_ s2) st s'):∀ (m a:Nat) (c:β) (st:σ) (s':Shared),a+m<=B->(∀ c st s',I (a+m) c st s'->Q c st s')->I a c st s'->
   kasC M A E (forIn (range' a m) c f) Q st s'
 | 0,a,c,st,s',hB,fin,h=>by
  show kasC M A E (forIn ([]:List Nat) c f) Q st s';exact kasC_nil (fin c st s' h)
 | m+1,a,c,st,s',hB,fin,h=>by
  show kasC M A E (forIn (a::range' (a+1) m) c f) Q st s';refine kasC_cons (YV (step a c st s' (by lia) h) (fun r s2 h'=>?_) fun _ _ e=>e);obtain⟨r,m_⟩:=r;cases r with
  | done c'=>exact h'
  | yield c'=>exact iR I B step m (a+1) c' m_ s2 (by lia) (fun c st s' hi=>fin c st s' (by rw[show a+(m+1)=a+1+m by lia];exact hi)) h'
theorem yB(hc:b7 n key (kas_cmp prog w A κ it) s)(inj:∀ i j,i<n->j<n->key i=key j->i=j){p:Array Nat}(hp:Rg n p){lo EY:Nat}(h1:1<=EY)(hz:lo+EY<=n){st:SortSt}(H:Hd κ it pend st p){Q:Option Nat->SortSt->Shared->Prop}(h:∀ m p' f_,1<=m->m<=EY->Rg n p'->Hd κ it pend f_ p'->(∀ i,i<lo->p'[i]?=p[i]?)->(∀ j,lo+1<=j->j<lo+m->x_ key p' (j - 1)<=x_ key p' j)->Q (some m) f_ s):
  kasC (model prog w) A E (countRun' lo EY) Q st s:=by
 unfold countRun';have asc:∀ (q:Array Nat) (p_:SortSt) (a:Nat),Rg n q->Hd κ it pend p_ q->1<=a->a<=EY->(∀ j,lo+1<=j->j<lo+a->x_ key q (j - 1)<=x_ key q j)->
   kasC (model prog w) A E (forIn [a:EY] ((none:Option (Option Nat)),a) fun x c=>do
    let r <- ltAt' (lo+c.2) (lo+c.2 - 1)
    match r with
    | some Jm=>if Jm=true then pure (ForInStep.done (none,c.2)) else pure (ForInStep.yield (none,c.2+1))
    | x=>pure<|ForInStep.done (some none,c.2))
    (fun c f_ s'=>s=s'/\p_=f_/\∃ m,c=(none,m)/\a<=m/\m<=EY/\(∀ j,lo+1<=j->j<lo+m->x_ key q (j - 1)<=x_ key q j)/\(m=EY\/x_ key q (lo+m)<x_ key q (lo+m - 1))) p_ s:=fun q p_ a hq H1 a1 a2 a3=>by
  refine Y0 (iR (fun x c f_ s'=>s=s'/\p_=f_/\c=(none,x)/\a<=x/\∀ j,lo+1<=j->j<lo+x->x_ key q (j - 1)<=x_ key q j) EY ?_ _ _ _ _ _ (by lia) ?_ ⟨rfl,rfl,rfl,ZR _,a3⟩)
  ·rintro x c f_ s' hx ⟨rfl,rfl,rfl,x1,x2⟩;dsimp only;refine ZW (iQ hc hq (by lia) (by lia) H1 ?_);dsimp only;by_cases hk:x_ key q (lo+x)<x_ key q (lo+x - 1)
   ·rw[ZZ (by simpa using hk)];exact Z0 ⟨rfl,rfl,x,rfl,x1,by lia,x2,.inr hk⟩
   ·rw[ZY (by simpa using hk)];refine Z0 ⟨rfl,rfl,rfl,by lia,fun j j1 j2=>?_⟩;by_cases e:j=lo+x
    ·subst e;lia
    ·exact x2 j j1 (by lia)
  ·rintro c f_ s' ⟨rfl,rfl,rfl,x1,x2⟩;rw[show a+(EY - a)=EY by lia] at x2 ⊢;exact⟨rfl,rfl,EY,rfl,by lia,ZR _,x2,.inl rfl⟩
 with_unfolding_all refine ZW (b9 (asc p st 1 hp H (ZR _) h1 fun j a b=>by lia) ?_);rintro c f_ s' ⟨rfl,rfl,m,rfl,m1,m2,m3,m4⟩;dsimp only;by_cases e:m=EY
 ·rw[ZZ (by simpa using e)];exact Z0 (h m p _ m1 m2 hp H (fun _ _=>rfl) m3)
 rw[ZY (by simpa using e)];have N7:x_ key p (lo+m)<x_ key p (lo+m - 1):=m4.resolve_left e;by_cases e1:m > 1
 ·rw[ZZ e1];refine ZW (iQ hc hp (by lia) (by lia) H ?_);dsimp only;have:∀ d,1<=d->d<m->x_ key p lo<x_ key p (lo+d):=fun d=>by
   induction d with
   | zero=>intro x;lia
   | succ d ih=>
    intro _ hd;have a:=m3 (lo+(d+1)) (by lia) (by lia);rw[show lo+(d+1) - 1=lo+d by lia] at a;have b:=hp.ne inj (show lo+d<lo+(d+1) by lia) (by lia);by_cases z:d=0
    ·subst z;rw[VV] at a b;lia
    ·have:=ih (by lia) (by lia);lia
  have hr:=this (m - 1) (by lia) (by lia);rw[show lo+(m - 1)=lo+m - 1 by lia] at hr;rw[ZZ (by simpa using hr)];exact Z0 (h m p _ m1 m2 hp H (fun _ _=>rfl) m3)
 rw[ZY e1];obtain rfl:m=1:=by lia
 refine ZW (Wk<|Yb ?_);refine ZW (b9 (Q':=fun c f_ s'=>s=s'/\st=f_/\∃ m,c=(none,m,0)/\2<=m/\m<=EY/\∀ j,lo+1<=j->j<lo+m->x_ key p j<x_ key p (j - 1))
  (Y0 (iR (fun x c f_ s'=>s=s'/\st=f_/\c=(none,x,0)/\2<=x/\∀ j,lo+1<=j->j<lo+x->x_ key p j<x_ key p (j - 1)) EY ?d1 _ _ _ _ _ (by lia) ?d2 ⟨rfl,rfl,rfl,ZR _,fun j j1 j2=>by
   obtain rfl:j=lo+1:=by lia
   exact N7⟩)) ?d3)
 case d1=>
  rintro x c f_ s' hx ⟨rfl,rfl,rfl,x1,x2⟩;dsimp only;refine ZW (iQ hc hp (by lia) (by lia) H ?_);dsimp only;by_cases hk:x_ key p (lo+x)<x_ key p (lo+x - 1)
  ·rw[ZZ (by simpa using hk),ZY (by lia)];refine Z0 ⟨rfl,rfl,rfl,by lia,fun j j1 j2=>?_⟩;by_cases e:j=lo+x
   ·subst e;exact hk
   ·exact x2 j j1 (by lia)
  ·rw[ZY (by simpa using hk)];refine ZW (iQ hc hp (by lia) (by lia) H ?_);dsimp only;have b:=hp.ne inj (show lo+x - 1<lo+x by lia) (by lia);rw[ZZ (by rw[WM];lia)];exact Z0 ⟨rfl,rfl,x,rfl,x1,by lia,x2⟩
 case d2=>
  rintro c f_ s' ⟨rfl,rfl,rfl,x1,x2⟩;rw[show 1+1+(EY - (1+1))=EY by lia] at x2 ⊢;exact⟨rfl,rfl,EY,rfl,by lia,ZR _,x2⟩
 case d3=>
  rintro c f_ s' ⟨rfl,rfl,k,rfl,k1,k2,k3⟩;dsimp only;rw[ZY (by lia)];refine ZW (yz H ?_);intro m_ H2;have Jh:=hp.rev lo (lo+k);have g:∀ i,(kas_rev p lo<|lo+k)[i]?=if lo<=i/\i<lo+k then p[lo+(lo+k) - 1 - i]? else p[i]?:=fun i=>by
   unfold kas_rev;rw[getElem?_mirror_all (by rw[hp.size];lia)]
  have ky:∀ i,lo<=i->i<lo+k->x_ key (kas_rev p lo<|lo+k) i=x_ key p (lo+(lo+k) - 1 - i):=fun i a b=>gz (by rw[g,ZZ ⟨a,b⟩]);refine ZW (b9 (asc (kas_rev p lo<|lo+k) m_ k Jh H2 (by lia) k2 fun j j1 j2=>?_) ?_)
  ·rw[ky _ (by lia) (by lia),ky _ (by lia) (by lia)];have:=k3 (lo+(lo+k) - 1 - (j - 1)) (by lia) (by lia);rw[show lo+(lo+k) - 1 - (j - 1) - 1=lo+(lo+k) - 1 - j by lia] at this;lia
  ·rintro c f_ s' ⟨rfl,rfl,m',rfl,q1,q2,q3,q4⟩;dsimp only;exact Z0 (h m' _ _ (by lia) q2 Jh H2 (fun i hi=>by rw[g,ZY (by lia)]) q3)
end
section
variable{prog:Program}{w:World}{A:Around}{E:Value->Shared->Prop}{κ:SortKind}{it:Array Keyed}{key:Nat->Int}{n:Nat}{s:Shared}{pend:Array (Nat×Nat×Nat)}
def ci(key:Nat->Int)(p:Array Nat)(lo m:Nat):Prop:=∀ i j,lo<=i->i<=j->j<lo+m->x_ key p i<=x_ key p j
theorem qB{p:Array Nat}{lo m:Nat}(h:∀ j,lo+1<=j->j<lo+m->x_ key p (j - 1)<=x_ key p j):ci key p lo m:=by
 intro i j hi GF hj;obtain⟨d,rfl⟩:∃ d,j=i+d:=⟨j - i,by lia⟩;clear GF;induction d with
 | zero=>exact X4 _
 | succ d ih=>
  have a:=ih (by lia);have b:=h (i+(d+1)) (by lia) hj;rw[show i+(d+1) - 1=i+d by lia] at b;lia
theorem yC(hc:b7 n key (kas_cmp prog w A κ it) s){p:Array Nat}(hp:Rg n p){lo m JD:Nat}(hz:lo+m<=n)(h1:1<=JD)(hm:JD<=m)(up:ci key p lo JD){st:SortSt}(H:Hd κ it pend st p){Q:Bool->SortSt->Shared->Prop}(h:∀ p' f_,Rg n p'->Hd κ it pend f_ p'->(∀ i,i<lo->p'[i]?=p[i]?)->ci key p' lo m->Q true f_ s):
  kasC (model prog w) A E (binarySort' lo m JD) Q st s:=by
 rw[binarySort'_eq];rw[show max JD 1=JD by lia];with_unfolding_all refine ZW (b9 (Q':=fun c f_ s'=>s=s'/\c=(none,())/\∃ q,Rg n q/\Hd κ it pend f_ q/\(∀ i,i<lo->q[i]?=p[i]?)/\ci key q lo m)
  (Y0 (iR (fun x c f_ s'=>s=s'/\c=(none,())/\1<=x/\∃ q,Rg n q/\Hd κ it pend f_ q/\(∀ i,i<lo->q[i]?=p[i]?)/\ci key q lo x) m ?step _ _ _ _ _ (by lia) ?fin ⟨rfl,rfl,h1,p,hp,H,fun _ _=>rfl,up⟩)) ?after)
 case after=>
  rintro c f_ s' ⟨rfl,rfl,q,q1,q2,q3,q4⟩;exact Z0 (h q _ q1 q2 q3 q4)
 case fin=>
  rintro c f_ s' ⟨rfl,rfl,x1,q,q1,q2,q3,q4⟩;rw[show JD+(m - JD)=m by lia] at q4;exact⟨rfl,rfl,q,q1,q2,q3,q4⟩
 case step=>
  rintro k c f_ s' hk ⟨rfl,rfl,k1,q,hq,H',fr,up⟩;dsimp only;have L0:∀ i,lo<=i->i<lo+0->x_ key q i<=x_ key q (lo+k):=fun i a b=>by lia
  have R0:∀ i,lo+k<=i->i<lo+k->x_ key q (lo+k)<=x_ key q i:=fun i a b=>by lia
  refine ZW (b9 (Q':=fun c m_ s'=>s=s'/\f_=m_/\∃ l r,c=(none,l,r)/\l<=k/\(∀ i,lo<=i->i<lo+l->x_ key q i<=x_ key q (lo+k))/\(∀ i,lo+l<=i->i<lo+k->x_ key q (lo+k)<=x_ key q i))
   (Y0 (iR (fun x c m_ s'=>s=s'/\f_=m_/\∃ l r,c=(none,l,r)/\l<=r/\r<=k/\r - l<=k - x/\(∀ i,lo<=i->i<lo+l->x_ key q i<=x_ key q (lo+k))/\(∀ i,lo+r<=i->i<lo+k->x_ key q (lo+k)<=x_ key q i)) k ?s2 _ _ _ _ _ (by lia) ?f2 ⟨rfl,rfl,0,k,rfl,by lia,by lia,by lia,L0,R0⟩)) ?a2)
  case f2=>
   rintro c m_ s' ⟨rfl,rfl,l,r,rfl,b1,b2,b3,b4,b5⟩;exact⟨rfl,rfl,l,r,rfl,by lia,b4,fun i x y=>b5 i (by lia) y⟩
  case s2=>
   rintro x c m_ s' hx ⟨rfl,rfl,l,r,rfl,b1,b2,b3,b4,b5⟩;dsimp only;by_cases e:l >= r
   ·rw[ZZ e];exact Z0 ⟨rfl,rfl,l,r,rfl,by lia,b4,fun i x y=>b5 i (by lia) y⟩
   rw[ZY e];have m1:l<=(l+r) / 2:=by lia
   have m2:(l+r) / 2<r:=by lia
   have m3:(l+r) / 2 - l<=k - (x+1):=by lia
   have m4:r - ((l+r) / 2+1)<=k - (x+1):=by lia
   generalize (l+r) / 2=mid at m1 m2 m3 m4 ⊢;refine ZW (iQ hc hq (by lia) (by lia) H' ?_);dsimp only;by_cases G7:x_ key q (lo+k)<x_ key q (lo+mid)
   ·rw[ZZ (by simpa using G7)];refine Z0 ⟨rfl,rfl,l,mid,rfl,m1,by lia,m3,b4,fun i x y=>?_⟩;have:=up (lo+mid) i (by lia) x y;lia
   ·rw[ZY (by simpa using G7)];refine Z0 ⟨rfl,rfl,mid+1,r,rfl,by lia,b2,m4,fun i x y=>?_,b5⟩;have:=up i (lo+mid) x (by lia) (by lia);lia
  case a2=>
   rintro c m_ s' ⟨rfl,rfl,l,r,rfl,b1,b4,b5⟩;dsimp only;refine ZW (yA H' ?_);intro E1 H3;have g:∀ i,(bubble q (lo+k)<|lo+k - (lo+l))[i]?=if i=lo+l then q[lo+k]? else if lo+l<i/\i<=lo+k then q[i - 1]? else q[i]?:=fun i=>by
    have:=getElem?_bubble (xs:=q) (src:=lo+k) (by rw[hq.size];lia) (lo+k - (lo+l)) (by lia) i
    rwa [show lo+k - (lo+k - (lo+l))=lo+l by lia] at this
   have ky:∀ i,x_ key (bubble q (lo+k)<|lo+k - (lo+l)) i=if i=lo+l then x_ key q (lo+k) else if lo+l<i/\i<=lo+k then x_ key q (i - 1) else x_ key q i:=fun i=>by
    have g:=g i;by_cases e:i=lo+l
    ·rw[ZZ e] at g ⊢;exact gz g
    ·rw[ZY e] at g ⊢;by_cases e2:lo+l<i/\i<=lo+k
     ·rw[ZZ e2] at g ⊢;exact gz g
     ·rw[ZY e2] at g ⊢;exact gz g
   refine Z0 ⟨rfl,rfl,by lia,_,hq.QR _ _,H3,fun i hi=>by rw[g,ZY (by lia),ZY (by lia)];exact fr i hi,qB fun j x y=>?_⟩;rw[ky,ky];by_cases c1:j - 1=lo+l
   ·rw[ZZ c1,ZY (by lia),ZZ (by lia)];exact b5 (j - 1) (by lia) (by lia)
   ·rw[ZY c1];by_cases c2:j=lo+l
    ·rw[ZZ c2,ZY (by lia)];exact b4 (j - 1) (by lia) (by lia)
    ·rw[ZY c2];by_cases c3:lo+l<j - 1
     ·rw[ZZ (by lia),ZZ (by lia)];exact up _ _ (by lia) (by lia) (by lia)
     ·rw[ZY (by lia),ZY (by lia)];exact up _ _ (by lia) (by lia) (by lia)
end
section
variable{prog:Program}{w:World}{A:Around}{E:Value->Shared->Prop}{κ:SortKind}{it:Array Keyed}{key:Nat->Int}{n:Nat}{s:Shared}{pend:Array (Nat×Nat×Nat)}
def aM(key:Nat->Int)(p:Array Nat):Nat->List (Nat×Nat×Nat)->Nat->Prop
 | a,[],b=>a=b
 | a,(x,l,_)::t,b=>x=a/\0<l/\ci key p x l/\aM key p (a+l) t b
variable{p:Array Nat}
theorem aM.le:∀ {t:List (Nat×Nat×Nat)}{a b:Nat},aM key p a t b->a+t.length<=b
 | [],a,b,h=>by rw[show b=a from h.symm];exact ZR _
 | (x,l,_)::t,a,b,h=>by
  have:=h.2.2.2.le;have:=h.2.1;rw[ZD];lia
theorem aM.congr{q:Array Nat}:∀ {t:List (Nat×Nat×Nat)}{a b:Nat},aM key p a t b->(∀ i,a<=i->i<b->x_ key q i=x_ key p i)->aM key q a t b
 | [],a,b,h,_=>h
 | (x,l,_)::t,a,b,h,g=>by
  have:=h.2.2.2.le;obtain⟨rfl,h2,h3,h4⟩:=h;refine⟨rfl,h2,fun i j hi GF hj=>?_,h4.congr fun i a b=>g i (by lia) b⟩;rw[g i hi (by lia),g j (by lia) (by lia)];exact h3 i j hi GF hj
theorem aM.app{p:Array Nat}:∀ {t u:List (Nat×Nat×Nat)}{a b:Nat},aM key p a (t++u) b↔∃ c,aM key p a t c/\aM key p c u b
 | [],u,a,b=>⟨fun h=>⟨a,rfl,h⟩,fun ⟨c,e,h⟩=>by rw[show a=c from e];exact h⟩
 | (x,l,z)::t,u,a,b=>by
  show (x=a/\0<l/\ci key p x l/\aM key p (a+l) (t++u) b)↔_;rw[aM.app];constructor
  ·rintro⟨h1,h2,h3,c,h4,h5⟩;exact⟨c,⟨h1,h2,h3,h4⟩,h5⟩
  ·rintro⟨c,⟨h1,h2,h3,h4⟩,h5⟩;exact⟨h1,h2,h3,c,h4,h5⟩
theorem yD{α:Type}{l:List α}{i:Nat}(h:i+1<l.length):∃ l1 x y l2,l=l1++x::y::l2/\l1.length=i:=by
 refine⟨l.take i,l[i]'(by lia),l[i+1],l.drop<|i+2,?_,by rw[Zm];lia⟩;have e1:=Za (l:=l) (i:=i) (by lia);have e2:=Za (l:=l) (i:=i+1) h;rw[<- e2,<- e1,Zz]
theorem M7(l:List Nat)(i:Nat):x_ key l.toArray i=key (l.getD i 0):=by unfold x_;rw[d6]
theorem my(hc:b7 n key (kas_cmp prog w A κ it) s){p:Array Nat}(hp:Rg n p){st:SortSt}(H:Hd κ it pend st p){lo i:Nat}(hi:i+1<pend.size)(R:aM key p 0 pend.toList lo)(QG:lo<=n){Q:Bool->SortSt->Shared->Prop}(h:∀ FA p' f_,Rg n p'->Hd κ it FA f_ p'->FA.size+1=pend.size->aM key p' 0 FA.toList lo->(∀ i,lo<=i->x_ key p' i=x_ key p i)->Q true f_ s):kasC (model prog w) A E (mergeAt' i) Q st s:=by
 obtain⟨l1,⟨sa,na,pw⟩,⟨sb,nb,pw2⟩,l2,e,rfl⟩:=yD (l:=pend.toList) (i:=i) (by simpa using hi);rw[e] at R;obtain⟨c,R1,rfl,QY,A1,rfl,QZ,A2,R2⟩:=aM.app.mp R;have b2:=R2.le;have pe:pend=(l1++(sa,na,pw)::(sa+na,nb,pw2)::l2).toArray:=by rw[<- e]
 have Q0:p.size=n:=hp.size;have Q1:∀ x∈p.toList,x<n:=fun x hx=>Zh.mp (hp.mem_iff.mp hx);have gk:∀ i,x_ key p i=key (p.toList.getD i 0):=fun i=>M7 p.toList i;have pl:p.toList.length=n:=by rw[ZO,Q0]
 have JE:∀ a m,a+m<=n->ci key p a m->Ey key ((p.toList.drop a).take m):=fun a m hz h=>by
  refine YW.mpr fun i j hi hj GF=>?_;have Gb:=hi;have JF:=hj;rw[Zm,Zp,pl] at Gb JF;have:=h (a+i) (a+j) (by lia) (by lia) (by lia);rw[gk,gk] at this;rw[WP,XT,WP,XT];rw[Z6,Z6,ZV (by lia),ZV (by lia)] at this;exact this
 refine yy hc (lp:=p.toList) Q1 (i:=l1.length) (sa:=sa) (na:=na) (nb:=nb) (pw:=pw) (pw2:=pw2) H.k (by rw[H.a];apply XB;simp) H.f (by rw[H.p,pe];simp) (by rw[H.p,pe];simp) QY QZ (by lia) (JE _ _ (by lia) A1) (JE _ _ (by lia) A2) ?_;intro mid f_ k1 f1 p1 m1 m2 a1;have ml:mid.length=na+nb:=by rw[m1.length_eq,Zm,Zp,pl];lia
 have Jk:p.toList.take sa++(p.toList.drop sa).take (na+nb)++p.toList.drop (sa+(na+nb))=p.toList:=by rw[gC,Zz]
 have Jh:Rg n (p.toList.take sa++mid++p.toList.drop (sa+(na+nb))).toArray:=by
  show (p.toList.take sa++mid++p.toList.drop (sa+(na+nb))).Perm (range n);refine List.Perm.trans (ZJ _<|ZL _ m1) ?_;rw[Jk];exact hp
 have tl:(p.toList.take sa).length=sa:=by rw[Zm,pl];lia
 have Q2:∀ i,i<sa->x_ key (p.toList.take sa++mid++p.toList.drop (sa+(na+nb))).toArray i=x_ key p i:=fun i hi=>by
  rw[M7,gk];congr 1;rw[Z6,Z6,Z7,Zb (by lia),Yi,ZZ hi]
 have PK:∀ i,sa+(na+nb)<=i->x_ key (p.toList.take sa++mid++p.toList.drop (sa+(na+nb))).toArray i=x_ key p i:=fun i hi=>by
  rw[M7,gk];congr 1;rw[Z6,Z6,Zf (by rw[ZI];lia),YL,ZI,tl,ml];congr 2;lia
 have PL:∀ i,sa<=i->i<sa+(na+nb)->x_ key (p.toList.take sa++mid++p.toList.drop (sa+(na+nb))).toArray i=key (mid.getD (i - sa) 0):=fun i h1 h2=>by
  rw[M7];congr 1;rw[Z6,Z6,Z7,Zf (by lia),tl,Zb (by lia)]
 have Q3:((l1++(sa,na,pw)::(sa+na,nb,pw2)::l2).toArray.setIfInBounds l1.length (sa,na+nb,pw)).eraseIdxIfInBounds (l1.length+1)=(l1++(sa,na+nb,pw)::l2).toArray:=by
  rw[Wh,List.set_append_right _ _<|ZR _,Nat.sub_self,List.set_cons_zero];rw[List.eraseIdxIfInBounds_toArray,List.eraseIdx_append_of_length_le (by lia),show l1.length+1 - l1.length=1 by lia];rfl
 refine h ((l1++(sa,na+nb,pw)::l2).toArray) _ f_ Jh ⟨k1,by rw[a1];apply XB;simp,by rw[p1,H.p,pe,Q3],f1⟩ (by rw[pe];simp;lia) ?_ (fun i hi=>PK i (by lia));have Q4:aM key p (sa+(na+nb)) l2 lo:=by rw[<- Wx];exact R2
 refine aM.app.mpr ⟨sa,R1.congr fun i _ b=>Q2 i b,rfl,by lia,fun i j h1 h2 h3=>?_,Q4.congr fun i a b=>PK i a⟩
 ·rw[PL i h1 (by lia),PL j (by lia) h3];exact fO m2 (by lia) (by lia)
end
section
variable{prog:Program}{w:World}{A:Around}{E:Value->Shared->Prop}{κ:SortKind}{it:Array Keyed}{key:Nat->Int}{n:Nat}{s:Shared}{pend:Array (Nat×Nat×Nat)}
variable{p:Array Nat}
theorem aM.same:∀ {t u:List (Nat×Nat×Nat)}{a b:Nat},aM key p a t b->(t.map fun x=>(x.1,x.2.1))=(u.map fun x=>(x.1,x.2.1))->aM key p a u b
 | [],[],a,b,h,_=>h
 | [],_::_,a,b,h,e=>by cases e
 | _::_,[],a,b,h,e=>by cases e
 | (x,l,z)::t,(x',l',z')::u,a,b,h,e=>by
  rw[ZH,ZH] at e;injection e with e1 e2;injection e1 with e3 e4;dsimp only at e3 e4;subst e3;subst e4;exact⟨h.1,h.2.1,h.2.2.1,h.2.2.2.same e2⟩
theorem qC(xs:Array (Nat×Nat×Nat))(i z:Nat):(xs.toList.map fun x=>(x.1,x.2.1))=((xs.modify i fun x=>(x.1,x.2.1,z)).toList.map fun x=>(x.1,x.2.1)):=by
 apply Yc;intro j;rw[Zy,Zy,ZC,ZC,Array.getElem?_modify];split
 ·rw[Option.map_map];rfl
 ·rfl
theorem ci.congr{q:Array Nat}{lo m:Nat}(h:ci key p lo m)(g:∀ i,lo<=i->x_ key q i=x_ key p i):ci key q lo m:=fun i j a b c=>by
 rw[g i a,g j (by lia)];exact h i j a b c
variable{Q:Unit->SortSt->Shared->Prop}
theorem yE(hc:b7 n key (kas_cmp prog w A κ it) s)(inj:∀ i j,i<n->j<n->key i=key j->i=j)(h2:2<=n)(hG:∀ p' f_,Rg n p'->Up key p' n->arrOf f_=p'.map (kas_item it)->failedOf f_=none->Q () f_ s):kasC (model prog w) A E sortRuns' Q (kas_st κ it (range n).toArray) s:=by
 rw[sortRuns'_eq];refine ZW (Xx ?_);dsimp only;have hsz:(arrOf<|kas_st κ it (range n).toArray).size=n:=by
  show ((range n).toArray.map<|kas_item it).size=n;simp
 simp only[hsz];refine ZW (b9 (Q':=fun c f_ s'=>s=s'/\c=(none,n)/\∃ pend p,Rg n p/\Hd κ it pend f_ p/\aM key p 0 pend.toList n)
  (Y0 (bJ (fun x c f_ s'=>s=s'/\∃ lo pend p,c=(none,lo)/\x<=lo/\lo<=n/\Rg n p/\Hd κ it pend f_ p/\aM key p 0 pend.toList lo) ?step _ 0 _ _ _ ?fin ⟨rfl,0,#[],(range n).toArray,rfl,ZR _,by lia,ZF _,⟨rfl,rfl,rfl,rfl⟩,rfl⟩)) ?after)
 case fin=>
  rintro c f_ s' ⟨rfl,lo,pend,p,rfl,a,b,d,e,f⟩;have:lo=n:=by lia
  subst this;exact⟨rfl,rfl,pend,p,d,e,f⟩
 case after=>
  rintro c f_ s' ⟨rfl,rfl,pend,p,hp,H,R⟩;dsimp only;refine ZW (b9 (Q':=fun c f_ s'=>s=s'/\c=(none,())/\∃ p,Rg n p/\Up key p n/\arrOf f_=p.map (kas_item it)/\failedOf f_=none)
   (Y0 (bJ (fun x c f_ s'=>s=s'/\c=(none,())/\∃ pend p,Rg n p/\Hd κ it pend f_ p/\aM key p 0 pend.toList n/\pend.size+x<=n) ?s2 _ 0 _ _ _ ?f2 ⟨rfl,rfl,pend,p,hp,H,R,by have:=R.le;rw[ZO] at this;lia⟩)) ?a2)
  case a2=>
   rintro c f_ s' ⟨rfl,rfl,p,a,b,c,d⟩;exact Z0 (hG p _ a b c d)
  case f2=>
   rintro c f_ s' ⟨rfl,rfl,pend,p,hp,H,R,hx⟩;have e:pend.toList=[]:=YC (by rw[ZO];lia);rw[e] at R;have:0=n:=R;lia
  case s2=>
   rintro x c f_ s' ⟨rfl,rfl,pend,p,hp,H,R,hx⟩;refine ZW (Xx ?_);by_cases e:(pendingOf f_).size<=1
   ·rw[ZZ e];refine Z0 ⟨rfl,rfl,p,hp,?_,H.a,H.f⟩;rw[H.p] at e;have el:pend.toList.length<=1:=by rw[ZO];exact e
    match hl:pend.toList,el with
    | [],_=>
     rw[hl] at R;have:0=n:=R;lia
    | [(x,l,z)],_=>
     rw[hl] at R;obtain⟨rfl,_,a3,a4⟩:=R;have:0+l=n:=a4;exact fun i j GF hj=>a3 i j (Yl _) GF (by lia)
    | _::_::_,h=>exact absurd h (by simp)
   ·rw[ZY e];rw[H.p] at e;have Q5:∀ idx,idx+1<pend.size->kasC (model prog w) A E (mergeAt' idx) (fun b m_ s2=>b=true/\s=s2/\∃ pend p,Rg n p/\Hd κ it pend m_ p/\aM key p 0 pend.toList n/\pend.size+(x+1)<=n) f_ s:=fun idx N8=>
     my hc hp H N8 R (ZR _) fun FA p' LR a b c d fr=>⟨rfl,rfl,FA,p',a,b,d,by lia⟩;refine ZW (b9 (Q5 _ ?_) ?_)
    ·rw[H.p];have:∀ (c:Prop) [Decidable c],(if c then pend.size - 2 - 1 else pend.size - 2)+1<pend.size:=fun c _=>by split<;>lia
     exact this _
    ·rintro b m_ s2 ⟨rfl,rfl,hh⟩;rw[ZY (by decide)];exact Z0 ⟨rfl,rfl,hh⟩
 case step=>
  rintro x c f_ s' ⟨rfl,lo,pend,p,rfl,x1,x2,hp,H,R⟩;dsimp only;by_cases c1:lo >= n
  ·rw[ZZ c1];have:lo=n:=by lia
   subst this;exact Z0 ⟨rfl,rfl,pend,p,hp,H,R⟩
  rw[ZY c1];refine ZW (yB hc inj hp (by lia) (by lia) H ?_);intro m p1 p_ m1 m2 KY H1 Q6 A1;have A1:=qB A1;have R1:aM key p1 0 pend.toList lo:=R.congr fun i _ b=>gz (Q6 i b);dsimp only;by_cases c2:m<minRun' n n 0
  ·rw[ZZ c2];refine ZW (Wk<|Yb ?_);have mm:m<=min (n - lo) (minRun' n n 0):=by lia
   have mn:min (n - lo) (minRun' n n 0)<=n - lo:=by lia
   generalize min (n - lo) (minRun' n n 0)=Gu at mm mn ⊢;refine ZW (yC hc KY (by lia) m1 mm A1 H1 ?_);intro p2 m_ Jf H2 Q7 A2;have R2:aM key p2 0 pend.toList lo:=R1.congr fun i _ b=>gz (Q7 i b);rw[ZY (by decide)];refine ZW (Xx ?_);rcases Q8:(pendingOf m_).back? with _ | ⟨s1,n1,z1⟩
   ·dsimp only;refine ZW (Ys ?_);refine Z0 ⟨rfl,lo+Gu,pend.push (lo,Gu,0),p2,rfl,by lia,by lia,Jf,⟨H2.k,H2.a,by show (pendingOf m_).push _=_;rw[H2.p],H2.f⟩,?_⟩;rw[Xq];exact aM.app.mpr ⟨lo,R2,rfl,by lia,A2,rfl⟩
   ·dsimp only;refine ZW (b9 (Q':=fun c f_ s'=>s=s'/\c=(none,())/\∃ pend p,Rg n p/\Hd κ it pend f_ p/\aM key p 0 pend.toList lo/\ci key p lo (Gu))
     (Y0<|bJ (fun x c f_ s'=>s=s'/\c=(none,())/\∃ pend p,Rg n p/\Hd κ it pend f_ p/\aM key p 0 pend.toList lo/\ci key p lo (Gu)) ?_ _ 0 _ _ _ (fun _ _ _ z=>z) ⟨rfl,rfl,pend,p2,Jf,H2,R2,A2⟩) ?_)
    ·rintro y c f_ s' ⟨rfl,rfl,pend,p,hp,H,R,A⟩;refine ZW (Xx ?_);by_cases e:(pendingOf f_).size > 1
     ·rw[ZZ e];rcases hg:(pendingOf f_)[(pendingOf f_).size - 2]? with _ | ⟨a,b,LS⟩
      ·dsimp only;exact Z0 ⟨rfl,rfl,pend,p,hp,H,R,A⟩
      ·dsimp only;split
       ·exact Z0 ⟨rfl,rfl,pend,p,hp,H,R,A⟩
       ·refine ZW (my hc hp H (by rw[H.p] at e ⊢;lia) R (by lia) ?_);intro FA p' LR a b c d fr;rw[ZY (by decide)];exact Z0 ⟨rfl,rfl,FA,p',a,b,d,A.congr fr⟩
     ·rw[ZY e];dsimp only;exact Z0 ⟨rfl,rfl,pend,p,hp,H,R,A⟩
    ·rintro c f_ s' ⟨rfl,rfl,pend,p,hp,H,R,A⟩;dsimp only;refine ZW (Ys ?_);refine ZW (Ys ?_);refine Z0 ⟨rfl,lo+Gu,(pend.modify (pend.size - 1) _).push (lo,Gu,0),p,rfl,by lia,by lia,hp,⟨H.k,H.a,by show ((pendingOf f_).modify ((pendingOf f_).size - 1) _).push _=_;rw[H.p],H.f⟩,?_⟩;rw[Xq];exact aM.app.mpr ⟨lo,R.same<|qC _ _ _,rfl,by lia,A,rfl⟩
  ·rw[ZY c2];have Jf:=KY;have H2:=H1;have R2:=R1;have A2:=A1;revert Jf H2 R2 A2;generalize p1=p2;generalize p_=m_;intro Jf H2 R2 A2;refine ZW (Xx ?_);rcases Q8:(pendingOf m_).back? with _ | ⟨s1,n1,z1⟩
   ·dsimp only;refine ZW (Ys ?_);refine Z0 ⟨rfl,lo+m,pend.push (lo,m,0),p2,rfl,by lia,by lia,Jf,⟨H2.k,H2.a,by show (pendingOf m_).push _=_;rw[H2.p],H2.f⟩,?_⟩;rw[Xq];exact aM.app.mpr ⟨lo,R2,rfl,by lia,A2,rfl⟩
   ·dsimp only;refine ZW (b9 (Q':=fun c f_ s'=>s=s'/\c=(none,())/\∃ pend p,Rg n p/\Hd κ it pend f_ p/\aM key p 0 pend.toList lo/\ci key p lo (m))
     (Y0<|bJ (fun x c f_ s'=>s=s'/\c=(none,())/\∃ pend p,Rg n p/\Hd κ it pend f_ p/\aM key p 0 pend.toList lo/\ci key p lo (m)) ?_ _ 0 _ _ _ (fun _ _ _ z=>z) ⟨rfl,rfl,pend,p2,Jf,H2,R2,A2⟩) ?_)
    ·rintro y c f_ s' ⟨rfl,rfl,pend,p,hp,H,R,A⟩;refine ZW (Xx ?_);by_cases e:(pendingOf f_).size > 1
     ·rw[ZZ e];rcases hg:(pendingOf f_)[(pendingOf f_).size - 2]? with _ | ⟨a,b,LS⟩
      ·dsimp only;exact Z0 ⟨rfl,rfl,pend,p,hp,H,R,A⟩
      ·dsimp only;split
       ·exact Z0 ⟨rfl,rfl,pend,p,hp,H,R,A⟩
       ·refine ZW (my hc hp H (by rw[H.p] at e ⊢;lia) R (by lia) ?_);intro FA p' LR a b c d fr;rw[ZY (by decide)];exact Z0 ⟨rfl,rfl,FA,p',a,b,d,A.congr fr⟩
     ·rw[ZY e];dsimp only;exact Z0 ⟨rfl,rfl,pend,p,hp,H,R,A⟩
    ·rintro c f_ s' ⟨rfl,rfl,pend,p,hp,H,R,A⟩;dsimp only;refine ZW (Ys ?_);refine ZW (Ys ?_);refine Z0 ⟨rfl,lo+m,(pend.modify (pend.size - 1) _).push (lo,m,0),p,rfl,by lia,by lia,hp,⟨H.k,H.a,by show ((pendingOf f_).modify ((pendingOf f_).size - 1) _).push _=_;rw[H.p],H.f⟩,?_⟩;rw[Xq];exact aM.app.mpr ⟨lo,R.same<|qC _ _ _,rfl,by lia,A,rfl⟩
theorem yF(hc:b7 n key (kas_cmp prog w A κ it) s)(inj:∀ i j,i<n->j<n->key i=key j->i=j)(h2:2<=n)(up:n<1001\/∀ j,1<=j->j<n->key (j - 1)<=key j)(hG:∀ p' f_,Rg n p'->Up key p' n->arrOf f_=p'.map (kas_item it)->failedOf f_=none->Q () f_ s):kasC (model prog w) A E sortRuns' Q (kas_st κ it (range n).toArray) s:=yE hc inj h2 hG
end
end L2
namespace L2
open PySem PySem.Spec PyProof.Rows
section
variable{X:Cx}{pins:List (Addr×Obj)}{σ:St}{H:Hp}{s:Shared}{h':Heap}
variable{ch:List Addr}{t':Nat}
theorem Inv.LU{T:Addr}{xs:List V}(I:Inv X pins σ H s)(FP:∀ b∈ch,dq X pins H b)(k:∀ b o,b∉ch->s.heap.get? b=some o->h'.get? b=some o)(hT:s.heap.objs.size<=T)(new:bg X.prog X.w (upd H T<|.tup xs) h' T (.tup xs)):Inv X pins σ (upd H T<|.tup xs) { s with heap:=h',toks:=t' }:=by
 have fT:H T=none:=I.i_.fresh hT;have nT:∀ b o,s.heap.get? b=some o->b≠T:=fun b o e=>ZB (Zv (ZP e) hT);have nc:∀ b u,H b=some u->b∉ch:=fun b u e z=>by rw[(FP b z).1] at e;cases e
 refine I.step (g':=s.gens) (d':=s.drawn) (ch:=ch) (fun b hb=>⟨(FP b hb).2.2.2.1,(FP b hb).2.1,(FP b hb).2.2.2.2.1,(FP b hb).2.2.2.2.2⟩) (fun b o _ _ hc e _=>k b o hc e) (fun b o _ _ hc e _=>⟨o.slots,k b o hc e⟩)
  (fun b o _ e n=>by rw[aG (nT b o e)];exact n) (fun b o hc e=>⟨o,k b o hc e⟩) (fun b ys e=>by rw[aG (bZ e fT)];exact e) (fun b o u e=>by rw[aG (bZ e fT)];exact e)
  (fun b ps e=>⟨#[],by rw[aG (bZ e fT),e];simp⟩) (fun m hm=>?_) (fun a o e=>?_) I.bare
 ·obtain⟨o,es,ep,ho,r⟩:=hm;exact⟨o,es,ep,k _ o (fun z=>(FP _ z).2.1 rfl) ho,r⟩
 ·by_cases ha:a=T
  ·subst ha;rw[bI] at e;cases e;exact new
  ·rw[aG ha] at e;refine (I.i_ a o e).Ge (fun b u hb q=>k b u ?_ q) (fun b q=>by rw[aG (bZ q fT)];exact q) fun b ys q=>by rw[aG (bZ q fT)];exact q
   rcases hb with z | z
   ·rw[z];exact nc a o e
   ·exact nc b _ z
theorem Inv.LV(I:Inv X pins σ H s)(FP:∀ b∈ch,dq X pins H b)(k:∀ b o,b∉ch->s.heap.get? b=some o->h'.get? b=some o):Inv X pins σ H { s with heap:=h',toks:=t' }:=by
 have nc:∀ b u,H b=some u->b∉ch:=fun b u e z=>by rw[(FP b z).1] at e;cases e
 refine I.step (g':=s.gens) (d':=s.drawn) (ch:=ch) (fun b hb=>⟨(FP b hb).2.2.2.1,(FP b hb).2.1,(FP b hb).2.2.2.2.1,(FP b hb).2.2.2.2.2⟩) (fun b o _ _ hc e _=>k b o hc e) (fun b o _ _ hc e _=>⟨o.slots,k b o hc e⟩)
  (fun b o _ _ n=>n) (fun b o hc e=>⟨o,k b o hc e⟩) (fun b ys e=>e) (fun b o u e=>e) (fun b ps e=>⟨#[],by rw[e];simp⟩) (fun m hm=>?_) (fun a o e=>?_) I.bare
 ·obtain⟨o,es,ep,ho,r⟩:=hm;exact⟨o,es,ep,k _ o (fun z=>(FP _ z).2.1 rfl) ho,r⟩
 ·refine (I.i_ a o e).Ge (fun b u hb q=>k b u ?_ q) (fun b q=>q) fun b ys q=>q;rcases hb with z | z
  ·rw[z];exact nc a o e
  ·exact nc b _ z
end
section
variable{prog:Program}{w:World}{A:Around}{E:Value->Shared->Prop}{s:Shared}
variable{it t:Addr}{i:Nat}{items:Array Value}{Q:Value->Shared->Prop}
theorem mz{x:Value}(hit:s.heap.IsTupleIter it t i)(ht:s.heap.IsTuple t items)(hx:items[i]?=some x)(q:∀ h',h'.IsTupleIter it t (i+1)->Heap.SameBut it s.heap h'->Q x { s with heap:=h' }):wpAny (model prog w) A (Builtin.SmallTypes.nextOf<|.ref it) Q E s:=by
 obtain⟨o,f1,f2,f3⟩:=id hit;obtain⟨ol,g1,_,nl,g2⟩:=ht;unfold Builtin.SmallTypes.nextOf;refine Z9 (Zc (name:=Str.ofString "__next__") hit.typeIs X1<|Zd X1 hit.typeIs F.entry_tuple_iterator_next ?z<|Wq _)
 case z=>
  show wpAny _ _ (field (.ref it) 0 >>= _) _ _ s;refine Z9 (YD f1 f3 (x:=.ref t) rfl ?_);show wpAny _ _ (if (Value.ref t == Value.none)=true then _ else _) _ _ s;rw[ZY (show ¬ (Value.ref t == Value.none)=true by intro z;cases z)];show wpAny _ _ (field (.ref it) 1 >>= _) _ _ s;refine Z9 (YD f1 f3 (x:=.int i 0) rfl ?_);show wpAny _ _ (seqItems? (.ref t) >>= _) _ _ s;refine Z9 (YU g1 g2 ?_);simp only[Yq,hx];refine Z9 (XL f1 f3 (by simp) (Z4 ⟨x,rfl,Z4 (q _ ⟨_,YB _ f1<|WF<|X2 f3 _,(V9 ..).trans f2,by rw[X2 f3];simp[rawInt]⟩<|YT ..)⟩))
theorem qD(hh:A.handled=none)(hit:s.heap.IsTupleIter it t i)(ht:s.heap.IsTuple t items)(hx:items[i]?=none)(q:∀ h' e,Heap.ExtBut it s.heap h'->(∃ o,h'.get? e=some o/\o.cls=.type "StopIteration")->E (.ref e) { s with heap:=h' }):wpAny (model prog w) A (Builtin.SmallTypes.nextOf<|.ref it) Q E s:=by
 obtain⟨o,f1,f2,f3⟩:=id hit;obtain⟨ol,g1,_,nl,g2⟩:=ht;unfold Builtin.SmallTypes.nextOf;refine Z9 (Zc (name:=Str.ofString "__next__") hit.typeIs X1<|Zd X1 hit.typeIs F.entry_tuple_iterator_next ?z<|Wq _)
 case z=>
  show wpAny _ _ (field (.ref it) 0 >>= _) _ _ s;refine Z9 (YD f1 f3 (x:=.ref t) rfl ?_);show wpAny _ _ (if (Value.ref t == Value.none)=true then _ else _) _ _ s;rw[ZY (show ¬ (Value.ref t == Value.none)=true by intro z;cases z)];show wpAny _ _ (field (.ref it) 1 >>= _) _ _ s;refine Z9 (YD f1 f3 (x:=.int i 0) rfl ?_);show wpAny _ _ (seqItems? (.ref t) >>= _) _ _ s;refine Z9 (YU g1 g2 ?_);simp only[Yq,hx];refine Z9 (Yb (Z9 (XL f1 f3 (by simp) ?_)));show wpAny _ _ (newExc (.type "StopIteration") [] >>= _) _ _ _;apply Z9;simp only[newExc,newTuple];refine Z9 (Zj (Z9 (m:=firstArgMember _ _) (VB (a:=Value.none) (by first | rfl | (simp only[firstArgMember];rfl)) (Zj ?_ (by size_fits)))) (by size_fits));simp only[raiseNew];apply Z9;apply wpAny_handled;rw[show A.in1.handled=none from hh];refine Z9 (m:=pure _) (Z4<|wpAny_throw ?_);exact q _ _ (((YT ..).extBut.push _).push _) ⟨_,ZN _ rfl,rfl⟩
end
section
variable{prog:Program}{w:World}{A:Around}{E:Value->Shared->Prop}{s:Shared}
variable{h h':Heap}{a:Addr}
theorem cQ{t:Addr}{i:Nat}(x:h.IsTupleIter a t i)(k:∀ o,h.get? a=some o->h'.get? a=some o):h'.IsTupleIter a t i:=let ⟨o,e,r⟩:=x;⟨o,k o e,r⟩
variable{xs:Array Value}
theorem gE(x:h.IsTuple a xs)(k:∀ o,h.get? a=some o->h'.get? a=some o):h'.IsTuple a xs:=let ⟨o,e,r⟩:=x;⟨o,k o e,r⟩
variable{a b:Value}{k1 k2:Nat}{ys:Array Value}
theorem yG{z TI TO i1 i2 l1 l2:Addr}{x y:Value}{Q:Value->Shared->Prop}(D:ZipApart z TI TO i1 i2 l1 l2)(hz:IsZip s.heap z TI TO .none)(N9:IsPair s.heap TI (.ref i1) (.ref i2))(N_:IsPair s.heap TO a b)(h1:s.heap.IsTupleIter i1 l1 k1)(h2:s.heap.IsTupleIter i2 l2 k2)(Ko:s.heap.IsTuple l1 xs)(Ih:s.heap.IsTuple l2 ys)(hx:xs[k1]?=some x)(hy:ys[k2]?=some y)(hQ:∀ h',IsZip h' z TI TO (rawInt s.heap.objs.size)->IsPair h' TO x y->h'.IsTupleIter i1 l1 (k1+1)->h'.IsTupleIter i2 l2 (k2+1)->IsPair h' s.heap.objs.size x y->
   (∀ c o,c≠z->c≠TO->c≠i1->c≠i2->s.heap.get? c=some o->h'.get? c=some o)->Q (.ref s.heap.objs.size) { s with heap:=h' }):
  wpAny (model prog w) A (Builtin.«zip.__next__» ⟨[.ref z],[]⟩) (fun fin s'=>∃ v,fin=.done (.ret v)/\Q v s') E s:=by
 show wpAny _ _ (field (.ref z) 2 >>= _) _ _ _;refine Z9 (YD hz rfl (x:=.bool false) rfl ?_);show wpAny _ _ (field (.ref z) 3 >>= _) _ _ _;refine Z9 (YD hz rfl (x:=.ref TI) rfl<|Z9<|YU N9 rfl ?_);show wpAny _ _ (Builtin.SmallTypes.ownedTupleIsFree (.ref z) >>= _) _ _ _;apply Z9;unfold Builtin.SmallTypes.ownedTupleIsFree;refine Z9 (YD hz rfl (x:=.none) rfl<|Z4 ?_);simp only[Xh];refine Z9 (Yb (Z9 (YD hz rfl (x:=.ref TO) rfl (Z9 (X0 hz (by simp) fun j1 z1 s1=>?_)))));replace z1:IsZip j1 z TI TO .ellipsis:=z1;apply Z9;simp only[V2,List.zipIdx_nil,VJ,List.forIn_nil];refine Z9 (Z9<|V8 ?_);show wpAny _ _ (Builtin.SmallTypes.nextOf (.ref i1) >>= _) _ _ _;refine Z9 (mz (s:={ s with heap:=j1 }) (cQ h1 fun o e=>s1.extBut _ o D.i1z e) (gE Ko fun o e=>s1.extBut _ o D.l1z e) hx fun j2 a2 s2=>Z4 ?_);have o2:IsPair j2 TO a b:=s2.extBut _ _ D.TOi1 (s1.extBut _ _ D.TOz N_);refine Z9 (YU (s:={ s with heap:=j2 }) o2 rfl<|Z9<|Wu (s:={ s with heap:=j2 }) o2 fun j3 o3 s3=>?_);replace o3:IsPair j3 TO x b:=o3;refine Z9 (Vy<|Z4<|Z9<|Z9<|V8 ?_);show wpAny _ _ (Builtin.SmallTypes.nextOf (.ref i2) >>= _) _ _ _;refine Z9 (mz (s:={ s with heap:=j3 }) (cQ h2 fun o e=>s3.extBut _ o D.TOi2.symm<|s2.extBut _ o D.i12.symm<|s1.extBut _ o D.i2z e) (gE Ih fun o e=>s3.extBut _ o D.l2TO<|s2.extBut _ o D.l2i1<|s1.extBut _ o D.l2z e) hy fun j4 a4 s4=>Z4 ?_);have o4:IsPair j4 TO x b:=s4.extBut _ _ D.TOi2 o3;refine Z9 (YU (s:={ s with heap:=j4 }) o4 rfl<|Z9<|Wu (s:={ s with heap:=j4 }) o4 fun j5 o5 s5=>?_);replace o5:IsPair j5 TO x y:=o5;refine Z9 (Vy<|Z4<|Z4<|Z9<|YU (s:={ s with heap:=j5 }) o5 rfl<|Z9<|wpAny_newTuple ?_);have hsz:j5.objs.size=s.heap.objs.size:=by rw[s5.1,s4.1,s3.1,s2.1,s1.1]
 have z5:IsZip j5 z TI TO .ellipsis:=s5.extBut _ _ D.TOz.symm (s4.extBut _ _ D.i2z.symm<|s3.extBut _ _ D.TOz.symm<|s2.extBut _ _ D.i1z.symm z1);have k5:∀ c o,c≠z->c≠TO->c≠i1->c≠i2->s.heap.get? c=some o->j5.get? c=some o:=fun c o c1 c2 c3 c4 e=>s5.extBut _ _ c2 (s4.extBut _ _ c4<|s3.extBut _ _ c2<|s2.extBut _ _ c3<|s1.extBut _ _ c1 e);have b1:j5.IsTupleIter i1 l1 (k1+1):=cQ a2 fun o e=>s5.extBut _ o D.TOi1.symm (s4.extBut _ o D.i12<|s3.extBut _ o D.TOi1.symm e);have b2:j5.IsTupleIter i2 l2 (k2+1):=cQ a4 fun o e=>s5.extBut _ o D.TOi2.symm e;have PM:z<j5.objs.size:=ZP z5;show wpAny _ _ (Builtin.SmallTypes.ownedTupleHandOut (.ref z) (.ref j5.objs.size) >>= _) _ _ _;apply Z9;unfold Builtin.SmallTypes.ownedTupleHandOut;have z6:IsZip (j5.push { cls:=.type "tuple",data:=.seq #[x,y] }) z TI TO .ellipsis:=Z5 _ z5;refine Z9 (X0 z6 (by simp) fun j7 z7 s7=>?_);replace z7:IsZip j7 z TI TO (rawInt j5.objs.size):=z7;refine X0 z7 (by simp) fun j8 z8 s8=>?_;replace z8:IsZip j8 z TI TO (rawInt j5.objs.size):=z8;have up:∀ c o,c≠z->j5.get? c=some o->j8.get? c=some o:=fun c o c1 e=>s8.extBut _ _ c1 (s7.extBut _ _ c1<|Z5 _ e);have t8:IsPair j8 j5.objs.size x y:=s8.extBut _ _ (Xi PM) (s7.extBut _ _ (Xi PM)<|ZN _ rfl);rw[hsz] at z8 t8;refine Z4 ⟨_,rfl,?_⟩;show Q (.ref j5.objs.size) _;rw[hsz];exact hQ j8 z8 (up _ _ D.TOz o5) (cQ b1 fun o e=>up _ o D.i1z e) (cQ b2 fun o e=>up _ o D.i2z e) t8 fun c o c1 c2 c3 c4 e=>up c o c1 (k5 c o c1 c2 c3 c4 e)
theorem yH{z TI TO i1 i2 l1 l2:Addr}{Q:PySem.Fin->Shared->Prop}(hh:A.handled=none)(D:ZipApart z TI TO i1 i2 l1 l2)(hz:IsZip s.heap z TI TO .none)(N9:IsPair s.heap TI (.ref i1) (.ref i2))(N_:IsPair s.heap TO a b)(h1:s.heap.IsTupleIter i1 l1 k1)(h2:s.heap.IsTupleIter i2 l2 k2)(Ko:s.heap.IsTuple l1 xs)(Ih:s.heap.IsTuple l2 ys)(GD:xs[k1]?=none\/ys[k2]?=none)(hE:∀ h' e,(∀ c o,c≠z->c≠TO->c≠i1->c≠i2->s.heap.get? c=some o->h'.get? c=some o)->(∃ o,h'.get? e=some o/\o.cls=.type "StopIteration")->E (.ref e) { s with heap:=h' }):
  wpAny (model prog w) A (Builtin.«zip.__next__» ⟨[.ref z],[]⟩) Q E s:=by
 show wpAny _ _ (field (.ref z) 2 >>= _) _ _ _;refine Z9 (YD hz rfl (x:=.bool false) rfl ?_);show wpAny _ _ (field (.ref z) 3 >>= _) _ _ _;refine Z9 (YD hz rfl (x:=.ref TI) rfl<|Z9<|YU N9 rfl ?_);show wpAny _ _ (Builtin.SmallTypes.ownedTupleIsFree (.ref z) >>= _) _ _ _;apply Z9;unfold Builtin.SmallTypes.ownedTupleIsFree;refine Z9 (YD hz rfl (x:=.none) rfl<|Z4 ?_);simp only[Xh];refine Z9 (Yb (Z9 (YD hz rfl (x:=.ref TO) rfl (Z9 (X0 hz (by simp) fun j1 z1 s1=>?_)))));replace z1:IsZip j1 z TI TO .ellipsis:=z1;apply Z9;simp only[V2,List.zipIdx_nil,VJ,List.forIn_nil];refine Z9 (Z9<|V8 ?_);show wpAny _ _ (Builtin.SmallTypes.nextOf (.ref i1) >>= _) _ _ _;cases hx:xs[k1]? with
 | none=>
  refine Z9 (qD (s:={ s with heap:=j1 }) hh (cQ h1 fun o e=>s1.extBut _ o D.i1z e) (gE Ko fun o e=>s1.extBut _ o D.l1z e) hx fun j2 e s2 ⟨oe,e1,e2⟩=>?_);have z2:IsZip j2 z TI TO .ellipsis:=s2 _ _ D.i1z.symm z1;have ez:e≠z:=fun q=>by subst q;rw[z2] at e1;cases e1;simp at e2
  refine X0 z2 (by simp) fun j3 _ s3=>hE j3 e (fun c o c1 _ c3 _ q=>s3.extBut _ _ c1<|s2 _ _ c3<|s1.extBut _ _ c1 q) ⟨oe,s3.extBut _ _ ez e1,e2⟩
 | some x=>
  have hy:ys[k2]?=none:=by
   rcases GD with h | h
   ·rw[hx] at h;cases h
   ·exact h
  refine Z9 (mz (s:={ s with heap:=j1 }) (cQ h1 fun o e=>s1.extBut _ o D.i1z e) (gE Ko fun o e=>s1.extBut _ o D.l1z e) hx fun j2 a2 s2=>Z4 ?_);have o2:IsPair j2 TO a b:=s2.extBut _ _ D.TOi1 (s1.extBut _ _ D.TOz N_);refine Z9 (YU (s:={ s with heap:=j2 }) o2 rfl<|Z9<|Wu (s:={ s with heap:=j2 }) o2 fun j3 o3 s3=>?_);refine Z9 (Vy<|Z4<|Z9<|Z9<|V8 ?_);show wpAny _ _ (Builtin.SmallTypes.nextOf (.ref i2) >>= _) _ _ _;refine Z9 (qD (s:={ s with heap:=j3 }) hh (cQ h2 fun o e=>s3.extBut _ o D.TOi2.symm<|s2.extBut _ o D.i12.symm<|s1.extBut _ o D.i2z e) (gE Ih fun o e=>s3.extBut _ o D.l2TO<|s2.extBut _ o D.l2i1<|s1.extBut _ o D.l2z e) hy fun j4 e s4 ⟨oe,e1,e2⟩=>?_);have z4:IsZip j4 z TI TO .ellipsis:=s4 _ _ D.i2z.symm (s3.extBut _ _ D.TOz.symm<|s2.extBut _ _ D.i1z.symm z1);have ez:e≠z:=fun q=>by subst q;rw[z4] at e1;cases e1;simp at e2
  refine X0 z4 (by simp) fun j5 _ s5=>hE j5 e (fun c o c1 c2 c3 c4 q=>s5.extBut _ _ c1<|s4 _ _ c4<|s3.extBut _ _ c2<|s2.extBut _ _ c3<|s1.extBut _ _ c1 q) ⟨oe,s5.extBut _ _ ez e1,e2⟩
end
variable{s:Shared}{r':R2}{caps fx fix:List Nat}{own ps:List Str}{iter tg c e b a:Expr}{body:List Stmt}{E:Ends}{σ1 σ:St}{fd:FuncData}{n ek:Nat}{vs xs:List V}{ds:List Im}{C B A R F2 F1 G F:List Addr}{Q:VK}{x:Str}{r es:List Expr}{t':TT}{X:Cx}{H2 H1 H' H:Hp}{v:V}{p:Addr}{pos:Pos}{K:PySem.W.Frag}
def Iq(h:Heap)(l1 l2:Addr):Heap:=((((h.push { cls:=.type "tuple_iterator",data:=.fields #[.ref l1,.int 0 0] }).push { cls:=.type "tuple_iterator",data:=.fields #[.ref l2,.int 0 0] }).push
 { cls:=.type "tuple",data:=.seq #[.ref h.objs.size,.ref (h.push { cls:=.type "tuple_iterator",data:=.fields #[.ref l1,.int 0 0] }).objs.size] }).push { cls:=.type "tuple",data:=.seq #[.none,.none] })
theorem yI(l1 l2 : Addr)(xs ys : Array Value):
    Meets (Builtin.«zip.__new__» ⟨[.type "zip", .ref l1, .ref l2], []⟩) (fun _ R s => s.heap.IsTuple l1 xs /\ s.heap.IsTuple l2 ys /\
      R (.ok<|.ret<|.ref (Iq s.heap l1 l2).objs.size) { s with heap := (Iq s.heap l1 l2).push { cls := .type "zip", data := .fields #[.none, .bool false, .bool false, .ref ((s.heap.push { cls := .type "tuple_iterator", data := .fields #[.ref l1, .int 0 0] }).push { cls := .type "tuple_iterator", data := .fields #[.ref l2, .int 0 0] }).objs.size,
        .ref (((s.heap.push { cls := .type "tuple_iterator", data := .fields #[.ref l1, .int 0 0] }).push { cls := .type "tuple_iterator", data := .fields #[.ref l2, .int 0 0] }).push
  { cls := .type "tuple", data := .seq #[.ref s.heap.objs.size, .ref (s.heap.push { cls := .type "tuple_iterator", data := .fields #[.ref l1, .int 0 0] }).objs.size] }).objs.size] } }) :=
  .of_wp fun prog w A R s h => by
    obtain ⟨hp, g, d, tk, os⟩ := s;obtain ⟨q1, q2, h⟩ := h;have Jn := sub_zip;have m1 : Heap.IsTuple (Shared.heap ⟨hp, g, d, tk, os⟩) l1 xs := q1;have m2 : Heap.IsTuple (Shared.heap ⟨hp.push { cls := .type "tuple_iterator", data := .fields #[.ref l1, .int 0 0] }, g, d, tk, os⟩) l2 ys := gE q2 fun o e => Z5 _ e
    wp_walk using wpAny_pyIter_tuple m1, wpAny_pyIter_tuple m2
    exact ⟨_, rfl, h⟩
def M8(K:PySem.W.Frag)(a b:Addr):It:=
 ⟨fun i H=>∃ xs ys x y,y_ K H a xs/\y_ K H b ys/\xs[i]?=some x/\ys[i]?=some y,
  fun i H v H'=>∃ T x y,H T=none/\v=.ref T/\H'=upd H T (.tup [x,y])/\(∀ xs,y_ K H a xs->xs[i]?=some x)/\(∀ ys,y_ K H b ys->ys[i]?=some y),
  fun i H=>∃ xs ys,y_ K H a xs/\y_ K H b ys/\(xs.length<=i\/ys.length<=i)⟩
def qE(a b z TI TO i1 i2:Addr)(i:Nat)(h:Heap):Prop:=IsZip h z TI TO .none/\IsPair h TI (.ref i1) (.ref i2)/\(∃ p q,IsPair h TO p q)/\h.IsTupleIter i1 a i/\h.IsTupleIter i2 b i
theorem yJ{P:Program}{w:World}(a b z TI TO i1 i2:Addr)(D:ZipApart z TI TO i1 i2 a b):
  Turn P w K (.Tuple es ek pos) (M8 K a b) [z,TI,TO,i1,i2] z (qE a b z TI TO i1 i2) where
 mem:=by simp
 obj:=fun i h st c hc=>by
  obtain⟨h1,h2,⟨p,q,h3⟩,⟨o4,e4,_,d4⟩,⟨o5,e5,_,d5⟩⟩:=st;simp only[ZU,Xg,W8] at hc;rcases hc with rfl | rfl | rfl | rfl | rfl
  ·exact⟨_,h1,fun v e=>by cases e⟩
  ·exact⟨_,h2,fun v e=>by cases e⟩
  ·exact⟨_,h3,fun v e=>by cases e⟩
  ·exact⟨_,e4,fun v e=>by rw[d4] at e;cases e⟩
  ·exact⟨_,e5,fun v e=>by rw[d5] at e;cases e⟩
 keep:=fun i h h' st k=>by
  obtain⟨h1,h2,⟨p,q,h3⟩,h4,h5⟩:=st;exact⟨k z (by simp) _ h1,k TI (by simp) _ h2,⟨p,q,k TO (by simp) _ h3⟩,cQ h4 fun o e=>k i1 (by simp) o e,cQ h5 fun o e=>k i2 (by simp) o e⟩
 item:=by
  intro X hP hw hK hc i pins s σ H E I hf st hg;subst hP hw hK;obtain⟨xs,ys,x,y,q1,q2,x1,y1⟩:=hg;obtain⟨e_,rv,p,hz⟩:=I.tuple q1;obtain⟨Fh,M9,p2,KS⟩:=I.tuple q2;obtain⟨u,hu,ru⟩:=rv.get x1;obtain⟨u2,Q9,Q_⟩:=M9.get y1;have there:=st;obtain⟨h1,h2,⟨pa,pb,h3⟩,h4,h5⟩:=st;have hT:s.TypeIs (.ref z) "zip" := ⟨_,h1,rfl⟩;unfold pyNext;refine Z9 (W9 (Zc (name:=Str.ofString "__next__") hT Wp (Zd Wp hT F.entry_zip_next
   (yG (Q:=fun v s'=>wpAny (model X.prog X.w) X.A (pure<|some v) (fun r s1=>∃ u,r=some u/\wpAny (model X.prog X.w) X.A (letOwnedTupleGo (.Tuple es ek pos) (.ref z) u) (fun _ s2=>∃ x H',Inv X pins σ H' s2/\av x u/\(M8 X.K a b).Lo i H x H'/\qE a b z TI TO i1 i2 (i+1) s2.heap/\∀ b∈[z,TI,TO,i1,i2],H' b=none) E s1) E s')
    D h1 h2 h3 h4 h5 (show s.heap.IsTuple a e_.toArray from p) (show s.heap.IsTuple b Fh.toArray from p2) (x:=u) (y:=u2) (by simpa using hu) (by simpa using Q9) fun h' g1 g2 g3 g4 g5 kk=>Z4 ⟨_,rfl,?_⟩) (F.args_zip_next_1 _))));refine wpAny_letOwnedTupleGo_zip g1 fun KZ Ra sb=>?_;have lt:∀ c∈[z,TI,TO,i1,i2],c<s.heap.objs.size:=fun c hc=>by
   obtain⟨h1,h2,⟨p,q,h3⟩,⟨o4,e4,_⟩,⟨o5,e5,_⟩⟩:=there;simp only[ZU,Xg,W8] at hc;rcases hc with rfl | rfl | rfl | rfl | rfl
   ·exact ZP h1
   ·exact ZP h2
   ·exact ZP h3
   ·exact ZP e4
   ·exact ZP e5
  have kp:∀ c o,c∉[z,TI,TO,i1,i2]->s.heap.get? c=some o->KZ.get? c=some o:=fun c o hc e=>by
   simp only[ZU,Xg,W8,not_or] at hc;exact sb.extBut _ _ hc.1 (kk c o hc.1 hc.2.2.1 hc.2.2.2.1 hc.2.2.2.2 e)
  have zT:s.heap.objs.size≠z:=Xi (lt z (by simp));have fT:H s.heap.objs.size=none:=I.i_.fresh (ZR _);refine⟨.ref s.heap.objs.size,upd H s.heap.objs.size<|.tup [x,y],I.LU (t':=s.toks) hf kp (ZR _) ⟨by show 2<=sizeLine;decide,[u,u2],.cons ru<|.cons Q_ .nil,?_⟩,rfl,⟨_,x,y,fT,rfl,rfl,fun zs hz=>?_,fun zs hz=>?_⟩,?_,fun c hc=>?_⟩
  ·exact⟨_,sb.extBut _ _ zT g5,rfl,0,rfl⟩
  ·rw[I.FE hz q1];exact x1
  ·rw[I.FE hz q2];exact y1
  ·exact⟨Ra,sb.extBut _ _ D.TIz<|kk _ _ D.TIz D.TITO D.TIi1 D.TIi2 h2,⟨_,_,sb.extBut _ _ D.TOz g2⟩,cQ g3 fun o e=>sb.extBut _ o D.i1z e,cQ g4 fun o e=>sb.extBut _ o D.i2z e⟩
  ·rw[aG (ZB<|lt c hc)];exact (hf c hc).1
 done:=by
  intro X hP hw hK hc i pins s σ H E I hf st hg;subst hP hw hK;obtain⟨xs,ys,q1,q2,GD⟩:=hg;obtain⟨e_,rv,p,hz⟩:=I.tuple q1;obtain⟨Fh,M9,p2,KS⟩:=I.tuple q2;obtain⟨h1,h2,⟨pa,pb,h3⟩,h4,h5⟩:=st;have hT:s.TypeIs (.ref z) "zip" := ⟨_,h1,rfl⟩;have l1:=rv.length;have l2:=M9.length;unfold pyNext;refine Z9 (W9 (Zc (name:=Str.ofString "__next__") hT Wp (Zd Wp hT F.entry_zip_next
   (yH (I.ok.hd hc) D h1 h2 h3 h4 h5 (show s.heap.IsTuple a e_.toArray from p) (show s.heap.IsTuple b Fh.toArray from p2) (by
    rcases GD with h | h
    ·exact .inl (by simp;lia)
    ·exact .inr (by simp;lia)) fun h' e kk ⟨o,ho,K0⟩=>?_) (F.args_zip_next_1 _))))
  refine Z9 (Xk (T := "StopIteration") (b:=true) ⟨o,ho,K0⟩ isSubtype_stop<|Z4 ⟨rfl,I.LV (t':=s.toks) hf fun c o hc e=>?_⟩);simp only[ZU,Xg,W8,not_or] at hc;exact kk c o hc.1 hc.2.2.1 hc.2.2.2.1 hc.2.2.2.2 e
 self:=fun _ _ _ _ _ st h=>wpAny_pyIter_zip st.1 h
section
variable{X:Cx}
def yK(K:PySem.W.Frag)(ta:TA):TI:=fun σ H R=>ta σ H fun vs H1=>∃ a b,vs=[.ref a,.ref b]/\(∃ xs,y_ K H1 a xs)/\(∃ ys,y_ K H1 b ys)/\R (M8 K a b) H1
theorem yL{ta:TA}{p:Pos}{ps:Pos}(hg:Gl X "zip")(hm:X.mg "zip" = none)(ha:PA X [a,b] ta)(hs:starEach [a,b] X.env=[(false,eval a X.env),(false,eval b X.env)]:=by rfl)(HJ:starEach [b] X.env=[(false,eval b X.env)]:=by rfl):
  PI X (.Tuple es ek ps) (.Call (.Name "zip" p) [a,b] [] pos) (yK X.K ta):=by
 intro pins s σ H R I h;refine Call_ (fJ I hg hm boot_zip (X6 (t_ (ha pos pins s σ H _ I h) fun us s1 ⟨vs,H1,I1,r1,q1⟩=>?_) (by rw[hs,HJ]) (by rw[HJ];rfl)));obtain⟨l1,l2,e,⟨xs,hx⟩,⟨ys,hy⟩,q⟩:=q1;subst e;cases r1 with
 | cons r rr=>
  cases rr with
  | cons r' rr=>
   cases rr;cases r;cases r';obtain⟨e_,rv,p,hz⟩:=I1.tuple hx;obtain⟨Fh,M9,p2,KS⟩:=I1.tuple hy;have N7:l1<s1.heap.objs.size:=by obtain⟨o,e,_⟩:=p;exact ZP e
   have Rb:l2<s1.heap.objs.size:=by obtain⟨o,e,_⟩:=p2;exact ZP e
   refine callType_new F.called_zip (by decide) (F.typeCall_zip_2 _ _) (F.newCall_zip_2 _ _) (fun obj=>F.args_object_init_3 obj _ _) F.entry_zip_new (yI l1 l2 e_.toArray Fh.toArray) ⟨p,p2,?_⟩;have z1:(s1.heap.push { cls:=.type "tuple_iterator",data:=.fields #[.ref l1,.int 0 0] }).objs.size=s1.heap.objs.size+1:=YY ..;have z2:((s1.heap.push { cls:=.type "tuple_iterator",data:=.fields #[.ref l1,.int 0 0] }).push { cls:=.type "tuple_iterator",data:=.fields #[.ref l2,.int 0 0] }).objs.size=s1.heap.objs.size+2:=by rw[YY,z1]
   have z3:(((s1.heap.push { cls:=.type "tuple_iterator",data:=.fields #[.ref l1,.int 0 0] }).push { cls:=.type "tuple_iterator",data:=.fields #[.ref l2,.int 0 0] }).push
    { cls:=.type "tuple",data:=.seq #[.ref s1.heap.objs.size,.ref (s1.heap.push { cls:=.type "tuple_iterator",data:=.fields #[.ref l1,.int 0 0] }).objs.size] }).objs.size=s1.heap.objs.size+3:=by rw[YY,z2]
   have z4:(Iq s1.heap l1 l2).objs.size=s1.heap.objs.size+4:=by unfold Iq;rw[YY,z3]
   show _/\_;refine⟨⟨_,ZN _ rfl,rfl⟩,wpAny_pyIter_zip (TI:=s1.heap.objs.size+2) (TO:=s1.heap.objs.size+3) (f0:=.none) ?_ ?_⟩
   ·rw[z2,z3];exact ZN _ rfl
   ·rw[z2,z3,z4];have g5:((Iq s1.heap l1 l2).push { cls:=.type "zip",data:=.fields #[.none,.bool false,.bool false,.ref<|s1.heap.objs.size+2,.ref<|s1.heap.objs.size+3] }).get? (s1.heap.objs.size+4)=some { cls:=.type "zip",data:=.fields #[.none,.bool false,.bool false,.ref<|s1.heap.objs.size+2,.ref<|s1.heap.objs.size+3] }:=by rw[<- z4];exact ZN _ rfl
    have g4:((Iq s1.heap l1 l2).push { cls:=.type "zip",data:=.fields #[.none,.bool false,.bool false,.ref<|s1.heap.objs.size+2,.ref<|s1.heap.objs.size+3] }).get? (s1.heap.objs.size+3)=some { cls:=.type "tuple",data:=.seq #[.none,.none] }:=by
     rw[<- z3];exact Z5 _ (ZN _ rfl)
    have g3:((Iq s1.heap l1 l2).push { cls:=.type "zip",data:=.fields #[.none,.bool false,.bool false,.ref<|s1.heap.objs.size+2,.ref<|s1.heap.objs.size+3] }).get? (s1.heap.objs.size+2)=some { cls:=.type "tuple",data:=.seq #[.ref s1.heap.objs.size,.ref<|s1.heap.objs.size+1] }:=by
     rw[<- z2,<- z1];exact Z5 _ (Z5 _<|ZN _ rfl)
    have g2:((Iq s1.heap l1 l2).push { cls:=.type "zip",data:=.fields #[.none,.bool false,.bool false,.ref<|s1.heap.objs.size+2,.ref<|s1.heap.objs.size+3] }).get? (s1.heap.objs.size+1)=some { cls:=.type "tuple_iterator",data:=.fields #[.ref l2,.int 0 0] }:=by
     rw[<- z1];exact Z5 _ (Z5 _<|Z5 _<|ZN _ rfl)
    have g1:((Iq s1.heap l1 l2).push { cls:=.type "zip",data:=.fields #[.none,.bool false,.bool false,.ref<|s1.heap.objs.size+2,.ref<|s1.heap.objs.size+3] }).get? s1.heap.objs.size=some { cls:=.type "tuple_iterator",data:=.fields #[.ref l1,.int 0 0] }:=
     Z5 _ (Z5 _<|Z5 _<|Z5 _<|ZN _ rfl);have kp:∀ c o,s1.heap.get? c=some o->((Iq s1.heap l1 l2).push { cls:=.type "zip",data:=.fields #[.none,.bool false,.bool false,.ref<|s1.heap.objs.size+2,.ref<|s1.heap.objs.size+3] }).get? c=some o:=fun c o e=>
     Z5 _ (Z5 _<|Z5 _<|Z5 _<|Z5 _ e);generalize ((Iq s1.heap l1 l2).push { cls:=.type "zip",data:=.fields #[.none,.bool false,.bool false,.ref<|s1.heap.objs.size+2,.ref<|s1.heap.objs.size+3] })=h5 at g1 g2 g3 g4 g5 kp ⊢;have D:ZipApart (s1.heap.objs.size+4) (s1.heap.objs.size+2) (s1.heap.objs.size+3) s1.heap.objs.size (s1.heap.objs.size+1) l1 l2:=PySem.W.ktu_apart _ _ _ N7 Rb;refine⟨_,_,_,_,H1,rfl,I1.kept (t':=s1.toks) kp,yJ l1 l2 _ _ _ _ _ D,⟨g5,g3,⟨_,_,g4⟩,⟨_,g1,rfl,rfl⟩,⟨_,g2,rfl,rfl⟩⟩,fun c hc=>?_,q⟩;have:s1.heap.objs.size<=c:=by
     simp only[ZU,Xg,W8] at hc;rcases hc with rfl | rfl | rfl | rfl | rfl
     ·exact X3 _ _
     ·exact X3 _ _
     ·exact X3 _ _
     ·exact ZR _
     ·exact X3 _ _
    exact I1.IZ this (I1.i_.fresh this)
end
def qF(K:PySem.W.Frag)(H:Hp)(x:V)(T:String)(b:Bool):Prop:=
 (∃ i,x=.int i/\((T = "int" /\ b=true)\/(T = "tuple" /\ b=false)\/(T = "str" /\ b=false)\/(T = "bool" /\ b=false)\/(T = "list" /\ b=false)))\/
 (∃ i,x=.bl i/\((T = "bool" /\ b=true)\/(T = "int" /\ b=true)\/(T = "tuple" /\ b=false)\/(T = "str" /\ b=false)\/(T = "list" /\ b=false)))\/
 (∃ i,x=.str i/\((T = "str" /\ b=true)\/(T = "int" /\ b=false)\/(T = "tuple" /\ b=false)\/(T = "bool" /\ b=false)\/(T = "list" /\ b=false)))\/
 (∃ a xs,x=.ref a/\y_ K H a xs/\((T = "tuple" /\ b=true)\/(T = "int" /\ b=false)\/(T = "str" /\ b=false)\/(T = "bool" /\ b=false)\/(T = "list" /\ b=false)))\/
 (∃ a xs,x=.ref a/\EL K H a xs/\((T = "list" /\ b=true)\/(T = "int" /\ b=false)\/(T = "str" /\ b=false)\/(T = "bool" /\ b=false)\/(T = "tuple" /\ b=false)))
section
variable{X:Cx}
theorem yM:aQ X (.builtin "isinstance") (fun xs H Q=>∃ x T b,xs=[x,.ty T]/\qF X.K H x T b/\Q (.bl b) H):=by
 intro pins s σ H xs us Q I r h;obtain⟨x,T,b,rfl,hi,q⟩:=h;cases r with
 | cons r rr=>
  cases rr with
  | cons r' rr=>
   cases rr;cases r';have f0:∀ {b:Bool},Q (.bl b) H->EP X pins σ Q (.bool b) s:=fun {b} q=>⟨.bl b,H,I,rfl,q⟩;have f1:∀ {b:Bool},Q (.bl b) H->EP X pins σ Q (.bool b) { s with toks:=s.toks+1 }:=fun {b} q=>⟨.bl b,H,I.tok _,rfl,q⟩;rcases hi with ⟨i,rfl,hi⟩ | ⟨i,rfl,hi⟩ | ⟨i,rfl,hi⟩ | ⟨a,xs,rfl,hs,hi⟩ | ⟨a,xs,rfl,hs,hi⟩
   ·obtain⟨t,rfl⟩:=r;rcases hi with ⟨rfl,rfl⟩ | ⟨rfl,rfl⟩ | ⟨rfl,rfl⟩ | ⟨rfl,rfl⟩ | ⟨rfl,rfl⟩
    ·exact IsiPair.int_int (f0 q)
    ·exact IsiPair.int_tuple (f1 q)
    ·exact IsiPair.int_str (f1 q)
    ·exact IsiPair.int_bool (f1 q)
    ·exact IsiPair.int_list (f1 q)
   ·cases r;rcases hi with ⟨rfl,rfl⟩ | ⟨rfl,rfl⟩ | ⟨rfl,rfl⟩ | ⟨rfl,rfl⟩ | ⟨rfl,rfl⟩
    ·exact IsiPair.bool_bool (f0 q)
    ·exact IsiPair.bool_int (f0 q)
    ·exact IsiPair.bool_tuple (f1 q)
    ·exact IsiPair.bool_str (f1 q)
    ·exact IsiPair.bool_list (f1 q)
   ·obtain⟨t,rfl⟩:=r;rcases hi with ⟨rfl,rfl⟩ | ⟨rfl,rfl⟩ | ⟨rfl,rfl⟩ | ⟨rfl,rfl⟩ | ⟨rfl,rfl⟩
    ·exact IsiPair.str_str (f0 q)
    ·exact IsiPair.str_int (f1 q)
    ·exact IsiPair.str_tuple (f1 q)
    ·exact IsiPair.str_bool (f1 q)
    ·exact IsiPair.str_list (f1 q)
   ·cases r;obtain⟨e_,rv,⟨o,ho,hc,_⟩,hz⟩:=I.tuple hs;rcases hi with ⟨rfl,rfl⟩ | ⟨rfl,rfl⟩ | ⟨rfl,rfl⟩ | ⟨rfl,rfl⟩ | ⟨rfl,rfl⟩
    ·exact IsiPair.tuple_tuple ho hc (f0 q)
    ·exact IsiPair.tuple_int ho hc (f1 q)
    ·exact IsiPair.tuple_str ho hc (f1 q)
    ·exact IsiPair.tuple_bool ho hc (f1 q)
    ·exact IsiPair.tuple_list ho hc (f1 q)
   ·cases r;obtain⟨e_,rv,p,hz⟩:=I.list hs;obtain⟨o,ho,hc,_⟩:=p.isList;rcases hi with ⟨rfl,rfl⟩ | ⟨rfl,rfl⟩ | ⟨rfl,rfl⟩ | ⟨rfl,rfl⟩ | ⟨rfl,rfl⟩
    ·exact IsiPair.list_list ho hc (f0 q)
    ·exact IsiPair.list_int ho hc (f1 q)
    ·exact IsiPair.list_str ho hc (f1 q)
    ·exact IsiPair.list_bool ho hc (f1 q)
    ·exact IsiPair.list_tuple ho hc (f1 q)
theorem qG:∀ {bs:List Bool}{us:List Value},au (bs.map V.bl) us->∀ (i:Nat) (v:Value),us[i]?=some v->∃ b,bs[i]?=some b/\v=Value.bool b:=by
 intro bs us r i v h;have hl:=r.length;rw[Z3] at hl;have hi:i<bs.length:=by rw[hl];exact (ZE.mp h).1
 obtain⟨u,hu,ru⟩:=r.get (i:=i) (x:=V.bl bs[i]) (by simp[hi]);rw[h] at hu;cases hu;exact⟨bs[i],by simp[hi],ru⟩
theorem yN(hc:X.calm=true):aQ X (.builtin "all") (fun xs H Q=>∃ l bs,xs=[.ref l]/\H l=some (.lst<|List.map V.bl bs)/\Q (.bl<|bs.all id) H):=by
 intro pins s σ H xs us Q I r h;obtain⟨l,bs,rfl,hl,q⟩:=h;obtain⟨u,rfl,ru⟩:=bM r;cases ru;obtain⟨z,e_,n,rv,e⟩:=I.i_ l _ hl;have GG:s.heap.IsList l e_.toArray:=⟨_,e,rfl,n,rfl⟩;refine call_all_walk (Xp GG ⟨s.heap.objs.size,[s.heap.objs.size,l],[s.heap.objs.size],e_.toArray.size,_,_,fun i=>(bs[i]?).getD true,rfl,Walks.list (A:=X.A.in1) (I.ok.hd hc) _ l (ZB<|ZP e) e_.toArray,
  ⟨⟨_,ZN _ rfl,rfl,rfl⟩,GG.push _⟩,fun i v s' Q' E' hP hQ=>?_,fun h' tk hk=>?_⟩)
 ·obtain⟨b,eb,rfl⟩:=qG rv i v (by simpa using hP);simp only[eb,Xf] at hQ;exact YE hQ
 ·have el:e_.toArray.size=bs.length:=by
   have:=rv.length;rw[Z3] at this;rw[ZS,this]
  rw[el,LSm.range_all];exact⟨.bl _,H,I.kept<|W7 hk,rfl,q⟩
theorem yO:Fd X (binaryOp .Mult) (rI IntMulOk fun i j=>.int<|i * j):=MY fun _ _ _ _ _ _ _ hc q=>mul_int q hc
end
inductive Vl where
 | im (d:Im)
 | jk
 | fz (ds:List Im)
 | lst (ds:List Im)
 | dK (kvs:List (Key×Im))
 | dT (kvs:List (List Im×Im))
 | Fx (xs:List Vl)
 | M' (ks:List (List Im)) (xs:List Vl)
 | K1 (xs:List Vl)
 | obj (C:Addr) (ns:List Str) (xs:List Vl)
variable{op:List Vl->Option Vl}{f:Vl->Vl->Option Vl}{o:Option Vl}{d:Vl}
abbrev SD:=List (Option Vl)
variable{D' D:SD}{h:List Vl->SD->Option SD}
abbrev Gc{κ:Type}(H:Hp):List (κ×Im)->List (κ×V)->Prop:=Paired fun p q=>p.1=q.1/\EG H p.2 q.2
theorem Gc.mono{κ:Type}{l:List (κ×Im)}{m:List (κ×V)}(t:HC H H')(h:Gc H l m):Gc H' l m:=Paired.IW h fun _ _ z=>⟨z.1,z.2.mono t⟩
structure D_(H H':Hp):Prop where
 tup:HC H H'
 Fa:∀ a o u,H a=some (.Fa o u)->H' a=some (.Fa o u)
mutual
def Own(H:Hp):Vl->V->List Addr->Prop
 | .im d,v,F=>EG H d v/\F=[]
 | .jk,_,F=>F=[]
 | .fz ds,v,F=>∃ a xs o,v=.ref a/\H a=some (.Fa o<|.lst xs)/\aj H ds xs/\F=[]
 | .lst ds,v,F=>∃ a xs,v=.ref a/\H a=some (.lst xs)/\aj H ds xs/\F=[a]
 | .dK kvs,v,F=>∃ a EX,v=.ref a/\H a=some (.dK EX)/\Gc H kvs EX/\F=[a]
 | .dT kvs,v,F=>∃ a EX,v=.ref a/\H a=some (.dT EX)/\Gc H kvs EX/\F=[a]
 | .Fx ds,v,F=>∃ a xs G,v=.ref a/\H a=some (.lst xs)/\aE H ds xs G/\F=a::G
 | .M' ks ds,v,F=>∃ a EX G,v=.ref a/\H a=some (.dT EX)/\EX.map (·.1)=ks/\aE H ds (EX.map (·.2)) G/\F=a::G
 | .K1 ds,v,F=>∃ a xs,v=.ref a/\H a=some (.tup xs)/\aE H ds xs F
 | .obj C ns ds,v,F=>∃ a dx fs G,v=.ref a/\H a=some (.ins C dx fs)/\fs.map (·.1)=ns/\aE H ds (fs.map (·.2)) G/\F=a::G
def aE(H:Hp):List Vl->List V->List Addr->Prop
 | [],vs,F=>vs=[]/\F=[]
 | d::ds,vs,F=>∃ v r F1 F2,vs=v::r/\Own H d v F1/\aE H ds r F2/\F=F1++F2
end
mutual
theorem Own.mono{H H':Hp}(t:D_ H H'):∀ {d:Vl}{v:V}{F:List Addr},Own H d v F->(∀ a∈F,∀ o,H a=some o->H' a=some o)->Own H' d v F
 | .im d,v,F,h,_=>⟨h.1.mono t.tup,h.2⟩
 | .jk,v,F,h,_=>h
 | .fz ds,v,F,h,_=>by
  obtain⟨a,xs,o,rfl,h1,h2,rfl⟩:=h;exact⟨a,xs,o,rfl,t.Fa _ _ _ h1,h2.mono t.tup,rfl⟩
 | .lst ds,v,F,h,k=>by
  obtain⟨a,xs,rfl,h1,h2,rfl⟩:=h;exact⟨a,xs,rfl,k a (.head _) _ h1,h2.mono t.tup,rfl⟩
 | .dK kvs,v,F,h,k=>by
  obtain⟨a,xs,rfl,h1,h2,rfl⟩:=h;exact⟨a,xs,rfl,k a (.head _) _ h1,h2.mono t.tup,rfl⟩
 | .dT kvs,v,F,h,k=>by
  obtain⟨a,xs,rfl,h1,h2,rfl⟩:=h;exact⟨a,xs,rfl,k a (.head _) _ h1,h2.mono t.tup,rfl⟩
 | .Fx ds,v,F,h,k=>by
  obtain⟨a,xs,G,rfl,h1,h2,rfl⟩:=h;exact⟨a,xs,G,rfl,k a (.head _) _ h1,aE.mono t h2 fun b hb=>k b<|.tail _ hb,rfl⟩
 | .M' ks ds,v,F,h,k=>by
  obtain⟨a,xs,G,rfl,h1,hk,h2,rfl⟩:=h;exact⟨a,xs,G,rfl,k a (.head _) _ h1,hk,aE.mono t h2 fun b hb=>k b<|.tail _ hb,rfl⟩
 | .K1 ds,v,F,h,k=>by
  obtain⟨a,xs,rfl,h1,h2⟩:=h;exact⟨a,xs,rfl,t.tup a xs h1,aE.mono t h2 k⟩
 | .obj C ns ds,v,F,h,k=>by
  obtain⟨a,dx,fs,G,rfl,h1,hk,h2,rfl⟩:=h;exact⟨a,dx,fs,G,rfl,k a (.head _) _ h1,hk,aE.mono t h2 fun b hb=>k b<|.tail _ hb,rfl⟩
theorem aE.mono{H H':Hp}(t:D_ H H'):∀ {ds:List Vl}{vs:List V}{F:List Addr},aE H ds vs F->(∀ a∈F,∀ o,H a=some o->H' a=some o)->aE H' ds vs F
 | [],vs,F,h,_=>h
 | d::ds,vs,F,h,k=>by
  obtain⟨v,r,F1,F2,rfl,h1,h2,rfl⟩:=h;exact⟨v,r,F1,F2,rfl,Own.mono t h1 fun a ha=>k a<|ZA _ ha,aE.mono t h2 fun a ha=>k a<|ZG _ ha,rfl⟩
end
def GS(H:Hp)(a:Addr):Prop:=∃ o,H a=some o/\(∀ xs,o≠.tup xs)/\∀ p u,o≠.Fa p u
mutual
theorem Own.chg{H:Hp}:∀ {d:Vl}{v:V}{F:List Addr},Own H d v F->∀ a∈F,GS H a
 | .im d,v,F,h,a,ha=>by rw[h.2] at ha;cases ha
 | .jk,v,F,h,a,ha=>by rw[show F=[] from h] at ha;cases ha
 | .fz ds,v,F,h,b,hb=>by
  obtain⟨a,xs,o,rfl,h1,h2,rfl⟩:=h;cases hb
 | .lst ds,v,F,h,b,hb=>by
  obtain⟨a,xs,rfl,h1,h2,rfl⟩:=h;rw[Z1.mp hb];exact⟨_,h1,(fun _ e=>by cases e),(fun _ _ e=>by cases e)⟩
 | .dK kvs,v,F,h,b,hb=>by
  obtain⟨a,xs,rfl,h1,h2,rfl⟩:=h;rw[Z1.mp hb];exact⟨_,h1,(fun _ e=>by cases e),(fun _ _ e=>by cases e)⟩
 | .dT kvs,v,F,h,b,hb=>by
  obtain⟨a,xs,rfl,h1,h2,rfl⟩:=h;rw[Z1.mp hb];exact⟨_,h1,(fun _ e=>by cases e),(fun _ _ e=>by cases e)⟩
 | .Fx ds,v,F,h,b,hb=>by
  obtain⟨a,xs,G,rfl,h1,h2,rfl⟩:=h;rcases ZU.mp hb with rfl | hb
  ·exact⟨_,h1,(fun _ e=>by cases e),(fun _ _ e=>by cases e)⟩
  ·exact aE.chg h2 b hb
 | .M' ks ds,v,F,h,b,hb=>by
  obtain⟨a,xs,G,rfl,h1,hk,h2,rfl⟩:=h;rcases ZU.mp hb with rfl | hb
  ·exact⟨_,h1,(fun _ e=>by cases e),(fun _ _ e=>by cases e)⟩
  ·exact aE.chg h2 b hb
 | .K1 ds,v,F,h,b,hb=>by
  obtain⟨a,xs,rfl,h1,h2⟩:=h;exact aE.chg h2 b hb
 | .obj C ns ds,v,F,h,b,hb=>by
  obtain⟨a,dx,fs,G,rfl,h1,hk,h2,rfl⟩:=h;rcases ZU.mp hb with rfl | hb
  ·exact⟨_,h1,(fun _ e=>by cases e),(fun _ _ e=>by cases e)⟩
  ·exact aE.chg h2 b hb
theorem aE.chg{H:Hp}:∀ {ds:List Vl}{vs:List V}{F:List Addr},aE H ds vs F->∀ a∈F,GS H a
 | [],vs,F,h,a,ha=>by rw[h.2] at ha;cases ha
 | d::ds,vs,F,h,a,ha=>by
  obtain⟨v,r,F1,F2,rfl,h1,h2,rfl⟩:=h;rcases Zx.mp ha with ha | ha
  ·exact Own.chg h1 a ha
  ·exact aE.chg h2 a ha
end
theorem aE.length{H:Hp}:∀ {ds:List Vl}{vs:List V}{F:List Addr},aE H ds vs F->ds.length=vs.length
 | [],vs,F,h=>by rw[h.1];rfl
 | d::ds,vs,F,h=>by
  obtain⟨v,r,F1,F2,rfl,h1,h2,rfl⟩:=h;rw[ZD,ZD,h2.length]
theorem aj.length{H:Hp}:∀ {ds:List Im}{vs:List V},aj H ds vs->ds.length=vs.length
 | [],vs,h=>by rw[show vs=[] from h];rfl
 | d::ds,vs,h=>by
  obtain⟨v,r,rfl,h1,h2⟩:=h;rw[ZD,ZD,h2.length]
def eU(H:Hp):Option Vl->Option V->List Addr->Prop
 | none,_,F=>F=[]
 | some d,x,F=>∃ v,x=some v/\Own H d v F
def ai(H:Hp):SD->St->List Addr->Prop
 | [],σ,F=>σ=[]/\F=[]
 | o::D,σ,F=>∃ x r F1 F2,σ=x::r/\eU H o x F1/\ai H D r F2/\F=F1++F2
structure l_(H:Hp)(F:List Addr)(H':Hp)(F':List Addr):Prop where
 keep:∀ a o,H a=some o->a∉F->H' a=some o
 sub:∀ a∈F',a∈F\/H a=none
 nd:F'.Nodup
 tup:D_ H H'
 grow:∀ a o,H a=some o->∃ o',H' a=some o'
theorem eU.mono(t:D_ H H'):∀ {o:Option Vl}{x:Option V}{F:List Addr},eU H o x F->(∀ a∈F,∀ o,H a=some o->H' a=some o)->eU H' o x F
 | none,_,_,h,_=>h
 | some d,x,F,h,k=>by
  obtain⟨v,rfl,h⟩:=h;exact⟨v,rfl,h.mono t k⟩
theorem ai.mono{H H':Hp}(t:D_ H H'):∀ {D:SD}{σ:St}{F:List Addr},ai H D σ F->(∀ a∈F,∀ o,H a=some o->H' a=some o)->ai H' D σ F
 | [],σ,F,h,_=>h
 | o::D,σ,F,h,k=>by
  obtain⟨x,r,F1,F2,rfl,h1,h2,rfl⟩:=h;exact⟨x,r,F1,F2,rfl,h1.mono t fun a ha=>k a<|ZA _ ha,ai.mono t h2 fun a ha=>k a<|ZG _ ha,rfl⟩
theorem eU.chg:∀ {o:Option Vl}{x:Option V}{F:List Addr},eU H o x F->∀ a∈F,GS H a
 | none,_,F,h,a,ha=>by rw[show F=[] from h] at ha;cases ha
 | some d,x,F,h,a,ha=>by
  obtain⟨v,rfl,h⟩:=h;exact h.chg a ha
theorem ai.chg{H:Hp}:∀ {D:SD}{σ:St}{F:List Addr},ai H D σ F->∀ a∈F,GS H a
 | [],σ,F,h,a,ha=>by rw[h.2] at ha;cases ha
 | o::D,σ,F,h,a,ha=>by
  obtain⟨x,r,F1,F2,rfl,h1,h2,rfl⟩:=h;rcases Zx.mp ha with ha | ha
  ·exact h1.chg a ha
  ·exact ai.chg h2 a ha
theorem ai.len{H:Hp}:∀ {D:SD}{σ:St}{F:List Addr},ai H D σ F->D.length=σ.length
 | [],σ,F,h=>by rw[h.1];rfl
 | o::D,σ,F,h=>by
  obtain⟨x,r,F1,F2,rfl,h1,h2,rfl⟩:=h;rw[ZD,ZD,ai.len h2]
def Vl.cp:Vl->Bool
 | .im _=>true
 | .fz _=>true
 | _=>false
theorem Own.cp(h:Own H d v F)(c:d.cp=true):F=[]:=by
 cases d with
 | im d=>exact h.2
 | fz ds=>obtain⟨a,xs,o,rfl,h1,h2,rfl⟩:=h;rfl
 | _=>cases c
theorem ai.out{H:Hp}:∀ {D:SD}{σ:St}{F:List Addr}{i:Nat}{d:Vl},ai H D σ F->D[i]?=some (some d)->∃ v F1 F2,σ[i]?=some (some v)/\Own H d v F1/\ai H (D.set i<|some .jk) σ F2/\(F2++F1).Perm F
 | [],σ,F,i,d,h,e=>by simp at e
 | o::D,σ,F,0,d,h,e=>by
  obtain⟨x,r,F1,F2,rfl,h1,h2,rfl⟩:=h;simp at e;subst e;obtain⟨v,rfl,h1⟩:=h1;exact⟨v,F1,F2,rfl,h1,⟨some v,r,[],F2,rfl,⟨v,rfl,rfl⟩,h2,rfl⟩,ZX⟩
 | o::D,σ,F,i+1,d,h,e=>by
  obtain⟨x,r,F1,F2,rfl,h1,h2,rfl⟩:=h;obtain⟨v,G1,G2,g1,g2,g3,g4⟩:=ai.out (i:=i) h2 (by simpa using e);refine⟨v,G1,F1++G2,by simpa using g1,g2,⟨x,r,F1,G2,rfl,h1,g3,rfl⟩,?_⟩;rw[Z7];exact ZL _ g4
theorem ai.put{H:Hp}:∀ {D:SD}{σ:St}{F:List Addr}{i:Nat}{d:Vl}{v:V}{G:List Addr},ai H D σ F->Own H d v G->i<D.length->∃ F1 F2,ai H (D.set i<|some d) (σ.set i<|some v) F1/\(F1++F2).Perm (F++G)
 | [],σ,F,i,d,v,G,h,w,l=>by simp at l
 | o::D,σ,F,0,d,v,G,h,w,l=>by
  obtain⟨x,r,F1,F2,rfl,h1,h2,rfl⟩:=h;refine⟨G++F2,F1,⟨some v,r,G,F2,rfl,⟨v,rfl,w⟩,h2,rfl⟩,?_⟩;refine ZX.trans ?_;rw[Z7];exact ZL _ ZX
 | o::D,σ,F,i+1,d,v,G,h,w,l=>by
  obtain⟨x,r,F1,F2,rfl,h1,h2,rfl⟩:=h;obtain⟨G1,G2,g1,g2⟩:=ai.put (i:=i) h2 w (by simpa using l);refine⟨F1++G1,G2,⟨x,_,F1,G1,rfl,h1,g1,rfl⟩,?_⟩;rw[Z7,Z7];exact ZL _ g2
theorem ai.cp{i:Nat}(h:ai H D σ F)(e:D[i]?=some (some d))(c:d.cp=true):∃ v,σ[i]?=some (some v)/\Own H d v []:=by
 obtain⟨v,F1,F2,g1,g2,_⟩:=h.out e;obtain rfl:=g2.cp c;exact⟨v,g1,g2⟩
theorem yP{i:Nat}(h:σ[i]?=some (some v)):σ.set i (some v)=σ:=by
 refine Yc fun j=>?_;by_cases e:i=j
 ·subst e;rw[h,XE (ZE.mp h).1]
 ·rw[YO e]
theorem ai.back{i:Nat}(h:ai H D σ F)(w:Own H d v G)(hv:σ[i]?=some (some v)):∃ F1 F2,ai H (D.set i<|some d) σ F1/\(F1++F2).Perm (F++G):=by
 have l:i<D.length:=by rw[h.len];exact (ZE.mp hv).1
 obtain⟨F1,F2,h1,h2⟩:=h.put (i:=i) w l;rw[yP hv] at h1;exact⟨F1,F2,h1,h2⟩
theorem D_.of(f:iF H H')(g:∀ a o u,H a=some (.Fa o u)->H' a=some (.Fa o u)):D_ H H':=⟨⟨f,g⟩,g⟩
theorem yQ(H:Hp):D_ H H:=⟨⟨fun _ _ e=>e,fun _ _ _ e=>e⟩,fun _ _ _ e=>e⟩
theorem D_.trans(a:D_ H H1)(b:D_ H1 H2):D_ H H2:=⟨⟨fun x xs e=>b.tup.t x xs<|a.tup.t x xs e,fun x o u e=>b.Fa x o u<|a.Fa x o u e⟩,fun x o u e=>b.Fa x o u<|a.Fa x o u e⟩
theorem l_.refl{H:Hp}{F F':List Addr}(h:F'.Nodup)(s:∀ a∈F',a∈F):l_ H F H F':=⟨fun _ _ e _=>e,fun a ha=>.inl<|s a ha,h,yQ H,fun _ o e=>⟨o,e⟩⟩
theorem l_.perm{F':List Addr}(h:F.Nodup)(p:F'.Perm F):l_ H F H F':=l_.refl ((p.nodup_iff).mpr h) fun a ha=>p.mem_iff.mp ha
theorem l_.trans(a:l_ H F H1 (F1++R))(b:l_ H1 F1 H2 F2)(cr:∀ x∈R,GS H1 x):l_ H F H2 (F2++R):=by
 have nd:=ZK.mp a.nd;have al:∀ x∈F2,x∉R:=fun x hx hr=>by
  rcases b.sub x hx with h | h
  ·exact nd.2.2 x h x hr rfl
  ·obtain⟨o,e,_⟩:=cr x hr;rw[e] at h;cases h
 refine⟨fun x o e hx=>?_,fun x hx=>?_,ZK.mpr ⟨b.nd,nd.2.1,fun x hx y hy e=>al x hx<|e ▸ hy⟩,a.tup.trans b.tup,fun x o e=>let ⟨o',e'⟩:=a.grow x o e;b.grow x o' e'⟩
 ·refine b.keep x o (a.keep x o e hx) fun h1=>?_;rcases a.sub x (ZA _ h1) with h | h
  ·exact hx h
  ·rw[e] at h;cases h
 ·rcases Zx.mp hx with hx | hx
  ·rcases b.sub x hx with h | h
   ·exact a.sub x (ZA _ h)
   ·refine .inr ?_;cases e:H x with
    | none=>rfl
    | some o=>
     obtain⟨o',e'⟩:=a.grow x o e;rw[e'] at h;cases h
  ·exact a.sub x (ZG _ hx)
theorem aA.tupS(s:aA H H'):D_ H H':=⟨⟨fun a xs e=>s a _ e,fun a o u e=>s a _ e⟩,fun a o u e=>s a _ e⟩
theorem yR{a b:Addr}{o u:HO}(e:H b=some o)(h:H a=none):L2.upd H a u b=some o:=by rw[aG (bZ e h)];exact e
theorem aA.upd(s:aA H H'){a:Addr}{o:HO}(h:H' a=none):aA H (L2.upd H' a o):=fun b u e=>yR (s b u e) h
abbrev M(α:Type):=SD->Option (α×SD)
variable{ge:M Vl}{gc k:M Bool}
inductive Opd where
 | sl (i:Nat)
 | vl (d:Vl)
variable{gb ga:M Opd}{g:M (List Opd)}
def rsl(D:SD):Opd->Option Vl
 | .sl i=>(D[i]?).getD none
 | .vl d=>some d
def cD(H:Hp)(σ:St):Opd->V->List Addr->Prop
 | .sl i,v,R=>σ[i]?=some (some v)/\R=[]
 | .vl d,v,R=>Own H d v R
def tV(g:M Vl):TE:=fun σ H Q=>∃ D F r D',ai H D σ F/\F.Nodup/\g D=some (r,D')/\∀ v H' F' R,ai H' D' σ F'->Own H' r v R->l_ H F H' (F'++R)->Q v H'
def tO(g:M Opd):TE:=fun σ H Q=>∃ D F r D',ai H D σ F/\F.Nodup/\g D=some (r,D')/\∀ v H' F' R,ai H' D' σ F'->cD H' σ r v R->l_ H F H' (F'++R)->Q v H'
def HK(g:M Bool):TT:=fun σ H Q=>∃ D F b D',ai H D σ F/\F.Nodup/\g D=some (b,D')/\∀ H' F',ai H' D' σ F'->l_ H F H' F'->Q b H'
def VE(X:Cx)(e:Expr)(g:M Vl):Prop:=∀ ⦃p⦄,NC X e (tV g) p
def VO(X:Cx)(e:Expr)(g:M Opd):Prop:=∀ ⦃p⦄,NC X e (tO g) p
def VT(X:Cx)(e:Expr)(g:M Bool):Prop:=∀ ⦃p⦄,Pj X e (HK g) p
theorem aW{t t':TE}(h:PE X e t)(i:∀ σ H Q,t' σ H Q->t σ H Q):PE X e t':=fun pins s σ H Q I hw=>h pins s σ H Q I (i σ H Q hw)
theorem jP{t:TT}(h:PT X e t)(i:∀ σ H Q,t' σ H Q->t σ H Q):PT X e t':=fun pins s σ H Q I hw=>h pins s σ H Q I (i σ H Q hw)
theorem cD.mono{r:Opd}(h:cD H σ r v R)(t:D_ H H')(k:∀ a∈R,∀ o,H a=some o->H' a=some o):cD H' σ r v R:=by
 cases r with
 | sl i=>exact h
 | vl d=>exact Own.mono t h k
theorem cD.chg{r:Opd}(h:cD H σ r v R):∀ a∈R,GS H a:=by
 cases r with
 | sl i=>intro a ha;rw[h.2] at ha;cases ha
 | vl d=>exact Own.chg h
def FS(H:Hp)(d:Vl)(v:V):Prop:=∃ R,Own H d v R
theorem cD.read{r:Opd}(h:cD H σ r v R)(st:ai H D σ F)(e:rsl D r=some d):FS H d v:=by
 cases r with
 | vl d'=>cases e;exact⟨R,h⟩
 | sl i=>
  have e':D[i]?=some (some d):=by
   have:(D[i]?).getD none=some d:=e;cases q:D[i]? with
   | none=>rw[q] at this;cases this
   | some o=>rw[q] at this;rw[show o=some d from this]
  obtain⟨v',F1,F2,g1,g2,_⟩:=st.out e';rw[h.1] at g1;cases g1;exact⟨F1,g2⟩
@[simp] def bD(i:Nat):M Vl:=fun D=>match D[i]? with
 | some (some d)=>if d.cp=true then some (d,D) else some (d,D.set i<|some .jk)
 | _=>none
def eC(d:Im):M Vl:=fun D=>some (.im d,D)
@[simp] def oSl(i:Nat):M Opd:=fun D=>match D[i]? with
 | some (some _)=>some (.sl i,D)
 | _=>none
@[simp] def oV(g:M Vl):M Opd:=fun D=>(g D).map fun p=>(.vl p.1,p.2)
section
variable{X:Cx}
variable{i:Nat}
theorem d8(h:PE X e (gw i)):VE X e (bD i):=by
 refine aW h fun σ H Q ⟨D,F,r,D',st,nd,hg,q⟩=>?_;unfold bD at hg;split at hg
 ·rename_i d hd;split at hg
  ·rename_i hc;cases hg;obtain⟨v,h1,h2⟩:=st.cp hd hc;exact⟨v,h1,q v H F [] st h2 (by rw[ZT];exact l_.perm nd (ZF _))⟩
  ·cases hg;obtain⟨v,F1,F2,h1,h2,h3,h4⟩:=st.out hd;exact⟨v,h1,q v H F2 F1 h3 h2<|l_.perm nd h4⟩
 ·cases hg
theorem yS(h:PE X e (gw i)):VO X e (oSl i):=by
 refine aW h fun σ H Q ⟨D,F,r,D',st,nd,hg,q⟩=>?_;unfold oSl at hg;split at hg
 ·rename_i d hd;cases hg;obtain⟨v,F1,F2,h1,h2,h3,h4⟩:=st.out hd;exact⟨v,h1,q v H F [] st ⟨h1,rfl⟩ (by rw[ZT];exact l_.perm nd (ZF _))⟩
 ·cases hg
theorem af{g:M Vl}(h:VE X e g):VO X e (oV g):=by
 refine aW h fun σ H Q ⟨D,F,r,D',st,nd,hg,q⟩=>?_;unfold oV at hg;obtain⟨⟨r',D1⟩,h1,h2⟩:=Z2.mp hg;cases h2;exact⟨D,F,r',_,st,nd,h1,q⟩
theorem iS{d:Im}(h:PE X e (tC v))(hd:∀ H,EG H d v):VE X e (eC d):=by
 refine aW h fun σ H Q ⟨D,F,r,D',st,nd,hg,q⟩=>?_;cases hg;exact q v H F [] st ⟨hd H,rfl⟩ (by rw[ZT];exact l_.perm nd (ZF _))
theorem dJ{i:Int}{j pos}:VE X (.Constant (.int i) j pos) (eC<|.int i):=iS vD fun _=>rfl
theorem jQ{b:Bool}{j pos}:VE X (.Constant (.bool b) j pos) (eC<|.bl b):=iS vE fun _=>rfl
theorem qH{j pos}:VE X (.Constant .none j pos) (eC .h_):=iS vF fun _=>rfl
theorem jR{j pos}:VE X (.Constant (.str x) j pos) (eC<|.str x):=iS pC fun _=>rfl
theorem two{D1 D2:SD}{x y:Opd}{K:V->V->Hp->Prop}(st:ai H D σ F)(nd:F.Nodup)(ha:ga D=some (x,D1))(hb:gb D1=some (y,D2))(k:∀ v u H' F' R1 R2,ai H' D2 σ F'->cD H' σ x v R1->cD H' σ y u R2->l_ H F H' ((F'++R2)++R1)->K v u H'):tO ga σ H fun v H1=>tO gb σ H1 fun u H2=>K v u H2:=by
 refine⟨D,F,x,D1,st,nd,ha,fun v H1 F1 R1 p_ o1 s1=>⟨D1,F1,y,D2,p_,(ZK.mp s1.nd).1,hb,fun u H2 F2 R2 m_ o2 s2=>?_⟩⟩;refine k v u H2 F2 R1 R2 m_ (o1.mono s2.tup fun a ha o e=>s2.keep a o e fun h=>?_) o2 (s1.trans s2 o1.chg);exact (ZK.mp s1.nd).2.2 a h a ha rfl
theorem l_.new{R':List Addr}(a:l_ H F H1 (F1++R))(s:aA H1 H2)(nd:R'.Nodup)(fr:∀ x∈R',H1 x=none)(c:∀ x∈F1,GS H1 x):l_ H F H2 (F1++R'):=by
 refine⟨fun x o e hx=>s _ _<|a.keep x o e hx,fun x hx=>?_,ZK.mpr ⟨(ZK.mp a.nd).1,nd,fun x hx y hy e=>?_⟩,a.tup.trans s.tupS,fun x o e=>let ⟨o',e'⟩:=a.grow x o e;⟨o',s _ _ e'⟩⟩
 ·rcases Zx.mp hx with hx | hx
  ·exact a.sub x (ZA _ hx)
  ·refine .inr ?_;cases e:H x with
   | none=>rfl
   | some o=>
    obtain⟨o',e'⟩:=a.grow x o e;rw[fr x hx] at e';cases e'
 ·subst e;obtain⟨o,e,_⟩:=c x hx;rw[fr x hy] at e;cases e
def Gk(X:Cx)(f:Value->Value->Sem Value)(op:Vl->Vl->Option Vl):Prop:=
 Fd X f fun x y H Q=>∃ d1 d2 d,FS H d1 x/\FS H d2 y/\op d1 d2=some d/\∀ v H' R,aA H H'->Own H' d v R->R.Nodup->(∀ a∈R,H a=none)->Q v H'
@[simp] def ae(op:Vl->Vl->Option Vl)(ga gb:M Opd):M Vl:=fun D=>(ga D).bind fun p=>(gb p.2).bind fun q=>(rsl q.2 p.1).bind fun d1=>(rsl q.2 q.1).bind fun d2=>(op d1 d2).map fun d=>(d,q.2)
theorem jS{op:Vl->Vl->Option Vl}(h:tV (ae op ga gb) σ H Q):
  tO ga σ H fun x H1=>tO gb σ H1 fun y H2=>∃ d1 d2 d,FS H2 d1 x/\FS H2 d2 y/\op d1 d2=some d/\∀ v H' R,aA H2 H'->Own H' d v R->R.Nodup->(∀ a∈R,H2 a=none)->Q v H':=by
 obtain⟨D,F,r,D',st,nd,hg,q⟩:=h;unfold ae at hg;obtain⟨⟨x,D1⟩,ha,hg⟩:=Z8.mp hg;obtain⟨⟨y,D2⟩,hb,hg⟩:=Z8.mp hg;obtain⟨d1,h1,hg⟩:=Z8.mp hg;obtain⟨d2,h2,hg⟩:=Z8.mp hg;obtain⟨d,h3,hg⟩:=Z2.mp hg;cases hg;refine two st nd ha hb fun v u H2 F2 R1 R2 m_ o1 o2 s2=>⟨d1,d2,_,o1.read m_ h1,o2.read m_ h2,h3,fun w H3 R s3 ow K3 fr=>?_⟩;rw[Z7] at s2;exact q w H3 F2 R (m_.mono s3.tupS fun a _ o e=>s3 a o e) ow (s2.new s3 K3 fr m_.chg)
theorem ap{op:Operator}(ho:Gk X (binaryOp op) f)(ha:VO X a ga)(hb:VO X b gb):VE X (.BinOp a op b pos) (ae f ga gb):=
 aW (wA ho ha hb) fun _ _ _ h=>jS h
variable{op:CmpOp}
theorem fS(ho:Gk X (compareOp op) f)(ha:VO X a ga)(hb:VO X b gb)(hm:behindInMarks op b=false):VE X (.Compare a [op] [b] pos) (ae f ga gb):=
 aW (wP ho ha hb hm) fun _ _ _ h=>jS h
theorem yT(ho:HF X (fun x y H Q=>∃ d1 d2 d,FS H d1 x/\FS H d2 y/\f d1 d2=some d/\∀ v H' R,aA H H'->Own H' d v R->R.Nodup->(∀ a∈R,H a=none)->Q v H'))(ha:VO X a ga)(hb:VO X b gb)(hs:lZ b):VE X (.Subscript a b pos) (ae f ga gb):=
 aW (xC ho ha hb hs) fun _ _ _ h=>jS h
@[simp] def asB:Vl->Option Bool
 | .im (.bl b)=>some b
 | _=>none
@[simp] def kB(g:M Vl):M Bool:=fun D=>(g D).bind fun p=>(asB p.1).map fun b=>(b,p.2)
theorem iT{b:Bool}(h:asB d=some b):d=.im (.bl b):=by
 unfold asB at h;split at h
 ·cases h;rfl
 ·cases h
theorem bE(ho:Gk X (compareOp op) f)(ha:VO X a ga)(hb:VO X b gb)(hm:behindInMarks op b=false):VT X (.Compare a [op] [b] pos) (kB<|ae f ga gb):=by
 refine jP (wQ ho ha hb hm) fun σ H Q ⟨D,F,c,D',st,nd,hg,q⟩=>?_;refine jS ⟨D,F,.im<|.bl c,D',st,nd,?_,fun v H' F' R f_ ow s=>⟨c,ow.1,q H' F' f_ (by rw[ow.2,ZT] at s;exact s)⟩⟩;obtain⟨p,h1,h2⟩:=Z8.mp hg;obtain⟨c',h3,h4⟩:=Z2.mp h2;cases h4;rw[h1,<- iT h3]
@[simp] def cS(g:M Bool):M Bool:=fun D=>(g D).map fun p=>(!p.1,p.2)
variable{g:M Bool}
theorem jT(h:VT X a g):VT X (.UnaryOp .Not a pos) (cS g):=by
 refine jP (vL h) fun σ H Q ⟨D,F,c,D',st,nd,hg,q⟩=>?_;obtain⟨p,h1,h2⟩:=Z2.mp hg;cases h2;exact⟨D,F,p.1,_,st,nd,h1,q⟩
@[simp] def aT(g h:M Bool):M Bool:=fun D=>(g D).bind fun p=>if p.1=true then h p.2 else some (false,p.2)
@[simp] def kOr(g h:M Bool):M Bool:=fun D=>(g D).bind fun p=>if p.1=true then some (true,p.2) else h p.2
variable{Q:Bool->Hp->Prop}{h:M Bool}
theorem qI(w:HK (aT g h) σ H Q):pE (HK g) (HK h) σ H Q:=by
 obtain⟨D,F,c,D',st,nd,hg,q⟩:=w;obtain⟨⟨b,D1⟩,h1,h2⟩:=Z8.mp hg;refine⟨D,F,b,D1,st,nd,h1,fun H1 F1 p_ s1=>?_⟩;cases b with
 | true=>
  rw[ZZ rfl];rw[ZZ rfl] at h2;exact⟨D1,F1,c,D',p_,s1.nd,h2,fun H2 F2 m_ s2=>q H2 F2 m_ (by
   have:=l_.trans (R:=[]) (by rw[ZT];exact s1) s2 (fun x hx=>nomatch hx)
   rwa [ZT] at this)⟩
 | false=>
  rw[ZY ZM] at h2 ⊢;cases h2;exact q H1 F1 p_ s1
theorem qJ(w:HK (kOr g h) σ H Q):Pn (HK g) (HK h) σ H Q:=by
 obtain⟨D,F,c,D',st,nd,hg,q⟩:=w;obtain⟨⟨b,D1⟩,h1,h2⟩:=Z8.mp hg;refine⟨D,F,b,D1,st,nd,h1,fun H1 F1 p_ s1=>?_⟩;cases b with
 | false=>
  rw[ZY ZM] at h2 ⊢;exact⟨D1,F1,c,D',p_,s1.nd,h2,fun H2 F2 m_ s2=>q H2 F2 m_ (by
   have:=l_.trans (R:=[]) (by rw[ZT];exact s1) s2 (fun x hx=>nomatch hx)
   rwa [ZT] at this)⟩
 | true=>
  rw[ZZ rfl] at h2 ⊢;cases h2;exact q H1 F1 p_ s1
def VW(X:Cx)(e:Expr)(g:M Bool):Prop:=∀ ⦃p⦄,Pk X e (HK g) p
theorem qK{t:TT}(h:PW X e t)(i:∀ σ H Q,t' σ H Q->t σ H Q):PW X e t':=fun wh pins s σ H Q I hw=>h wh pins s σ H Q I (i σ H Q hw)
theorem iU(h:VT X a g):VW X (.BoolOp .And [a] pos) g:=vH h
theorem yU(h:VT X a g):VW X (.BoolOp .Or [a] pos) g:=vI h
theorem d9(h:VT X a g)(hb:VW X (.BoolOp .And (b::r) pos) k):VW X (.BoolOp .And (a::b::r) pos) (aT g k):=qK (vJ h hb) fun _ _ _ w=>qI w
theorem yV(h:VT X a g)(hb:VW X (.BoolOp .Or (b::r) pos) k):VW X (.BoolOp .Or (a::b::r) pos) (kOr g k):=qK (vK h hb) fun _ _ _ w=>qJ w
theorem VW.vt(h:VW X e g):VT X e g:=PW.pt h
@[simp] def eB(g:M Bool):M Vl:=fun D=>(g D).map fun p=>(.im<|.bl p.1,p.2)
theorem iV(h:VE X e (eB g)):PE X e fun σ H Q=>HK g σ H fun b H'=>Q (.bl b) H':=by
 refine aW h fun σ H Q ⟨D,F,c,D',st,nd,hg,q⟩=>⟨D,F,.im<|.bl c,D',st,nd,by unfold eB;rw[hg];rfl,fun v H' F' R f_ ow s=>?_⟩;rw[show v=.bl c from ow.1];exact q H' F' f_ (by rw[ow.2,ZT] at s;exact s)
theorem mC(h:PE X e fun σ H Q=>HK g σ H fun b H'=>Q (.bl b) H'):VE X e (eB g):=by
 refine aW h fun σ H Q ⟨D,F,r,D',st,nd,hg,q⟩=>?_;obtain⟨p,h1,h2⟩:=Z2.mp hg;cases h2;exact⟨D,F,p.1,_,st,nd,h1,fun H' F' f_ s=>q _ H' F' [] f_ ⟨rfl,rfl⟩ (by rw[ZT];exact s)⟩
theorem eV{g:M Vl}(h:VE X e g):VE X e (eB<|kB g):=by
 refine aW h fun σ H Q ⟨D,F,r,D',st,nd,hg,q⟩=>?_;obtain⟨p,h1,h2⟩:=Z2.mp hg;obtain⟨p',h3,h4⟩:=Z8.mp h1;obtain⟨c,h5,h6⟩:=Z2.mp h4;cases h6;cases h2;exact⟨D,F,p'.1,_,st,nd,h3,by rw[iT h5];exact q⟩
theorem yW(h:VE X a (eB g)):VE X (.UnaryOp .Not a pos) (eB<|cS g):=by
 refine mC (aW (vS<|iV h) fun σ H Q ⟨D,F,c,D',st,nd,hg,q⟩=>?_);obtain⟨p,h1,h2⟩:=Z2.mp hg;cases h2;exact⟨D,F,p.1,_,st,nd,h1,fun H' F' f_ s=>⟨_,rfl,q H' F' f_ s⟩⟩
theorem mD{op}{g:M Vl}(h:VE X a g):VE X (.BoolOp op [a] pos) g:=vP h
theorem mE(h:VE X a (eB g))(hb:VE X (.BoolOp .And (b::r) pos) (eB k)):VE X (.BoolOp .And (a::b::r) pos) (eB<|aT g k):=by
 refine mC (aW (vQ (iV h)<|iV hb) fun σ H Q w=>?_);have:=qI w;obtain⟨D,F,c,D',st,nd,hg,q⟩:=this;exact⟨D,F,c,D',st,nd,hg,fun H' F' f_ s=>⟨c,rfl,q H' F' f_ s⟩⟩
theorem yX(h:VE X a (eB g))(hb:VE X (.BoolOp .Or (b::r) pos) (eB k)):VE X (.BoolOp .Or (a::b::r) pos) (eB<|kOr g k):=by
 refine mC (aW (vR (iV h)<|iV hb) fun σ H Q w=>?_);have:=qJ w;obtain⟨D,F,c,D',st,nd,hg,q⟩:=this;exact⟨D,F,c,D',st,nd,hg,fun H' F' f_ s=>⟨c,rfl,q H' F' f_ s⟩⟩
theorem l_.seq(a:l_ H F H1 F1)(b:l_ H1 F1 H2 F2):l_ H F H2 F2:=by
 have:=l_.trans (R:=[]) (by rw[ZT];exact a) b (fun x hx=>nomatch hx)
 rwa [ZT] at this
end
def dL(H:Hp)(σ:St):List Opd->List V->List Addr->Prop
 | [],vs,R=>vs=[]/\R=[]
 | o::os,vs,R=>∃ v r R1 R2,vs=v::r/\cD H σ o v R1/\dL H σ os r R2/\R=R1++R2
def tA(g:M (List Opd)):TA:=fun σ H Q=>∃ D F r D',ai H D σ F/\F.Nodup/\g D=some (r,D')/\∀ vs H' F' R,ai H' D' σ F'->dL H' σ r vs R->l_ H F H' (F'++R)->Q vs H'
def VA(X:Cx)(es:List Expr)(g:M (List Opd)):Prop:=∀ ⦃p⦄,Pl X es (tA g) p
theorem qL{t t':TA}(h:PA X es t)(i:∀ σ H Q,t' σ H Q->t σ H Q):PA X es t':=fun pos pins s σ H Q I hw=>h pos pins s σ H Q I (i σ H Q hw)
def aNil:M (List Opd):=fun D=>some ([],D)
@[simp] def aa(g:M Opd)(h:M (List Opd)):M (List Opd):=fun D=>(g D).bind fun p=>(h p.2).map fun q=>(p.1::q.1,q.2)
theorem l_.EV(s:l_ H F H' A)(p:A.Perm B):l_ H F H' B:=⟨s.keep,fun a ha=>s.sub a<|p.mem_iff.mpr ha,(p.nodup_iff).mp s.nd,s.tup,s.grow⟩
theorem l_.less(s:l_ H F H' A)(p:(B++C).Perm A):l_ H F H' B:=
 ⟨s.keep,fun a ha=>s.sub a<|p.mem_iff.mp<|ZA _ ha,(ZK.mp<|(p.nodup_iff).mpr s.nd).1,s.tup,s.grow⟩
section
variable{X:Cx}
theorem iW:VA X [] aNil:=by
 refine qL iH fun σ H Q ⟨D,F,r,D',st,nd,hg,q⟩=>?_;cases hg;exact q [] H F [] st ⟨rfl,rfl⟩ (by rw[ZT];exact l_.perm nd (ZF _))
theorem aq{g:M Opd}{h:M (List Opd)}(he:VO X e g)(hr:VA X es h)(hs:starEach (e::es) X.env=(false,eval e X.env)::starEach es X.env:=by rfl):VA X (e::es) (aa g h):=by
 refine qL (eQ he hr hs) fun σ H Q ⟨D,F,r,D',st,nd,hg,q⟩=>?_;obtain⟨⟨x,D1⟩,h1,h2⟩:=Z8.mp hg;obtain⟨⟨ys,D2⟩,h3,h4⟩:=Z2.mp h2;cases h4;refine⟨D,F,x,D1,st,nd,h1,fun v H1 F1 R1 p_ o1 s1=>⟨D1,F1,ys,_,p_,(ZK.mp s1.nd).1,h3,fun vs H2 F2 R2 m_ o2 s2=>?_⟩⟩;refine q (v::vs) H2 F2 (R1++R2) m_ ⟨v,vs,R1,R2,rfl,o1.mono s2.tup fun a ha o e=>s2.keep a o e fun h=>?_,o2,rfl⟩ ((s1.trans s2 o1.chg).EV ?_)
 ·exact (ZK.mp s1.nd).2.2 a h a ha rfl
 ·rw[Z7];exact ZL _ ZX
end
def cj(D:SD):List Opd->Option (List Vl)
 | []=>some []
 | o::os=>(rsl D o).bind fun d=>(cj D os).map fun ds=>d::ds
def eZ(H:Hp):List Vl->List V->Prop
 | [],vs=>vs=[]
 | d::ds,vs=>∃ v r,vs=v::r/\FS H d v/\eZ H ds r
theorem dL.read{H:Hp}{D:SD}{σ:St}{F:List Addr}(st:ai H D σ F):∀ {os:List Opd}{vs:List V}{R:List Addr}{ds:List Vl},dL H σ os vs R->cj D os=some ds->eZ H ds vs
 | [],_,_,_,h,e=>by cases e;exact h.1
 | o::os,_,_,_,h,e=>by
  obtain⟨v,r,R1,R2,rfl,h1,h2,rfl⟩:=h;obtain⟨d,e1,e2⟩:=Z8.mp e;obtain⟨ds,e3,e4⟩:=Z2.mp e2;cases e4;exact⟨v,r,rfl,h1.read st e1,dL.read st h2 e3⟩
def aY:List Opd->SD->Option (List Vl×SD)
 | [],D=>some ([],D)
 | .vl d::os,D=>(aY os D).map fun p=>(d::p.1,p.2)
 | .sl i::os,D=>(bD i D).bind fun p=>(aY os p.2).map fun q=>(p.1::q.1,q.2)
theorem qM{i:Nat}(st:ai H D σ F)(h:bD i D=some (d,D')):∃ v F1 R,σ[i]?=some (some v)/\Own H d v R/\ai H D' σ F1/\(F1++R).Perm F:=by
 unfold bD at h;split at h
 ·rename_i e hd;split at h
  ·rename_i hc;cases h;obtain⟨v,h1,h2⟩:=st.cp hd hc;exact⟨v,F,[],h1,h2,st,by rw[ZT]⟩
  ·cases h;obtain⟨v,F1,F2,h1,h2,h3,h4⟩:=st.out hd;exact⟨v,F2,F1,h1,h2,h3,h4⟩
 ·cases h
theorem dM:(A++(B++C)).Perm (B++(A++C)):=by
 rw[<- Z7,<- Z7];exact ZJ _ ZX
theorem fc{H:Hp}{σ:St}:∀ {os:List Opd}{vs:List V}{R F:List Addr}{D D':SD}{ds:List Vl},ai H D σ F->dL H σ os vs R->aY os D=some (ds,D')->∃ F1 R1,ai H D' σ F1/\aE H ds vs R1/\(F1++R1).Perm (F++R)
 | [],_,_,F,_,_,_,st,h,e=>by
  cases e;exact⟨F,[],st,⟨h.1,rfl⟩,by rw[h.2]⟩
 | .vl d::os,_,_,F,D,_,_,st,h,e=>by
  obtain⟨v,r,R1,R2,rfl,h1,h2,rfl⟩:=h;rw[aY] at e;obtain⟨p,e3,e4⟩:=Z2.mp e;cases e4;obtain⟨F1,R3,g1,g2,g3⟩:=fc (D':=p.2) (ds:=p.1) st h2 e3;exact⟨F1,R1++R3,g1,⟨v,r,R1,R3,rfl,h1,g2,rfl⟩,dM.trans<|(ZL _ g3).trans dM⟩
 | .sl i::os,_,_,F,D,_,_,st,h,e=>by
  obtain⟨v,r,R1,R2,rfl,⟨h1,rfl⟩,h2,rfl⟩:=h;rw[aY] at e;obtain⟨⟨d,D1⟩,e1,e2⟩:=Z8.mp e;obtain⟨p,e3,e4⟩:=Z2.mp e2;cases e4;obtain⟨v',F1,R3,g1,g2,g3,g4⟩:=qM st e1;rw[h1] at g1;cases g1;obtain⟨F2,R4,k1,k2,k3⟩:=fc (D':=p.2) (ds:=p.1) g3 h2 e3;refine⟨F2,R3++R4,k1,⟨v,r,R3,R4,rfl,g2,k2,rfl⟩,dM.trans<|(ZL _ k3).trans ?_⟩;rw[<- Z7];exact ZJ _ (ZX.trans g4)
@[simp] def wb:List Opd->List Vl->SD->SD
 | .sl i::os,d::ds,D=>wb os ds (match D[i]? with | some (some .jk)=>D.set i (some d) | _=>D)
 | .vl _::os,_::ds,D=>wb os ds D
 | _,_,D=>D
theorem jU{H H0:Hp}{σ:St}:∀ {os:List Opd}{ds:List Vl}{vs:List V}{R F S:List Addr}{D:SD},ai H D σ F->dL H0 σ os vs S->aE H ds vs R->∃ F1 R1,ai H (wb os ds D) σ F1/\(F1++R1).Perm (F++R)
 | [],ds,_,R,F,_,D,st,_,_=>⟨F,R,by unfold wb;exact st,ZF _⟩
 | .vl _::os,[],_,R,F,_,D,st,_,_=>⟨F,R,by unfold wb;exact st,ZF _⟩
 | .sl _::os,[],_,R,F,_,D,st,_,_=>⟨F,R,by unfold wb;exact st,ZF _⟩
 | .vl _::os,d::ds,_,R,F,_,D,st,h,w=>by
  obtain⟨v,r,S1,S2,rfl,h1,h2,rfl⟩:=h;obtain⟨v',r',R1,R2,e,w1,w2,rfl⟩:=w;cases e;obtain⟨F1,R3,g1,g2⟩:=jU (D:=D) st h2 w2;refine⟨F1,R1++R3,by rw[wb];exact g1,dM.trans<|(ZL _ g2).trans dM⟩
 | .sl i::os,d::ds,_,R,F,_,D,st,h,w=>by
  obtain⟨v,r,S1,S2,rfl,⟨h1,_⟩,h2,rfl⟩:=h;obtain⟨v',r',R1,R2,e,w1,w2,rfl⟩:=w;cases e;rw[wb];split
  ·obtain⟨F1,G,g1,g2⟩:=st.back w1 h1;obtain⟨F2,R3,k1,k2⟩:=jU g1 h2 w2;refine⟨F2,R3++G,k1,?_⟩;rw[<- Z7,<- Z7];refine (ZJ _ k2).trans ?_;rw[Z7];refine (ZL _ ZX).trans ?_;rw[<- Z7];exact ZJ _ g2
  ·obtain⟨F1,R3,g1,g2⟩:=jU st h2 w2;exact⟨F1,R1++R3,g1,dM.trans<|(ZL _ g2).trans dM⟩
def ims:List Vl->Option (List Im)
 | []=>some []
 | .im d::ds=>(ims ds).map fun r=>d::r
 | _::_=>none
@[simp] def mkT(ds:List Vl):Vl:=match ims ds with
 | some is=>.im (.tup is)
 | none=>.K1 ds
@[simp] def mkL(ds:List Vl):Vl:=match ims ds with
 | some is=>.lst is
 | none=>.Fx ds
theorem mF{H:Hp}:∀ {ds:List Vl}{vs:List V}{R:List Addr}{is:List Im},aE H ds vs R->ims ds=some is->aj H is vs/\R=[]
 | [],_,_,_,h,e=>by cases e;exact h
 | .im d::ds,_,_,_,h,e=>by
  obtain⟨v,r,R1,R2,rfl,⟨h1,rfl⟩,h2,rfl⟩:=h;rw[ims] at e;obtain⟨p,e3,e4⟩:=Z2.mp e;cases e4;obtain⟨g1,rfl⟩:=mF h2 e3;exact⟨⟨v,r,rfl,h1,g1⟩,rfl⟩
 | .jk::_,_,_,_,_,e=>by rw[ims] at e;cases e;all_goals (intro _ z;cases z)
 | .fz _::_,_,_,_,_,e=>by rw[ims] at e;cases e;all_goals (intro _ z;cases z)
 | .lst _::_,_,_,_,_,e=>by rw[ims] at e;cases e;all_goals (intro _ z;cases z)
 | .dK _::_,_,_,_,_,e=>by rw[ims] at e;cases e;all_goals (intro _ z;cases z)
 | .dT _::_,_,_,_,_,e=>by rw[ims] at e;cases e;all_goals (intro _ z;cases z)
 | .Fx _::_,_,_,_,_,e=>by rw[ims] at e;cases e;all_goals (intro _ z;cases z)
 | .M' _ _::_,_,_,_,_,e=>by rw[ims] at e;cases e;all_goals (intro _ z;cases z)
 | .K1 _::_,_,_,_,_,e=>by rw[ims] at e;cases e;all_goals (intro _ z;cases z)
 | .obj _ _ _::_,_,_,_,_,e=>by rw[ims] at e;cases e;all_goals (intro _ z;cases z)
@[simp] def aC(g:M (List Opd)):M Vl:=fun D=>(g D).bind fun p=>(aY p.1 p.2).bind fun q=>if q.1.length<=100000 then some (mkT q.1,q.2) else none
@[simp] def bf(g:M (List Opd)):M Vl:=fun D=>(g D).bind fun p=>(aY p.1 p.2).bind fun q=>if q.1.length<=100000 then some (mkL q.1,q.2) else none
theorem yY{ds:List Vl}(s:aA H H')(h:aE H ds vs R)(e:H' p=some (.tup vs)):∃ R',Own H' (mkT ds) (.ref p) R'/\R'=R:=by
 unfold mkT;split
 ·rename_i is hi;obtain⟨g1,rfl⟩:=mF h hi;exact⟨[],⟨⟨p,vs,rfl,e,g1.mono s.tupS.tup⟩,rfl⟩,rfl⟩
 ·exact⟨R,⟨p,vs,rfl,e,h.mono s.tupS fun a _ o q=>s a o q⟩,rfl⟩
theorem yZ{ds:List Vl}(s:aA H H')(h:aE H ds vs R)(e:H' p=some (.lst vs)):Own H' (mkL ds) (.ref p) (p::R):=by
 unfold mkL;split
 ·rename_i is hi;obtain⟨g1,rfl⟩:=mF h hi;exact⟨p,vs,rfl,e,g1.mono s.tupS.tup,rfl⟩
 ·exact⟨p,vs,R,rfl,e,h.mono s.tupS fun a _ o q=>s a o q,rfl⟩
theorem ff(h:n<=100000):n<=sizeLine:=Zg h (by decide)
theorem l_.add{o:HO}(a:l_ H F H1 A)(fr:H1 p=none)(c:∀ x∈A,GS H1 x):l_ H F (upd H1 p o) (A++[p]):=by
 have s:aA H1 (upd H1 p o):=(aA.refl H1).upd fr;have:=l_.new (R:=[]) (R':=[p]) (by rw[ZT];exact a) s (Zw _ _) (fun x hx=>by rw[Z1.mp hx];exact fr) c;exact this
theorem l_.same(a:l_ H F H1 A)(s:aA H1 H2):l_ H F H2 A:=
 ⟨fun x o e hx=>s _ _<|a.keep x o e hx,a.sub,a.nd,a.tup.trans s.tupS,fun x o e=>let ⟨o',e'⟩:=a.grow x o e;⟨o',s _ _ e'⟩⟩
section
variable{X:Cx}
theorem a9{x1}(h:VA X es g):VE X (.Tuple es x1 pos) (aC g):=by
 refine aW (xa h) fun σ H Q ⟨D,F,r,D',st,nd,hg,q⟩=>?_;obtain⟨⟨os,D1⟩,h1,h2⟩:=Z8.mp hg;obtain⟨⟨ds,D2⟩,h3,h4⟩:=Z8.mp h2;refine⟨D,F,os,D1,st,nd,h1,fun vs H1 F1 R1 p_ o1 s1=>?_⟩;obtain⟨F2,R2,m_,ow,pm⟩:=fc p_ o1 h3;split at h4
 ·rename_i hl;cases h4;have FV:vs.length<=100000:=by rw[<- ow.length];exact hl
  refine⟨ff FV,fun p hp=>?_⟩;have s:aA H1 (upd H1 p<|.tup vs):=(aA.refl H1).upd hp;obtain⟨R',g1,rfl⟩:=yY s ow bI;exact q _ _ F2 R' (m_.mono s.tupS fun a _ o e=>s a o e) g1 ((s1.EV pm.symm).same s)
 ·cases h4
theorem cU(h:VA X es g):VE X (.List es pos) (bf g):=by
 refine aW (xb h) fun σ H Q ⟨D,F,r,D',st,nd,hg,q⟩=>?_;obtain⟨⟨os,D1⟩,h1,h2⟩:=Z8.mp hg;obtain⟨⟨ds,D2⟩,h3,h4⟩:=Z8.mp h2;refine⟨D,F,os,D1,st,nd,h1,fun vs H1 F1 R1 p_ o1 s1=>?_⟩;obtain⟨F2,R2,m_,ow,pm⟩:=fc p_ o1 h3;split at h4
 ·rename_i hl;cases h4;have FV:vs.length<=100000:=by rw[<- ow.length];exact hl
  refine⟨ff FV,fun p hp=>?_⟩;have s:aA H1 (upd H1 p<|.lst vs):=(aA.refl H1).upd hp;have g1:=yZ s ow (p:=p) bI;refine q _ _ F2 (p::R2) (m_.mono s.tupS fun a _ o e=>s a o e) g1 (((s1.EV pm.symm).add hp fun x hx=>?_).EV ?_)
  ·rcases Zx.mp hx with hx | hx
   ·exact m_.chg x hx
   ·exact ow.chg x hx
  ·rw[Z7];exact ZL _ ZX
 ·cases h4
def bT(X:Cx)(f:Value)(op:List Vl->Option Vl):Prop:=
 aQ X f fun xs H Q=>∃ ds d,eZ H ds xs/\op ds=some d/\∀ v H' R,aA H H'->Own H' d v R->R.Nodup->(∀ a∈R,H a=none)->Q v H'
@[simp] def ak(op:List Vl->Option Vl)(g:M (List Opd)):M Vl:=fun D=>(g D).bind fun p=>(cj p.2 p.1).bind fun ds=>(op ds).map fun d=>(d,p.2)
theorem qN(h:tV (ak op g) σ H Q):
  tA g σ H fun xs H1=>∃ ds d,eZ H1 ds xs/\op ds=some d/\∀ v H' R,aA H1 H'->Own H' d v R->R.Nodup->(∀ a∈R,H1 a=none)->Q v H':=by
 obtain⟨D,F,r,D',st,nd,hg,q⟩:=h;obtain⟨⟨os,D1⟩,h1,h2⟩:=Z8.mp hg;obtain⟨ds,h3,h4⟩:=Z8.mp h2;obtain⟨d,h5,h6⟩:=Z2.mp h4;cases h6;refine⟨D,F,os,D1,st,nd,h1,fun vs H1 F1 R1 p_ o1 s1=>⟨ds,_,o1.read p_ h3,h5,fun v H2 R s2 ow K3 fr=>?_⟩⟩;exact q v H2 F1 R (p_.mono s2.tupS fun a _ o e=>s2 a o e) ow (s1.new s2 K3 fr p_.chg)
variable{p:Pos}
theorem aU{id:String}(hc:bT X (.builtin id) op)(hg:Gl X x)(hm:X.mg x=none)(hv:bootBuiltins x=some (.builtin id))(ha:VA X (e::es) g)(hn:x ≠ "__name__" := by decide)(GX:(x == ("__debug__" : Str))=false:=by decide)(he:starEach (e::es) X.env=(false,eval e X.env)::starEach es X.env:=by rfl)(FQ:(backTo pos<|starEach es X.env).any (·.1)=false:=by rfl):
  VE X (.Call (.Name x p) (e::es) [] pos) (ak op g):=aW (jI hc hg hm hv ha hn GX he FQ) fun _ _ _ h=>qN h
theorem de{T:String}(hc:bT X (.type T) op)(hg:Gl X x)(hm:X.mg x=none)(hv:bootBuiltins x=some (.type T))(ha:VA X (e::es) g)(hn:x ≠ "__name__" := by decide)(GX:(x == ("__debug__" : Str))=false:=by decide)(he:starEach (e::es) X.env=(false,eval e X.env)::starEach es X.env:=by rfl)(FQ:(backTo pos<|starEach es X.env).any (·.1)=false:=by rfl):
  VE X (.Call (.Name x p) (e::es) [] pos) (ak op g):=aW (xh hc hg hm hv ha hn GX he FQ) fun _ _ _ h=>qN h
abbrev Fn:=List Vl->Option (Vl×List Vl)
def Ir(n:Nat)(G:Fn):Sp:=fun vs H Q _=>vs.length=n/\∃ ds F r outs,aE H ds vs F/\F.Nodup/\G ds=some (r,outs)/\∀ v H' R R',Own H' r v R->aE H' outs vs R'->l_ H F H' (R++R')->Q v H'
@[simp] def ao(n:Nat)(G:Fn)(g:M (List Opd)):M Vl:=fun D=>(g D).bind fun p=>if p.1.length=n then (aY p.1 p.2).bind fun q=>(G q.1).map fun r=>(r.1,wb p.1 r.2 q.2) else none
theorem dL.length{H:Hp}{σ:St}:∀ {os:List Opd}{vs:List V}{R:List Addr},dL H σ os vs R->os.length=vs.length
 | [],_,_,h=>by rw[h.1];rfl
 | o::os,_,_,h=>by
  obtain⟨v,r,R1,R2,rfl,h1,h2,rfl⟩:=h;rw[ZD,ZD,dL.length h2]
theorem y0{G:Fn}{E:XK}(h:tV (ao n G g) σ H Q):pS (Ir n G) [] E (tA g) σ H Q:=by
 obtain⟨D,F,r,D',st,nd,hg,q⟩:=h;obtain⟨⟨os,D1⟩,h1,h2⟩:=Z8.mp hg;split at h2
 ·rename_i hn;obtain⟨⟨ds,D2⟩,h3,h4⟩:=Z8.mp h2;obtain⟨⟨r',outs⟩,h5,h6⟩:=Z2.mp h4;cases h6;refine⟨D,F,os,D1,st,nd,h1,fun vs H1 F1 R1 p_ o1 s1=>?_⟩;obtain⟨F2,R2,m_,ow,pm⟩:=fc p_ o1 h3;have s2:=s1.EV (pm.symm.trans ZX);rw[ZT];refine⟨by rw[<- o1.length];exact hn,ds,R2,_,outs,ow,(ZK.mp s2.nd).1,h5,fun v H3 R R' w1 w2 s3=>?_⟩;have s4:=s2.trans s3 m_.chg;have M_:∀ a∈F2,a∉R2:=fun a ha hb=>(ZK.mp s2.nd).2.2 a hb a ha rfl;have E1:ai H3 D2 σ F2:=m_.mono s3.tup fun a ha o e=>s3.keep a o e (M_ a ha);obtain⟨F3,R3,E3,Kp⟩:=jU E1 o1 w2;refine q v H3 F3 R E3 w1 (s4.less (C:=R3) ?_);refine List.Perm.trans ?_ ZX;rw[Z7];refine (ZL _ ZX).trans ?_;rw[<- Z7];refine (ZJ _ Kp).trans ?_;rw[Z7];exact ZL _ ZX
 ·cases h2
end
section
variable{X:Cx}
variable{k:Nat}
theorem qO{G:Fn}{f:Addr}{p:Pos}(F:E2 X.prog X.w X.K X.mg X.base Hw k f fd ps (Ir n G))(hr:Ez k X.A)(hg:Gl X x)(hm:X.mg x=some (.ref f))(hk:PySem.W.keepIn X.K (.ref f)=true)(hb:cN X.K fd ps [])(ha:VA X (e::es) g)(GX:(x == ("__debug__" : Str))=false:=by decide)(he:starEach (e::es) X.env=(false,eval e X.env)::starEach es X.env:=by rfl)(FQ:(backTo pos<|starEach es X.env).any (·.1)=false:=by rfl):
  VE X (.Call (.Name x p) (e::es) [] pos) (ao n G g):=aW (xf F hr hg hm hk hb .nil ye ha GX he FQ) fun _ _ _ h=>y0 h
inductive Fl where
 | nx | rt (d:Vl) | bk | ct
abbrev MS:=SD->Option (Fl×SD)
def aB(fix:List Nat)(σ σ':St):Prop:=σ'.length=σ.length/\∀ i∈fix,σ'[i]?=σ[i]?
theorem aB.refl{fix:List Nat}{σ:St}:aB fix σ σ:=⟨rfl,fun _ _=>rfl⟩
theorem aB.trans{σ2:St}(a:aB fix σ σ1)(b:aB fix σ1 σ2):aB fix σ σ2:=⟨b.1.trans a.1,fun i hi=>(b.2 i hi).trans<|a.2 i hi⟩
theorem aB.set{j:Nat}{v:Option V}(h:j∉fix):aB fix σ (σ.set j v):=⟨W1,fun i hi=>YO fun e=>h (by rw[e];exact hi)⟩
def LW(fix:List Nat)(E:Ends)(σ:St)(H:Hp)(F:List Addr)(D':SD):Fl->Prop
 | .nx=>∀ σ' H' F',aB fix σ σ'->ai H' D' σ' F'->l_ H F H' F'->E.nx σ' H'
 | .bk=>∀ σ' H' F',aB fix σ σ'->ai H' D' σ' F'->l_ H F H' F'->E.bk σ' H'
 | .ct=>∀ σ' H' F',aB fix σ σ'->ai H' D' σ' F'->l_ H F H' F'->E.ct σ' H'
 | .rt d=>∀ v σ' H' F' R,aB fix σ σ'->ai H' D' σ' F'->Own H' d v R->l_ H F H' (F'++R)->E.rt v H'
def tS(fix:List Nat)(g:MS):TS:=fun E σ H=>∃ D F fl D',ai H D σ F/\F.Nodup/\g D=some (fl,D')/\LW fix E σ H F D' fl
def VS(X:Cx)(fix:List Nat)(st:Stmt)(g:MS):Prop:=∀ ⦃p⦄,Pm X st (tS fix g) p
def Hc(X:Cx)(fix:List Nat)(GT:List Stmt)(g:MS):Prop:=∀ ⦃p⦄,pA X GT (tS fix g) p
variable{t':TS}
theorem dN{st:Stmt}{t:TS}(h:PS X st t)(i:∀ E σ H,t' E σ H->t E σ H):PS X st t':=fun pins s σ H D I hw=>h pins s σ H D I (i D σ H hw)
theorem fU{st:List Stmt}{t:TS}(h:GC X st t)(i:∀ E σ H,t' E σ H->t E σ H):GC X st t':=fun pins s σ H D I hw=>h pins s σ H D I (i D σ H hw)
theorem LW.on{fl:Fl}(h:LW fix E σ H F D' fl)(fx:aB fix σ σ1)(s:l_ H F H1 F1):LW fix E σ1 H1 F1 D' fl:=by
 cases fl with
 | nx=>exact fun σ' H' F' f st s'=>h σ' H' F' (fx.trans f) st (s.seq s')
 | bk=>exact fun σ' H' F' f st s'=>h σ' H' F' (fx.trans f) st (s.seq s')
 | ct=>exact fun σ' H' F' f st s'=>h σ' H' F' (fx.trans f) st (s.seq s')
 | rt d=>exact fun v σ' H' F' R f st ow s'=>h v σ' H' F' R (fx.trans f) st ow (s.seq s')
def sNil:MS:=fun D=>some (.nx,D)
@[simp] def am(g h:MS):MS:=fun D=>(g D).bind fun p=>match p.1 with
 | .nx=>h p.2
 | fl=>some (fl,p.2)
theorem cE:Hc X fix [] sNil:=by
 refine fU vU fun E σ H ⟨D,F,fl,D',st,nd,hg,q⟩=>?_;cases hg;exact q σ H F aB.refl st (l_.perm nd<|ZF _)
variable{g:MS}
theorem aD{st:Stmt}(h:VS X fix st g):Hc X fix [st] g:=vV h
theorem y3{h:MS}(w:tS fix (am g h) E σ H):pF (tS fix g) (tS fix h) E σ H:=by
 obtain⟨D,F,fl,D',st,nd,hg,q⟩:=w;obtain⟨⟨f1,D1⟩,h1,h2⟩:=Z8.mp hg;cases f1 with
 | nx=>exact⟨D,F,.nx,D1,st,nd,h1,fun σ' H' F' fx f_ s=>⟨D1,F',fl,D',f_,s.nd,h2,q.on fx s⟩⟩
 | bk=>cases h2;exact⟨D,F,.bk,D1,st,nd,h1,q⟩
 | ct=>cases h2;exact⟨D,F,.ct,D1,st,nd,h1,q⟩
 | rt d=>cases h2;exact⟨D,F,.rt d,D1,st,nd,h1,q⟩
theorem ax{st:Stmt}{GT:List Stmt}{h:MS}(h1:VS X fix st g)(h2:Hc X fix GT h):Hc X fix (st::GT) (am g h):=fU (iG h1 h2) fun _ _ _ w=>y3 w
def Is:MS:=fun _=>none
theorem y4{st:Stmt}:VS X fix st Is:=dN v5 fun _ _ _ ⟨_,_,_,_,_,_,h,_⟩=>by cases h
@[simp] def dO(g:M Vl):MS:=fun D=>(g D).map fun p=>(.nx,p.2)
variable{g:M Vl}
theorem jV(h:VE X e g)(hs:swapsWith e none pos.line X.env=pure false:=by rfl):VS X fix (.Expr e pos) (dO g):=by
 refine dN (vX h hs) fun E σ H ⟨D,F,fl,D',st,nd,hg,q⟩=>?_;obtain⟨⟨r,D1⟩,h1,h2⟩:=Z2.mp hg;cases h2;exact⟨D,F,r,_,st,nd,h1,fun v H' F' R f_ ow s=>q σ H' F' aB.refl f_<|s.less<|ZF _⟩
@[simp] def aI(g:M Vl):MS:=fun D=>(g D).map fun p=>(.rt p.1,p.2)
theorem bh(h:VE X e g):VS X fix (.Return (some e) pos) (aI g):=by
 refine dN (vZ h) fun E σ H ⟨D,F,fl,D',st,nd,hg,q⟩=>?_;obtain⟨⟨r,D1⟩,h1,h2⟩:=Z2.mp hg;cases h2;exact⟨D,F,r,_,st,nd,h1,fun v H' F' R f_ ow s=>q v σ H' F' R aB.refl f_ ow s⟩
@[simp] def sIf(c:M Bool)(a b:MS):MS:=fun D=>(c D).bind fun p=>if p.1=true then a p.2 else b p.2
variable{gb:MS}
theorem cF{a b:List Stmt}{ga:MS}(hc:VT X c gc)(ha:Hc X fix a ga)(hb:Hc X fix b gb):VS X fix (.If c a b pos) (sIf gc ga gb):=by
 refine dN (pG hc ha hb) fun E σ H ⟨D,F,fl,D',st,nd,hg,q⟩=>?_;obtain⟨⟨t,D1⟩,h1,h2⟩:=Z8.mp hg;refine⟨D,F,t,D1,st,nd,h1,fun H1 F1 p_ s1=>?_⟩;cases t with
 | true=>
  rw[ZZ rfl] at h2 ⊢;exact⟨D1,F1,fl,D',p_,s1.nd,h2,q.on aB.refl s1⟩
 | false=>
  rw[ZY ZM] at h2 ⊢;exact⟨D1,F1,fl,D',p_,s1.nd,h2,q.on aB.refl s1⟩
@[simp] def aw(i:Nat)(g:M Vl):MS:=fun D=>(g D).bind fun p=>if i<p.2.length then some (.nx,p.2.set i<|some p.1) else none
variable{i:Nat}
theorem aZ{pos':Pos}(hN:X.N.Nodup)(hi:X.N[i]?=some x)(hx:Loc X.env.scope x)(he:VE X e g)(hf:i∉fix)(hs:swapsWith e (some<|.Name x pos') pos.line X.env=pure false:=by rfl)(H_:X.fn x=true\/X.env.scope.names.lookup x=some .local:=by first | exact .inl rfl | exact .inr rfl | assumption):VS X fix (.Assign [.Name x pos'] e pos) (aw i g):=by
 refine dN (pJ hN hi hx he hs H_) fun E σ H ⟨D,F,fl,D',st,nd,hg,q⟩=>?_;obtain⟨⟨r,D1⟩,h1,h2⟩:=Z8.mp hg;split at h2
 ·rename_i hl;cases h2;refine⟨D,F,r,_,st,nd,h1,fun v H1 F1 R p_ ow s1=>?_⟩;obtain⟨F2,R2,m_,pm⟩:=p_.put (i:=i) ow hl;exact q _ H1 F2 (aB.set hf) m_ (s1.less pm)
 ·cases h2
abbrev MG:=Vl->SD->Option SD
def tG(fix:List Nat)(g:MG):TG:=fun v σ H Q=>∃ D F d R D',ai H D σ F/\Own H d v R/\(F++R).Nodup/\g d D=some D'/\∀ σ' H' F',aB fix σ σ'->ai H' D' σ' F'->l_ H (F++R) H' F'->Q σ' H'
def VG(X:Cx)(fix:List Nat)(e:Expr)(g:MG):Prop:=∀ ⦃p⦄,Po X e (tG fix g) p
theorem mG{t t':TG}(h:PG X e t)(i:∀ v σ H Q,t' v σ H Q->t v σ H Q):PG X e t':=fun pins s σ H x v Q I r hw=>h pins s σ H x v Q I r (i x σ H Q hw)
@[simp] def gN(i:Nat):MG:=fun d D=>if i<D.length then some (D.set i<|some d) else none
theorem aO(hN:X.N.Nodup)(hi:X.N[i]?=some x)(hx:Loc X.env.scope x)(hf:i∉fix)(H_:X.fn x=true\/X.env.scope.names.lookup x=some .local:=by first | exact .inl rfl | exact .inr rfl | assumption):VG X fix (.Name x pos) (gN i):=by
 refine mG (lS hN hi hx H_) fun v σ H Q ⟨D,F,d,R,D',st,ow,nd,hg,q⟩=>?_;unfold gN at hg;split at hg
 ·rename_i hl;cases hg;obtain⟨F2,R2,m_,pm⟩:=st.put (i:=i) ow hl;exact q _ H F2 (aB.set hf) m_ ((l_.perm nd<|ZF _).less pm)
 ·cases hg
def Rc(fix:List Nat)(g:List Vl->SD->Option SD):IQ:=fun vs σ H Q=>∃ D F ds R D',ai H D σ F/\aE H ds vs R/\(F++R).Nodup/\g ds D=some D'/\∀ σ' H' F',aB fix σ σ'->ai H' D' σ' F'->l_ H (F++R) H' F'->Q σ' H'
def Na(X:Cx)(fix:List Nat)(es:List Expr)(g:List Vl->SD->Option SD):Prop:=∀ ⦃p⦄,pH X es (Rc fix g) p
@[simp] def gNil':List Vl->SD->Option SD
 | [],D=>some D
 | _,_=>none
@[simp] def aJ(g:MG)(h:List Vl->SD->Option SD):List Vl->SD->Option SD
 | d::ds,D=>(g d D).bind (h ds)
 | _,_=>none
theorem qP{t t':IQ}(h:J0 X es t)(i:∀ v σ H Q,t' v σ H Q->t v σ H Q):J0 X es t':=fun pins s σ H xs vs Q I r hw=>h pins s σ H xs vs Q I r (i xs σ H Q hw)
theorem fg:Na X fix [] gNil':=by
 refine qP pI fun vs σ H Q ⟨D,F,ds,R,D',st,ow,nd,hg,q⟩=>?_;cases ds with
 | cons d ds=>cases hg
 | nil=>
  cases hg;exact⟨ow.1,q σ H F aB.refl st<|(l_.perm nd<|ZF _).less<|ZF _⟩
theorem ca{g:MG}(h1:VG X fix e g)(h2:Na X fix es h)(hs:(assignEach (e::es) X.env).map (·.2)=assign e X.env::(assignEach es X.env).map (·.2):=by rfl):Na X fix (e::es) (aJ g h):=by
 refine qP (lT h1 h2 hs) fun vs σ H Q ⟨D,F,ds,R,D',st,ow,nd,hg,q⟩=>?_;cases ds with
 | nil=>cases hg
 | cons d ds=>
  obtain⟨v,r,R1,R2,rfl,w1,w2,rfl⟩:=ow;obtain⟨D1,g1,g2⟩:=Z8.mp (show (g d D).bind (h ds)=some D' from hg);have Iu:((F++R1)++R2).Nodup:=by rw[Z7];exact nd
  refine⟨v,r,rfl,D,F,d,R1,D1,st,w1,(ZK.mp Iu).1,g1,fun σ1 H1 F1 fx p_ s1=>?_⟩;have M_:∀ a∈R2,a∉F++R1:=fun a ha hb=>(ZK.mp Iu).2.2 a hb a ha rfl;have Oa:aE H1 ds r R2:=w2.mono s1.tup fun a ha o e=>s1.keep a o e (M_ a ha);have s2:l_ H (F++(R1++R2)) H1 (F1++R2):=by
   refine⟨fun a o e ha=>s1.keep a o e fun h=>ha ?_,fun a ha=>?_,ZK.mpr ⟨s1.nd,(ZK.mp Iu).2.1,fun a ha b hb e=>?_⟩,s1.tup,s1.grow⟩
   ·rw[<- Z7];exact ZA _ h
   ·rcases Zx.mp ha with ha | ha
    ·rcases s1.sub a ha with h | h
     ·left;rw[<- Z7];exact ZA _ h
     ·exact .inr h
    ·left;rw[<- Z7];exact ZG _ ha
   ·subst e;rcases s1.sub a ha with h | h
    ·exact M_ a hb h
    ·obtain⟨o,e,_⟩:=w2.chg a hb;rw[e] at h;cases h
  exact⟨D1,F1,ds,R2,D',p_,Oa,s2.nd,g2,fun σ2 H2 F2 Kq m_ s3=>q σ2 H2 F2 (fx.trans Kq) m_<|s2.seq s3⟩
@[simp] def gT(n:Nat)(h:List Vl->SD->Option SD):MG:=fun d D=>match d with
 | .im (.tup is)=>if is.length=n then h (is.map .im) D else none
 | .K1 ds=>if ds.length=n then h ds D else none
 | _=>none
theorem qQ{H:Hp}:∀ {is:List Im}{vs:List V},aj H is vs->aE H (is.map .im) vs []
 | [],vs,h=>⟨h,rfl⟩
 | d::is,vs,h=>by
  obtain⟨v,r,rfl,h1,h2⟩:=h;exact⟨v,r,[],[],rfl,⟨h1,rfl⟩,qQ h2,rfl⟩
theorem fh(hc:X.calm=true)(hs:Na X fix es h)(hn:(assignEach es X.env).length=n:=by rfl)(Fv:(assignEach es X.env).findIdx? (·.1)=none:=by rfl):VG X fix (.Tuple es k pos) (gT n h):=by
 refine mG (we hc hs hn Fv) fun v σ H Q ⟨D,F,d,R,D',st,ow,nd,hg,q⟩=>?_;unfold gT at hg;split at hg
 ·rename_i is;split at hg
  ·rename_i hl;obtain⟨⟨a,xs,rfl,h1,h2⟩,rfl⟩:=ow;exact⟨a,xs,rfl,y_.of h1,by rw[<- h2.length];exact hl,D,F,_,[],D',st,qQ h2,nd,hg,q⟩
  ·cases hg
 ·rename_i ds;split at hg
  ·rename_i hl;obtain⟨a,xs,rfl,h1,h2⟩:=ow;exact⟨a,xs,rfl,y_.of h1,by rw[<- h2.length];exact hl,D,F,_,R,D',st,h2,nd,hg,q⟩
  ·cases hg
 ·cases hg
@[simp] def bv(g:M Vl)(h:MG):MS:=fun D=>(g D).bind fun p=>(h p.1 p.2).map fun D'=>(.nx,D')
theorem dP{h:MG}(he:VE X e g)(hg:VG X fix tg h)(hs:swapsWithSole [tg] e pos.line X.env=pure false:=by rfl)(hw:swappedStores [tg] e X.env=pure none:=by rfl)(h1:(assignEach [tg] X.env).map (·.2)=[assign tg X.env]:=by rfl):VS X fix (.Assign [tg] e pos) (bv g h):=by
 refine dN (wj he hg hs hw h1) fun E σ H ⟨D,F,fl,D',st,nd,FL,q⟩=>?_;obtain⟨⟨r,D1⟩,g1,g2⟩:=Z8.mp FL;obtain⟨D2,g3,g4⟩:=Z2.mp g2;cases g4;exact⟨D,F,r,D1,st,nd,g1,fun v H1 F1 R p_ ow s1=>⟨D1,F1,r,R,_,p_,ow,s1.nd,g3,fun σ' H' F' fx f_ s2=>q σ' H' F' fx f_<|s1.seq s2⟩⟩
@[simp] def fV(i j:Nat)(g:M (List Opd)):MS:=fun D=>(g D).bind fun p=>(aY p.1 p.2).bind fun q=>match q.1 with
 | [d1,d2]=>if i<q.2.length/\j<q.2.length then some (.nx,(q.2.set i<|some d1).set j<|some d2) else none
 | _=>none
def bU(c:M Bool)(b:MS):Nat->MS
 | 0=>fun _=>none
 | n+1=>fun D=>(c D).bind fun p=>if p.1=true then (b p.2).bind fun q=>match q.1 with
  | .nx=>bU c b n q.2
  | .ct=>bU c b n q.2
  | .bk=>some (.nx,q.2)
  | .rt d=>some (.rt d,q.2) else some (.nx,p.2)
theorem qR(n:Nat)(hp:PassesOwn (model X.prog X.w) X.A X.env X.xe)(hc:VT X c gc)(hb:Hc X fix body gb):VS X fix (.While c body [] pos) (bU gc gb n):=by
 refine dN (wn hp hc hb) fun E σ H ⟨D,F,fl,D',st,nd,hg,q⟩=>?_;refine⟨fun m σ' H'=>∃ Dd F',ai H' Dd σ' F'/\aB fix σ σ'/\l_ H F H' F'/\bU gc gb m Dd=some (fl,D'),⟨n,D,F,st,aB.refl,l_.perm nd<|ZF _,hg⟩,?_⟩;rintro m σ1 H1 ⟨D1,F1,p_,LX,s1,w⟩;cases m with
 | zero=>cases w
 | succ m=>
  rw[bU] at w;obtain⟨⟨t,D2⟩,w1,w2⟩:=Z8.mp w;refine⟨D1,F1,t,D2,p_,s1.nd,w1,fun H2 F2 m_ s2=>?_⟩;cases t with
  | false=>
   rw[ZY ZM] at w2 ⊢;cases w2;exact q σ1 H2 F2 LX m_ (s1.seq s2)
  | true=>
   rw[ZZ rfl] at w2 ⊢;obtain⟨⟨f,D3⟩,w3,w4⟩:=Z8.mp w2;refine⟨fun σ' H'=>∃ Dd F',ai H' Dd σ' F'/\aB fix σ σ'/\l_ H F H' F'/\bU gc gb m Dd=some (fl,D'),fun σ' H' h=>⟨m,Yt m,h⟩,D2,F2,f,D3,m_,s2.nd,w3,?_⟩;cases f with
   | nx=>exact fun σ' H' F' fx f_ s'=>⟨D3,F',f_,LX.trans fx,(s1.seq s2).seq s',w4⟩
   | ct=>exact fun σ' H' F' fx f_ s'=>⟨D3,F',f_,LX.trans fx,(s1.seq s2).seq s',w4⟩
   | bk=>
    cases w4;exact fun σ' H' F' fx f_ s'=>q σ' H' F' (LX.trans fx) f_ ((s1.seq s2).seq s')
   | rt d=>
    cases w4;exact fun v σ' H' F' R fx f_ ow s'=>q v σ' H' F' R (LX.trans fx) f_ ow ((s1.seq s2).seq s')
structure G9(J:It)(H:Hp)(R:List Addr)(ds:List Im):Prop where
 go:∀ H',D_ H H'->(∀ a∈R,∀ o,H a=some o->H' a=some o)->∀ (i:Nat) (d:Im),ds[i]?=some d->J.go i H'/\∀ x JG,J.Lo i H' x JG->aA H' JG/\EG JG d x
 stop:∀ H',D_ H H'->(∀ a∈R,∀ o,H a=some o->H' a=some o)->J.stop ds.length H'
def iX(H:Hp)(σ:St)(R:List Addr):Option (Nat×Vl)->Prop
 | none=>True
 | some (i,d)=>∃ v,σ[i]?=some (some v)/\Own H d v R
def tI(g:M (List Im×Option (Nat×Vl))):TI:=fun σ H Rk=>∃ D F r D',ai H D σ F/\F.Nodup/\g D=some (r,D')/\∀ J H' F' R,ai H' D' σ F'->G9 J H' R r.1->iX H' σ R r.2->(∀ a∈R,GS H' a)->l_ H F H' (F'++R)->Rk J H'
def VI(X:Cx)(tg iter:Expr)(g:M (List Im×Option (Nat×Vl))):Prop:=∀ ⦃p⦄,Pq X tg iter (tI g) p
theorem mH{t t':TI}(h:PI X tg iter t)(i:∀ σ H R,t' σ H R->t σ H R):PI X tg iter t':=fun pins s σ H R I hw=>h pins s σ H R I (i σ H R hw)
def bo(tg:MG)(b:MS):List Im->MS
 | []=>fun D=>some (.nx,D)
 | x::r=>fun D=>(tg (.im x) D).bind fun D1=>(b D1).bind fun q=>match q.1 with
  | .nx=>bo tg b r q.2
  | .ct=>bo tg b r q.2
  | .bk=>some (.nx,q.2)
  | .rt d=>some (.rt d,q.2)
@[simp] def rst:Option (Nat×Vl)->SD->SD
 | none,D=>D
 | some (i,d),D=>match D[i]? with
  | some (some .jk)=>D.set i (some d)
  | _=>D
@[simp] def cV(g:M (List Im×Option (Nat×Vl)))(tg:MG)(b:MS):MS:=fun D=>(g D).bind fun p=>(bo tg b p.1.1 p.2).map fun q=>(q.1,rst p.1.2 q.2)
theorem mI{o:Option (Nat×Vl)}(st:ai H D σ F)(h:iX H σ R o):∃ F1 G,ai H (rst o D) σ F1/\(F1++G).Perm (F++R):=by
 cases o with
 | none=>exact⟨F,R,st,ZF _⟩
 | some p=>
  obtain⟨i,d⟩:=p;obtain⟨v,h1,h2⟩:=h;unfold rst;dsimp only;split
  ·exact st.back h2 h1
  ·exact⟨F,R,st,ZF _⟩
def gF(fx:List Nat):Option (Nat×Vl)->Prop
 | none=>True
 | some (i,_)=>i∈fx
theorem y6{g:M (List Im×Option (Nat×Vl))}{gt:MG}(hp:PassesOwn (model X.prog X.w) X.A X.env X.xe)(hc:X.calm=true)(hi:VI X tg iter g)(hg:VG X fx tg gt)(hb:Hc X fx body gb)(hf:∀ i∈fix,i∈fx)(hs:∀ D r D',g D=some (r,D')->gF fx r.2)(Nb:PS X (.For tg iter body [] pos) (pK (tI g) (tG fx gt)<|tS fx gb)):VS X fix (.For tg iter body [] pos) (cV g gt gb):=by
 refine dN Nb fun E σ H ⟨D,F,fl,D',st,nd,FL,q⟩=>?_;obtain⟨⟨⟨ds,o⟩,D1⟩,h1,h2⟩:=Z8.mp FL;obtain⟨⟨f,D2⟩,h3,h4⟩:=Z2.mp h2;cases h4;refine⟨D,F,(ds,o),D1,st,nd,h1,fun J H1 F1 R p_ it ln cR s1=>?_⟩;have Re:gF fx o:=hs D _ _ h1;have LY:=ZK.mp s1.nd;have keepR:∀ {H2:Hp}{F2:List Addr},l_ H1 F1 H2 F2->∀ a∈R,∀ u,H1 a=some u->H2 a=some u:=fun s a ha u e=>s.keep a u e fun h=>LY.2.2 a h a ha rfl;have LZ:∀ {H2:Hp}{F2:List Addr}{σ2:St},l_ H1 F1 H2 F2->aB fx σ σ2->iX H2 σ2 R o:=fun {H2 F2 σ2} s f=>by
  cases o with
  | none=>trivial
  | some p=>
   obtain⟨i,d⟩:=p;obtain⟨v,e1,e2⟩:=ln;exact⟨v,(f.2 i Re).trans e1,e2.mono s.tup<|keepR s⟩
 have PN:∀ {σ2:St},aB fx σ σ2->aB fix σ σ2:=fun f=>⟨f.1,fun i hi=>f.2 i<|hf i hi⟩;have leave:∀ {σ2:St}{H2:Hp}{F2:List Addr}{D2:SD},LW fix E σ H F (rst o D2) .nx->aB fx σ σ2->ai H2 D2 σ2 F2->l_ H1 F1 H2 F2->E.nx σ2 H2:=fun {σ2 H2 F2 D2} q f m_ s2=>by
  obtain⟨F3,G,E1,pm⟩:=mI m_ (LZ s2 f);exact q σ2 H2 F3 (PN f) E1 ((s1.trans s2 cR).less pm)
 refine⟨fun i m σ' H'=>m+i=ds.length/\∃ Dd F',aB fx σ σ'/\ai H' Dd σ' F'/\l_ H1 F1 H' F'/\bo gt gb (ds.drop i) Dd=some (f,D2),⟨ds.length,rfl,D1,F1,aB.refl,p_,l_.perm LY.1<|ZF _,h3⟩,?_⟩;rintro i m σ' H' ⟨hm,Dd,F',L1,f_,s',hw⟩;by_cases Fq:i<ds.length
 ·obtain⟨L3,hy⟩:=it.go H' s'.tup (keepR s') i ds[i] (by simp[Fq]);rw[Za Fq,bo] at hw;obtain⟨D3,w1,w2⟩:=Z8.mp hw;obtain⟨⟨f2,D4⟩,w3,w4⟩:=Z8.mp w2;refine .inr ⟨L3,fun σ2 H2=>(m - 1)+(i+1)=ds.length/\∃ Dd F',aB fx σ σ2/\ai H2 Dd σ2 F'/\l_ H1 F1 H2 F'/\bo gt gb (ds.drop<|i+1) Dd=some (f,D2),fun σ2 H2 h=>⟨m - 1,by lia,h⟩,fun x H2 hx=>?_⟩;obtain⟨sm,L4⟩:=hy x H2 hx;have m_:=f_.mono sm.tupS fun a _ o e=>sm a o e;have s2:=s'.same sm;refine⟨Dd,F',.im ds[i],[],D3,m_,⟨L4,rfl⟩,by rw[ZT];exact s2.nd,w1,fun σ3 H3 F3 Hx E1 sg=>?_⟩;have s3:l_ H1 F1 H3 F3:=s2.seq (by rw[ZT] at sg;exact sg);refine⟨D3,F3,f2,D4,E1,s3.nd,w3,?_⟩;cases f2 with
  | nx=>exact fun σ4 H4 F4 Kr E3 s4=>⟨by lia,D4,F4,(L1.trans Hx).trans Kr,E3,s3.seq s4,w4⟩
  | ct=>exact fun σ4 H4 F4 Kr E3 s4=>⟨by lia,D4,F4,(L1.trans Hx).trans Kr,E3,s3.seq s4,w4⟩
  | bk=>
   cases w4;exact fun σ4 H4 F4 Kr E3 s4=>leave q ((L1.trans Hx).trans Kr) E3 (s3.seq s4)
  | rt d=>
   cases w4;intro v σ4 H4 F4 R4 Kr E3 Rf s4;have s5:=s3.seq s4;have f5:=(L1.trans Hx).trans Kr;obtain⟨F5,G5,Fp,Iv⟩:=mI (R:=R) E3 (LZ s5 f5);refine q v σ4 H4 F5 R4 (PN f5) Fp Rf ((s1.trans s5 cR).less (C:=G5) ?_);rw[Z7];refine (ZL F5 ZX).trans ?_;rw[<- Z7];refine (ZJ R4 Iv).trans ?_;rw[Z7,Z7];exact ZL _ ZX
 ·have hi:i=ds.length:=by lia
  subst hi;refine .inl ⟨it.stop H' s'.tup<|keepR s',?_⟩;rw[X5 (ZR _)] at hw;cases hw;exact leave q L1 f_ s'
end
section
variable{X:Cx}
variable{gt:MG}
theorem gG{g:M (List Im×Option (Nat×Vl))}{gb:MS}(hp:PassesOwn (model X.prog X.w) X.A X.env X.xe)(hc:X.calm=true)(hi:VI X tg iter g)(hg:VG X fx tg gt)(hb:Hc X fx body gb)(hf:∀ i∈fix,i∈fx)(hs:∀ D r D',g D=some (r,D')->gF fx r.2)(Rh:∀ x,foldedSetIterable iter X.env x=pure x:=by intro _;rfl):VS X fix (.For tg iter body [] pos) (cV g gt gb):=
 y6 hp hc hi hg hb hf hs (wy hp hc hi hg hb Rh)
def PP(K:PySem.W.Frag)(tl:TE):TI:=fun σ H R=>tl σ H fun x H1=>∃ a,x=.ref a/\(((∃ xs,EL K H1 a xs)/\R (Lp K a) H1)\/((∃ xs,y_ K H1 a xs)/\R (MU K a) H1))
variable{l:Expr}
theorem qS{tl:TE}(hl:PE X l tl):PI X tg l (PP X.K tl):=by
 intro pins s σ H R I h;refine t_ (hl pins s σ H _ I h) fun v s1 ⟨x,H1,I1,r1,q1⟩=>?_;obtain⟨a,e,q⟩:=q1;subst e;cases r1;rcases q with ⟨⟨xs,hq⟩,q⟩ | ⟨⟨xs,hq⟩,q⟩
 ·obtain⟨e_,rv,p,hz⟩:=I1.list hq;refine Xp p.isList ?_;refine⟨s1.heap.objs.size,[s1.heap.objs.size],_,_,H1,rfl,I1.kept (t':=s1.toks) fun b o e=>Z5 _ e,wo a _,⟨_,ZN _ rfl,rfl,rfl⟩,fun b hb=>?_,q⟩;have e:b=s1.heap.objs.size:=by simpa using hb
  subst e;exact I1.IZ (ZR _) (I1.i_.fresh<|ZR _)
 ·obtain⟨e_,rv,p,hz⟩:=I1.tuple hq;refine wpAny_pyIter_tuple (show s1.heap.IsTuple a e_.toArray from p) ?_;refine⟨s1.heap.objs.size,[s1.heap.objs.size],_,_,H1,rfl,I1.kept (t':=s1.toks) fun b o e=>Z5 _ e,wt a _,⟨_,ZN _ rfl,rfl,rfl⟩,fun b hb=>?_,q⟩;have e:b=s1.heap.objs.size:=by simpa using hb
  subst e;exact I1.IZ (ZR _) (I1.i_.fresh<|ZR _)
theorem aj.get{H:Hp}:∀ {ds:List Im}{vs:List V}{i:Nat}{d:Im},aj H ds vs->ds[i]?=some d->∃ v,vs[i]?=some v/\EG H d v
 | [],_,_,_,_,e=>by simp at e
 | d::ds,_,0,_,h,e=>by
  obtain⟨v,r,rfl,h1,h2⟩:=h;simp at e;subst e;exact⟨v,rfl,h1⟩
 | d::ds,_,i+1,_,h,e=>by
  obtain⟨v,r,rfl,h1,h2⟩:=h;obtain⟨u,g1,g2⟩:=aj.get (i:=i) h2 (by simpa using e);exact⟨u,by simpa using g1,g2⟩
variable{a:Addr}
theorem mJ(h:H a=some (.lst xs))(hd:aj H ds xs):G9 (Lp K a) H [a] ds where
 go:=fun H' t k i d e=>by
  obtain⟨v,g1,g2⟩:=hd.get e;have h':=EL.of (K:=K) (k a (.head _) _ h);refine⟨⟨xs,v,h',g1⟩,fun x JG ⟨e1,e2⟩=>?_⟩;subst e1;rw[e2 xs h'] at g1;cases g1;exact⟨aA.refl _,g2.mono t.tup⟩
 stop:=fun H' t k=>⟨xs,EL.of<|k a (.head _) _ h,by rw[<- hd.length];exact ZR _⟩
theorem y7{o:Obj}(h:H a=some (.Fa o<|.lst xs))(hd:aj H ds xs):G9 (Lp K a) H [] ds where
 go:=fun H' t k i d e=>by
  obtain⟨v,g1,g2⟩:=hd.get e;have h':EL K H' a xs:=.inl (.inr ⟨o,t.Fa _ _ _ h⟩);refine⟨⟨xs,v,h',g1⟩,fun x JG ⟨e1,e2⟩=>?_⟩;subst e1;rw[e2 xs h'] at g1;cases g1;exact⟨aA.refl _,g2.mono t.tup⟩
 stop:=fun H' t k=>⟨xs,.inl<|.inr ⟨o,t.Fa _ _ _ h⟩,by rw[<- hd.length];exact ZR _⟩
theorem y8(h:H a=some (.tup xs))(hd:aj H ds xs):G9 (MU K a) H [] ds where
 go:=fun H' t k i d e=>by
  obtain⟨v,g1,g2⟩:=hd.get e;have h':=y_.of (K:=K) (t.tup a _ h);refine⟨⟨xs,v,h',g1⟩,fun x JG ⟨e1,e2⟩=>?_⟩;subst e1;rw[e2 xs h'] at g1;cases g1;exact⟨aA.refl _,g2.mono t.tup⟩
 stop:=fun H' t k=>⟨xs,y_.of<|t.tup a _ h,by rw[<- hd.length];exact ZR _⟩
abbrev MI:=M (List Im×Option (Nat×Vl))
@[simp] def ed(d:Vl):Option (List Im):=match d with
 | .im (.tup ds)=>some ds
 | .lst ds=>some ds
 | .fz ds=>some ds
 | _=>none
@[simp] def ba(g:M Opd):MI:=fun D=>(g D).bind fun p=>match p.1 with
 | .vl d=>(ed d).map fun ds=>((ds,none),p.2)
 | .sl i=>(bD i p.2).bind fun q=>(ed q.1).map fun ds=>((ds,if q.1.cp=true then none else some (i,q.1)),q.2)
theorem qT(w:Own H d v R)(e:ed d=some ds):
  ∃ a,v=.ref a/\(((∃ xs,EL K H a xs)/\G9 (Lp K a) H R ds)\/((∃ xs,y_ K H a xs)/\G9 (MU K a) H R ds)):=by
 unfold ed at e;split at e
 ·cases e;obtain⟨⟨a,xs,rfl,h1,h2⟩,rfl⟩:=w;exact⟨a,rfl,.inr ⟨⟨xs,y_.of h1⟩,y8 h1 h2⟩⟩
 ·cases e;obtain⟨a,xs,rfl,h1,h2,rfl⟩:=w;exact⟨a,rfl,.inl ⟨⟨xs,EL.of h1⟩,mJ h1 h2⟩⟩
 ·cases e;obtain⟨a,xs,o,rfl,h1,h2,rfl⟩:=w;exact⟨a,rfl,.inl ⟨⟨xs,.inl<|.inr ⟨o,h1⟩⟩,y7 h1 h2⟩⟩
 ·cases e
theorem df{g:M Opd}(h:VO X l g):VI X tg l (ba g):=by
 refine mH (qS h) fun σ H Rk ⟨D,F,r,D',st,nd,hg,q⟩=>?_;obtain⟨⟨x,D1⟩,h1,h2⟩:=Z8.mp hg;refine⟨D,F,x,D1,st,nd,h1,fun v H1 F1 R p_ o1 s1=>?_⟩;cases x with
 | vl d=>
  obtain⟨ds,h3,h4⟩:=Z2.mp h2;cases h4;obtain⟨a,rfl,hh⟩:=qT (K:=X.K) o1 h3;refine⟨a,rfl,?_⟩;rcases hh with ⟨hx,it⟩ | ⟨hx,it⟩
  ·exact .inl ⟨hx,q _ H1 F1 R p_ it trivial (Own.chg o1) s1⟩
  ·exact .inr ⟨hx,q _ H1 F1 R p_ it trivial (Own.chg o1) s1⟩
 | sl i=>
  obtain⟨⟨d,D2⟩,h3,h4⟩:=Z8.mp h2;obtain⟨ds,h5,h6⟩:=Z2.mp h4;cases h6;obtain⟨v',F2,R2,g1,g2,g3,g4⟩:=qM p_ h3;obtain⟨o1,rfl⟩:=o1;rw[o1] at g1;cases g1;rw[ZT] at s1;have s2:=s1.EV g4.symm;obtain⟨a,rfl,hh⟩:=qT (K:=X.K) g2 h5;have ln:iX H1 σ R2 (if d.cp=true then none else some (i,d)):=by
   split
   ·trivial
   ·exact⟨_,o1,g2⟩
  refine⟨a,rfl,?_⟩;rcases hh with ⟨hx,it⟩ | ⟨hx,it⟩
  ·exact .inl ⟨hx,q _ H1 F2 R2 g3 it ln g2.chg s2⟩
  ·exact .inr ⟨hx,q _ H1 F2 R2 g3 it ln g2.chg s2⟩
variable{i:Nat}
theorem mK(hi:i∈fx):∀ D r D',ba (oSl i) D=some (r,D')->gF fx r.2:=by
 intro D r D' h;obtain⟨⟨x,D1⟩,h1,h2⟩:=Z8.mp h;unfold oSl at h1;split at h1
 ·cases h1;obtain⟨⟨d,D2⟩,h3,h4⟩:=Z8.mp h2;obtain⟨ds,h5,h6⟩:=Z2.mp h4;cases h6;show gF fx (if d.cp=true then none else some (i,d));split
  ·trivial
  ·exact hi
 ·cases h1
def bw(lo:Int)(n:Nat):List Im:=(range n).map fun (k:Nat)=>Im.int (lo+(k:Int))
theorem y9{lo:Int}:G9 (MV lo n) H [] (bw lo n) where
 go:=fun H' t k i d e=>by
  have hi:i<n:=by
   have:=(ZE.mp e).1
   rwa [bw,Z3,Y2] at this
  refine⟨hi,fun x JG ⟨e1,e2⟩=>?_⟩;subst e1;rw[bw,Zy,List.getElem?_range hi] at e;cases e;exact⟨aA.refl _,e2⟩
 stop:=fun H' t k=>by
  show n<=_;rw[bw,Z3,Y2];exact ZR _
def gH(i:Int):Prop := -1000000<=i/\i<=1000000
instance (i:Int):Decidable (gH i):=inferInstanceAs (Decidable<|_/\_)
@[simp] def iR1(g:M (List Opd)):MI:=fun D=>(g D).bind fun p=>(cj p.2 p.1).bind fun ds=>match ds with
 | [.im (.int j)]=>if gH j then some ((bw 0 j.toNat,none),p.2) else none
 | _=>none
theorem iY{d:Im}(h:eZ H [.im d] vs):∃ v,vs=[v]/\EG H d v:=by
 obtain⟨v,r,rfl,⟨R,h1,_⟩,h2⟩:=h;cases (show r=[] from h2);exact⟨v,rfl,h1⟩
theorem zc{d e:Im}(h:eZ H [.im d,.im e] vs):∃ v u,vs=[v,u]/\EG H d v/\EG H e u:=by
 obtain⟨v,r,rfl,⟨R,h1,_⟩,h2⟩:=h;obtain⟨u,rfl,h3⟩:=iY h2;exact⟨v,u,rfl,h1,h3⟩
theorem jW{a:Expr}{p:Pos}(hg:Gl X "range")(hm:X.mg "range" = none)(ha:VA X [a] g)(hs:starEach [a] X.env=[(false,eval a X.env)]:=by rfl):VI X tg (.Call (.Name "range" p) [a] [] pos) (iR1 g):=by
 refine mH (wx hg hm ha hs) fun σ H Rk ⟨D,F,r,D',st,nd,FL,q⟩=>?_;obtain⟨⟨os,D1⟩,h1,h2⟩:=Z8.mp FL;obtain⟨ds,h3,h4⟩:=Z8.mp h2;refine⟨D,F,os,D1,st,nd,h1,fun vs H1 F1 R1 p_ o1 s1=>?_⟩;have rd:=o1.read p_ h3;split at h4
 ·rename_i j;split at h4
  ·rename_i hj;cases h4;obtain⟨v,rfl,e⟩:=iY rd;cases (show v=.int j from e);exact⟨j,rfl,by have:=hj.1;lia,by have:=hj.2;lia,q _ H1 F1 [] p_ y9 trivial (fun a ha=>nomatch ha) (by rw[ZT];exact s1.less (ZF _))⟩
  ·cases h4
 ·cases h4
theorem mL:∀ D r D',iR1 g D=some (r,D')->gF fx r.2:=by
 intro D r D' h;obtain⟨⟨os,D1⟩,h1,h2⟩:=Z8.mp h;obtain⟨ds,h3,h4⟩:=Z8.mp h2;split at h4
 ·split at h4
  ·cases h4;trivial
  ·cases h4
 ·cases h4
def L5(X:Cx)(ifs:List Expr)(g:M Bool):Prop:=∀ ⦃p⦄,qq X ifs (HK g) p
def kYes:M Bool:=fun D=>some (true,D)
theorem fi:L5 X [] kYes:=by
 intro pins s σ H Q I ⟨D,F,b,D',st,nd,hg,q⟩;cases hg;exact yk pins s σ H Q I (q H F st<|l_.perm nd<|ZF _)
theorem jX{g:M Bool}(h:VT X c g):L5 X [c] g:=yl h
@[simp] def cW(caps:List Nat)(D:SD):SD:=caps.map fun i=>D.getD i none
def dr:List Nat->SD->SD
 | [],D=>D
 | i::r,D=>dr r (match D[i]? with | some (some _)=>D.set i (some .jk) | _=>D)
@[simp] def cG:List Nat->SD->SD->SD
 | i::r,o::C,D=>cG r C (D.set i o)
 | _,_,D=>D
def bP(own : Nat)(tg : MG)(c : M Bool)(e : M Vl): List Im -> List Im -> SD -> Option (List Im × SD)
  | [], acc, C => some (acc, C)
  | x :: r, acc, C => (tg (.im x)<|List.replicate own none ++ C).bind fun D1 => (c D1).bind fun p => if p.1 = true then (e p.2).bind fun q => match q.1 with
      | .im d => if acc.length < 100000 then bP own tg c e r (acc ++ [d]) (q.2.drop own) else none
      | _ => none
    else bP own tg c e r acc (p.2.drop own)
@[simp] def aP(own:Nat)(caps:List Nat)(gi:MI)(tg:MG)(c:M Bool)(e:M Vl):M Vl:=fun D=>(gi D).bind fun p=>(bP own tg c e p.1.1 []<|cW caps p.2).map fun q=>(.lst q.1,rst p.1.2<|cG caps q.2 p.2)
def ee(own n:Nat):List Nat:=(range n).map (·+own)
theorem zd(h:D[i]?=some o):D.getD i none=o:=by rw[Z6,h];rfl
theorem ai.void(st:ai H D σ F)(i:Nat):∃ F1 F2,ai H (match D[i]? with | some (some _)=>D.set i (some .jk) | _=>D) σ F1/\eU H (D.getD i none) (σ.getD i none) F2/\(F1++F2).Perm F:=by
 split
 ·rename_i d hd;obtain⟨v,F1,F2,h1,h2,h3,h4⟩:=st.out hd;refine⟨F2,F1,h3,?_,h4⟩;rw[zd hd,Z6,h1];exact⟨v,rfl,h2⟩
 ·rename_i hn;refine⟨F,[],st,?_,by rw[ZT]⟩;have:D.getD i none=none:=by
   rw[Z6];cases e:D[i]? with
   | none=>rfl
   | some o=>
    cases o with
    | none=>rfl
    | some d=>exact absurd e (hn d)
  rw[this];exact rfl
theorem mM{H:Hp}{σ:St}:∀ {caps:List Nat}{D:SD}{F:List Addr},caps.Nodup->ai H D σ F->∃ F1 F2,ai H (dr caps D) σ F1/\ai H (cW caps D) (caps.map fun i=>σ.getD i none) F2/\(F1++F2).Perm F
 | [],D,F,_,st=>⟨F,[],st,⟨rfl,rfl⟩,by rw[ZT]⟩
 | i::r,D,F,nd,st=>by
  obtain⟨F1,F2,h1,h2,h3⟩:=st.void i;have hn:=Y7.mp nd;obtain⟨F3,F4,g1,g2,g3⟩:=mM (caps:=r) hn.2 h1;refine⟨F3,F2++F4,g1,⟨_,_,F2,F4,rfl,h2,?_,rfl⟩,dM.trans<|(ZL _ g3).trans<|ZX.trans h3⟩;have e:cW r (match D[i]? with | some (some _)=>D.set i (some .jk) | _=>D)=cW r D:=by
   unfold cW;refine Wo fun j hj=>?_;split
   ·rw[Z6,Z6,YO];rintro rfl;exact hn.1 hj
   ·rfl
  rw[e] at g2;exact g2
theorem ai.Ob(st:ai H D σ F)(h:eU H o (σ.getD i none) G):∃ F1 F2,ai H (D.set i o) σ F1/\(F1++F2).Perm (F++G):=by
 cases o with
 | some d=>
  obtain⟨v,e,w⟩:=h;refine st.back w ?_;rw[Z6] at e;cases q:σ[i]? with
  | none=>rw[q] at e;cases e
  | some x=>rw[q] at e;rw[show x=some v from e]
 | none=>
  cases (show G=[] from h);rw[ZT];by_cases hi:i<D.length
  ·cases q:D[i]? with
   | none=>exact absurd (List.getElem?_eq_none_iff.mp q) (by lia)
   | some x=>
    cases x with
    | none=>
     refine⟨F,[],?_,by rw[ZT]⟩;have:D.set i none=D:=by
      refine Yc fun j=>?_;by_cases e:i=j
      ·subst e;rw[q,XE hi]
      ·rw[YO e]
     rw[this];exact st
    | some d=>
     obtain⟨v,F1,F2,h1,h2,h3,h4⟩:=st.out q;have gen:∀ {D:SD}{σ:St}{F:List Addr}{i:Nat},ai H D σ F->∃ F1 F2,ai H (D.set i none) σ F1/\(F1++F2).Perm F:=by
      intro D;induction D with
      | nil=>intro σ F i st;exact⟨F,[],by simpa using st,by rw[ZT]⟩
      | cons o D ih=>
       intro σ F i st;obtain⟨x,r,A,B,rfl,s1,s2,rfl⟩:=st;cases i with
       | zero=>exact⟨B,A,⟨x,r,[],B,rfl,rfl,s2,rfl⟩,ZX⟩
       | succ i=>
        obtain⟨C,E,c1,c2⟩:=ih (i:=i) s2;refine⟨A++C,E,⟨x,r,A,C,rfl,s1,c1,rfl⟩,?_⟩;rw[Z7];exact ZL _ c2
     exact gen st
  ·refine⟨F,[],?_,by rw[ZT]⟩;rw[List.set_eq_of_length_le (by lia)];exact st
theorem mO{H:Hp}{σ:St}:∀ {caps:List Nat}{C D:SD}{F G:List Addr},ai H D σ F->ai H C (caps.map fun i=>σ.getD i none) G->∃ F1 F2,ai H (cG caps C D) σ F1/\(F1++F2).Perm (F++G)
 | [],C,D,F,G,st,_=>⟨F,G,by cases C<;>exact st,ZF _⟩
 | i::r,[],D,F,G,st,h=>⟨F,G,st,ZF _⟩
 | i::r,o::C,D,F,G,st,h=>by
  obtain⟨x,t,G1,G2,e,h1,h2,rfl⟩:=h;cases e;obtain⟨F1,A,g1,g2⟩:=st.Ob h1;obtain⟨F2,B,k1,k2⟩:=mO (caps:=r) (C:=C) g1 h2;refine⟨F2,B++A,k1,?_⟩;rw[<- Z7,<- Z7];refine (ZJ A k2).trans ?_;rw[Z7];refine (ZL F1 ZX).trans ?_;rw[<- Z7];exact ZJ _ g2
theorem qU:∀ {caps:List Nat}{C D:SD},caps.length=C.length->caps.Nodup->cG caps C (dr caps D)=cG caps C D:=by
 have comm:∀ {r:List Nat}{C D:SD}{i:Nat}{o:Option Vl},i∉r->cG r C (D.set i o)=(cG r C D).set i o:=by
  intro r;induction r with
  | nil=>intro C D i o _;cases C<;>rfl
  | cons j r ih=>
   intro C D i o h;cases C with
   | nil=>rfl
   | cons c C=>
    have hj:i≠j:=fun e=>h (by rw[e];exact .head _);show cG r C ((D.set i o).set j c)=(cG r C<|D.set j c).set i o;rw[Vw _ _ hj,ih fun z=>h<|.tail _ z]
 have Iw:∀ {r:List Nat}{D:SD}{i:Nat}{o:Option Vl},i∉r->dr r (D.set i o)=(dr r D).set i o:=by
  intro r;induction r with
  | nil=>intro D i o _;rfl
  | cons j r ih=>
   intro D i o h;have hj:i≠j:=fun e=>h (by rw[e];exact .head _);show dr r (match (D.set i o)[j]? with | some (some _)=>(D.set i o).set j (some .jk) | _=>D.set i o)=(dr r (match D[j]? with | some (some _)=>D.set j (some .jk) | _=>D)).set i o;rw[YO hj];cases D[j]? with
   | none=>exact ih fun z=>h (.tail _ z)
   | some q=>
    cases q with
    | none=>exact ih fun z=>h (.tail _ z)
    | some d=>
     show dr r ((D.set i o).set j<|some .jk)=_;rw[Vw _ _ hj];exact ih fun z=>h (.tail _ z)
 intro caps;induction caps with
 | nil=>intro C D _ _;cases C<;>rfl
 | cons i r ih=>
  intro C D hl nd;have hn:=Y7.mp nd;cases C with
  | nil=>cases hl
  | cons c C=>
   have FV:r.length=C.length:=by simpa using hl
   show cG r C ((dr r (match D[i]? with | some (some _)=>D.set i (some .jk) | _=>D)).set i c)=cG r C (D.set i c);split
   ·rw[Iw hn.1,VU,<- Iw hn.1,ih FV hn.2]
   ·rw[<- Iw hn.1,ih FV hn.2]
theorem mP{H:Hp}{D:SD}{r:St}{F:List Addr}(h:ai H D r F):∀ {own:List Str},ai H (List.replicate own.length none++D) (own.map (fun _=>none)++r) F
 | []=>h
 | x::own=>⟨none,_,[],F,rfl,rfl,mP h (own:=own),rfl⟩
theorem i3{H:Hp}:∀ {n:Nat}{D:SD}{σ:St}{F:List Addr},ai H D σ F->∃ F1 F2,ai H (D.drop n) (σ.drop n) F1/\(F1++F2).Perm F
 | 0,D,σ,F,h=>⟨F,[],h,by rw[ZT]⟩
 | n+1,[],σ,F,h=>by
  cases h.1;exact⟨[],F,⟨rfl,rfl⟩,ZF _⟩
 | n+1,o::D,σ,F,h=>by
  obtain⟨x,r,A,B,rfl,h1,h2,rfl⟩:=h;obtain⟨F1,F2,g1,g2⟩:=i3 (n:=n) h2;exact⟨F1,F2++A,g1,by rw[<- Z7];exact (ZJ A g2).trans ZX⟩
theorem l_.both(a:l_ H F H1 (F1++R)):l_ H F H1 F1:=a.less (ZF _)
theorem aj.snoc:∀ {ds:List Im}{vs:List V}{d:Im}{v:V},aj H ds vs->EG H d v->aj H (ds++[d]) (vs++[v])
 | [],vs,d,v,h,w=>by cases (show vs=[] from h);exact⟨v,[],rfl,w,rfl⟩
 | e::ds,vs,d,v,h,w=>by
  obtain⟨u,r,rfl,h1,h2⟩:=h;exact⟨u,r++[v],rfl,h1,h2.snoc w⟩
variable{gi:MI}
theorem qV(nd:caps.Nodup)(h:tV (aP own.length caps gi gt gc ge) σ H Q):
  iL own caps (tI gi) (fun _=>tG (ee own.length caps.length) gt) (fun _=>HK gc) (fun _=>tV ge) σ H Q:=by
 obtain⟨D,F,r,D',st,Oc,FL,q⟩:=h;obtain⟨⟨⟨xs,o⟩,D1⟩,h1,h2⟩:=Z8.mp FL;obtain⟨⟨ds,C'⟩,h3,h4⟩:=Z2.mp h2;cases h4;refine⟨D,F,(xs,o),D1,st,Oc,h1,fun J H1 F1 R p_ it ln cR s1 Y=>?_⟩;obtain⟨Fo,Fc,so,sc,pm⟩:=mM nd p_;have s2:l_ H F H1 (Fc++(Fo++R)):=s1.EV (by
  refine (ZJ R pm.symm).trans ?_;rw[Z7];exact dM)
 have GH:=ZK.mp s2.nd;have cO:∀ x∈Fo++R,GS H1 x:=fun x hx=>by
  rcases Zx.mp hx with hx | hx
  ·exact so.chg x hx
  ·exact cR x hx
 have Gv:∀ {H2:Hp}{F2:List Addr},l_ H1 Fc H2 F2->∀ a∈Fo++R,∀ u,H1 a=some u->H2 a=some u:=fun s a ha u e=>s.keep a u e fun h=>GH.2.2 a h a ha rfl;refine⟨fun i m ys H'=>m+i=xs.length/\∃ acc C Hn,ai H' C (caps.map fun i=>σ.getD i none) Hn/\C.length=caps.length/\l_ H1 Fc H' Hn/\aj H' acc ys/\bP own.length gt gc ge (xs.drop i) acc C=some (ds,C'),
  ⟨xs.length,rfl,[],cW caps D1,Fc,sc,by rw[cW,Z3],l_.perm GH.1<|ZF _,rfl,h3⟩,?_⟩;rintro i m ys H' ⟨hm,acc,C,Hn,sC,lC,s',Ks,hw⟩;by_cases Fq:i<xs.length
 ·obtain⟨L3,hy⟩:=it.go H' s'.tup (fun a ha=>Gv s' a<|ZG _ ha) i xs[i] (by simp[Fq]);rw[Za Fq,bP] at hw;obtain⟨D3,w1,w2⟩:=Z8.mp hw;obtain⟨⟨b,D4⟩,w3,w4⟩:=Z8.mp w2;refine .inr ⟨L3,fun L6 H2=>(m - 1)+(i+1)=xs.length/\∃ acc C Hn,ai H2 C (caps.map fun i=>σ.getD i none) Hn/\C.length=caps.length/\l_ H1 Fc H2 Hn/\aj H2 acc L6/\bP own.length gt gc ge (xs.drop<|i+1) acc C=some (ds,C'),fun L6 H2 h=>⟨m - 1,by lia,h⟩,fun x H2 hx=>?_⟩;obtain⟨sm,L4⟩:=hy x H2 hx;have Od:=sC.mono sm.tupS fun a _ o e=>sm a o e;have L7:=s'.same sm;have GI:=Ks.mono sm.tupS.tup;refine⟨List.replicate own.length none++C,Hn,.im xs[i],[],D3,mP Od,⟨L4,rfl⟩,by rw[ZT];exact L7.nd,w1,fun σ3 H3 F3 Hx E1 sg=>⟨fun j v hj=>?_,?_⟩⟩
  ·
   have hlen:own.length<=j:=by
    by_cases Oe:j<own.length
    ·rw[b6,Zb (by simpa using Oe),Zy] at hj;cases e:own[j]? with
     | none=>rw[e] at hj;cases hj
     | some z=>rw[e] at hj;cases hj
    ·lia
   have Of:j<own.length+caps.length:=by
    have:=(ZE.mp hj).1
    rwa [b6,ZI,Z3,Z3] at this
   have hm:j∈ee own.length caps.length:=Ze.mpr ⟨j - own.length,Zh.mpr (by lia),by lia⟩;exact (Hx.2 j hm).trans hj
  ·have s3:l_ H1 Fc H3 F3:=L7.seq (by rw[ZT] at sg;exact sg);have GI:=GI.mono sg.tup.tup;have FZ:σ3.drop own.length=caps.map fun i=>σ.getD i none:=by
    have Ri:=E1.len;refine Yc fun j=>?_;by_cases hj:j<caps.length
    ·have hm:j+own.length∈ee own.length caps.length:=Ze.mpr ⟨j,Zh.mpr hj,rfl⟩;have:=Hx.2 _ hm;rw[YL,Vr,this,b6,Zf (by simp),Z3,Nat.add_sub_cancel]
    ·have l1:σ3.length<=own.length+caps.length:=by
      rw[Hx.1,b6,ZI,Z3,Z3];exact ZR _
     rw[YA (by rw[Zp];lia),YA (by rw[Z3];lia)]
   have lσ:σ3.length=own.length+caps.length:=by rw[Hx.1,b6,ZI,Z3,Z3]
   refine⟨D3,F3,b,D4,E1,s3.nd,w3,fun H4 F4 E3 s4=>?_⟩;have s5:=s3.seq s4;dsimp only at w4 ⊢;cases b with
   | false=>
    rw[ZY ZM] at w4 ⊢;obtain⟨F5,G5,Fp,Iv⟩:=i3 (n:=own.length) E3;rw[FZ] at Fp;exact⟨by lia,acc,D4.drop own.length,F5,Fp,by rw[Zp,E3.len,lσ];lia,s5.less Iv,GI.mono s4.tup.tup,w4⟩
   | true=>
    rw[ZZ rfl] at w4 ⊢;obtain⟨⟨v,D5⟩,w5,w6⟩:=Z8.mp w4;dsimp only at w6;split at w6
    ·rename_i d;split at w6
     ·rename_i hl;refine⟨D4,F4,.im d,D5,E3,s5.nd,w5,fun u H5 F5 R5 Fp ow s6=>?_⟩;obtain⟨iu,rfl⟩:=ow;rw[ZT] at s6;have Fy:=(GI.mono s4.tup.tup).mono s6.tup.tup;refine⟨XA (show ys.length<=100000 by rw[<- Fy.length];lia) (by decide),?_⟩;obtain⟨F6,G6,L8,Og⟩:=i3 (n:=own.length) Fp;rw[FZ] at L8;exact⟨by lia,acc++[d],D5.drop own.length,F6,L8,by rw[Zp,Fp.len,lσ];lia,(s5.seq s6).less Og,Fy.snoc iu,w6⟩
     ·cases w6
    ·cases w6
 ·have hi:i=xs.length:=by lia
  subst hi;refine .inl ⟨it.stop H' s'.tup<|fun a ha=>Gv s' a<|ZG _ ha,fun Dn L9=>?_⟩;rw[X5 (ZR _),bP] at hw;cases hw;have Oh:ai H' (dr caps D1) σ Fo:=so.mono s'.tup fun a ha=>Gv s' a (ZA _ ha);obtain⟨F4,G4,E3,Kp⟩:=mO Oh sC;rw[qU (by rw[lC]) nd] at E3;have Rj:iX H' σ R o:=by
   cases o with
   | none=>trivial
   | some p=>
    obtain⟨i,d⟩:=p;obtain⟨v,e1,e2⟩:=ln;exact⟨v,e1,e2.mono s'.tup fun a ha=>Gv s' a<|ZG _ ha⟩
  obtain⟨F5,G5,Fp,Iv⟩:=mI (R:=R) E3 Rj;have sm:aA H' (upd H' Dn<|.lst ys):=(aA.refl H').upd L9;have s5:l_ H F H' F5:=(s2.trans s' cO).less (C:=G5++G4) (by
   rw[<- Z7];refine (ZJ G4 Iv).trans ?_;rw[Z7];refine (ZL F4 ZX).trans ?_;rw[<- Z7];refine (ZJ R Kp).trans ?_;rw[Z7];exact dM)
  exact q _ _ F5 [Dn] (Fp.mono sm.tupS fun a _ o e=>sm a o e) ⟨Dn,ys,rfl,bI,Ks.mono sm.tupS.tup,rfl⟩ (s5.add L9 Fp.chg)
theorem eg{elt:Expr}{ifs:List Expr}{scope:Scope}(hc:X.calm=true)(S:n_ X scope own caps)(nd:caps.Nodup)(hi:VI X tg iter gi)(hg:∀ Y,VG (X.Ga (bn X own caps) scope Y) (ee own.length caps.length) tg gt)(ht:∀ Y,L5 (X.Ga (bn X own caps) scope Y) ifs gc)(he:∀ Y,VE (X.Ga (bn X own caps) scope Y) elt ge)(hs:∀ x,foldedSetIterable iter X.env x=pure x:=by intro _;rfl):VE X (.ListComp elt [⟨tg,iter,ifs,0⟩] scope pos) (aP own.length caps gi gt gc ge):=
 aW (qu hc S hi hg ht he hs) fun σ H Q h=>qV nd h
end
@[simp] def dg(fix:List Nat):List Vl->SD->Nat->List Vl
 | d::ds,o::D,j=>(if d.cp=true then d else if j∈fix then o.getD .jk else .jk)::dg fix ds D (j+1)
 | d::ds,[],j=>(if d.cp=true then d else .jk)::dg fix ds [] (j+1)
 | [],_,_=>[]
@[simp] def bb(n m:Nat)(fix:List Nat)(g:MS):Fn:=fun ds=>if ds.length=n then match g (ds.map some++List.replicate (m - n) none) with
 | some (.rt r,D)=>some (r,dg fix ds D 0)
 | some (.nx,D)=>some (.im .h_,dg fix ds D 0)
 | _=>none else none
theorem mQ{H:Hp}:∀ {ds:List Vl}{vs:List V}{F:List Addr}{m:Nat},aE H ds vs F->ai H (ds.map some++List.replicate m none) (vs.map some++List.replicate m none) F
 | [],vs,F,m,h=>by
  obtain⟨rfl,rfl⟩:=h;show ai H (List.replicate m none) (List.replicate m none) [];induction m with
  | zero=>exact⟨rfl,rfl⟩
  | succ m ih=>exact⟨none,_,[],[],rfl,rfl,ih,rfl⟩
 | d::ds,vs,F,m,h=>by
  obtain⟨v,r,F1,F2,rfl,h1,h2,rfl⟩:=h;exact⟨some v,_,F1,F2,rfl,⟨v,rfl,h1⟩,mQ h2,rfl⟩
theorem mR{H H':Hp}{fix:List Nat}(t:D_ H H'):∀ {ds:List Vl}{vs:List V}{F0:List Addr}{D:SD}{σ:St}{F:List Addr}{j0:Nat},aE H ds vs F0->ai H' D σ F->(∀ (j:Nat) (v:V),(j0+j)∈fix->vs[j]?=some v->σ[j]?=some (some v))->
  ∃ R G,aE H' (dg fix ds D j0) vs R/\(R++G).Perm F
 | [],vs,F0,D,σ,F,j0,h,st,_=>⟨[],F,by unfold dg;exact⟨h.1,rfl⟩,ZF _⟩
 | d::ds,vs,F0,[],σ,F,j0,h,st,k=>by
  obtain⟨v,r,A,B,rfl,h1,h2,rfl⟩:=h;obtain⟨rfl,rfl⟩:=st;obtain⟨R,G,g1,g2⟩:=mR (D:=[]) (σ:=[]) (F:=[]) (j0:=j0+1) t h2 ⟨rfl,rfl⟩ fun j v hj hv=>by
   have:=k (j+1) v (by rw[show j0+(j+1)=j0+1+j by lia];exact hj) (by simpa using hv);simp at this
  rw[dg];refine⟨R,G,⟨v,r,[],R,rfl,?_,g1,rfl⟩,g2⟩;split
  ·rename_i hc;have:=h1.mono t fun a ha=>by rw[h1.cp hc] at ha;cases ha
   rw[h1.cp hc] at this;exact this
  ·exact rfl
 | d::ds,vs,F0,o::D,σ,F,j0,h,st,k=>by
  obtain⟨v,r,A,B,rfl,h1,h2,rfl⟩:=h;obtain⟨x,s,C,E,rfl,s1,s2,rfl⟩:=st;obtain⟨R,G,g1,g2⟩:=mR (D:=D) (σ:=s) (j0:=j0+1) t h2 s2 fun j v hj hv=>by
   have:=k (j+1) v (by rw[show j0+(j+1)=j0+1+j by lia];exact hj) (by simpa using hv);simpa using this
  rw[dg];split
  ·rename_i hc;have hm:=h1.mono t fun a ha=>by rw[h1.cp hc] at ha;cases ha
   rw[h1.cp hc] at hm;refine⟨R,G++C,⟨v,r,[],R,rfl,hm,g1,rfl⟩,?_⟩;rw[<- Z7];exact (ZJ C g2).trans ZX
  ·split
   ·rename_i hf;have hx:x=some v:=by
     have:=k 0 v hf rfl;simpa using this
    subst hx;cases o with
    | none=>
     refine⟨R,G++C,⟨v,r,[],R,rfl,rfl,g1,rfl⟩,?_⟩;rw[<- Z7];exact (ZJ C g2).trans ZX
    | some e=>
     obtain⟨v',e1,w⟩:=s1;cases e1;refine⟨C++R,G,⟨v,r,C,R,rfl,w,g1,rfl⟩,?_⟩;rw[Z7];exact ZL _ g2
   ·refine⟨R,G++C,⟨v,r,[],R,rfl,rfl,g1,rfl⟩,?_⟩;rw[<- Z7];exact (ZJ C g2).trans ZX
section
variable{P:Program}{w:World}{K:PySem.W.Frag}{mg:Str->Option Value}{base:Heap}
theorem PQ{qual:Str}{st:Stmt}{f:Addr}{N:List Str}{k:Nat}{g:MS}(F:GZ K x qual st f fd)(S:j_ N ps (ay st))(hn:ps.length=n)(PR:∀ i∈fix,i<n)(hb:∀ (s_:Value) (A:Around) (outer:List Env) (s:Shared) (H:Hp) (E:XK),Ez k (A.deeper<|envOfC qual (ay st) s.heap.objs.size f s_)->Hc (cP Hw P w K mg base N qual (ay st) f s_ A outer s H E).KK fix (cg st) g):
  E2 P w K mg base Hw (k+1) f fd ps (Ir n<|bb n N.length fix g):=by
 refine F.ok S (fun vs H Q E h=>h.1.trans hn.symm) (fun s_ A outer s H vs Q E hr h=>⟨_,hb s_ A outer s H E hr,?_⟩);obtain⟨hl,ds,F0,r,outs,ow,nd,hg,q⟩:=h;have K5:ds.length=n:=ow.length.trans hl;unfold bb at hg;rw[ZZ K5] at hg;have st:=mQ (m:=N.length - n) ow;have es:da N vs=vs.map some++List.replicate (N.length - n) none:=by unfold da;rw[hl]
 rw[es];have fin:∀ {σ':St}{H':Hp}{F':List Addr}{D':SD}{v:V}{R:List Addr},dg fix ds D' 0=outs->aB fix (vs.map some++List.replicate (N.length - n) none) σ'->ai H' D' σ' F'->Own H' r v R->l_ H F0 H' (F'++R)->Q v H':=fun {σ' H' F' D' v R} eo fx f_ wr s'=>by
  obtain⟨R2,G,g1,g2⟩:=mR (fix:=fix) (j0:=0) s'.tup ow f_ fun j v hj hv=>by
   rw[Nat.zero_add] at hj;rw[fx.2 j hj,Zb (by rw[Z3];exact (ZE.mp hv).1),Zy,hv];rfl
  rw[eo] at g1;refine q v H' R R2 wr g1 (s'.less (C:=G) ?_);rw[Z7];exact (ZL R g2).trans ZX
 split at hg
 ·rename_i r' D' e;cases hg;exact⟨_,F0,.rt r,D',st,nd,e,fun v σ' H' F' R fx f_ wr s'=>fin rfl fx f_ wr s'⟩
 ·rename_i D' e;cases hg;exact⟨_,F0,.nx,D',st,nd,e,fun σ' H' F' fx f_ s'=>fin rfl fx f_ ⟨rfl,rfl⟩ (by rw[ZT];exact s')⟩
 ·cases hg
end
def Out(H:Hp)(d:Vl)(Q:VK):Prop:=∀ v H' R,aA H H'->Own H' d v R->R.Nodup->(∀ a∈R,H a=none)->Q v H'
theorem Out.PU{d:Im}(q:Out H (.im d) Q)(s:aA H H')(h:EG H' d v):Q v H':=q v H' [] s ⟨h,rfl⟩ Yy (fun a ha=>nomatch ha)
theorem Out.i{d:Im}(q:Out H (.im d) Q)(h:EG H d v):Q v H:=q.PU (aA.refl H) h
theorem Out.l(q:Out H (.lst ds) Q)(hp:H p=none)(h:aj H ds xs):Q (.ref p) (upd H p<|.lst xs):=by
 have s:aA H (upd H p<|.lst xs):=(aA.refl H).upd hp;exact q _ _ [p] s ⟨p,xs,rfl,bI,h.mono s.tupS.tup,rfl⟩ (Zw _ _) fun a ha=>by rw[Z1.mp ha];exact hp
theorem Out.t(q:Out H (.im<|.tup ds) Q)(hp:H p=none)(h:aj H ds xs):Q (.ref p) (upd H p<|.tup xs):=by
 have s:aA H (upd H p<|.tup xs):=(aA.refl H).upd hp;exact q.PU s ⟨p,xs,rfl,bI,h.mono s.tupS.tup⟩
section
variable{X:Cx}
theorem Fd.imp{f:Value->Value->Sem Value}{r:R2}(h:Fd X f r)(i:∀ x y H Q,r' x y H Q->r x y H Q):Fd X f r':=fun pins s σ H x y v u Q I rx ry hh=>h pins s σ H x y v u Q I rx ry (i x y H Q hh)
theorem aQ.imp{f:Value}{r r':List V->Hp->VK->Prop}(h:aQ X f r)(i:∀ xs H Q,r' xs H Q->r xs H Q):aQ X f r':=fun pins s σ H xs us Q I rx hh=>h pins s σ H xs us Q I rx (i xs H Q hh)
theorem HF.imp{r:R2}(h:HF X r)(i:∀ x y H Q,r' x y H Q->r x y H Q):HF X r':=fun e1 e2 pins s σ H x y v u Q I rx ry hh=>h e1 e2 pins s σ H x y v u Q I rx ry (i x y H Q hh)
theorem FS.i{d:Im}(h:FS H (.im d) v):EG H d v:=h.elim fun _ w=>w.1
end
abbrev Op2:=Vl->Vl->Option Vl
@[simp] def cX(C:Int->Int->Bool)(g:Int->Int->Im):Op2:=fun a b=>match a,b with
 | .im (.int i),.im (.int j)=>if C i j=true then some (.im<|g i j) else none
 | _,_=>none
theorem qW{C:Int->Int->Bool}{g:Int->Int->Im}{a b:Vl}(h:cX C g a b=some d):∃ i j,a=.im (.int i)/\b=.im (.int j)/\C i j=true/\d=.im (g i j):=by
 unfold cX at h;split at h
 ·rename_i i j;split at h
  ·rename_i hc;cases h;exact⟨i,j,rfl,rfl,hc,rfl⟩
  ·cases h
 ·cases h
section
variable{X:Cx}
variable{f:Value->Value->Sem Value}{g:Int->Int->V}{h:Int->Int->Im}
theorem jY{C:Int->Int->Prop}{B:Int->Int->Bool}(o:Fd X f (rI C g))(hB:∀ i j,B i j=true->C i j)(hg:∀ H i j,EG H (h i j)<|g i j):Gk X f (cX B h):=
 o.imp fun x y H Q ⟨d1,d2,d,r1,r2,e,q⟩=>by
  obtain⟨i,j,rfl,rfl,hc,rfl⟩:=qW e;exact⟨i,j,r1.i,r2.i,hB i j hc,Out.i q<|hg H i j⟩
theorem i4(o:Fd X f (I_ g))(hg:∀ H i j,EG H (h i j)<|g i j):Gk X f (cX (fun _ _=>true) h):=
 o.imp fun x y H Q ⟨d1,d2,d,r1,r2,e,q⟩=>by
  obtain⟨i,j,rfl,rfl,hc,rfl⟩:=qW e;exact⟨i,j,r1.i,r2.i,Out.i q<|hg H i j⟩
@[simp] def vSub:Op2:=cX (fun _ _=>true) fun i j=>.int (i - j)
def bW(i j:Int):Bool:=!(decide (Builtin.Int.intBits i > shortFactorBits) && decide (Builtin.Int.intBits j > shortFactorBits) && Builtin.Int.intTooBig (Builtin.Int.intBits i+Builtin.Int.intBits j))
@[simp] def vMul:Op2:=cX bW fun i j=>.int (i * j)
@[simp] def vDiv:Op2:=cX (fun _ j=>decide (0<j/\j<1073741824)) fun i j=>.int (i / j)
@[simp] def vMod:Op2:=cX (fun _ j=>decide (0<j)) fun i j=>.int (i % j)
@[simp] def vPow:Op2:=cX (fun i j=>decide (0<=j/\j<=1000000/\i.natAbs<2 ^ 64)) fun i j=>.int (i ^ j.toNat)
@[simp] def vLt:Op2:=cX (fun _ _=>true) fun i j=>.bl (decide (i<j))
@[simp] def vLe:Op2:=cX (fun _ _=>true) fun i j=>.bl (decide (i<=j))
@[simp] def vGt:Op2:=cX (fun _ _=>true) fun i j=>.bl (decide (j<i))
@[simp] def vGe:Op2:=cX (fun _ _=>true) fun i j=>.bl (decide (j<=i))
theorem dt:Gk X (binaryOp .Sub) vSub:=i4 wG fun _ _ _=>rfl
theorem cH:Gk X (binaryOp .Mult) vMul:=jY yO (fun i j h=>by unfold bW at h;unfold IntMulOk;rw[WN] at h;rw[h];exact ZM) fun _ _ _=>rfl
theorem qX:Gk X (binaryOp .FloorDiv) vDiv:=jY wH (fun i j h=>show 0<j/\j<1073741824 from Zn h) fun _ _ _=>rfl
theorem du:Gk X (binaryOp .Mod) vMod:=jY wI (fun i j h=>Zn h) fun _ _ _=>rfl
theorem jZ:Gk X (binaryOp .Pow) vPow:=jY wJ (fun i j h=>show 0<=j/\j<=1000000/\i.natAbs<2 ^ 64 from Zn h) fun _ _ _=>rfl
theorem mS:Gk X (compareOp .Lt) vLt:=i4 wL fun _ _ _=>rfl
theorem fj:Gk X (compareOp .LtE) vLe:=i4 wM fun _ _ _=>rfl
theorem ze:Gk X (compareOp .Gt) vGt:=i4 wN fun _ _ _=>rfl
theorem zf:Gk X (compareOp .GtE) vGe:=i4 wO fun _ _ _=>rfl
theorem zg:Fd X (binaryOp .Add) (fun x y H Q=>∃ a b ys,x=.ref a/\y=.ref b/\y_ X.K H a []/\y_ X.K H b ys/\Q (.ref b) H):=by
 intro pins s σ H x y v u Q I rx ry h;obtain⟨a,b,ys,rfl,rfl,ha,hb,q⟩:=h;cases rx;cases ry;obtain⟨e_,r1,p1,_⟩:=I.tuple ha;obtain⟨Fh,r2,p2,_⟩:=I.tuple hb;have e:e_=[]:=r1.FR.mpr rfl;subst e;obtain⟨⟨cls,dd,data,sl⟩,ho,hc,n,hd⟩:=id p1;obtain⟨⟨NL,KL,data2,KM⟩,J6,J7,n2,hd2⟩:=id p2;simp only at hc hd J7 hd2;subst hc hd J7 hd2;exact concat_meets ⟨_,ho,rfl⟩ ⟨_,J6,rfl⟩ V4 seq_tuple_add WT WV (Xa _ _) (tuple_addW0 a b _ _ n n2 dd KL sl KM rfl) ⟨ho,J6,.ref b,H,I,rfl,q⟩
@[simp] def vAdd:Op2:=fun a b=>match a,b with
 | .im (.int i),.im (.int j)=>some (.im<|.int<|i+j)
 | .im (.tup x),.im (.tup y)=>if x.length+y.length<=100000 then some (.im<|.tup<|x++y) else none
 | .lst x,.lst y=>if x.length+y.length<=100000 then some (.lst<|x++y) else none
 | .im (.str x),.im (.str y)=>if x.length+y.length<=100000 then some (.im<|.str<|x++y) else none
 | _,_=>none
theorem aj.app:∀ {a b:List Im}{x y:List V},aj H a x->aj H b y->aj H (a++b) (x++y)
 | [],b,x,y,h,k=>by cases (show x=[] from h);exact k
 | d::a,b,x,y,h,k=>by
  obtain⟨v,r,rfl,h1,h2⟩:=h;exact⟨v,r++y,rfl,h1,h2.app k⟩
theorem aj.nil{H:Hp}{a:List Im}(h:aj H a []):a=[]:=by
 cases a with
 | nil=>rfl
 | cons d a=>obtain⟨_,_,e,_⟩:=h;cases e
theorem a5:Gk X (binaryOp .Add) vAdd:=by
 refine (wF.or<|zg.or<|xB.or<|xV.or wU).imp fun x y H Q ⟨d1,d2,d,r1,r2,e,q⟩=>?_;unfold vAdd at e;split at e
 ·cases e;exact .inl ⟨_,_,r1.i,r2.i,Out.i q rfl⟩
 ·rename_i a b;split at e
  ·rename_i hl;cases e;obtain⟨p,xs,rfl,h1,h2⟩:=r1.i;obtain⟨p',ys,rfl,h3,h4⟩:=r2.i;refine .inr ?_;by_cases hx:xs=[]
   ·subst hx;cases h2.nil;exact .inl ⟨p,p',ys,rfl,rfl,y_.of h1,y_.of h3,Out.i q ⟨p',ys,rfl,h3,h4⟩⟩
   ·refine .inr (.inl ⟨p,p',xs,ys,rfl,rfl,y_.of h1,y_.of h3,hx,ff (by rw[<- h2.length,<- h4.length];exact hl),fun hy=>?_,fun hy n hn=>Out.t q hn<|h2.app h4⟩);subst hy;cases h4.nil;rw[ZT] at q;exact Out.i q ⟨p,xs,rfl,h1,h2⟩
  ·cases e
 ·rename_i a b;split at e
  ·rename_i hl;cases e;obtain⟨_,p,xs,rfl,h1,h2,_⟩:=r1;obtain⟨_,p',ys,rfl,h3,h4,_⟩:=r2;exact .inr (.inr (.inr (.inl ⟨p,p',xs,ys,rfl,rfl,h1,h3,ff (by rw[<- h2.length,<- h4.length];exact hl),fun n hn=>Out.l q hn<|h2.app h4⟩)))
  ·cases e
 ·rename_i a b;split at e
  ·rename_i hl;cases e;exact .inr (.inr<|.inr<|.inr ⟨a,b,r1.i,r2.i,ff hl,Out.i q rfl⟩)
  ·cases e
 ·cases e
theorem zh(n:Nat){A:Around}{x y:Im}{u v:Value}(kx:Im.pl n x=true)(ky:Im.pl n y=true)(hu:A.units+n+2<cLine)(hx:E_ s.heap x u)(hy:E_ s.heap y v):SeqAt.RcAt A s u v (az x y):=by
 cases x with
 | h_=>
  cases (show u=.none from hx);cases y with
  | h_=>cases (show v=.none from hy);exact SeqAt.RcAt.none_none
  | bl b=>cases (show v=.bool b from hy);exact SeqAt.RcAt.none_bool b
  | int j=>obtain⟨t,rfl⟩:=hy;exact SeqAt.RcAt.none_int j t
  | str z=>obtain⟨t,rfl⟩:=hy;exact SeqAt.RcAt.none_str z t
  | tup ds=>obtain⟨a,o,items,m,rfl,h1,h2,h3,_⟩:=hy;exact SeqAt.RcAt.none_tuple ⟨o,h1,h2,m,h3⟩ (by lia)
  | fn a=>cases n<;>cases ky
  | fl a=>cases n<;>cases ky
  | fd=>cases n<;>cases ky
 | bl b=>
  cases (show u=.bool b from hx);cases y with
  | h_=>cases (show v=.none from hy);exact SeqAt.RcAt.bool_none b
  | bl c=>cases (show v=.bool c from hy);exact SeqAt.RcAt.bool_bool b c
  | int j=>obtain⟨t,rfl⟩:=hy;exact SeqAt.RcAt.bool_int b j t
  | str z=>obtain⟨t,rfl⟩:=hy;exact SeqAt.RcAt.bool_str b z t
  | tup ds=>obtain⟨a,o,items,m,rfl,h1,h2,h3,_⟩:=hy;exact SeqAt.RcAt.bool_tuple b ⟨o,h1,h2,m,h3⟩ (by lia)
  | fn a=>cases n<;>cases ky
  | fl a=>cases n<;>cases ky
  | fd=>cases n<;>cases ky
 | int i=>
  obtain⟨t0,rfl⟩:=hx;cases y with
  | h_=>cases (show v=.none from hy);exact SeqAt.RcAt.int_none i t0
  | bl c=>cases (show v=.bool c from hy);exact SeqAt.RcAt.int_bool i t0 c
  | int j=>obtain⟨t,rfl⟩:=hy;exact SeqAt.RcAt.int_int i t0 j t
  | str z=>obtain⟨t,rfl⟩:=hy;exact SeqAt.RcAt.int_str i t0 z t
  | tup ds=>obtain⟨a,o,items,m,rfl,h1,h2,h3,_⟩:=hy;exact SeqAt.RcAt.int_tuple i t0 ⟨o,h1,h2,m,h3⟩ (by lia)
  | fn a=>cases n<;>cases ky
  | fl a=>cases n<;>cases ky
  | fd=>cases n<;>cases ky
 | str i=>
  obtain⟨t0,rfl⟩:=hx;cases y with
  | h_=>cases (show v=.none from hy);exact SeqAt.RcAt.str_none i t0
  | bl c=>cases (show v=.bool c from hy);exact SeqAt.RcAt.str_bool i t0 c
  | int j=>obtain⟨t,rfl⟩:=hy;exact SeqAt.RcAt.str_int i t0 j t
  | str z=>obtain⟨t,rfl⟩:=hy;exact SeqAt.RcAt.str_str i t0 z t
  | tup ds=>obtain⟨a,o,items,m,rfl,h1,h2,h3,_⟩:=hy;exact SeqAt.RcAt.str_tuple i t0 ⟨o,h1,h2,m,h3⟩ (by lia)
  | fn a=>cases n<;>cases ky
  | fl a=>cases n<;>cases ky
  | fd=>cases n<;>cases ky
 | fn a=>cases n<;>cases kx
 | fl a=>cases n<;>cases kx
 | fd=>cases n<;>cases kx
 | tup ds=>
  cases n with
  | zero=>cases kx
  | succ n=>
  obtain⟨a,o,items,m,rfl,h1,h2,h3,h4⟩:=hx;have ta:s.heap.IsTuple a items:=⟨o,h1,h2,m,h3⟩;cases y with
  | h_=>cases (show v=.none from hy);exact SeqAt.RcAt.tuple_none ta (by lia)
  | bl c=>cases (show v=.bool c from hy);exact SeqAt.RcAt.tuple_bool c ta (by lia)
  | int j=>obtain⟨t,rfl⟩:=hy;exact SeqAt.RcAt.tuple_int j t ta (by lia)
  | str z=>obtain⟨t,rfl⟩:=hy;exact SeqAt.RcAt.tuple_str z t ta (by lia)
  | fn a=>cases ky
  | fl a=>cases ky
  | fd=>cases ky
  | tup es=>
   obtain⟨b,o',w_,m',rfl,g1,g2,g3,g4⟩:=hy;have tb:s.heap.IsTuple b w_:=⟨o',g1,g2,m',g3⟩;have l1:=h4.length;have l2:=g4.length;have l3:items.toList.length=items.size:=by simp
   have l4:w_.toList.length=w_.size:=by simp
   rw[l3] at l1;rw[l4] at l2;have q:=SeqAt.RcAt.tuples (A:=A) (e:=fun j=>az (ds.getD j .h_)<|es.getD j .h_) ta tb (by lia) fun j j1 j2=>by
    obtain⟨d1,e1,r1⟩:=h4.get (j:=j) (v:=items[j]) (by rw[ZC];simp[j1]);obtain⟨d2,e2,r2⟩:=g4.get (j:=j) (v:=w_[j]) (by rw[ZC];simp[j2]);rw[Z6,e1,Z6,e2];exact c9 n (dn kx e1) (dn ky e2) (by show A.units+1+n+1<cLine;lia) r1 r2
   rw[<- l1,<- l2,iE (ds:=ds) (es:=es) (fun j x y a b=>by rw[Z6,a,Z6,b];rfl)] at q;rw[az];exact q
@[simp] def vEq:Op2:=fun a b=>match a,b with
 | .im x,.im y=>if (Im.pl 8 x && Im.pl 8 y)=true then some (.im<|.bl<|az x y) else none
 | .lst x,.lst y=>if (Im.pls 8 x && Im.pls 8 y)=true then some (.im<|.bl<|br x y) else none
 | _,_=>none
theorem mT:∀ {x y:List Im},x.length≠y.length->br x y=false
 | [],[],h=>absurd rfl h
 | [],_::_,_=>rfl
 | _::_,[],_=>rfl
 | a::x,b::y,h=>by
  rw[br,mT (fun e=>h (by rw[ZD,ZD,e])),Bool.and_false]
theorem gI{pins:List (Addr×Obj)}(I:Inv X pins σ H s){a:Addr}{xs:List V}{ds:List Im}(h1:H a=some (.lst xs))(h2:aj H ds xs):∃ e_:List Value,s.heap.IsList a e_.toArray/\aF s.heap ds e_/\e_.length=ds.length:=by
 obtain⟨z,e_,n,rv,e⟩:=I.i_ a _ h1;have:=h2.Gq I.i_ rv;exact⟨e_,⟨_,e,rfl,n,rfl⟩,this,this.length.symm⟩
theorem gJ(hu:X.A.units+20<cLine):Gk X (compareOp .Eq) vEq:=by
 intro pins s σ H x y v u Q I rx ry ⟨d1,d2,d,r1,r2,e,q⟩;unfold vEq at e;split at e
 ·rename_i a b;split at e
  ·rename_i hp;cases e;rw[ZQ] at hp;exact zh 8 hp.1 hp.2 (by lia) (r1.i.Gq I.i_ rx) (r2.i.Gq I.i_ ry) X.prog X.w _ _ ⟨.bl _,H,I,rfl,Out.i q rfl⟩
  ·cases e
 ·rename_i a b;split at e
  ·rename_i hp;cases e;rw[ZQ] at hp;obtain⟨_,p,xs,rfl,h1,h2,_⟩:=r1;obtain⟨_,p',ys,rfl,h3,h4,_⟩:=r2;cases rx;cases ry;obtain⟨i1,l1,v1,n1⟩:=gI I h1 h2;obtain⟨i2,l2,v2,n2⟩:=gI I h3 h4;by_cases hl:a.length=b.length
   ·have:=SeqAt.RcAt.lists (A:=X.A) (e:=fun j=>az (a.getD j .h_)<|b.getD j .h_) l1 l2 (by rw[ZS,ZS,n1,n2];exact hl) (by lia) fun j j1 j2=>by
     obtain⟨d1,e1,r1⟩:=v1.get (j:=j) (v:=i1.toArray[j]) (by simp at j1;simp[j1]);obtain⟨d2,e2,r2⟩:=v2.get (j:=j) (v:=i2.toArray[j]) (by simp at j2;simp[j2]);rw[Z6,e1,Z6,e2];exact c9 8 (dn hp.1 e1) (dn hp.2 e2) (by show X.A.units+1+8+1<cLine;lia) r1 r2
    refine this X.prog X.w _ _ ⟨.bl _,H,I,rfl,?_⟩;have e5:=iE (ds:=a) (es:=b) (e:=fun j=>az (a.getD j .h_)<|b.getD j .h_) (fun j x y a b=>by rw[Z6,a,Z6,b];rfl);rw[<- hl,Nat.min_self,YH,Bool.and_true] at e5;rw[ZS,n1,e5];exact Out.i q rfl
   ·refine SeqAt.RcAt.lists_lengths (A:=X.A) l1 l2 (by rw[ZS,ZS,n1,n2];simpa using hl) (by lia) X.prog X.w _ _ ⟨.bl _,H,I,rfl,?_⟩;rw[mT hl] at q;exact Out.i q rfl
  ·cases e
 ·cases e
end
section
variable{X:Cx}
theorem zi(n:Nat){A:Around}{x y:Im}{u v:Value}(kx:Im.pl n x=true)(ky:Im.pl n y=true)(hu:A.units+n+2<cLine)(hx:E_ s.heap x u)(hy:E_ s.heap y v):SeqAt.RcNeAt A s u v (!az x y):=by
 cases x with
 | h_=>
  cases (show u=.none from hx);cases y with
  | h_=>cases (show v=.none from hy);exact SeqAt.RcNeAt.none_none
  | bl b=>cases (show v=.bool b from hy);exact SeqAt.RcNeAt.none_bool b
  | int j=>obtain⟨t,rfl⟩:=hy;exact SeqAt.RcNeAt.none_int j t
  | str z=>obtain⟨t,rfl⟩:=hy;exact SeqAt.RcNeAt.none_str z t
  | tup ds=>obtain⟨a,o,items,m,rfl,h1,h2,h3,_⟩:=hy;exact SeqAt.RcNeAt.none_tuple ⟨o,h1,h2,m,h3⟩ (by lia)
  | fn a=>cases n<;>cases ky
  | fl a=>cases n<;>cases ky
  | fd=>cases n<;>cases ky
 | bl b=>
  cases (show u=.bool b from hx);cases y with
  | h_=>cases (show v=.none from hy);exact SeqAt.RcNeAt.bool_none b
  | bl c=>cases (show v=.bool c from hy);exact SeqAt.RcNeAt.bool_bool b c
  | int j=>obtain⟨t,rfl⟩:=hy;exact SeqAt.RcNeAt.bool_int b j t
  | str z=>obtain⟨t,rfl⟩:=hy;exact SeqAt.RcNeAt.bool_str b z t
  | tup ds=>obtain⟨a,o,items,m,rfl,h1,h2,h3,_⟩:=hy;exact SeqAt.RcNeAt.bool_tuple b ⟨o,h1,h2,m,h3⟩ (by lia)
  | fn a=>cases n<;>cases ky
  | fl a=>cases n<;>cases ky
  | fd=>cases n<;>cases ky
 | int i=>
  obtain⟨t0,rfl⟩:=hx;cases y with
  | h_=>cases (show v=.none from hy);exact SeqAt.RcNeAt.int_none i t0
  | bl c=>cases (show v=.bool c from hy);exact SeqAt.RcNeAt.int_bool i t0 c
  | int j=>obtain⟨t,rfl⟩:=hy;exact SeqAt.RcNeAt.int_int i t0 j t
  | str z=>obtain⟨t,rfl⟩:=hy;exact SeqAt.RcNeAt.int_str i t0 z t
  | tup ds=>obtain⟨a,o,items,m,rfl,h1,h2,h3,_⟩:=hy;exact SeqAt.RcNeAt.int_tuple i t0 ⟨o,h1,h2,m,h3⟩ (by lia)
  | fn a=>cases n<;>cases ky
  | fl a=>cases n<;>cases ky
  | fd=>cases n<;>cases ky
 | str i=>
  obtain⟨t0,rfl⟩:=hx;cases y with
  | h_=>cases (show v=.none from hy);exact SeqAt.RcNeAt.str_none i t0
  | bl c=>cases (show v=.bool c from hy);exact SeqAt.RcNeAt.str_bool i t0 c
  | int j=>obtain⟨t,rfl⟩:=hy;exact SeqAt.RcNeAt.str_int i t0 j t
  | str z=>obtain⟨t,rfl⟩:=hy;exact SeqAt.RcNeAt.str_str i t0 z t
  | tup ds=>obtain⟨a,o,items,m,rfl,h1,h2,h3,_⟩:=hy;exact SeqAt.RcNeAt.str_tuple i t0 ⟨o,h1,h2,m,h3⟩ (by lia)
  | fn a=>cases n<;>cases ky
  | fl a=>cases n<;>cases ky
  | fd=>cases n<;>cases ky
 | fn a=>cases n<;>cases kx
 | fl a=>cases n<;>cases kx
 | fd=>cases n<;>cases kx
 | tup ds=>
  cases n with
  | zero=>cases kx
  | succ n=>
  obtain⟨a,o,items,m,rfl,h1,h2,h3,h4⟩:=hx;have ta:s.heap.IsTuple a items:=⟨o,h1,h2,m,h3⟩;cases y with
  | h_=>cases (show v=.none from hy);exact SeqAt.RcNeAt.tuple_none ta (by lia)
  | bl c=>cases (show v=.bool c from hy);exact SeqAt.RcNeAt.tuple_bool c ta (by lia)
  | int j=>obtain⟨t,rfl⟩:=hy;exact SeqAt.RcNeAt.tuple_int j t ta (by lia)
  | str z=>obtain⟨t,rfl⟩:=hy;exact SeqAt.RcNeAt.tuple_str z t ta (by lia)
  | fn a=>cases ky
  | fl a=>cases ky
  | fd=>cases ky
  | tup es=>
   obtain⟨b,o',w_,m',rfl,g1,g2,g3,g4⟩:=hy;have tb:s.heap.IsTuple b w_:=⟨o',g1,g2,m',g3⟩;have l1:=h4.length;have l2:=g4.length;have l3:items.toList.length=items.size:=by simp
   have l4:w_.toList.length=w_.size:=by simp
   rw[l3] at l1;rw[l4] at l2;have q:=SeqAt.RcNeAt.tuples (A:=A) (e:=fun j=>az (ds.getD j .h_)<|es.getD j .h_) ta tb (by lia) fun j j1 j2=>by
    obtain⟨d1,e1,r1⟩:=h4.get (j:=j) (v:=items[j]) (by rw[ZC];simp[j1]);obtain⟨d2,e2,r2⟩:=g4.get (j:=j) (v:=w_[j]) (by rw[ZC];simp[j2]);rw[Z6,e1,Z6,e2];exact c9 n (dn kx e1) (dn ky e2) (by show A.units+1+n+1<cLine;lia) r1 r2
   rw[<- l1,<- l2,iE (ds:=ds) (es:=es) (fun j x y a b=>by rw[Z6,a,Z6,b];rfl)] at q;rw[az];exact q
@[simp] def vNe:Op2:=fun a b=>match a,b with
 | .im x,.im y=>if (Im.pl 8 x && Im.pl 8 y)=true then some (.im<|.bl<|!az x y) else none
 | .lst x,.lst y=>if (Im.pls 8 x && Im.pls 8 y)=true then some (.im<|.bl<|!br x y) else none
 | _,_=>none
theorem gK(hu:X.A.units+20<cLine):Gk X (compareOp .NotEq) vNe:=by
 intro pins s σ H x y v u Q I rx ry ⟨d1,d2,d,r1,r2,e,q⟩;unfold vNe at e;split at e
 ·rename_i a b;split at e
  ·rename_i hp;cases e;rw[ZQ] at hp;exact zi 8 hp.1 hp.2 (by lia) (r1.i.Gq I.i_ rx) (r2.i.Gq I.i_ ry) X.prog X.w _ _ ⟨.bl _,H,I,rfl,Out.i q rfl⟩
  ·cases e
 ·rename_i a b;split at e
  ·rename_i hp;cases e;rw[ZQ] at hp;obtain⟨_,p,xs,rfl,h1,h2,_⟩:=r1;obtain⟨_,p',ys,rfl,h3,h4,_⟩:=r2;cases rx;cases ry;obtain⟨i1,l1,v1,n1⟩:=gI I h1 h2;obtain⟨i2,l2,v2,n2⟩:=gI I h3 h4;by_cases hl:a.length=b.length
   ·have:=SeqAt.RcNeAt.lists (A:=X.A) (e:=fun j=>az (a.getD j .h_)<|b.getD j .h_) l1 l2 (by rw[ZS,ZS,n1,n2];exact hl) (by lia) fun j j1 j2=>by
     obtain⟨d1,e1,r1⟩:=v1.get (j:=j) (v:=i1.toArray[j]) (by simp at j1;simp[j1]);obtain⟨d2,e2,r2⟩:=v2.get (j:=j) (v:=i2.toArray[j]) (by simp at j2;simp[j2]);rw[Z6,e1,Z6,e2];exact c9 8 (dn hp.1 e1) (dn hp.2 e2) (by show X.A.units+1+8+1<cLine;lia) r1 r2
    refine this X.prog X.w _ _ ⟨.bl _,H,I,rfl,?_⟩;have e5:=iE (ds:=a) (es:=b) (e:=fun j=>az (a.getD j .h_)<|b.getD j .h_) (fun j x y a b=>by rw[Z6,a,Z6,b];rfl);rw[<- hl,Nat.min_self,YH,Bool.and_true] at e5;rw[ZS,n1,e5];exact Out.i q rfl
   ·refine SeqAt.RcNeAt.lists_lengths (A:=X.A) l1 l2 (by rw[ZS,ZS,n1,n2];simpa using hl) (by lia) X.prog X.w _ _ ⟨.bl _,H,I,rfl,?_⟩;rw[mT hl] at q;exact Out.i q rfl
  ·cases e
 ·cases e
def bQ{κ:Type}[DecidableEq κ](kvs:List (κ×Im))(k:κ):Option Im:=(kvs.find? fun p=>decide (p.1=k)).map (·.2)
theorem gL{κ:Type}[DecidableEq κ]{H:Hp}{k:κ}:∀ {kvs:List (κ×Im)}{EX:List (κ×V)},Gc H kvs EX->(∀ d,bQ kvs k=some d->∃ v,cf EX k=some v/\EG H d v)/\(bQ kvs k=none->cf EX k=none)
 | _,_,.nil=>⟨(fun d e=>by cases e),(fun _=>rfl)⟩
 | _,_,.cons (a:=p) (b:=q) h t=>by
  obtain⟨h1,h2⟩:=gL (k:=k) t;by_cases e:p.1=k
  ·have e':q.1=k:=h.1.symm.trans e;refine⟨fun d hd=>?_,fun hn=>?_⟩
   ·have:∀ r,bQ (p::r) k=some p.2:=fun r=>by simp[bQ,Ym,e]
    rw[this] at hd;cases hd;exact⟨q.2,jJ e',h.2⟩
   ·have:∀ r,bQ (p::r) k=some p.2:=fun r=>by simp[bQ,Ym,e]
    rw[this] at hn;cases hn
  ·have e':¬ q.1=k:=fun z=>e (h.1.trans z);have:∀ r,bQ (p::r) k=bQ r k:=fun r=>by simp[bQ,Ym,e]
   rw[this,jK e'];exact⟨h1,h2⟩
@[simp] def vIx:Op2:=fun a b=>match a,b with
 | .im (.tup ds),.im (.int i)=>(Fw ds i).map .im
 | .lst ds,.im (.int i)=>(Fw ds i).map .im
 | .fz ds,.im (.int i)=>(Fw ds i).map .im
 | .dT kvs,.im (.tup k)=>if Im.keys 7 k=true then (bQ kvs k).map .im else none
 | .dK kvs,.im (.int i)=>(bQ kvs<|.inl i).map .im
 | .dK kvs,.im (.str i)=>(bQ kvs<|.inr i).map .im
 | _,_=>none
theorem zj(hu:X.A.units+20<cLine):HF X (fun x y H Q=>∃ a v,x=.ref a/\bN H a y (some v)/\Q v H):=by
 intro value slice pins s σ H x y v u Q I rx ry ⟨a,z,e,g,q⟩ hs;subst e;cases rx;exact tail_any (x5 I g) PySem.F.slot_dict_getitem.lookup (xX hu I g ry fun w' s3 I3 Id=>⟨z,H,I3,Id,q⟩) hs
theorem mU{i:Int}{d:Im}(h:aj H ds xs)(e:Fw ds i=some d):∃ v,Fw xs i=some v/\EG H d v:=by
 unfold Fw at e ⊢;rw[<- h.length];obtain⟨j,e1,e2⟩:=Z8.mp e;obtain⟨v,g1,g2⟩:=h.get e2;exact⟨v,by rw[e1];exact g1,g2⟩
theorem zk(hu:X.A.units+20<cLine):HF X (fun x y H Q=>∃ d1 d2 d,FS H d1 x/\FS H d2 y/\vIx d1 d2=some d/\∀ v H' R,aA H H'->Own H' d v R->R.Nodup->(∀ a∈R,H a=none)->Q v H'):=by
 refine (xF.or<|xG.or<|zj hu).imp fun x y H Q ⟨d1,d2,d,r1,r2,e,q⟩=>?_;unfold vIx at e;split at e
 ·obtain⟨d',e1,e2⟩:=Z2.mp e;cases e2;obtain⟨p,xs,rfl,h1,h2⟩:=r1.i;obtain⟨v,g1,g2⟩:=mU h2 e1;exact .inr (.inl ⟨p,xs,_,v,rfl,r2.i,y_.of h1,g1,Out.i q g2⟩)
 ·obtain⟨d',e1,e2⟩:=Z2.mp e;cases e2;obtain⟨_,p,xs,rfl,h1,h2,_⟩:=r1;obtain⟨v,g1,g2⟩:=mU h2 e1;exact .inl ⟨p,xs,_,v,rfl,r2.i,EL.of h1,g1,Out.i q g2⟩
 ·obtain⟨d',e1,e2⟩:=Z2.mp e;cases e2;obtain⟨_,p,xs,o,rfl,h1,h2,_⟩:=r1;obtain⟨v,g1,g2⟩:=mU h2 e1;exact .inl ⟨p,xs,_,v,rfl,r2.i,.inl<|.inr ⟨o,h1⟩,g1,Out.i q g2⟩
 ·rename_i kvs k;split at e
  ·rename_i hk;obtain⟨d',e1,e2⟩:=Z2.mp e;cases e2;obtain⟨_,p,EX,rfl,h1,h2,_⟩:=r1;obtain⟨v,g1,g2⟩:=(gL h2).1 d' e1;obtain⟨b,xs,rfl,k1,k2⟩:=r2.i;exact .inr (.inr ⟨p,v,rfl,by rw[<- g1];exact bN.t h1 ⟨hk,b,xs,rfl,k1,k2⟩,Out.i q g2⟩)
  ·cases e
 ·rename_i kvs i;obtain⟨d',e1,e2⟩:=Z2.mp e;cases e2;obtain⟨_,p,EX,rfl,h1,h2,_⟩:=r1;obtain⟨v,g1,g2⟩:=(gL h2).1 d' e1;refine .inr (.inr ⟨p,v,rfl,?_,Out.i q g2⟩);rw[show y=kV (.inl i) from r2.i,<- g1];exact bN.k h1
 ·rename_i kvs i;obtain⟨d',e1,e2⟩:=Z2.mp e;cases e2;obtain⟨_,p,EX,rfl,h1,h2,_⟩:=r1;obtain⟨v,g1,g2⟩:=(gL h2).1 d' e1;refine .inr (.inr ⟨p,v,rfl,?_,Out.i q g2⟩);rw[show y=kV (.inr i) from r2.i,<- g1];exact bN.k h1
 ·cases e
end
end L2
namespace HT
open PySem PySem.Spec PyProof.Rows
section
variable{prog:Program}{w:World}{A:Around}{E:Value->Shared->Prop}{s:Shared}
theorem zl{t sl:Addr}{e_:Array Value}{vl vu:Value}{lo hi:Option Int}{Q:Value->Shared->Prop}(p:IsTup s.heap t e_)(hs:s.heap.IsSliceOf sl vl vu .none)(pl:IsPart vl lo)(pu:IsPart vu hi)(h0:C_ e_.size 0 lo=0)(h1:C_ e_.size e_.size hi=e_.size)(q:Q (.ref t) s):wpAny (model prog w) A (getItem (.ref t)<|.ref sl) Q E s:=by
 obtain⟨os,ho,hc,hd⟩:=id hs;have ty:s.TypeIs (.ref sl) "slice" := ⟨os,ho,hc⟩;unfold getItem;try with_reducible refine Y1 ?_
 first | refine Z9 (Z4 ?_) | skip
 refine Z9 (wpAny_sequenceKey p.typeIs (by decide) ?_);refine Z9 (Zc (name:=Str.ofString "__getitem__") p.typeIs YZ<|Zd YZ p.typeIs entry_tuple_getitem ?_<|args_tuple_getitem _ _);show wpAny _ _ (Builtin.Tuple.tupleItemsOf (.ref t) >>= _) _ _ s;refine Z9 (tupleItemsOf_ p ?_);refine Z9 (WS ty ?_);rw[ZZ (by decide)];refine Z9 (p9 hs pl pu ?_);rw[h0,h1];show wpAny _ _ (if (((0:Nat):Int) == 0 && (1:Int) == 1 && (e_.size - 0) == e_.size)=true then _ else _) _ _ s;rw[ZZ (by simp)];refine Z9 (m:=Builtin.Tuple.tupleIsExact _) (Z9<|WS p.typeIs<|Z4 ?_);show wpAny _ _ (if (Value.type "tuple" == Value.type "tuple")=true then _ else _) _ _ s;rw[ZZ (by decide)];exact Z9 (Yb<|Z4 ⟨_,rfl,Z4 q⟩)
end
end HT
namespace L2
open PySem PySem.Spec PyProof.Rows
section
variable{X:Cx}
@[simp] def ej(g:M Vl):M Vl:=fun D=>(g D).bind fun p=>match p.1 with
 | .im (.int i)=>some (.im<|.int<|-i,p.2)
 | _=>none
variable{g:M Vl}{pos:Pos}
theorem mV{a:Expr}(h:VE X a g):VE X (.UnaryOp .USub a pos) (ej g):=by
 refine aW (wB wK h) fun σ H Q ⟨D,F,r,D',st,nd,hg,q⟩=>?_;obtain⟨⟨x,D1⟩,h1,h2⟩:=Z8.mp hg;refine⟨D,F,x,D1,st,nd,h1,fun v H1 F1 R p_ ow s1=>?_⟩;dsimp only at h2;split at h2
 ·rename_i i;cases h2;exact⟨i,ow.1,q _ H1 F1 [] p_ ⟨rfl,rfl⟩ (by rw[ZT];exact s1.both)⟩
 ·cases h2
def tP(g:M (Option Int)):TO:=fun σ H Q=>∃ D F l D',ai H D σ F/\F.Nodup/\g D=some (l,D')/\∀ H' F',ai H' D' σ F'->l_ H F H' F'->Q l H'
def VP(X:Cx)(e:Option Expr)(g:M (Option Int)):Prop:=∀ ⦃p⦄,Pt X e (tP g) p
theorem qY{e:Option Expr}{t t':TO}(h:PO X e t)(i:∀ σ H Q,t' σ H Q->t σ H Q):PO X e t':=fun pins s σ H Q I hw=>h pins s σ H Q I (i σ H Q hw)
def pNone:M (Option Int):=fun D=>some (none,D)
@[simp] def i5(g:M Vl):M (Option Int):=fun D=>(g D).bind fun p=>match p.1 with
 | .im (.int i)=>some (some i,p.2)
 | _=>none
theorem qZ:VP X none pNone:=by
 refine qY xv fun σ H Q ⟨D,F,r,D',st,nd,hg,q⟩=>?_;cases hg;exact q H F st (l_.perm nd<|ZF _)
variable{e:Expr}
theorem ra(h:VE X e g):VP X (some e) (i5 g):=by
 refine qY (xw h) fun σ H Q ⟨D,F,r,D',st,nd,hg,q⟩=>?_;obtain⟨⟨x,D1⟩,h1,h2⟩:=Z8.mp hg;refine⟨D,F,x,D1,st,nd,h1,fun v H1 F1 R p_ ow s1=>?_⟩;dsimp only at h2;split at h2
 ·rename_i i;cases h2;exact⟨i,ow.1,q H1 F1 p_ s1.both⟩
 ·cases h2
def dv{α:Type}(xs:List α)(lo hi:Option Int):List α:=(xs.drop<|HT.C_ xs.length 0 lo).take (HT.C_ xs.length xs.length hi - HT.C_ xs.length 0 lo)
variable{H:Hp}
theorem aj.drop:∀ {ds:List Im}{xs:List V} (n:Nat),aj H ds xs->aj H (ds.drop n) (xs.drop n)
 | ds,xs,0,h=>h
 | [],xs,n+1,h=>by cases (show xs=[] from h);exact rfl
 | d::ds,xs,n+1,h=>by
  obtain⟨v,r,rfl,h1,h2⟩:=h;exact h2.drop n
theorem aj.take:∀ {ds:List Im}{xs:List V} (n:Nat),aj H ds xs->aj H (ds.take n) (xs.take n)
 | ds,xs,0,h=>rfl
 | [],xs,n+1,h=>by cases (show xs=[] from h);exact rfl
 | d::ds,xs,n+1,h=>by
  obtain⟨v,r,rfl,h1,h2⟩:=h;exact⟨v,_,rfl,h1,h2.take n⟩
theorem aj.cut{ds:List Im}{xs:List V}(lo hi:Option Int)(h:aj H ds xs):aj H (dv ds lo hi) (eR xs lo hi):=by
 unfold dv eR;rw[h.length];exact (h.drop _).take _
@[simp] def vSl(d:Vl)(lo hi:Option Int):Option Vl:=match d with
 | .im (.tup ds)=>some (.im<|.tup<|dv ds lo hi)
 | .lst ds=>some (.lst<|dv ds lo hi)
 | .fz ds=>some (.lst<|dv ds lo hi)
 | _=>none
def zm(K:PySem.W.Frag):V->Option Int->Option Int->Hp->VK->Prop:=fun x lo hi H Q=>∃ a xs,x=.ref a/\y_ K H a xs/\HT.C_ xs.length 0 lo=0/\HT.C_ xs.length xs.length hi=xs.length/\Q (.ref a) H
theorem zn:Lv X (fun x lo hi H Q=>∃ d r,FS H d x/\vSl d lo hi=some r/\Out H r Q):=by
 have all:Lv X (zm X.K):=by
  intro pins s σ H x v vl vu lo hi sl Q I rx hs pl pu h;obtain⟨a,xs,rfl,hx,h0,h1,q⟩:=h;cases rx;obtain⟨e_,r,ht,hz⟩:=I.tuple hx;have hlen:e_.toArray.size=xs.length:=by rw[ZS];exact r.length.symm
  exact⟨"tuple",_,YZ.lookup,ht.typeIs,HT.zl ht hs pl pu (by rw[hlen];exact h0) (by rw[hlen];exact h1) ⟨.ref a,H,I,rfl,q⟩⟩
 intro pins s σ H x v vl vu lo hi sl Q I rx hs pl pu ⟨d,r,rd,e,q⟩;unfold vSl at e;split at e
 ·rename_i ds;cases e;obtain⟨p,xs,rfl,h1,h2⟩:=rd.i;by_cases hw:HT.C_ xs.length 0 lo=0/\HT.C_ xs.length xs.length hi=xs.length
  ·refine all pins s σ H _ v vl vu lo hi sl Q I rx hs pl pu ⟨p,xs,rfl,y_.of h1,hw.1,hw.2,Out.i q ⟨p,xs,rfl,h1,?_⟩⟩;have:dv ds lo hi=ds:=by
    unfold dv;rw[h2.length,hw.1,hw.2,Ye,Nat.sub_zero,<- h2.length,XG]
   rw[this];exact h2
  ·exact xz pins s σ H _ v vl vu lo hi sl Q I rx hs pl pu ⟨p,xs,rfl,y_.of h1,hw,fun n hn=>Out.t q hn<|h2.cut lo hi⟩
 ·cases e;obtain⟨_,p,xs,rfl,h1,h2,_⟩:=rd;exact qf pins s σ H _ v vl vu lo hi sl Q I rx hs pl pu ⟨p,xs,rfl,EL.of h1,fun n hn=>Out.l q hn<|h2.cut lo hi⟩
 ·cases e;obtain⟨_,p,xs,o,rfl,h1,h2,_⟩:=rd;exact qf pins s σ H _ v vl vu lo hi sl Q I rx hs pl pu ⟨p,xs,rfl,.inl<|.inr ⟨o,h1⟩,fun n hn=>Out.l q hn<|h2.cut lo hi⟩
 ·cases e
@[simp] def eSl(g:M Opd)(l h:M (Option Int)):M Vl:=fun D=>(g D).bind fun p=>(l p.2).bind fun q=>(h q.2).bind fun r=>(rsl r.2 p.1).bind fun d=>(vSl d q.1 r.1).map fun d'=>(d',r.2)
theorem rc{lo hi:Option Expr}{g:M Opd}{gl gh:M (Option Int)}{p2:Pos}(he:VO X e g)(hl:VP X lo gl)(hh:VP X hi gh):VE X (.Subscript e (.Slice lo hi none p2) pos) (eSl g gl gh):=by
 refine aW (xx zn he hl hh) fun σ H Q ⟨D,F,r,D',st,nd,hg,q⟩=>?_;obtain⟨⟨x,D1⟩,h1,h2⟩:=Z8.mp hg;obtain⟨⟨l,D2⟩,h3,h4⟩:=Z8.mp h2;obtain⟨⟨u,D3⟩,h5,h6⟩:=Z8.mp h4;obtain⟨d,h7,h8⟩:=Z8.mp h6;obtain⟨d',h9,Rl⟩:=Z2.mp h8;cases Rl;refine⟨D,F,x,D1,st,nd,h1,fun v H1 F1 R p_ o1 s1=>⟨D1,F1,l,D2,p_,(ZK.mp s1.nd).1,h3,fun H2 F2 m_ s2=>⟨D2,F2,u,D3,m_,s2.nd,h5,fun H3 F3 E1 s3=>?_⟩⟩⟩;have s4:=s2.seq s3;have o3:cD H3 σ x v R:=o1.mono s4.tup fun a ha o e=>s4.keep a o e fun h=>(ZK.mp s1.nd).2.2 a h a ha rfl;have s5:=s1.trans s4 o1.chg;exact⟨d,_,o3.read E1 h7,h9,fun w H4 R4 s6 ow K3 fr=>q w H4 F3 R4 (E1.mono s6.tupS fun a _ o e=>s6 a o e) ow<|s5.new s6 K3 fr E1.chg⟩
abbrev OpN:=List Vl->Option Vl
@[simp] def vLen:OpN:=fun ds=>match ds with
 | [.im (.tup x)]=>some (.im<|.int x.length)
 | [.lst x]=>some (.im<|.int x.length)
 | [.fz x]=>some (.im<|.int x.length)
 | [.Fx x]=>some (.im<|.int x.length)
 | [.dK x]=>some (.im<|.int x.length)
 | [.im (.str x)]=>if x.length<=100000 then some (.im<|.int x.length) else none
 | _=>none
variable{vs:List V}
theorem bF{d:Vl}(h:eZ H [d] vs):∃ v,vs=[v]/\FS H d v:=by
 obtain⟨v,r,rfl,h1,h2⟩:=h;cases (show r=[] from h2);exact⟨v,rfl,h1⟩
theorem re{d e:Vl}(h:eZ H [d,e] vs):∃ v u,vs=[v,u]/\FS H d v/\FS H e u:=by
 obtain⟨v,r,rfl,h1,h2⟩:=h;obtain⟨u,rfl,h3⟩:=bF h2;exact⟨v,u,rfl,h1,h3⟩
theorem Gc.length{κ:Type}{H:Hp}{l:List (κ×Im)}{m:List (κ×V)}(h:Gc H l m):l.length=m.length:=Xc h
theorem cY:bT X (.builtin "len") vLen:=by
 refine (xM.or<|xN.or yg).imp fun xs H Q ⟨ds,d,rd,e,q⟩=>?_;unfold vLen at e;split at e
 ·cases e;obtain⟨v,rfl,h⟩:=bF rd;obtain⟨p,xs,rfl,h1,h2⟩:=h.i;exact .inl ⟨p,xs,rfl,.inr<|y_.of h1,by rw[<- h2.length];exact Out.i q rfl⟩
 ·cases e;obtain⟨v,rfl,_,p,xs,rfl,h1,h2,_⟩:=bF rd;exact .inl ⟨p,xs,rfl,.inl<|EL.of h1,by rw[<- h2.length];exact Out.i q rfl⟩
 ·cases e;obtain⟨v,rfl,_,p,xs,o,rfl,h1,h2,_⟩:=bF rd;exact .inl ⟨p,xs,rfl,.inl<|.inl<|.inr ⟨o,h1⟩,by rw[<- h2.length];exact Out.i q rfl⟩
 ·cases e;obtain⟨v,rfl,_,p,xs,G,rfl,h1,h2,_⟩:=bF rd;exact .inl ⟨p,xs,rfl,.inl<|EL.of h1,by rw[<- h2.length];exact Out.i q rfl⟩
 ·cases e;obtain⟨v,rfl,_,p,EX,rfl,h1,h2,_⟩:=bF rd;exact .inr (.inr ⟨p,EX,rfl,h1,by rw[<- h2.length];exact Out.i q rfl⟩)
 ·split at e
  ·rename_i hl;cases e;obtain⟨v,rfl,h⟩:=bF rd;cases (show v=_ from h.i);exact .inr (.inl ⟨_,rfl,ff hl,Out.i q rfl⟩)
  ·cases e
 ·cases e
@[simp] def vTuple:OpN:=fun ds=>match ds with
 | [d]=>(ed d).map fun x=>.im (.tup x)
 | _=>none
@[simp] def vList:OpN:=fun ds=>match ds with
 | [d]=>(ed d).map .lst
 | _=>none
theorem gM:bT X (.type "tuple") vTuple:=by
 refine xP.imp fun xs H Q ⟨ds,d,rd,e,q⟩=>?_;unfold vTuple at e;split at e
 ·obtain⟨x,e1,e2⟩:=Z2.mp e;cases e2;obtain⟨v,rfl,h⟩:=bF rd;unfold ed at e1;split at e1
  ·cases e1;obtain⟨p,xs,rfl,h1,h2⟩:=h.i;exact⟨p,xs,rfl,.inr ⟨y_.of h1,Out.i q ⟨p,xs,rfl,h1,h2⟩⟩⟩
  ·cases e1;obtain⟨_,p,xs,rfl,h1,h2,_⟩:=h;exact⟨p,xs,rfl,.inl ⟨EL.of h1,fun l hl=>Out.t q hl h2⟩⟩
  ·cases e1;obtain⟨_,p,xs,o,rfl,h1,h2,_⟩:=h;exact⟨p,xs,rfl,.inl ⟨.inl<|.inr ⟨o,h1⟩,fun l hl=>Out.t q hl h2⟩⟩
  ·cases e1
 ·cases e
theorem mW:bT X (.type "list") vList:=by
 refine xO.imp fun xs H Q ⟨ds,d,rd,e,q⟩=>?_;unfold vList at e;split at e
 ·obtain⟨x,e1,e2⟩:=Z2.mp e;cases e2;obtain⟨v,rfl,h⟩:=bF rd;unfold ed at e1;split at e1
  ·cases e1;obtain⟨p,xs,rfl,h1,h2⟩:=h.i;exact⟨p,xs,rfl,.inr<|y_.of h1,fun l hl=>Out.l q hl h2⟩
  ·cases e1;obtain⟨_,p,xs,rfl,h1,h2,_⟩:=h;exact⟨p,xs,rfl,.inl<|EL.of h1,fun l hl=>Out.l q hl h2⟩
  ·cases e1;obtain⟨_,p,xs,o,rfl,h1,h2,_⟩:=h;exact⟨p,xs,rfl,.inl<|.inl<|.inr ⟨o,h1⟩,fun l hl=>Out.l q hl h2⟩
  ·cases e1
 ·cases e
@[simp] def vInt:OpN:=fun ds=>match ds with
 | [.im (.int i)]=>some (.im<|.int i)
 | [.im (.bl b)]=>some (.im<|.int<|if b then 1 else 0)
 | _=>none
theorem mX:bT X (.type "int") vInt:=by
 refine wX.imp fun xs H Q ⟨ds,d,rd,e,q⟩=>?_;unfold vInt at e;split at e
 ·cases e;obtain⟨v,rfl,h⟩:=bF rd;cases (show v=_ from h.i);exact .inl ⟨_,rfl,Out.i q rfl⟩
 ·cases e;obtain⟨v,rfl,h⟩:=bF rd;cases (show v=_ from h.i);exact .inr ⟨_,rfl,Out.i q rfl⟩
 ·cases e
@[simp] def vMax2:OpN:=fun ds=>match ds with
 | [.im (.int i),.im<|.int j]=>some (.im<|.int<|if j > i then j else i)
 | _=>none
@[simp] def vMin2:OpN:=fun ds=>match ds with
 | [.im (.int i),.im<|.int j]=>some (.im<|.int<|if j<i then j else i)
 | _=>none
theorem zo(hc:X.calm=true):bT X (.builtin "max") vMax2:=by
 refine (wV hc).imp fun xs H Q ⟨ds,d,rd,e,q⟩=>?_;unfold vMax2 at e;split at e
 ·cases e;obtain⟨v,u,rfl,h,k⟩:=re rd;cases (show v=_ from h.i);cases (show u=_ from k.i);exact⟨_,_,rfl,Out.i q rfl⟩
 ·cases e
theorem zp(hc:X.calm=true):bT X (.builtin "min") vMin2:=by
 refine (wW hc).imp fun xs H Q ⟨ds,d,rd,e,q⟩=>?_;unfold vMin2 at e;split at e
 ·cases e;obtain⟨v,u,rfl,h,k⟩:=re rd;cases (show v=_ from h.i);cases (show u=_ from k.i);exact⟨_,_,rfl,Out.i q rfl⟩
 ·cases e
@[simp] def bls:List Im->Option (List Bool)
 | []=>some []
 | .bl b::ds=>(bls ds).map fun r=>b::r
 | _::_=>none
theorem mY{H:Hp}:∀ {ds:List Im}{xs:List V}{bs:List Bool},aj H ds xs->bls ds=some bs->xs=bs.map V.bl
 | [],xs,bs,h,e=>by cases e;exact h
 | .bl b::ds,xs,bs,h,e=>by
  obtain⟨v,r,rfl,h1,h2⟩:=h;rw[bls] at e;obtain⟨p,e1,e2⟩:=Z2.mp e;cases e2;cases (show v=.bl b from h1);rw[mY h2 e1];rfl
 | .h_::_,_,_,_,e=>by cases e
 | .int _::_,_,_,_,e=>by cases e
 | .str _::_,_,_,_,e=>by cases e
 | .tup _::_,_,_,_,e=>by cases e
 | .fn _::_,_,_,_,e=>by cases e
 | .fl _::_,_,_,_,e=>by cases e
 | .fd::_,_,_,_,e=>by cases e
@[simp] def vAll:OpN:=fun ds=>match ds with
 | [.lst x]=>(bls x).map fun bs=>.im (.bl<|bs.all id)
 | _=>none
@[simp] def vAny:OpN:=fun ds=>match ds with
 | [.lst x]=>(bls x).map fun bs=>.im (.bl<|bs.any id)
 | _=>none
theorem rf(hc:X.calm=true):bT X (.builtin "all") vAll:=by
 refine (yN hc).imp fun xs H Q ⟨ds,d,rd,e,q⟩=>?_;unfold vAll at e;split at e
 ·obtain⟨x,e1,e2⟩:=Z2.mp e;cases e2;obtain⟨v,rfl,_,p,xs,rfl,h1,h2,_⟩:=bF rd;rw[mY h2 e1] at h1;exact⟨p,x,rfl,h1,Out.i q rfl⟩
 ·cases e
end
section
variable{X:Cx}
theorem zq(hc:X.calm=true):aQ X (.builtin "any") (fun xs H Q=>∃ l bs,xs=[.ref l]/\H l=some (.lst<|List.map V.bl bs)/\Q (.bl<|bs.any id) H):=by
 intro pins s σ H xs us Q I r h;obtain⟨l,bs,rfl,hl,q⟩:=h;obtain⟨u,rfl,ru⟩:=bM r;cases ru;obtain⟨z,e_,n,rv,e⟩:=I.i_ l _ hl;have GG:s.heap.IsList l e_.toArray:=⟨_,e,rfl,n,rfl⟩;refine call_any_walk (Xp GG ⟨s.heap.objs.size,[s.heap.objs.size,l],[s.heap.objs.size],e_.toArray.size,_,_,fun i=>(bs[i]?).getD false,rfl,Walks.list (A:=X.A.in1) (I.ok.hd hc) _ l (ZB<|ZP e) e_.toArray,
  ⟨⟨_,ZN _ rfl,rfl,rfl⟩,GG.push _⟩,fun i v s' Q' E' hP hQ=>?_,fun h' tk hk=>?_⟩)
 ·obtain⟨b,eb,rfl⟩:=qG rv i v (by simpa using hP);simp only[eb,Xf] at hQ;exact YE hQ
 ·have el:e_.toArray.size=bs.length:=by
   have:=rv.length;rw[Z3] at this;rw[ZS,this]
  rw[el,LSm.range_any];exact⟨.bl _,H,I.kept<|W7 hk,rfl,q⟩
theorem zr(hc:X.calm=true):bT X (.builtin "any") vAny:=by
 refine (zq hc).imp fun xs H Q ⟨ds,d,rd,e,q⟩=>?_;unfold vAny at e;split at e
 ·obtain⟨x,e1,e2⟩:=Z2.mp e;cases e2;obtain⟨v,rfl,_,p,xs,rfl,h1,h2,_⟩:=bF rd;rw[mY h2 e1] at h1;exact⟨p,x,rfl,h1,Out.i q rfl⟩
 ·cases e
@[simp] def mZ(T:String)(d:Vl):Option Bool:=
 if T = "int" then match d with
  | .im (.int _)=>some true
  | .im (.bl _)=>some true
  | .im (.str _)=>some false
  | .im (.tup _)=>some false
  | .im .h_=>some false
  | .lst _=>some false
  | .im (.fl _)=>some false
  | .im .fd=>some false
  | .dT _=>some false
  | .dK _=>some false
  | _=>none
 else if T = "bool" then match d with
  | .im (.int _)=>some false
  | .im (.bl _)=>some true
  | .im (.str _)=>some false
  | .im (.tup _)=>some false
  | .im .h_=>some false
  | .lst _=>some false
  | .im (.fl _)=>some false
  | .im .fd=>some false
  | .dT _=>some false
  | .dK _=>some false
  | _=>none
 else if T = "str" then match d with
  | .im (.int _)=>some false
  | .im (.bl _)=>some false
  | .im (.str _)=>some true
  | .im (.tup _)=>some false
  | .im .h_=>some false
  | .lst _=>some false
  | .im (.fl _)=>some false
  | .im .fd=>some false
  | .dT _=>some false
  | .dK _=>some false
  | _=>none
 else if T = "tuple" then match d with
  | .im (.int _)=>some false
  | .im (.bl _)=>some false
  | .im (.str _)=>some false
  | .im (.tup _)=>some true
  | .im .h_=>some false
  | .lst _=>some false
  | .im (.fl _)=>some false
  | .im .fd=>some false
  | .dT _=>some false
  | .dK _=>some false
  | _=>none
 else none
variable{pins:List (Addr×Obj)}{H:Hp}{s:Shared}
theorem fk{σ:St}(I:Inv X pins σ H s){a:Addr}(h:(∃ k,H a=some (.dT k))\/∃ k,H a=some (.dK k)):∃ o,s.heap.get? a=some o/\o.cls=.type "dict" := by
 rcases h with ⟨k,h⟩ | ⟨k,h⟩
 ·obtain⟨_,_,xs,_,o,es,ep,h1,h2,_⟩:=(show bg X.prog X.w H s.heap a (.dT k) from I.i_ a _ h);exact⟨o,h1,h2.1⟩
 ·obtain⟨_,_,vs,_,o,es,ep,h1,h2,_⟩:=(show bg X.prog X.w H s.heap a (.dK k) from I.i_ a _ h);exact⟨o,h1,h2.1⟩
theorem j6{σ:St}(I:Inv X pins σ H s){a:Addr}{p:Obj}(h:H a=some (.Fa p<|.dT [])):∃ o,s.heap.get? a=some o/\o.cls=.type "dict" := by
 obtain⟨_,_,_,xs,_,o,es,ep,h1,h2,_⟩:=(show bg X.prog X.w H s.heap a (.Fa p<|.dT []) from I.i_ a _ h);exact⟨o,h1,h2.1⟩
theorem zt:aQ X (.builtin "isinstance") (fun xs H Q=>∃ x T d b,xs=[x,.ty T]/\FS H d x/\mZ T d=some b/\Q (.bl b) H):=by
 intro pins s σ H xs us Q I r h;obtain⟨x,T,d,b,rfl,rd,hi,q⟩:=h;have r0:=r;cases r with
 | cons r rr=>
  cases rr with
  | cons r' rr=>
   cases rr;cases r';have f1:∀ {b:Bool},Q (.bl b) H->EP X pins σ Q (.bool b) { s with toks:=s.toks+1 }:=fun {b} q=>⟨.bl b,H,I.tok _,rfl,q⟩;have dI:∀ {a:Addr},(∃ o,s.heap.get? a=some o/\o.cls=.type "dict")->(T = "int" \/ T = "bool" \/ T = "str" \/ T = "tuple")->b=false->wpAny (model X.prog X.w) X.A (call (.builtin "isinstance") [.ref a,.type T]) (EP X pins σ Q) X.xe s:=by
    rintro a ⟨o,ho,hc⟩ hT rfl;rcases hT with rfl | rfl | rfl | rfl
    ·exact IsiPair.dict_int ho hc (f1 q)
    ·exact IsiPair.dict_bool ho hc (f1 q)
    ·exact IsiPair.dict_str ho hc (f1 q)
    ·exact IsiPair.dict_tuple ho hc (f1 q)
   have nI:(T = "int" \/ T = "bool" \/ T = "str" \/ T = "tuple")->b=false->wpAny (model X.prog X.w) X.A (call (.builtin "isinstance") [.none,.type T]) (EP X pins σ Q) X.xe s:=by
    rintro hT rfl;rcases hT with rfl | rfl | rfl | rfl
    ·exact IsiPair.NoneType_int (f1 q)
    ·exact IsiPair.NoneType_bool (f1 q)
    ·exact IsiPair.NoneType_str (f1 q)
    ·exact IsiPair.NoneType_tuple (f1 q)
   have cI:qF X.K H x T b->wpAny (model X.prog X.w) X.A (call (.builtin "isinstance") [_,.type T]) (EP X pins σ Q) X.xe s:=fun hh=>yM pins s σ H _ _ Q I r0 ⟨x,T,b,rfl,hh,q⟩;unfold mZ at hi;split at hi
   ·rename_i hT;subst hT;split at hi
    ·cases hi;exact cI (.inl ⟨_,rd.i,.inl ⟨rfl,rfl⟩⟩)
    ·cases hi;exact cI (.inr<|.inl ⟨_,rd.i,.inr<|.inl ⟨rfl,rfl⟩⟩)
    ·cases hi;exact cI (.inr<|.inr<|.inl ⟨_,rd.i,.inr<|.inl ⟨rfl,rfl⟩⟩)
    ·cases hi;obtain⟨a,xs,e,h1,h2⟩:=rd.i;exact cI (.inr<|.inr<|.inr<|.inl ⟨a,xs,e,y_.of h1,.inr<|.inl ⟨rfl,rfl⟩⟩)
    ·cases hi;cases (show x=.h_ from rd.i);cases r;exact nI (.inl rfl) rfl
    ·cases hi;obtain⟨_,a,xs,e,h1,h2,_⟩:=rd;exact cI (.inr<|.inr<|.inr<|.inr ⟨a,xs,e,EL.of h1,.inr<|.inl ⟨rfl,rfl⟩⟩)
    ·cases hi;obtain⟨a,xs,o,e,h1,h2⟩:=rd.i;exact cI (.inr<|.inr<|.inr<|.inr ⟨a,xs,e,.inl<|.inr ⟨o,h1⟩,.inr<|.inl ⟨rfl,rfl⟩⟩)
    ·cases hi;obtain⟨a,o,rfl,h1⟩:=rd.i;cases r;exact dI (j6 I h1) (.inl rfl) rfl
    ·cases hi;obtain⟨_,a,xs,rfl,h1,h2,_⟩:=rd;cases r;exact dI (fk I<|.inl ⟨_,h1⟩) (.inl rfl) rfl
    ·cases hi;obtain⟨_,a,xs,rfl,h1,h2,_⟩:=rd;cases r;exact dI (fk I<|.inr ⟨_,h1⟩) (.inl rfl) rfl
    ·cases hi
   ·split at hi
    ·rename_i hT;subst hT;split at hi
     ·cases hi;exact cI (.inl ⟨_,rd.i,.inr<|.inr<|.inr<|.inl ⟨rfl,rfl⟩⟩)
     ·cases hi;exact cI (.inr<|.inl ⟨_,rd.i,.inl ⟨rfl,rfl⟩⟩)
     ·cases hi;exact cI (.inr<|.inr<|.inl ⟨_,rd.i,.inr<|.inr<|.inr<|.inl ⟨rfl,rfl⟩⟩)
     ·cases hi;obtain⟨a,xs,e,h1,h2⟩:=rd.i;exact cI (.inr<|.inr<|.inr<|.inl ⟨a,xs,e,y_.of h1,.inr<|.inr<|.inr<|.inl ⟨rfl,rfl⟩⟩)
     ·cases hi;cases (show x=.h_ from rd.i);cases r;exact nI (.inr<|.inl rfl) rfl
     ·cases hi;obtain⟨_,a,xs,e,h1,h2,_⟩:=rd;exact cI (.inr<|.inr<|.inr<|.inr ⟨a,xs,e,EL.of h1,.inr<|.inr<|.inr<|.inl ⟨rfl,rfl⟩⟩)
     ·cases hi;obtain⟨a,xs,o,e,h1,h2⟩:=rd.i;exact cI (.inr<|.inr<|.inr<|.inr ⟨a,xs,e,.inl<|.inr ⟨o,h1⟩,.inr<|.inr<|.inr<|.inl ⟨rfl,rfl⟩⟩)
     ·cases hi;obtain⟨a,o,rfl,h1⟩:=rd.i;cases r;exact dI (j6 I h1) (.inr<|.inl rfl) rfl
     ·cases hi;obtain⟨_,a,xs,rfl,h1,h2,_⟩:=rd;cases r;exact dI (fk I<|.inl ⟨_,h1⟩) (.inr<|.inl rfl) rfl
     ·cases hi;obtain⟨_,a,xs,rfl,h1,h2,_⟩:=rd;cases r;exact dI (fk I<|.inr ⟨_,h1⟩) (.inr<|.inl rfl) rfl
     ·cases hi
    ·split at hi
     ·rename_i hT;subst hT;split at hi
      ·cases hi;exact cI (.inl ⟨_,rd.i,.inr<|.inr<|.inl ⟨rfl,rfl⟩⟩)
      ·cases hi;exact cI (.inr<|.inl ⟨_,rd.i,.inr<|.inr<|.inr<|.inl ⟨rfl,rfl⟩⟩)
      ·cases hi;exact cI (.inr<|.inr<|.inl ⟨_,rd.i,.inl ⟨rfl,rfl⟩⟩)
      ·cases hi;obtain⟨a,xs,e,h1,h2⟩:=rd.i;exact cI (.inr<|.inr<|.inr<|.inl ⟨a,xs,e,y_.of h1,.inr<|.inr<|.inl ⟨rfl,rfl⟩⟩)
      ·cases hi;cases (show x=.h_ from rd.i);cases r;exact nI (.inr<|.inr<|.inl rfl) rfl
      ·cases hi;obtain⟨_,a,xs,e,h1,h2,_⟩:=rd;exact cI (.inr<|.inr<|.inr<|.inr ⟨a,xs,e,EL.of h1,.inr<|.inr<|.inl ⟨rfl,rfl⟩⟩)
      ·cases hi;obtain⟨a,xs,o,e,h1,h2⟩:=rd.i;exact cI (.inr<|.inr<|.inr<|.inr ⟨a,xs,e,.inl<|.inr ⟨o,h1⟩,.inr<|.inr<|.inl ⟨rfl,rfl⟩⟩)
      ·cases hi;obtain⟨a,o,rfl,h1⟩:=rd.i;cases r;exact dI (j6 I h1) (.inr<|.inr<|.inl rfl) rfl
      ·cases hi;obtain⟨_,a,xs,rfl,h1,h2,_⟩:=rd;cases r;exact dI (fk I<|.inl ⟨_,h1⟩) (.inr<|.inr<|.inl rfl) rfl
      ·cases hi;obtain⟨_,a,xs,rfl,h1,h2,_⟩:=rd;cases r;exact dI (fk I<|.inr ⟨_,h1⟩) (.inr<|.inr<|.inl rfl) rfl
      ·cases hi
     ·split at hi
      ·rename_i hT;subst hT;split at hi
       ·cases hi;exact cI (.inl ⟨_,rd.i,.inr<|.inl ⟨rfl,rfl⟩⟩)
       ·cases hi;exact cI (.inr<|.inl ⟨_,rd.i,.inr<|.inr<|.inl ⟨rfl,rfl⟩⟩)
       ·cases hi;exact cI (.inr<|.inr<|.inl ⟨_,rd.i,.inr<|.inr<|.inl ⟨rfl,rfl⟩⟩)
       ·cases hi;obtain⟨a,xs,e,h1,h2⟩:=rd.i;exact cI (.inr<|.inr<|.inr<|.inl ⟨a,xs,e,y_.of h1,.inl ⟨rfl,rfl⟩⟩)
       ·cases hi;cases (show x=.h_ from rd.i);cases r;exact nI (.inr<|.inr<|.inr rfl) rfl
       ·cases hi;obtain⟨_,a,xs,e,h1,h2,_⟩:=rd;exact cI (.inr<|.inr<|.inr<|.inr ⟨a,xs,e,EL.of h1,.inr<|.inr<|.inr<|.inr ⟨rfl,rfl⟩⟩)
       ·cases hi;obtain⟨a,xs,o,e,h1,h2⟩:=rd.i;exact cI (.inr<|.inr<|.inr<|.inr ⟨a,xs,e,.inl<|.inr ⟨o,h1⟩,.inr<|.inr<|.inr<|.inr ⟨rfl,rfl⟩⟩)
       ·cases hi;obtain⟨a,o,rfl,h1⟩:=rd.i;cases r;exact dI (j6 I h1) (.inr<|.inr<|.inr rfl) rfl
       ·cases hi;obtain⟨_,a,xs,rfl,h1,h2,_⟩:=rd;cases r;exact dI (fk I<|.inl ⟨_,h1⟩) (.inr<|.inr<|.inr rfl) rfl
       ·cases hi;obtain⟨_,a,xs,rfl,h1,h2,_⟩:=rd;cases r;exact dI (fk I<|.inr ⟨_,h1⟩) (.inr<|.inr<|.inr rfl) rfl
       ·cases hi
      ·cases hi
@[simp] def fW(T:String)(g:M Opd):M Vl:=fun D=>(g D).bind fun p=>(rsl p.2 p.1).bind fun d=>(mZ T d).map fun b=>(.im<|.bl b,p.2)
variable{x:Str}{e:Expr}{g:M Opd}{pos:Pos}
theorem gO{T:String}{p p2:Pos}(hg:Gl X "isinstance")(hm:X.mg "isinstance" = none)(hv:bootBuiltins "isinstance" = some (.builtin "isinstance"))(Rm:Gl X x)(Rn:X.mg x=none)(Ro:bootBuiltins x=some (.type T))(h:VO X e g)(hn:x ≠ "__name__" := by decide)(hd:(x == ("__debug__" : Str))=false:=by decide)(he:starEach [e,.Name x p2] X.env=(false,eval e X.env)::starEach [.Name x p2] X.env:=by rfl)(HJ:starEach [.Name x p2] X.env=(false,eval (.Name x p2) X.env)::starEach [] X.env:=by rfl)(FQ:(backTo pos<|starEach [.Name x p2] X.env).any (·.1)=false:=by rfl):VE X (.Call (.Name "isinstance" p) [e,.Name x p2] [] pos) (fW T g):=by
 refine aW (jI zt hg hm hv (eQ h (eQ (pD (v:=.ty T) Rm Rn Ro rfl hn hd) iH HJ) he) (by decide) (by decide) he FQ) fun σ H Q ⟨D,F,r,D',st,nd,FL,q⟩=>?_;obtain⟨⟨o,D1⟩,h1,h2⟩:=Z8.mp FL;obtain⟨d,h3,h4⟩:=Z8.mp h2;obtain⟨b,h5,h6⟩:=Z2.mp h4;cases h6;exact⟨D,F,o,D1,st,nd,h1,fun v H1 F1 R p_ o1 s1=>⟨v,T,d,b,rfl,o1.read p_ h3,h5,q _ H1 F1 [] p_ ⟨rfl,rfl⟩ (by rw[ZT];exact s1.both)⟩⟩
@[simp] def dw:Vl->Option Bool
 | .im .h_=>some false
 | .im (.bl b)=>some b
 | .im (.int i)=>some (i != 0)
 | .im (.str x)=>if x.length<=100000 then some ((x.length:Int) != 0) else none
 | .im (.tup ds)=>some (!ds.isEmpty)
 | .lst ds=>some (!ds.isEmpty)
 | .fz ds=>some (!ds.isEmpty)
 | .dK kvs=>some (!kvs.isEmpty)
 | _=>none
theorem aj.emp{ds:List Im}{xs:List V}(h:aj H ds xs):(!xs.isEmpty)=!ds.isEmpty:=by
 cases ds with
 | nil=>cases (show xs=[] from h);rfl
 | cons d ds=>obtain⟨v,r,rfl,_⟩:=h;rfl
theorem rg{d:Vl}{v:V}{b:Bool}(h:FS H d v)(e:dw d=some b):lX X.K v H b:=by
 unfold dw at e;split at e
 ·cases e;cases (show v=_ from h.i);rfl
 ·cases e;cases (show v=_ from h.i);rfl
 ·cases e;cases (show v=_ from h.i);rfl
 ·split at e
  ·rename_i hl;cases e;cases (show v=_ from h.i);exact⟨ff hl,rfl⟩
  ·cases e
 ·cases e;obtain⟨p,xs,rfl,h1,h2⟩:=h.i;exact .inr (.inl ⟨xs,y_.of h1,h2.emp.symm⟩)
 ·cases e;obtain⟨_,p,xs,rfl,h1,h2,_⟩:=h;exact .inl ⟨xs,EL.of h1,h2.emp.symm⟩
 ·cases e;obtain⟨_,p,xs,o,rfl,h1,h2,_⟩:=h;exact .inl ⟨xs,.inl<|.inr ⟨o,h1⟩,h2.emp.symm⟩
 ·cases e;obtain⟨_,p,EX,rfl,h1,h2,_⟩:=h;refine .inr (.inr ⟨EX,h1,?_⟩);cases h2<;>rfl
 ·cases e
@[simp] def bx(g:M Opd):M Bool:=fun D=>(g D).bind fun p=>(rsl p.2 p.1).bind fun d=>(dw d).map fun b=>(b,p.2)
theorem er(h:VO X e g)(he:∀ whole,isTrue e X.env whole=(do let v <- whole;standAt e.pos;holding [v] (truthy v)):=by intro _;rfl):VT X e (bx g):=by
 refine jP (wT h he) fun σ H Q ⟨D,F,b,D',st,nd,FL,q⟩=>?_;obtain⟨⟨o,D1⟩,h1,h2⟩:=Z8.mp FL;obtain⟨d,h3,h4⟩:=Z8.mp h2;obtain⟨b',h5,h6⟩:=Z2.mp h4;cases h6;exact⟨D,F,o,D1,st,nd,h1,fun v H1 F1 R p_ o1 s1=>⟨_,rg (o1.read p_ h3) h5,q H1 F1 p_ s1.both⟩⟩
theorem gP{i:Int}{t:Tok}(hg:Gl X x)(hm:X.mg x=some (.int i t))(hd:(x == ("__debug__" : Str))=false:=by decide):VE X (.Name x pos) (eC<|.int i):=iS (lP (v:=.int i) hg hm ⟨t,rfl⟩ hd) fun _=>rfl
end
variable{o:Expr}{g:M (List Opd)}{i:Nat}{ty:Vl->Bool}{K:PySem.W.Frag}{o':HO}{a:Addr}{T:String}{H:Hp}
theorem l_.chg{F F1:List Addr}(ha:a∈F)(c:GS H a)(nd:F1.Nodup)(sb:∀ x∈F1,x∈F):l_ H F (upd H a o') F1:=by
 obtain⟨o,e,ht,hf⟩:=c;refine⟨fun x u ex hx=>?_,fun x hx=>.inl<|sb x hx,nd,D_.of (fun x xs ex=>?_)<|fun x p u ex=>?_,fun x u ex=>?_⟩
 ·rw[aG (fun z=>hx (by rw[z];exact ha))];exact ex
 ·rw[aG]
  ·exact ex
  ·rintro rfl;rw[e] at ex;exact ht xs (Zr ex)
 ·rw[aG]
  ·exact ex
  ·rintro rfl;rw[e] at ex;exact hf p u (Zr ex)
 ·by_cases hx:x=a
  ·subst hx;exact⟨o',bI⟩
  ·exact⟨u,(aG hx).trans ex⟩
theorem EG.Ix(c:GS H a):HC H (upd H a o'):=(l_.chg (F:=[a]) (F1:=[]) (.head _) c Yy<|fun x hx=>nomatch hx).tup.tup
def Oi(X:Cx)(id:String)(mt:Vl->List Vl->Option (Vl×Vl)):Prop:=
 Pu X id fun x vs H Q=>∃ c ds r c' R S,Own H c x R/\aE H ds vs S/\(R++S).Nodup/\mt c ds=some (r,c')/\∀ v H' R1 R2,Own H' r v R1->Own H' c' x R2->l_ H (R++S) H' (R1++R2)->Q v H'
@[simp] def fm:Vl->Bool
 | .lst _=>true
 | .Fx _=>true
 | _=>false
@[simp] def dh(ty:Vl->Bool)(i:Nat)(mt:Vl->List Vl->Option (Vl×Vl))(g:M (List Opd)):M Vl:=fun D=>match D[i]? with
 | some (some c0)=>if ty c0=true then (g D).bind fun p=>(aY p.1 p.2).bind fun q=>match q.2[i]? with
   | some (some c)=>(mt c q.1).map fun r=>(r.1,q.2.set i<|some r.2)
   | _=>none
  else none
 | _=>none
theorem zu{mt:Vl->List Vl->Option (Vl×Vl)}{σ:St}{Q:VK}(IR:∀ H c x R,Own H c x R->ty c=true->KN K T x H)(h:tV (dh ty i mt g) σ H Q):∃ x,σ[i]?=some (some x)/\KN K T x H/\tA g σ H fun vs H2=>∃ c ds r c' R S,Own H2 c x R/\aE H2 ds vs S/\(R++S).Nodup/\mt c ds=some (r,c')/\∀ v H' R1 R2,Own H' r v R1->Own H' c' x R2->l_ H2 (R++S) H' (R1++R2)->Q v H':=by
 obtain⟨D,F,r,D',st,nd,hg,q⟩:=h;unfold dh at hg;split at hg
 ·rename_i c0 K6;split at hg
  ·rename_i ht;obtain⟨x,A0,B0,hx,w0,_,_⟩:=st.out K6;refine⟨x,hx,IR H c0 x _ w0 ht,?_⟩;obtain⟨⟨os,D1⟩,h1,h2⟩:=Z8.mp hg;obtain⟨⟨ds,D2⟩,h3,h4⟩:=Z8.mp h2;refine⟨D,F,os,D1,st,nd,h1,fun vs H1 F1 R1 p_ o1 s1=>?_⟩;obtain⟨F2,S,m_,ow,pm⟩:=fc p_ o1 h3;dsimp only at h4;split at h4
   ·rename_i c hc;obtain⟨⟨r',c'⟩,h5,h6⟩:=Z2.mp h4;cases h6;obtain⟨x',R,F3,Hr,w1,E1,L'⟩:=m_.out hc;rw[hx] at Hr;cases Hr;have s2:l_ H F H1 ((R++S)++F3):=s1.EV (pm.symm.trans ((ZJ S L'.symm).trans (by
     rw[Z7];exact ZX)))
    have GH:=ZK.mp s2.nd;refine⟨c,ds,_,c',R,S,w1,ow,GH.1,h5,fun v H' A B wa wb s3=>?_⟩;have E3:ai H' (D2.set i<|some .jk) σ F3:=E1.mono s3.tup fun a ha o e=>s3.keep a o e fun h=>GH.2.2 a h a ha rfl;obtain⟨F4,G,Fp,Iv⟩:=E3.back wb hx;rw[VU] at Fp;refine q v H' F4 A Fp wa ((s2.trans s3 E1.chg).less (C:=G) ?_);rw[Z7];refine (ZL F4 ZX).trans ?_;rw[<- Z7];refine (ZJ A Iv).trans ?_;rw[Z7];refine ZX.trans ?_;rw[Z7];refine ZX.trans ?_;rw[Z7,Z7];refine (ZL A ?_);exact ZX
   ·cases h4
  ·cases hg
 ·cases hg
section
variable{X:Cx}
theorem j9:∀ (H:Hp) (c:Vl) (x:V) (R:List Addr),Own H c x R->fm c=true->KN K "list" x H:=by
 intro H c x R h e;cases c with
 | lst ds=>obtain⟨a,xs,rfl,h1,_⟩:=h;exact .inl ⟨rfl,xs,EL.of h1⟩
 | Fx ds=>obtain⟨a,xs,G,rfl,h1,_⟩:=h;exact .inl ⟨rfl,xs,EL.of h1⟩
 | _=>cases e
theorem kb{name:Str}{id:String}{mt:Vl->List Vl->Option (Vl×Vl)}{e:Expr}{es:List Expr}{apos EO:Pos}(IR:∀ H c x R,Own H c x R->ty c=true->KN X.K T x H)(pa:PlainAttrs T)(slot:Slot T name id)(ht:typeOf (.builtin id)=pure (.type "method_descriptor"))(hm:Oi X id mt)(ho:PE X o (gw i))(ha:VA X (e::es) g)(Ie:attributeBase o name X.env (eval o X.env)=eval o X.env:=by rfl)(J_:((backTo EO<|starEach (e::es) X.env).all (fun x=>!x.1) && (backToKw EO<|keywordEach [] X.env).all (fun x=>x.1.isSome)
   && decide ((e::es).length+([]:List Keyword).length+(if ([]:List Keyword).isEmpty then 0 else 1)<30))=true:=by rfl)(Ig:(apos.endLine == EO.line)=true:=by rfl)(hs:starEach (e::es) X.env=(false,eval e X.env)::starEach es X.env:=by rfl)(Hh:(backTo EO<|starEach es X.env).any (·.1)=false:=by rfl):
  VE X (.Call (.Attribute o name apos) (e::es) [] EO) (dh ty i mt g):=
 aW (xR pa slot ht hm ho ha Ie J_ Ig hs Hh) fun σ H Q h=>by
  obtain⟨x,hx,h1,h2⟩:=zu IR h;exact⟨x,hx,h1,h2⟩
@[simp] def mAppend:Vl->List Vl->Option (Vl×Vl):=fun c ds=>match c,ds with
 | .lst xs,[.im d]=>if xs.length<100000 then some (.im .h_,.lst<|xs++[d]) else none
 | _,_=>none
theorem m5{n:Nat}(h:n<100000):n<sizeLine:=Zv h (by decide)
theorem m6:Oi X "list.append" mAppend:=by
 intro pins s σ H x vs v us Q I rx rv ⟨c,ds,r,c',R,S,wc,wd,nd,e,q⟩;unfold mAppend at e;split at e
 ·split at e
  ·rename_i hl;cases e;obtain⟨a,ys,rfl,h1,h2,rfl⟩:=wc;obtain⟨y,t,S1,S2,rfl,⟨hy,rfl⟩,⟨rfl,rfl⟩,rfl⟩:=wd;have c:GS H a:=⟨_,h1,(fun _ e=>by cases e),(fun _ _ e=>by cases e)⟩;refine xT pins s σ H _ _ v us Q I rx rv ⟨a,ys,y,rfl,rfl,h1,m5 (by rw[<- h2.length];exact hl),q .h_ _ [] [a] ⟨rfl,rfl⟩ ?_ (l_.chg (.head _) c (Zw _ _) fun x hx=>by simpa using hx)⟩;exact⟨a,_,rfl,bI,(h2.snoc hy).mono<|EG.Ix c,rfl⟩
  ·cases e
 ·cases e
@[simp] def zv:Vl->List Vl->Option (Vl×Vl):=fun c ds=>match c,ds with
 | .lst xs,[.im (.int i)]=>if 0<=i/\i<xs.length then (xs[i.toNat]?).map fun d=>(.im d,.lst<|xs.eraseIdx i.toNat) else none
 | _,_=>none
@[simp] def mExtend:Vl->List Vl->Option (Vl×Vl):=fun c ds=>match c,ds with
 | .lst xs,[.lst ys]=>if xs.length+ys.length<=100000 then some (.im .h_,.lst<|xs++ys) else none
 | _,_=>none
theorem zw:Oi X "list.extend" mExtend:=by
 intro pins s σ H x vs v us Q I rx rv ⟨c,ds,r,c',R,S,wc,wd,nd,e,q⟩;unfold mExtend at e;split at e
 ·split at e
  ·rename_i hl;cases e;obtain⟨a,ys,rfl,h1,h2,rfl⟩:=wc;obtain⟨y,t,S1,S2,rfl,⟨b,zs,rfl,h3,h4,rfl⟩,⟨rfl,rfl⟩,rfl⟩:=wd;have c:GS H a:=⟨_,h1,(fun _ e=>by cases e),(fun _ _ e=>by cases e)⟩;refine xU pins s σ H _ _ v us Q I rx rv ⟨a,b,ys,zs,rfl,rfl,h1,h3,ff (by rw[<- h2.length,<- h4.length];exact hl),q .h_ _ [] [a] ⟨rfl,rfl⟩ ?_ (l_.chg (.head _) c (Zw _ _) fun x hx=>by
    rw[Wr] at hx;exact ZA _ hx)⟩
   exact⟨a,_,rfl,bI,(h2.app h4).mono<|EG.Ix c,rfl⟩
  ·cases e
 ·cases e
def kc(X:Cx)(pt:Vl->Vl->Vl->Option Vl):Prop:=
 lQ X fun o i v H Q=>∃ c k d c' R S,Own H c o R/\Own H k i []/\Own H d v S/\(R++S).Nodup/\pt c k d=some c'/\∀ H' R',Own H' c' o R'->l_ H (R++S) H' R'->Q H'
@[simp] def putV(c k d:Vl):Option Vl:=match c,k,d with
 | .lst xs,.im<|.int i,.im d=>(Jc xs.length i).map fun j=>.lst (xs.set j d)
 | _,_,_=>none
theorem aj.set{H:Hp}{d:Im}{v:V}(w:EG H d v):∀ {ds:List Im}{xs:List V} (n:Nat),aj H ds xs->aj H (ds.set n d) (xs.set n v)
 | [],xs,n,h=>by cases (show xs=[] from h);exact rfl
 | e::ds,xs,0,h=>by obtain⟨u,r,rfl,h1,h2⟩:=h;exact⟨v,r,rfl,w,h2⟩
 | e::ds,xs,n+1,h=>by obtain⟨u,r,rfl,h1,h2⟩:=h;exact⟨u,_,rfl,h1,aj.set w n h2⟩
theorem rh:kc X putV:=by
 intro pins s σ H o i v ov iv u Q I ro ri rv ⟨c,k,d,c',R,S,wc,wk,wd,nd,e,q⟩;unfold putV at e;split at e
 ·obtain⟨j,e1,e2⟩:=Z2.mp e;cases e2;obtain⟨a,ys,rfl,h1,h2,rfl⟩:=wc;obtain⟨hd,rfl⟩:=wd;have c:GS H a:=⟨_,h1,(fun _ e=>by cases e),(fun _ _ e=>by cases e)⟩;refine xI pins s σ H _ _ _ ov iv u Q I ro ri rv ⟨a,ys,_,j,rfl,wk.1,h1,by rw[<- h2.length];exact e1,q _ [a] ?_ (l_.chg (.head _) c (Zw _ _) fun x hx=>by simpa using hx)⟩;exact⟨a,_,rfl,bI,(aj.set hd j h2).mono<|EG.Ix c,rfl⟩
 ·cases e
@[simp] def gIx(i:Nat)(gk:M Vl)(pt:Vl->Vl->Vl->Option Vl):MG:=fun d D=>match D[i]? with
 | some (some _)=>(gk D).bind fun p=>if p.1.cp=true then match p.2[i]? with
   | some (some c)=>(pt c p.1 d).map fun c'=>p.2.set i (some c')
   | _=>none
  else none
 | _=>none
theorem ke{fix:List Nat}{k:Expr}{gk:M Vl}{pt:Vl->Vl->Vl->Option Vl}{pos:Pos}(ho:PE X o (gw i))(hk:VE X k gk)(hp:kc X pt)(ha:∀ v,assign (.Subscript o k pos) X.env v=(do
   let ov <- holding [v] (eval o X.env)
   let iv <- holding [v,ov] (eval k X.env)
   standAt pos
   holding [v,ov,iv] (setItem ov iv v)
   release [v,ov,iv] []):=by intro _;rfl):VG X fix (.Subscript o k pos) (gIx i gk pt):=by
 refine mG (wg ho hk hp ha) fun v σ H Q ⟨D,F,d,R,D',st,ow,nd,hg,q⟩=>?_;unfold gIx at hg;split at hg
 ·rename_i c0 K6;obtain⟨x,A0,B0,hx,w0,_,_⟩:=st.out K6;obtain⟨⟨kd,D1⟩,h1,h2⟩:=Z8.mp hg;split at h2
  ·rename_i Rp;refine⟨x,hx,D,F,kd,D1,st,(ZK.mp nd).1,h1,fun kv H1 F1 RK p_ wk s1=>?_⟩;obtain rfl:=wk.cp Rp;rw[ZT] at s1;have Oj:=ZK.mp nd;dsimp only at h2;split at h2
   ·rename_i c hc;obtain⟨c',h5,h6⟩:=Z2.mp h2;cases h6;obtain⟨x',RC,F3,Hr,w1,E1,L'⟩:=p_.out hc;rw[hx] at Hr;cases Hr;have Rq:Own H1 d v R:=ow.mono s1.tup fun a ha o e=>s1.keep a o e fun h=>Oj.2.2 a h a ha rfl;have s2:l_ H (F++R) H1 ((RC++R)++F3):=by
     have e0:l_ H (F++R) H (F++R):=l_.perm nd (ZF _);have:=l_.trans (F1:=F) (R:=R) e0 s1 ow.chg;refine this.EV ((ZJ R L'.symm).trans ?_);rw[Z7];exact ZX
    have GH:=ZK.mp s2.nd;refine⟨c,kd,d,c',RC,R,w1,wk,Rq,GH.1,h5,fun H' R' w' s3=>?_⟩;have E3:ai H' (D1.set i<|some .jk) σ F3:=E1.mono s3.tup fun a ha o e=>s3.keep a o e fun h=>GH.2.2 a h a ha rfl;obtain⟨F4,G,Fp,Iv⟩:=E3.back w' hx;rw[VU] at Fp;exact q σ H' F4 aB.refl Fp ((s2.trans s3 E1.chg).less<|Iv.trans ZX)
   ·cases h2
  ·cases h2
 ·cases hg
end
section
variable{prog:Program}{w:World}{A:Around}{E:Value->Shared->Prop}{s:Shared}
end
section
variable{X:Cx}
end
end L2
namespace L2
open PySem PySem.Spec PyProof.Rows PySem.W
variable{ns:List Int}{p:Array Nat}{α:Type}
theorem zx(l:List α)(d:α):(range l.length).map (fun i=>l.getD i d)=l:=by
 apply V1
 ·simp
 ·intro i h1 h2;simp[List.getD,h2]
theorem kf{l:List α}{d:α}(h:Rg l.length p):(p.toList.map fun i=>l.getD i d).Perm l:=by
 have:=Vv (fun i=>l.getD i d) h;rw[zx] at this;exact this
theorem kg{α β:Type}{F:α->β->Prop}:∀ {l₁:List α}{l₂:List β},l₁.length=l₂.length->(∀ (i:Nat) a b,l₁[i]?=some a->l₂[i]?=some b->F a b)->Paired F l₁ l₂
 | [],[],_,_=>.nil
 | a::l,b::m,h,f=>.cons (f 0 a b rfl rfl) (kg (by simpa using h) fun i x y h1 h2=>f (i+1) x y (by simpa using h1) (by simpa using h2))
 | [],_::_,h,_=>by simp at h
 | _::_,[],h,_=>by simp at h
section
variable{prog:Program}{w:World}{A:Around}{E:Value->Shared->Prop}{s:Shared}{vs:List Value}
theorem m7{B:Addr}{n0:Nat}{P:PySem.Fin->Shared->Prop}(key:Nat->Int)(κ:SortKind)(ho:s.heap.get? B=some (seqObj "list" vs.toArray n0))(o_:2<=vs.length->∀ h6:Heap,(∀ b o,b≠B->s.heap.get? b=some o->h6.get? b=some o)->∀ Q:SortKind->Shared->Prop,Q κ { s with heap:=h6 }->wpAny (model prog w) A (keyKind' vs.toArray) Q E { s with heap:=h6 })(Kt:∀ h6:Heap,(∀ b o,b≠B->s.heap.get? b=some o->h6.get? b=some o)->b7 vs.length key (kas_cmp prog w A κ<|vs.toArray.zip vs.toArray) { s with heap:=h6 })(inj:∀ i j,i<vs.length->j<vs.length->key i=key j->i=j)(up:vs.length<1001\/∀ j,1<=j->j<vs.length->key (j - 1)<=key j)(hz:vs.length<=1000)(h:∀ (p:Array Nat) (h':Heap),Rg vs.length p->Up key p vs.length->(∀ b o,b≠B->s.heap.get? b=some o->h'.get? b=some o)->(∃ e,h'.get? B=some (seqObj "list" (p.toList.map fun i=>vs.getD i Value.none).toArray e))->
   P (.done<|.ret .none) { s with heap:=h' }):wpAny (model prog w) A (Builtin.«list.sort» ⟨[.ref B],[]⟩) P E s:=by
 have PV:vs.length<=sizeLine:=Zg hz (by decide);rw[list_sort_plain];have hB:B<s.heap.objs.size:=ZP ho;refine Z9 (listItems_at ho rfl (Z9 (listUpdate_at ho rfl ?_ (hsz:=by rw[ZS];exact PV) (hsz2:=by show 0<=_;exact Yl _))));have JH:=get?_update_seq ho (fun _=>#[]);generalize Ol:(if (#[]:Array Value).size == vs.toArray.size then n0 else n0+1)=e1 at JH;refine Z9 (seqEpoch_at JH rfl (Z9 (wpAny_newTuple (Z9<|V7<|Y1 ?_) (by simpa using PV))));have k6:∀ b o,b≠B->s.heap.get? b=some o->(((s.heap.update B<|Obj.mapSeq fun _=>#[]).push<|seqObj "tuple" vs.toArray.toList.toArray 0).push<|seqObj "list" ([]:List Value).toArray 0).get? b=some o:=fun b o hb e=>
  Z5 _ (Z5 _<|(Y3 _ _<|Yd hb).trans e);have o6:(((s.heap.update B<|Obj.mapSeq fun _=>#[]).push<|seqObj "tuple" vs.toArray.toList.toArray 0).push<|seqObj "list" ([]:List Value).toArray 0).get? B=some (seqObj "list" #[] e1):=
  Z5 _ (Z5 _ JH);show wpAny (model prog w) A _ P E { s with heap:=((s.heap.update B<|Obj.mapSeq fun _=>#[]).push<|seqObj "tuple" vs.toArray.toList.toArray 0).push (seqObj "list" ([]:List Value).toArray 0) };generalize ((s.heap.update B<|Obj.mapSeq fun _=>#[]).push<|seqObj "tuple" vs.toArray.toList.toArray 0).push (seqObj "list" ([]:List Value).toArray 0)=h6 at k6 o6 ⊢;have fin:∀ (st:SortSt) (p:Array Nat),Rg vs.length p->Up key p vs.length->arrOf st=p.map (kas_item<|vs.toArray.zip vs.toArray)->failedOf st=none->
   wpAny (model prog w) A (do
    let touched:=(<- seqEpoch B) != e1
    Builtin.List.listUpdate (.ref B) fun _=>(arrOf st).map (·.2)
    if let some e:=failedOf st then rule "list.sort.comparison-raised";throw e
    if touched then rule "list.sort.modified";raiseError "ValueError" "list modified during sort"
    ret .none) P E { s with heap:=h6 }:=fun st p r1 r2 r3 r4=>by
  have out:=kat_snds (ks:=vs) (vs:=vs) rfl r3;rw[out,r4];refine Z9 (seqEpoch_at (s:={ s with heap:=h6 }) o6 rfl (Z9 (listUpdate_at (s:={ s with heap:=h6 }) o6 rfl ?_ (hsz:=Yl _) (hsz2:=by
   show (List.toArray<|p.toList.map fun i=>vs.getD i Value.none).size<=_;rw[ZS,Z3,ZO,r1.size];lia))))
  simp only[bne_self_eq_false,Zo,Yz];refine Z4 (h p _ r1 r2 (fun b o hb e=>(Y3 _ _<|Yd hb).trans<|k6 b o hb e) ⟨_,get?_update_seq o6 fun _=>_⟩)
 dsimp only;by_cases h2:vs.toArray.size<2
 ·rw[ZZ h2,ZZ h2];refine Z9 (Z4 ?_);rw[StateT.run_pure];apply Z9;apply Z4;have KZ:vs.length<2:=by simpa using h2
  refine fin (SortSt.mk' general' (vs.toArray.zip vs.toArray) #[] 7 none) (range vs.length).toArray (ZF _) (fun i j GF hj=>?_) ?_ rfl
  ·have:i=j:=by lia
   subst this;exact X4 _
  ·have:=kas_range (vs.toArray.zip vs.toArray);rw[show (vs.toArray.zip vs.toArray).size=vs.length by simp] at this;exact this.symm
 ·rw[ZY h2,ZY h2];have KZ:2<=vs.length:=by simpa using h2
  refine Z9 (o_ KZ h6 k6 _ ?_)
  ·have cm:=Kt h6 k6;have kr:=kas_range (vs.toArray.zip vs.toArray);rw[show (vs.toArray.zip vs.toArray).size=vs.length by simp] at kr;have run:=yF (E:=E) (Q:=fun _ st s'=>s'={ s with heap:=h6 }/\∃ p,Rg vs.length p/\Up key p vs.length/\arrOf st=p.map (kas_item<|vs.toArray.zip vs.toArray)/\failedOf st=none) cm
    inj KZ up fun p' f_ a b c d=>⟨rfl,p',a,b,c,d⟩;unfold kas_st at run;rw[kr] at run;refine Z9 (YV run (fun r s' hr=>?_) fun _ _ e=>e);obtain⟨u,st⟩:=r;obtain⟨rfl,p,r1,r2,r3,r4⟩:=hr;exact fin st p r1 r2 r3 r4
end
section
variable{X:Cx}{pins:List (Addr×Obj)}{σ:L2.St}{H:Hp}{s:Shared}
theorem rj(hc:X.calm=true){a:Addr}{ys:List V}{e_:List Value}{n:Nat}{T:String}{o:Obj}{Q:VK}(key:Nat->Int)(κ:SortKind)(I:Inv X pins σ H s)(rv:au ys e_)(hT:T = "list" \/ T = "tuple")(e:s.heap.get? a=some o)(eC:o.cls=.type T)(eD:o.data=.seq e_.toArray n)(hz:ys.length<=1000)(o_:2<=e_.length->∀ (h6:Heap) (tk:Nat),(∀ b o,s.heap.get? b=some o->h6.get? b=some o)->∀ (A:Around) (E:Value->Shared->Prop) (Q:SortKind->Shared->Prop),Q κ { s with heap:=h6,toks:=tk }->wpAny (model X.prog X.w) A (keyKind' e_.toArray) Q E { s with heap:=h6,toks:=tk })(Kt:∀ (h6:Heap) (tk:Nat),(∀ b o,s.heap.get? b=some o->h6.get? b=some o)->b7 e_.length key (kas_cmp X.prog X.w X.A.in1.in1 κ<|e_.toArray.zip e_.toArray) { s with heap:=h6,toks:=tk })(inj:∀ i j,i<e_.length->j<e_.length->key i=key j->i=j)(up:e_.length<1001\/∀ j,1<=j->j<e_.length->key (j - 1)<=key j)(q:∀ (p:Array Nat) l,Rg e_.length p->Up key p e_.length->H l=none->Q (.ref l) (upd H l<|.lst<|p.toList.map fun i=>ys.getD i .h_)):
  wpAny (model X.prog X.w) X.A (call (.builtin "sorted") [.ref a]) (EP X pins σ Q) X.xe s:=by
 have hl:ys.length=e_.length:=rv.length;have L_:e_.length<=sizeLine:=Zg (by lia) (show 1000<=sizeLine by decide);refine XY kind_sorted plain_sorted entry_sorted (args_sorted1 _) ?z
 case z=>
  unfold Builtin.«sorted»;refine Z9 (m:=checkCount "sorted" 1 1 _) (Z4 (Z9 (wpAny_collect_seq a hT e eC eD (fun h' Jo=>?_) (by rw[ZS];exact L_))));show wpAny _ _ (newList e_ >>= _) _ _ _;refine Z9 (V7 ?_ L_);have oB:(h'.push<|seqObj "list" e_.toArray 0).get? h'.objs.size=some (seqObj "list" e_.toArray 0):=ZN _ rfl;have kB:∀ b o,s.heap.get? b=some o->(h'.push<|seqObj "list" e_.toArray 0).get? b=some o:=fun b o e=>Z5 _ (Jo b o e);have I1:Inv X pins σ H { s with heap:=h' }:=I.kept (t':=s.toks) Jo;have nB:∀ b o,s.heap.get? b=some o->b≠h'.objs.size:=fun b o e=>ZB (ZP<|Jo b o e);refine Z9 (Y1<|Zd slot_list_sort ⟨_,oB,rfl⟩ entry_list_sort ?y<|args_list_sort _)
  case y=>
   refine m7 (s:={ s with heap:=h'.push (seqObj "list" e_.toArray 0) }) key κ oB (fun h2 h6 k6 Q hq=>o_ h2 h6 s.toks (fun b o eb=>k6 b o (nB b o eb)<|kB b o eb) _ _ Q hq) (fun h6 k6=>Kt h6 s.toks fun b o eb=>k6 b o (nB b o eb)<|kB b o eb) inj up (by lia) fun p h2 r1 r2 k2 ⟨e9,Ma⟩=>⟨_,rfl,Z4 ⟨_,rfl,?_⟩⟩;have fB:H h'.objs.size=none:=I1.i_.fresh (ZR _);have Om:∀ b o,h'.get? b=some o->b≠h'.objs.size:=fun b o e=>ZB (ZP e);refine⟨.ref h'.objs.size,upd H h'.objs.size<|.lst<|p.toList.map fun i=>ys.getD i .h_,?_,rfl,q p _ r1 r2 fB⟩;refine I1.laid (t':=s.toks) (fun b u e=>k2 b u (Om b u e)<|Z5 _ e) (ZR _) ⟨?_,_,e9,?_,Ma⟩
   ·rw[Z3,ZO,r1.size];lia
   ·refine kg (by simp) fun i v u h1 h2=>?_;rw[Zy] at h1 h2;cases Iy:p.toList[i]? with
    | none=>rw[Iy] at h1;cases h1
    | some k=>
     rw[Iy] at h1 h2;cases h1;cases h2;have hk:k<e_.length:=Zh.mp (r1.mem_iff.mp<|Zt Iy);obtain⟨u,h3,h4⟩:=rv.get (i:=k) (x:=ys[k]'(by lia)) (by simp[show k<ys.length by lia]);rw[ZV hk] at h3;have h3:=Zr h3;simp only[List.getD,ZV hk,ZV (show k<ys.length by lia),Xf];rw[h3];exact h4
end
def gQ(ns:List Int)(i:Nat):Int:=ns.getD i 0
theorem rk(nd:ns.Nodup):∀ i j,i<ns.length->j<ns.length->gQ ns i=gQ ns j->i=j:=fun i j hi hj e=>by
 unfold gQ at e;rw[Z6,Z6,ZV hi,ZV hj] at e;have e':ns[i]=ns[j]:=e;rcases WI i j with h | h | h
 ·exact absurd e' ((YW.mp nd) i j hi hj h)
 ·exact h
 ·exact absurd e'.symm ((YW.mp nd) j i hj hi h)
theorem Rs(hp:Rg ns.length p)(up:Up (gQ ns) p ns.length)(nd:ns.Nodup):(p.toList.map fun i=>ns.getD i 0).Pairwise (· < ·):=by
 rw[YW];intro i j hi hj GF;have hs:=hp.size;have Gb:i<ns.length:=by simpa [hs] using hi
 have JF:j<ns.length:=by simpa [hs] using hj
 have ne:=hp.ne (rk nd) GF JF;have le:=up i j (by lia) JF;have g:∀ k (hk:k<(p.toList.map fun i=>ns.getD i 0).length),(p.toList.map fun i=>ns.getD i 0)[k]=x_ (gQ ns) p k:=fun k hk=>by
  have FK:k<p.size:=by simpa using hk
  rw[List.getElem_map,Array.getElem_toList];show _=ns.getD (p.getD k 0) 0;simp[Array.getD,FK]
 rw[g i hi,g j hj];lia
section
variable{X:Cx}
theorem kh{H:Hp}:∀ {ns:List Int}{e_:List Value},au (ns.map V.int) e_->∀ (i:Nat),i<ns.length->∃ t,e_[i]?=some (.int (ns.getD i 0) t)
 | n::r,_,.cons a b,0,h=>by obtain⟨t,rfl⟩:=a;exact⟨t,rfl⟩
 | n::r,_,.cons a b,i+1,h=>by
  obtain⟨t,e⟩:=kh (H:=H) b i (by simpa using h);exact⟨t,by simpa using e⟩
theorem zy(hc:X.calm=true):aQ X (.builtin "sorted") (fun xs H Q=>∃ (a:Addr) (ns:List Int),xs=[.ref a]/\H a=some (.lst<|ns.map V.int)/\ns.Nodup/\ns.length<=1000/\
  ∀ l (Nc:List Int),H l=none->Nc.Perm ns->Nc.Pairwise (· < ·)->Q (.ref l) (upd H l<|.lst<|Nc.map V.int)):=by
 intro pins s σ H xs us Q I r h;obtain⟨a,ns,rfl,ha,nd,hz,q⟩:=h;obtain⟨u,rfl,ru⟩:=bM r;cases ru;obtain⟨z,e_,n,rv,e⟩:=I.i_ a _ ha;have li:e_.length=ns.length:=by rw[<- rv.length,Z3]
 refine rj hc (gQ ns) oneType' I rv (.inl rfl) e rfl rfl (by rw[Z3];exact hz) (fun h2 h6 tk k A E Q hq=>?_) (fun h6 tk k=>?_) (by rw[li];exact rk nd) (.inl (by lia)) fun p l r1 r2 fl=>?_
 ·refine kas_kind (T:=Value.type "int") h2 (fun v hv=>?_) (by decide) (by decide) hq;obtain⟨i,hi⟩:=Xl hv;obtain⟨t,ht⟩:=kh (H:=H) rv i (by rw[<- li];exact (ZE.mp hi).1);rw[hi] at ht;cases ht;exact Looks.of_pure rfl
 ·intro i j C hi hj q;obtain⟨t,h1⟩:=kh (H:=H) rv i (by lia);obtain⟨u,h2⟩:=kh (H:=H) rv j (by lia);unfold kas_cmp;rw[kat_item rfl,kat_item rfl,Z6,Z6,h1,h2];show wpAny _ _ (keyLt' oneType' (.int _ t)<|.int _ u) _ _ _;rw[keyLt'_oneType];exact oneLt_int q
 ·rw[li] at r1 r2;have e2:(p.toList.map fun i=>(ns.map V.int).getD i .h_)=(p.toList.map fun i=>ns.getD i 0).map V.int:=by
   rw[Yw];refine Wo fun k hk=>?_;have FK:k<ns.length:=Zh.mp (r1.mem_iff.mp hk);show (ns.map V.int).getD k .h_=V.int (ns.getD k 0);simp[List.getD,FK]
  rw[e2];exact q l _ fl (kf r1) (Rs r1 r2 nd)
end
end L2
namespace L2
open PySem PySem.Spec PyProof.Rows
section
variable{X:Cx}
def ck:List Im->List Im->List Im
 | x::xs,y::ys=>.tup [x,y]::ck xs ys
 | _,_=>[]
theorem rl:∀ (xs ys:List Im),(ck xs ys).length=min xs.length ys.length
 | [],ys=>by simp[ck]
 | x::xs,[]=>by simp[ck]
 | x::xs,y::ys=>by simp[ck,rl xs ys]
theorem rm:∀ (xs ys:List Im) (i:Nat) (d:Im),(ck xs ys)[i]?=some d->∃ x y,xs[i]?=some x/\ys[i]?=some y/\d=.tup [x,y]
 | [],ys,i,d,h=>by simp[ck] at h
 | x::xs,[],i,d,h=>by simp[ck] at h
 | x::xs,y::ys,0,d,h=>by simp[ck] at h;exact⟨x,y,rfl,rfl,h.symm⟩
 | x::xs,y::ys,i+1,d,h=>by
  obtain⟨a,b,h1,h2,h3⟩:=rm xs ys i d (by simpa [ck] using h);exact⟨a,b,by simpa using h1,by simpa using h2,h3⟩
@[simp] def iZ(g:M (List Opd)):MI:=fun D=>(g D).bind fun p=>(cj p.2 p.1).bind fun ds=>match ds with
 | [.im (.tup x),.im<|.tup y]=>some ((ck x y,none),p.2)
 | _=>none
theorem zz{K:PySem.W.Frag}{H:Hp}{a b:Addr}{xs ys:List V}{ds es:List Im}(h:H a=some (.tup xs))(hd:aj H ds xs)(h':H b=some (.tup ys))(Go:aj H es ys):G9 (M8 K a b) H [] (ck ds es) where
 go:=fun H' t k i d e=>by
  obtain⟨x,y,e1,e2,rfl⟩:=rm ds es i d e;obtain⟨v,g1,g2⟩:=hd.get e1;obtain⟨u,k1,k2⟩:=Go.get e2;have q1:=y_.of (K:=K) (t.tup a _ h);have q2:=y_.of (K:=K) (t.tup b _ h');refine⟨⟨xs,ys,v,u,q1,q2,g1,k1⟩,fun z JG ⟨T,x',y',f,ez,eH,y1,y2⟩=>?_⟩;subst ez eH;have z1:=y1 xs q1;have z2:=y2 ys q2;rw[g1] at z1;rw[k1] at z2;cases z1;cases z2;have s:aA H' (upd H' T<|.tup [v,u]):=(aA.refl H').upd f;exact⟨s,T,[v,u],rfl,bI,⟨v,[u],rfl,(g2.mono t.tup).mono s.tupS.tup,u,[],rfl,(k2.mono t.tup).mono s.tupS.tup,rfl⟩⟩
 stop:=fun H' t k=>⟨xs,ys,y_.of<|t.tup a _ h,y_.of<|t.tup b _ h',by rw[rl,<- hd.length,<- Go.length];lia⟩
theorem zA{a b:Expr}{g:M (List Opd)}{p pos:Pos}{es:List Expr}{ek:Nat}{ps:Pos}(hg:Gl X "zip")(hm:X.mg "zip" = none)(ha:VA X [a,b] g)(hs:starEach [a,b] X.env=[(false,eval a X.env),(false,eval b X.env)]:=by rfl)(HJ:starEach [b] X.env=[(false,eval b X.env)]:=by rfl):
  VI X (.Tuple es ek ps) (.Call (.Name "zip" p) [a,b] [] pos) (iZ g):=by
 refine mH (yL hg hm ha hs HJ) fun σ H Rk ⟨D,F,r,D',st,nd,FL,q⟩=>?_;obtain⟨⟨os,D1⟩,h1,h2⟩:=Z8.mp FL;obtain⟨ds,h3,h4⟩:=Z8.mp h2;refine⟨D,F,os,D1,st,nd,h1,fun vs H1 F1 R1 p_ o1 s1=>?_⟩;have rd:=o1.read p_ h3;split at h4
 ·cases h4;obtain⟨v,u,rfl,e,e'⟩:=zc rd;obtain⟨a,xs,rfl,k1,k2⟩:=e;obtain⟨b,ys,rfl,k3,k4⟩:=e';exact⟨a,b,rfl,⟨xs,y_.of k1⟩,⟨ys,y_.of k3⟩,q _ H1 F1 [] p_ (zz k1 k2 k3 k4) trivial (fun a ha=>nomatch ha) (by rw[ZT];exact s1.both)⟩
 ·cases h4
@[simp] def DW:OpN:=fun ds=>match ds with
 | [.im (.int i),.im<|.int j,.im<|.int k]=>some (.im<|.int<|min (min i j) k)
 | _=>none
def fo(lt:Im->Im->Bool)(x:Im):List Im->List Im
 | []=>[x]
 | y::r=>if lt x y=true then x::y::r else y::fo lt x r
def bL(lt:Im->Im->Bool):List Im->List Im
 | []=>[]
 | x::r=>fo lt x (bL lt r)
def ltI:Im->Im->Bool
 | .int i,.int j=>decide (i<j)
 | _,_=>false
def E4:List Im->Option (List Int)
 | []=>some []
 | .int i::r=>(E4 r).map fun s=>i::s
 | _::_=>none
@[simp] def vSorted:OpN:=fun ds=>match ds with
 | [.lst x]=>(E4 x).bind fun ns=>if ns.Nodup/\ns.length<=1000 then some (.lst<|bL ltI x) else none
 | _=>none
theorem rn(ns:List Int):E4 (ns.map .int)=some ns:=by
 induction ns with
 | nil=>rfl
 | cons n r ih=>rw[ZH,E4,ih];rfl
def fq(x:Int):List Int->List Int
 | []=>[x]
 | y::r=>if x<y then x::y::r else y::fq x r
def gR:List Int->List Int
 | []=>[]
 | x::r=>fq x (gR r)
theorem rp(x:Int):∀ l:List Int,fo ltI (.int x) (l.map .int)=(fq x l).map .int
 | []=>rfl
 | y::r=>by
  rw[ZH,fo,fq,ltI];by_cases h:x<y
  ·rw[ZZ (by simpa using h),ZZ h];rfl
  ·rw[ZY (by simpa using h),ZY h,rp x r];rfl
theorem rq:∀ l:List Int,bL ltI (l.map .int)=(gR l).map .int
 | []=>rfl
 | x::r=>by rw[ZH,bL,rq r,rp];rfl
theorem m9(x:Int):∀ l:List Int,(fq x l).Perm (x::l)
 | []=>ZF _
 | y::r=>by
  rw[fq];split
  ·exact ZF _
  ·exact ((m9 x r).cons y).trans (List.Perm.swap x y r)
theorem ng:∀ l:List Int,(gR l).Perm l
 | []=>ZF _
 | x::r=>(m9 x _).trans ((ng r).cons x)
theorem rz(x:Int):∀ l:List Int,l.Pairwise (·<=·)->(fq x l).Pairwise (·<=·)
 | [],_=>Zw _ _
 | y::r,h=>by
  obtain⟨h1,h2⟩:=Zq.mp h;rw[fq];split
  ·rename_i Rt;refine Zq.mpr ⟨fun z hz=>?_,h⟩;rcases ZU.mp hz with rfl | hz
   ·lia
   ·have:=h1 z hz;lia
  ·rename_i Rt;refine Zq.mpr ⟨fun z hz=>?_,rz x r h2⟩;rcases ZU.mp ((m9 x r).mem_iff.mp hz) with rfl | hz
   ·lia
   ·exact h1 z hz
theorem rA:∀ l:List Int,(gR l).Pairwise (·<=·)
 | []=>List.Pairwise.nil
 | x::r=>rz x _ (rA r)
theorem zB{l:List Int}(h:l.Nodup):(gR l).Pairwise (· < ·):=by
 have h1:=rA l;have h2:(gR l).Nodup:=(ng l).nodup_iff.mpr h;exact List.Pairwise.imp₂ (fun a b x y=>by lia) h1 h2
theorem rB:∀ {l m:List Int},l.Perm m->l.Pairwise (· < ·)->m.Pairwise (· < ·)->l=m
 | [],m,h,_,_=>h.nil_eq
 | a::l,[],h,_,_=>absurd h.length_eq (by simp)
 | a::l,b::m,h,hl,hm=>by
  have FV:=Zq.mp hl;have On:=Zq.mp hm;have e:a=b:=by
   rcases ZU.mp (h.mem_iff.mp<|.head _) with z | z
   ·exact z
   ·rcases ZU.mp (h.mem_iff.mpr<|.head _) with y | y
    ·exact y.symm
    ·have h1:=FV.1 b y;have h2:=On.1 a z;lia
  subst e;rw[rB h.cons_inv FV.2 On.2]
theorem kj:∀ {x:List Im}{ns:List Int},E4 x=some ns->x=ns.map .int
 | [],ns,h=>by cases h;rfl
 | .int i::r,ns,h=>by
  rw[E4] at h;obtain⟨s,h1,rfl⟩:=Z2.mp h;rw[kj h1];rfl
 | .h_::_,_,h=>by cases h
 | .bl _::_,_,h=>by cases h
 | .str _::_,_,h=>by cases h
 | .tup _::_,_,h=>by cases h
 | .fn _::_,_,h=>by cases h
 | .fl _::_,_,h=>by cases h
 | .fd::_,_,h=>by cases h
theorem gS{H:Hp}:∀ {ns:List Int}{vs:List V},aj H (ns.map .int) vs->vs=ns.map V.int
 | [],vs,h=>h
 | n::r,vs,h=>by
  obtain⟨v,t,rfl,h1,h2⟩:=h;cases (show v=.int n from h1);rw[gS h2];rfl
theorem rC{H:Hp}:∀ ns:List Int,aj H (ns.map .int) (ns.map V.int)
 | []=>rfl
 | n::r=>⟨.int n,_,rfl,rfl,rC r⟩
theorem zC(hc:X.calm=true)(hu:X.A.units+20<cLine):bT X (.builtin "sorted") vSorted:=by
 refine (zy hc).imp fun xs H Q ⟨ds,d,rd,e,q⟩=>?_;unfold vSorted at e;split at e
 ·rename_i x;obtain⟨ns,e1,e2⟩:=Z8.mp e;split at e2
  ·rename_i hn;cases e2;obtain⟨v,rfl,_,p,xs,rfl,h1,h2,_⟩:=bF rd;cases kj e1;cases gS h2;refine⟨p,ns,rfl,h1,hn.1,hn.2,fun l Nc fl pm up=>?_⟩;rw[rq] at q;rw[rB (pm.trans (ng ns).symm) up (zB hn.1)];exact Out.l q fl (rC _)
  ·cases e2
 ·cases e
theorem nh(hu:X.A.units+20<cLine):kc X putV:=rh
end
end L2
namespace L2
open PySem
variable{a h g b:MS}{e:M Vl}{own m n:Nat}{ds:List Vl}{fix:List Nat}{o:Option (Nat×Vl)}{xs:List Im}{d:Vl}{D1 D:SD}{c:M Bool}{tg:MG}{α:Type}{j i:Int}
@[simp] theorem DX(d:Im)(D:SD):eC d D=some (.im d,D):=rfl
@[simp] theorem rD(D:SD):aNil D=some ([],D):=rfl
@[simp] theorem DY(D:SD):sNil D=some (.nx,D):=rfl
@[simp] theorem DZ(D:SD):pNone D=some (none,D):=rfl
@[simp] theorem D6(D:SD):kYes D=some (true,D):=rfl
@[simp] theorem D7(d:Im):(Vl.im d).cp=true:=rfl
@[simp] theorem D8(d:List Im):(Vl.fz d).cp=true:=rfl
@[simp] theorem D9(d:List Im):(Vl.lst d).cp=false:=rfl
@[simp] theorem Ea(d:List (List Im×Im)):(Vl.dT d).cp=false:=rfl
@[simp] theorem Eb(d:List (Key×Im)):(Vl.dK d).cp=false:=rfl
@[simp] theorem zD(D:SD)(d:Vl):rsl D (.vl d)=some d:=rfl
@[simp] theorem zE(D:SD)(i:Nat):rsl D (.sl i)=(D[i]?).getD none:=rfl
@[simp] theorem rE(D:SD):cj D []=some []:=rfl
@[simp] theorem rF(D:SD)(o:Opd)(os:List Opd):cj D (o::os)=(rsl D o).bind fun d=>(cj D os).map fun ds=>d::ds:=rfl
@[simp] theorem Ec(D:SD):aY [] D=some ([],D):=rfl
@[simp] theorem Ee(d:Vl)(os:List Opd)(D:SD):aY (.vl d::os) D=(aY os D).map fun p=>(d::p.1,p.2):=rfl
@[simp] theorem Ef(i:Nat)(os:List Opd)(D:SD):aY (.sl i::os) D=(bD i D).bind fun p=>(aY os p.2).map fun q=>(p.1::q.1,q.2):=rfl
@[simp] theorem Eg:ims []=some []:=rfl
@[simp] theorem Eh(d:Im)(ds:List Vl):ims (.im d::ds)=(ims ds).map fun r=>d::r:=rfl
@[simp] theorem Ei(b:Bool):asB (.im<|.bl b)=some b:=rfl
theorem fX(h1 : -(2 ^ 64)<j)(h2:j<2 ^ 64):bW i j=true:=by
 have:Builtin.Int.intBits j<=64:=intBits_le_64 h1 h2;have h':¬ (Builtin.Int.intBits j > shortFactorBits):=Wg.mpr this;unfold bW;rw[Zl h'];simp
theorem ni(h1 : -(2 ^ 64)<i)(h2:i<2 ^ 64):bW i j=true:=by
 have:Builtin.Int.intBits i<=64:=intBits_le_64 h1 h2;have h':¬ (Builtin.Int.intBits i > shortFactorBits):=Wg.mpr this;unfold bW;rw[Zl h'];simp
theorem zF{xs:List α}(h:xs.length<=n):xs.take n=xs:=WO h
theorem rG(xs:List α)(k:Nat):dv xs none (some (k:Int))=xs.take k:=by
 unfold dv;rw[HT.xn,HT.xm,Ye,Nat.sub_zero];by_cases h:k<=xs.length
 ·rw[W0 h]
 ·rw[Nat.min_eq_right (by lia),XG,zF (by lia)]
theorem rH{xs:List α}{d:α}(h0:0<=i)(h:xs[i.toNat]?=some d):Fw xs i=some d:=by
 unfold Fw Jc;have hi:i.toNat<xs.length:=(ZE.mp h).1;rw[ZZ h0,ZZ (by lia)];exact h
theorem zG{xs:List α}{d:α}(h:xs.getLast?=some d):Fw xs (-1)=some d:=by
 rw[List.getLast?_eq_getElem?] at h;have hi:xs.length - 1<xs.length:=(ZE.mp h).1;unfold Fw Jc;rw[ZY (by decide),ZZ (by lia)];show xs[(-1+(xs.length:Int)).toNat]?=some d;rw[show (-1+(xs.length:Int)).toNat=xs.length - 1 by lia];exact h
theorem zH(I:Nat->SD->Prop)(R:Vl->SD->Prop):∀ {xs:List Im}{D:SD},I 0 D->
  (∀ (i:Nat) (x:Im) (D:SD),xs[i]?=some x->I i D->∃ D1 fl D2,tg (.im x) D=some D1/\b D1=some (fl,D2)/\(((fl=.nx\/fl=.ct)/\I (i+1) D2)\/∃ d,fl=.rt d/\R d D2))->
  (∃ D',bo tg b xs D=some (.nx,D')/\I xs.length D')\/∃ d D',bo tg b xs D=some (.rt d,D')/\R d D':=by
 intro xs;induction xs generalizing I with
 | nil=>intro D h0 _;exact .inl ⟨D,rfl,h0⟩
 | cons x r ih=>
  intro D h0 h;obtain⟨D1,fl,D2,h1,h2,h3⟩:=h 0 x D rfl h0;rcases h3 with ⟨hf,hI⟩ | ⟨d,rfl,hR⟩
  ·have:=ih (fun i=>I<|i+1) (D:=D2) hI fun i y D' hy Oo=>h (i+1) y D' (by simpa using hy) Oo;have e:bo tg b (x::r) D=bo tg b r D2:=by
    rw[bo];dsimp only;rw[h1];show (b D1).bind _=_;rw[h2];rcases hf with rfl | rfl<;>rfl
   rw[e];exact this
  ·refine .inr ⟨d,D2,?_,hR⟩;rw[bo];dsimp only;rw[h1];show (b D1).bind _=_;rw[h2];rfl
theorem nj(I:Nat->SD->Prop){xs:List Im}{D:SD}(h0:I 0 D)(h:∀ (i:Nat) (x:Im) (D:SD),xs[i]?=some x->I i D->∃ D1 fl D2,tg (.im x) D=some D1/\b D1=some (fl,D2)/\(fl=.nx\/fl=.ct)/\I (i+1) D2):
  ∃ D',bo tg b xs D=some (.nx,D')/\I xs.length D':=by
 rcases zH I (fun _ _=>False) h0 (fun i x D hx hI=>by
  obtain⟨D1,fl,D2,h1,h2,h3,h4⟩:=h i x D hx hI;exact⟨D1,fl,D2,h1,h2,.inl ⟨h3,h4⟩⟩) with h | ⟨_,_,_,h⟩
 ·exact h
 ·exact h.elim
theorem zI(I:Nat->SD->Prop)(Mb:SD->Prop)(step:∀ m D,I m D->∃ t D1,c D=some (t,D1)/\(t=true->∃ fl D2,b D1=some (fl,D2)/\(fl=.nx\/fl=.ct)/\∃ m',m'<m/\I m' D2)/\(t=false->Mb D1)):
  ∀ (n m:Nat) (D:SD),I m D->m<n->∃ D',bU c b n D=some (.nx,D')/\Mb D':=by
 intro n;induction n with
 | zero=>intro m D _ h;lia
 | succ n ih=>
  intro m D hI hm;obtain⟨t,D1,h1,h2,h3⟩:=step m D hI;rw[bU];dsimp only;rw[h1];cases t with
  | false=>exact⟨D1,rfl,h3 rfl⟩
  | true=>
   obtain⟨fl,D2,h4,hf,m',On,Oo⟩:=h2 rfl;obtain⟨D',h5,h6⟩:=ih m' D2 Oo (by lia);refine⟨D',?_,h6⟩;simp only[YF,Xh,h4];rcases hf with rfl | rfl<;>exact h5
theorem zJ(xs:List α):xs.filter (fun _=>true)=xs:=List.filter_eq_self.mpr fun _ _=>rfl
theorem bG(e:g D=some (.nx,D1)):am g h D=h D1:=by unfold am;rw[e];rfl
theorem kl(e:g D=some (.rt d,D1)):am g h D=some (.rt d,D1):=by unfold am;rw[e];rfl
theorem rJ{g:MI}{D2:SD}{fl:Fl}(e:g D=some ((xs,o),D1))(h:bo tg b xs D1=some (fl,D2)):cV g tg b D=some (fl,rst o D2):=by
 unfold cV;rw[e];show (bo tg b xs D1).map _=_;rw[h];rfl
theorem zK{r:Vl}(hl:ds.length=n)(e:g (ds.map some++List.replicate (m - n) none)=some (.rt r,D)):bb n m fix g ds=some (r,dg fix ds D 0):=by
 unfold bb;rw[ZZ hl,e]
theorem ft{caps:List Nat}{gi:MI}{C':SD}{ds:List Im}(h1:gi D=some ((xs,o),D1))(h2:bP own tg c e xs [] (cW caps D1)=some (ds,C')):aP own caps gi tg c e D=some (.lst ds,rst o<|cG caps C' D1):=by
 unfold aP;rw[h1];show (bP own tg c e xs []<|cW caps D1).map _=_;rw[h2];rfl
theorem bR{g:M Vl}(e:g D=some (d,D1)):aI g D=some (.rt d,D1):=by unfold aI;rw[e];rfl
theorem rK{i:Nat}{g:M Vl}(e:g D=some (d,D1))(h:i<D1.length):aw i g D=some (.nx,D1.set i<|some d):=by unfold aw;rw[e];show (if i<D1.length then _ else _)=_;rw[ZZ h]
theorem gU(e:c D=some (true,D1)):sIf c a b D=a D1:=by unfold sIf;rw[e];rfl
theorem km(e:c D=some (false,D1)):sIf c a b D=b D1:=by unfold sIf;rw[e];rfl
theorem dy(D:SD){r:Vl}{outs:List Vl}(hl:ds.length=n)(e:g (ds.map some++List.replicate (m - n) none)=some (.rt r,D))(ho:dg fix ds D 0=outs):bb n m fix g ds=some (r,outs):=by
 rw[zK hl e,ho]
theorem fY{α:Type}{own:Nat}{tg:MG}{c:M Bool}{e:M Vl}{C:SD}(φ:α->Im)(p:α->Bool)(f:α->Im):∀ (xs:List α) (acc:List Im),(∀ x∈xs,∃ D1 D2,tg (.im<|φ x) (List.replicate own none++C)=some D1/\c D1=some (p x,D2)/\(p x=false->D2.drop own=C)/\(p x=true->∃ D3,e D2=some (.im<|f x,D3)/\D3.drop own=C))->
  acc.length+xs.length<=100000->bP own tg c e (xs.map φ) acc C=some (acc++(xs.filter p).map f,C)
 | [],acc,_,_=>by simp[bP]
 | x::r,acc,h,hl=>by
  obtain⟨D1,D2,h1,h2,h3,h4⟩:=h x (.head _);rw[ZD] at hl;rw[ZH,bP,h1];show (c D1).bind _=_;rw[h2];show (if p x=true then _ else _)=_;cases hp:p x with
  | false=>
   rw[ZY ZM];show bP own tg c e (r.map φ) acc (D2.drop own)=_;rw[h3 hp,fY φ p f r acc (fun y hy=>h y<|.tail _ hy) (by lia),V0,hp];rfl
  | true=>
   obtain⟨D3,h5,h6⟩:=h4 hp;rw[ZZ rfl];show (e D2).bind _=_;rw[h5];show (if acc.length<100000 then bP own tg c e (r.map φ) (acc++[f x]) (D3.drop own) else none)=_;rw[ZZ (by lia),h6,fY φ p f r (acc++[f x]) (fun y hy=>h y<|.tail _ hy) (by rw[ZI,Yj];lia),V0,hp];simp
theorem i6{C:SD}(φ:α->Im)(f:α->Im)(xs:List α)(h:∀ x∈xs,∃ D1 D2 D3,tg (.im<|φ x) (List.replicate own none++C)=some D1/\c D1=some (true,D2)/\e D2=some (.im<|f x,D3)/\D3.drop own=C)(hl:xs.length<=100000):bP own tg c e (xs.map φ) [] C=some (xs.map f,C):=by
 have:=fY (own:=own) (tg:=tg) (c:=c) (e:=e) (C:=C) φ (fun _=>true) f xs [] (fun x hx=>by
  obtain⟨D1,D2,D3,h1,h2,h3,h4⟩:=h x hx;exact⟨D1,D2,h1,h2,(fun z=>by cases z),(fun _=>⟨D3,h3,h4⟩)⟩) (by rw[List.length_nil];lia)
 rw[zJ] at this;exact this
end L2
namespace L2
open PySem PySem.Spec PyProof.Rows
section
variable{prog:Program}{w:World}{A:Around}{E:Value->Shared->Prop}{s:Shared}
end
section
variable{X:Cx}
end
section
variable{X:Cx}
end
section
variable{X:Cx}
def i7:Im->Option Key
 | .int i=>some (.inl i)
 | .str x=>some (.inr x)
 | _=>none
@[simp] theorem Ej(i:Int):i7 (.int i)=some (.inl i):=rfl
@[simp] theorem Ek(x:Str):i7 (.str x)=some (.inr x):=rfl
def kI:Key->Im
 | .inl i=>.int i
 | .inr x=>.str x
@[simp] theorem El(i:Int):kI (.inl i)=.int i:=rfl
@[simp] theorem Em(x:Str):kI (.inr x)=.str x:=rfl
theorem zL{H:Hp}{d:Im}{v:V}{k:Key}(h:EG H d v)(e:i7 d=some k):v=kV k:=by
 cases d with
 | int i=>cases e;exact h
 | str x=>cases e;exact h
 | _=>cases e
def fu{κ:Type}[DecidableEq κ](kvs:List (κ×Im))(k:κ)(d:Im):List (κ×Im):=
 if (kvs.any fun kv=>decide (kv.1=k))=true then kvs.map (fun kv=>if kv.1=k then (kv.1,d) else kv) else kvs++[(k,d)]
variable{κ:Type}
theorem Gc.any[DecidableEq κ]{H:Hp}{k:κ}{l:List (κ×Im)}{m:List (κ×V)}(h:Gc H l m):(l.any fun kv=>decide (kv.1=k))=(m.any fun kv=>decide (kv.1=k)):=by
 unfold Gc at h;induction h with
 | nil=>rfl
 | cons r _ ih=>rw[Xt,Xt,ih,r.1]
theorem Gc.upd[DecidableEq κ]{H:Hp}{k:κ}{d:Im}{v:V}(w:EG H d v){l:List (κ×Im)}{m:List (κ×V)}(h:Gc H l m):Gc H (l.map fun kv=>if kv.1=k then (kv.1,d) else kv) (m.map fun kv=>if kv.1=k then (kv.1,v) else kv):=by
 unfold Gc at h;induction h with
 | nil=>exact .nil
 | @cons p q _ _ r _ ih=>
  rw[ZH,ZH];refine .cons ?_ ih;by_cases e:p.1=k
  ·have e':q.1=k:=r.1.symm.trans e;rw[ZZ e,ZZ e'];exact⟨r.1,w⟩
  ·have e':¬ q.1=k:=fun z=>e (r.1.trans z);rw[ZY e,ZY e'];exact r
theorem zM{α β:Type}{F:α->β->Prop}{l:List α}{m:List β}{a:α}{b:β}(h:Paired F l m)(x:F a b):Paired F (l++[a]) (m++[b]):=by
 induction h with
 | nil=>exact .cons x .nil
 | cons r _ ih=>exact .cons r ih
theorem Gc.put[DecidableEq κ]{H:Hp}{k:κ}{d:Im}{v:V}(w:EG H d v){l:List (κ×Im)}{m:List (κ×V)}(h:Gc H l m):Gc H (fu l k d) (cy m k v):=by
 unfold fu cy;rw[h.any];split
 ·exact h.upd w
 ·exact zM h ⟨rfl,w⟩
@[simp] def eDict0T:M Vl:=fun D=>some (.dT [],D)
theorem zN{pos:Pos}:VE X (.Dict [] [] pos) eDict0T:=by
 refine aW x8 fun σ H Q ⟨D,F,r,D',st,nd,FL,q⟩ p hp=>?_;cases FL;have s:aA H (L2.upd H p<|.dT []):=(aA.refl H).upd hp;have s1:l_ H F H (F++[]):=by rw[ZT];exact l_.perm nd (ZF _)
 exact q _ _ F [p] (st.mono s.tupS fun a _ o e=>s a o e) ⟨p,[],rfl,bI,.nil,rfl⟩ (s1.new s (Zw _ _) (fun a ha=>by rw[Z1.mp ha];exact hp) st.chg)
@[simp] def En(gk gv:M Vl):M Vl:=fun D=>(gk D).bind fun p=>(gv p.2).bind fun q=>match p.1,q.1 with
 | .im k,.im d=>(i7 k).map fun k'=>(.dK [(k',d)],q.2)
 | _,_=>none
@[simp] def putA(c k d:Vl):Option Vl:=match c,k,d with
 | .lst xs,.im<|.int i,.im d=>(Jc xs.length i).map fun j=>.lst (xs.set j d)
 | .dK kvs,.im k,.im d=>(i7 k).bind fun k'=>if kvs.length<100000 then some (.dK<|fu kvs k' d) else none
 | .dT kvs,.im<|.tup k,.im d=>if Im.keys 7 k=true/\kvs.length<100000 then some (.dT<|fu kvs k d) else none
 | _,_,_=>none
theorem zO(hu:X.A.units+20<cLine):kc X putA:=by
 intro pins s σ H o i v ov iv u Q I ro ri rv ⟨c,k,d,c',R,S,wc,wk,wd,nd,e,q⟩;unfold putA at e;split at e
 ·exact rh pins s σ H o i v ov iv u Q I ro ri rv ⟨_,_,_,c',R,S,wc,wk,wd,nd,e,q⟩
 ·obtain⟨k',e1,e2⟩:=Z8.mp e;split at e2
  ·rename_i hl;cases e2;obtain⟨a,ys,rfl,h1,h2,rfl⟩:=wc;obtain⟨hd,rfl⟩:=wd;have c:GS H a:=⟨_,h1,(fun _ e=>by cases e),(fun _ _ e=>by cases e)⟩;cases ro;have hy:=zL wk.1 e1;subst hy;refine ql hu I (fK.k h1 (by rw[<- h2.length];exact m5 hl)) ri rv fun s' I'=>⟨_,I',q _ [a] ?_ (l_.chg (.head _) c (Zw _ _) fun x hx=>by simpa using hx)⟩;exact⟨a,_,rfl,bI,(Gc.put hd h2).mono<|EG.Ix c,rfl⟩
  ·cases e2
 ·split at e
  ·rename_i hl;cases e;obtain⟨a,ys,rfl,h1,h2,rfl⟩:=wc;obtain⟨hd,rfl⟩:=wd;have c:GS H a:=⟨_,h1,(fun _ e=>by cases e),(fun _ _ e=>by cases e)⟩;cases ro;obtain⟨b,xs,rfl,k1,k2⟩:=wk.1;refine ql hu I (fK.t h1 ⟨hl.1,b,xs,rfl,k1,k2⟩ (by rw[<- h2.length];exact m5 hl.2)) ri rv fun s' I'=>⟨_,I',q _ [a] ?_ (l_.chg (.head _) c (Zw _ _) fun x hx=>by simpa using hx)⟩;exact⟨a,_,rfl,bI,(Gc.put hd h2).mono<|EG.Ix c,rfl⟩
  ·cases e
 ·cases e
end
section
variable{X:Cx}
def rL:Opd->Vl->Option (Nat×Vl)
 | .sl i,d=>some (i,d)
 | .vl _,_=>none
@[simp] theorem Eo(i:Nat)(d:Vl):rL (.sl i) d=some (i,d):=rfl
@[simp] theorem Ep(c d:Vl):rL (.vl c) d=none:=rfl
end
section
variable{prog:Program}{w:World}{A:Around}{E:Value->Shared->Prop}{s:Shared}
end
section
variable{X:Cx}
end
section
variable{X:Cx}
variable{ns:List Int}
theorem fw{us:List Value}(r:au (ns.map V.int) us)(i:Nat)(v:Value)(h:us[i]?=some v):∃ t,v=.int ((ns[i]?).getD 0) t:=by
 have hl:=r.length;rw[Z3] at hl;have hi:i<ns.length:=by rw[hl];exact (ZE.mp h).1
 obtain⟨u,hu,t,e⟩:=r.get (i:=i) (x:=V.int ns[i]) (by simp[hi]);rw[h] at hu;cases hu;exact⟨t,by rw[e];simp[hi]⟩
theorem rM(f:Nat->Int):∀ n,argBest (fun i j=>decide (f i > f j)) n<=n/\∀ j,j<=n->f j<=f (argBest (fun i j=>decide (f i > f j)) n)
 | 0=>⟨ZR _,fun j hj=>by rw[le_zero.mp hj];exact X4 _⟩
 | n+1=>by
  obtain⟨h1,h2⟩:=rM f n;unfold argBest;by_cases hb:f (n+1) > f (argBest (fun i j=>decide (f i > f j)) n)
  ·rw[ZZ (by simpa using hb)];refine⟨ZR _,fun j hj=>?_⟩;rcases Y6 j (n+1) with h | h
   ·have:=h2 j (by lia);lia
   ·rw[show j=n+1 by lia];exact X4 _
  ·rw[ZY (by simpa using hb)];refine⟨by lia,fun j hj=>?_⟩;rcases Y6 j (n+1) with h | h
   ·exact h2 j (by lia)
   ·rw[show j=n+1 by lia];lia
theorem zP(hc:X.calm=true):aQ X (.builtin "max") (fun xs H Q=>∃ l ns,xs=[.ref l]/\H l=some (.lst<|List.map V.int ns)/\ns≠[]/\∀ M,M∈ns->(∀ a∈ns,a<=M)->Q (.int M) H):=by
 intro pins s σ H xs us Q I r h;obtain⟨l,ns,rfl,hl,hn,q⟩:=h;obtain⟨u,rfl,ru⟩:=bM r;cases ru;obtain⟨z,e_,n,rv,e⟩:=I.i_ l _ hl;have GG:s.heap.IsList l e_.toArray:=⟨_,e,rfl,n,rfl⟩;have hlen:e_.length=ns.length:=by rw[<- rv.length,Z3]
 have HL:0<ns.length:=YS.mpr hn;refine call_max_walk (Xp GG ⟨s.heap.objs.size,[s.heap.objs.size,l],[s.heap.objs.size],e_.toArray.size,_,_,_,rfl,Walks.list (A:=X.A.in1) (I.ok.hd hc) _ l (ZB<|ZP e) e_.toArray,
  ⟨⟨_,ZN _ rfl,rfl,rfl⟩,GG.push _⟩,?_,by rw[ZS];lia,CmpOf.ints_gt (fun i=>(ns[i]?).getD 0) (fun i v hv=>fw rv i v (by simpa using hv)),fun v h' tk hP hk=>?_⟩)
 ·intro b hb;show b<(s.heap.push _).objs.size;rw[YY];rcases ZU.mp hb with rfl | hb
  ·exact Yt _
  ·rw[Z1.mp hb];exact XU (ZP e)
 ·obtain⟨t,rfl⟩:=fw rv _ v (by simpa using hP);obtain⟨b1,b2⟩:=rM (fun i=>(ns[i]?).getD 0) (e_.toArray.size - 1);rw[ZS] at b1 b2;refine⟨.int _,H,I.kept<|W7 hk,⟨t,rfl⟩,q _ ?_ fun a ha=>?_⟩
  ·have hb:argBest (fun i j=>decide ((ns[i]?).getD 0 > (ns[j]?).getD 0)) (e_.length - 1)<ns.length:=by lia
   have e2:(ns[argBest (fun i j=>decide ((ns[i]?).getD 0 > (ns[j]?).getD 0)) (e_.length - 1)]?).getD 0=ns[argBest (fun i j=>decide ((ns[i]?).getD 0 > (ns[j]?).getD 0)) (e_.length - 1)]:=by rw[ZV hb];rfl
   exact e2 ▸ XI _
  ·obtain⟨j,hj,rfl⟩:=YM.mp ha;have:=b2 j (by lia);rw[ZV hj] at this;exact this
def kn:List Int->Option Int
 | []=>none
 | x::r=>some (r.foldl max x)
theorem rN:∀ (r:List Int) (x:Int),x<=r.foldl max x/\(∀ a∈r,a<=r.foldl max x)/\(r.foldl max x=x\/r.foldl max x∈r)
 | [],x=>⟨X4 _,(fun a h=>nomatch h),.inl rfl⟩
 | y::r,x=>by
  obtain⟨h1,h2,h3⟩:=rN r (max x y);rw[Yk];refine⟨by lia,fun a ha=>?_,?_⟩
  ·rcases ZU.mp ha with rfl | ha
   ·lia
   ·exact h2 a ha
  ·rcases h3 with h3 | h3
   ·rw[h3];by_cases h:x<=y
    ·rw[show max x y=y by lia];exact .inr (.head _)
    ·rw[show max x y=x by lia];exact .inl rfl
   ·exact .inr (.tail _ h3)
theorem rO{m:Int}(h:kn ns=some m):ns≠[]/\m∈ns/\∀ a∈ns,a<=m:=by
 cases ns with
 | nil=>cases h
 | cons x r=>
  cases h;obtain⟨h1,h2,h3⟩:=rN r x;refine⟨by simp,?_,fun a ha=>?_⟩
  ·rcases h3 with h3 | h3
   ·rw[h3];exact .head _
   ·exact .tail _ h3
  ·rcases ZU.mp ha with rfl | ha
   ·exact h1
   ·exact h2 a ha
@[simp] def vMaxL:OpN:=fun ds=>match ds with
 | [.lst x]=>(E4 x).bind fun ns=>(kn ns).map fun m=>.im (.int m)
 | _=>none
theorem zQ(hc:X.calm=true)(hu:X.A.units+20<cLine):bT X (.builtin "max") vMaxL:=by
 refine (zP hc).imp fun xs H Q ⟨ds,d,rd,e,q⟩=>?_;unfold vMaxL at e;split at e
 ·rename_i x;obtain⟨ns,e1,e2⟩:=Z8.mp e;obtain⟨m,e3,e4⟩:=Z2.mp e2;cases e4;obtain⟨v,rfl,_,p,xs,rfl,h1,h2,_⟩:=bF rd;cases kj e1;cases gS h2;obtain⟨n0,n1,n2⟩:=rO e3;refine⟨p,ns,rfl,h1,n0,fun M hM FF=>?_⟩;have:=n2 M hM;have:=FF m n1;rw[show M=m by lia];exact Out.i q rfl
 ·cases e
end
section
variable{prog:Program}{w:World}{A:Around}{E:Value->Shared->Prop}{s:Shared}
end
section
variable{prog:Program}{w:World}{A:Around}{E:Value->Shared->Prop}{s:Shared}
end
section
variable{X:Cx}
end
section
variable{X:Cx}
end
section
variable{X:Cx}
end
section
variable{X:Cx}
theorem zR{i0:Nat}{x0:Str}{pos' Iz:Pos}{tg iter elt:Expr}{ifs:List Expr}{scope:Scope}{pos:Pos}{own:List Str}{caps:List Nat}{wi:TI}{g:Ij->TG}{tt:Ij->TT}{te:Ij->TE}(hN:X.N.Nodup)(Op:X.N[i0]?=some x0)(Oq:Loc X.env.scope x0)(hc:X.calm=true)(S:n_ X scope own caps)(hi:PI X tg iter wi)(hg:∀ Y,PG (X.Ga (bn X own caps) scope Y) tg<|g Y)(ht:∀ Y,LE (X.Ga (bn X own caps) scope Y) ifs<|tt Y)(he:∀ Y,PE (X.Ga (bn X own caps) scope Y) elt<|te Y)(hs:∀ x,foldedSetIterable iter X.env x=pure x:=by intro _;rfl)(Os:swapsWith (.ListComp elt [⟨tg,iter,ifs,0⟩] scope pos) (some<|.Name x0 pos') Iz.line X.env=pure true:=by rfl)(Mc:X.fn x0=true\/X.env.scope.names.lookup x0=some .local:=by first | exact .inl rfl | exact .inr rfl | assumption):
  PS X (.Assign [.Name x0 pos'] (.ListComp elt [⟨tg,iter,ifs,0⟩] scope pos) Iz) (lU (iL own caps wi g tt te)<|lR i0):=by
 intro pins s σ H Dn I h;rw[exec_Assign_Name_used _ _ _ _ Os];refine Z9 (wpAny_standAt<|Z9 ?_);show wpAny _ X.A (do let _ <- comprehension (.ListComp elt [⟨tg,iter,ifs,0⟩] scope pos) scope X.env _ (newList []) false (eval iter X.env) (some<|assign (.Name x0 pos') X.env)) _ _ s;refine Z9 (YV (qt (use:=some (assign (.Name x0 pos') X.env)) (Qp:=fun _ s'=>SP X pins Dn .next s') hc S hi hg ht he hs I h fun D C H4 s4 m I4 hn f M3 M4 z p q=>?_) (fun _ s' hq=>Z4<|Z4 hq) fun _ _ e=>e);show wpAny _ X.A (assign (.Name x0 pos') X.env<|.ref D) _ _ s4;refine wpAny_assign_Name (lO I4 hN Op Oq (v:=.ref D) rfl (fun s5 I5 h5=>?_) Mc);obtain⟨a,Ru,ha⟩:=h5;have Rv:C≠a:=by
  rcases ha with rfl | ha
  ·exact Yd M3
  ·exact Yd (M4 _ _ ha)
 exact⟨m,hn.sameBut Ru Rv,fun h' sb=>⟨_,_,I5.turned (it:=C) (t':=s5.toks) (fun b o hb e=>(sb.2 b hb).trans e) f (Yd M3) (.inr z) M4 p,q⟩⟩
end
section
variable{X:Cx}
theorem rP{fix:List Nat}{i:Nat}{x0:Str}{pos' Iz:Pos}{tg iter elt:Expr}{ifs:List Expr}{scope:Scope}{pos:Pos}{own:List Str}{caps:List Nat}{gi:MI}{gt:MG}{gc:M Bool}{ge:M Vl}(hN:X.N.Nodup)(Op:X.N[i]?=some x0)(Oq:Loc X.env.scope x0)(hc:X.calm=true)(S:n_ X scope own caps)(nd:caps.Nodup)(hi:VI X tg iter gi)(hg:∀ Y,VG (X.Ga (bn X own caps) scope Y) (ee own.length caps.length) tg gt)(ht:∀ Y,L5 (X.Ga (bn X own caps) scope Y) ifs gc)(he:∀ Y,VE (X.Ga (bn X own caps) scope Y) elt ge)(hf:i∉fix)(hs:∀ x,foldedSetIterable iter X.env x=pure x:=by intro _;rfl)(Os:swapsWith (.ListComp elt [⟨tg,iter,ifs,0⟩] scope pos) (some<|.Name x0 pos') Iz.line X.env=pure true:=by rfl)(Mc:X.fn x0=true\/X.env.scope.names.lookup x0=some .local:=by first | exact .inl rfl | exact .inr rfl | assumption):
  VS X fix (.Assign [.Name x0 pos'] (.ListComp elt [⟨tg,iter,ifs,0⟩] scope pos) Iz) (aw i<|aP own.length caps gi gt gc ge):=by
 refine dN (zR hN Op Oq hc S hi hg ht he hs Os Mc) fun E σ H ⟨D,F,fl,D',st,Iu,FL,q⟩=>?_;obtain⟨⟨r,D1⟩,h1,h2⟩:=Z8.mp FL;split at h2
 ·rename_i hl;cases h2;refine qV nd ⟨D,F,r,_,st,Iu,h1,fun v H1 F1 R p_ ow s1=>?_⟩;obtain⟨F2,R2,m_,pm⟩:=p_.put (i:=i) ow hl;exact q _ H1 F2 (aB.set hf) m_ (s1.less pm)
 ·cases h2
end
section
variable{X:Cx}
def rQ:Vl->Vl
 | .lst x=>.im (.fl x)
 | .dT []=>.im .fd
 | d=>d
@[simp] theorem Er(x:List Im):rQ (.lst x)=.im (.fl x):=rfl
@[simp] theorem Es(d:Im):rQ (.im d)=.im d:=rfl
end
end L2
namespace HT
open PySem PySem.Spec PyProof.Rows
section
variable{prog:Program}{w:World}{A:Around}{E:Value->Shared->Prop}{s:Shared}
end
end HT
namespace L2
open PySem PySem.Spec PyProof.Rows
section
variable{X:Cx}
end
variable{gc gb ga:M Opd}{f' f:Op2}{Q:Value->Shared->Prop}{b:Bool}{d2:Vl}{u v:Value}{y x:V}{s:Shared}{H:Hp}{σ:St}{pins:List (Addr×Obj)}{d:Im}
theorem rR{h:Heap}:∀ (n:Nat) {x y:Im}{v:Value},Im.pl n x=true->Im.pl n y=true->E_ h x v->E_ h y v->x=y
 | n,.h_,y,v,_,ky,hx,hy=>by
  cases (show v=.none from hx);cases y with
  | h_=>rfl
  | bl b=>cases hy
  | int j=>obtain⟨u,e⟩:=hy;cases e
  | str z=>obtain⟨u,e⟩:=hy;cases e
  | tup ds=>obtain⟨_,_,_,_,e,_⟩:=hy;cases e
  | fn a=>cases n<;>cases ky
  | fl a=>cases n<;>cases ky
  | fd=>cases n<;>cases ky
 | n,.bl b,y,v,_,ky,hx,hy=>by
  cases (show v=.bool b from hx);cases y with
  | h_=>cases hy
  | bl c=>cases hy;rfl
  | int j=>obtain⟨u,e⟩:=hy;cases e
  | str z=>obtain⟨u,e⟩:=hy;cases e
  | tup ds=>obtain⟨_,_,_,_,e,_⟩:=hy;cases e
  | fn a=>cases n<;>cases ky
  | fl a=>cases n<;>cases ky
  | fd=>cases n<;>cases ky
 | n,.int i,y,v,_,ky,hx,hy=>by
  obtain⟨t,rfl⟩:=hx;cases y with
  | h_=>cases hy
  | bl c=>cases hy
  | int j=>obtain⟨u,e⟩:=hy;injection e with e;rw[e]
  | str z=>obtain⟨u,e⟩:=hy;cases e
  | tup ds=>obtain⟨_,_,_,_,e,_⟩:=hy;cases e
  | fn a=>cases n<;>cases ky
  | fl a=>cases n<;>cases ky
  | fd=>cases n<;>cases ky
 | n,.str i,y,v,_,ky,hx,hy=>by
  obtain⟨t,rfl⟩:=hx;cases y with
  | h_=>cases hy
  | bl c=>cases hy
  | int j=>obtain⟨u,e⟩:=hy;cases e
  | str z=>obtain⟨u,e⟩:=hy;injection e with e;rw[e]
  | tup ds=>obtain⟨_,_,_,_,e,_⟩:=hy;cases e
  | fn a=>cases n<;>cases ky
  | fl a=>cases n<;>cases ky
  | fd=>cases n<;>cases ky
 | n+1,.tup ds,y,v,kx,ky,hx,hy=>by
  obtain⟨a,o,items,m,rfl,h1,h2,h3,h4⟩:=hx;cases y with
  | h_=>cases hy
  | bl c=>cases hy
  | int j=>obtain⟨u,e⟩:=hy;cases e
  | str z=>obtain⟨u,e⟩:=hy;cases e
  | fn a=>cases ky
  | fl a=>cases ky
  | fd=>cases ky
  | tup es=>
   obtain⟨a',o',w_,m',e,g1,g2,g3,g4⟩:=hy;cases e;rw[h1] at g1;cases g1;rw[h3] at g3;injection g3 with g3 _;subst g3;have all:∀ (ds es:List Im) (vs:List Value),Im.pls n ds=true->Im.pls n es=true->aF h ds vs->aF h es vs->ds=es:=by
    intro ds;induction ds with
    | nil=>
     intro es vs _ _ a b;cases es with
     | nil=>rfl
     | cons e es=>obtain⟨_,_,q,_⟩:=b;rw[show vs=[] from a] at q;cases q
    | cons d ds ih=>
     intro es vs k1 k2 a b;obtain⟨v,r,rfl,a1,a2⟩:=a;cases es with
     | nil=>cases (show v::r=[] from b)
     | cons e es=>
      obtain⟨v',r',q,b1,b2⟩:=b;cases q;rw[Im.pls,ZQ] at k1 k2;rw[rR n k1.1 k2.1 a1 b1,ih es r k1.2 k2.2 a2 b2]
   rw[all ds es _ kx ky h4 g4]
 | 0,.tup _,_,_,k,_,_,_=>by cases k
 | n,.fn _,_,_,k,_,_,_=>by cases n<;>cases k
 | n,.fl _,_,_,k,_,_,_=>by cases n<;>cases k
 | n,.fd,_,_,k,_,_,_=>by cases n<;>cases k
open Classical in
noncomputable def fZ(h:Heap)(d:Im)(v:Value):Bool:=if z:∃ x,Im.pl 8 x=true/\E_ h x v then az z.choose d else false
theorem i8{h:Heap}{x:Im}(k:Im.pl 8 x=true)(i:E_ h x v):fZ h d v=az x d:=by
 unfold fZ;have z:∃ x,Im.pl 8 x=true/\E_ h x v:=⟨x,k,i⟩;rw[dif_pos z,rR 8 z.choose_spec.1 k z.choose_spec.2 i]
theorem i9{h:Heap}{d:Im}:∀ {ds:List Im}{vs:List Value},Im.pls 8 ds=true->aF h ds vs->vs.any (fZ h d)=ds.any fun x=>az x d
 | [],vs,_,e=>by rw[show vs=[] from e];rfl
 | x::ds,vs,k,e=>by
  obtain⟨v,r,rfl,h1,h2⟩:=e;rw[Im.pls,ZQ] at k;rw[Xt,Xt,i8 k.1 h1,i9 k.2 h2]
theorem ja{h:Heap}:∀ {ds:List Im}{vs:List Value}{v:Value},Im.pls 8 ds=true->aF h ds vs->v∈vs->∃ x,Im.pl 8 x=true/\E_ h x v
 | [],vs,v,_,e,m=>by rw[show vs=[] from e] at m;cases m
 | x::ds,vs,v,k,e,m=>by
  obtain⟨u,r,rfl,h1,h2⟩:=e;rw[Im.pls,ZQ] at k;rcases ZU.mp m with rfl | m
  ·exact⟨x,k.1,h1⟩
  ·exact ja k.2 h2 m
section
variable{X:Cx}
def inB(d:Im):Vl->Option Bool
 | .im (.tup ds)=>if (Im.pl 8 d && Im.pls 8 ds)=true then some (ds.any fun x=>az x d) else none
 | .lst ds=>if (Im.pl 8 d && Im.pls 8 ds)=true then some (ds.any fun x=>az x d) else none
 | .dT kvs=>match d with
  | .tup k=>if Im.keys 7 k=true then some (bQ kvs k).isSome else none
  | _=>none
 | .dK kvs=>match d with
  | .int i=>some (bQ kvs<|.inl i).isSome
  | .str x=>some (bQ kvs<|.inr x).isSome
  | _=>none
 | _=>none
@[simp] theorem Et(d:Im)(ds:List Im):inB d (.im<|.tup ds)=if (Im.pl 8 d && Im.pls 8 ds)=true then some (ds.any fun x=>az x d) else none:=rfl
@[simp] theorem zS(d:Im)(ds:List Im):inB d (.lst ds)=if (Im.pl 8 d && Im.pls 8 ds)=true then some (ds.any fun x=>az x d) else none:=rfl
@[simp] theorem Eu(k:List Im)(kvs:List (List Im×Im)):inB (.tup k) (.dT kvs)=if Im.keys 7 k=true then some (bQ kvs k).isSome else none:=rfl
@[simp] def vIn:Op2:=fun a b=>match a with
 | .im d=>(inB d b).map fun r=>.im (.bl r)
 | _=>none
@[simp] def vNotIn:Op2:=fun a b=>match a with
 | .im d=>(inB d b).map fun r=>.im (.bl<|!r)
 | _=>none
theorem gW{κ:Type}[DecidableEq κ]{H:Hp}{k:κ}{kvs:List (κ×Im)}{EX:List (κ×V)}(h:Gc H kvs EX):(cf EX k).isSome=(bQ kvs k).isSome:=by
 cases e:bQ kvs k with
 | none=>rw[(gL h).2 e];rfl
 | some d=>obtain⟨v,h1,_⟩:=(gL h).1 d e;rw[h1];rfl
theorem zU(hu:X.A.units+20<cLine)(I:Inv X pins σ H s)(rx:av x v)(ry:av y u)(i1:EG H d x)(r2:FS H d2 y)(e:inB d d2=some b)(q:∀ s',Inv X pins σ H s'->Q (.bool b) s'):wpAny (model X.prog X.w) X.A (compareOp .In v u) Q X.xe s:=by
 unfold inB at e;split at e
 ·rename_i ds;split at e
  ·rename_i hp;cases e;rw[ZQ] at hp;obtain⟨a,xs,rfl,h1,h2⟩:=r2.i;cases ry;obtain⟨e_,rv,p,_⟩:=I.tuple (y_.of h1);have iv:=h2.Gq I.i_ rv;refine SeqAt.in_tupleAt (fZ s.heap d) (show s.heap.IsTuple a e_.toArray from p) (fun w hw=>?_) ?_
   ·obtain⟨z,z1,z2⟩:=ja hp.2 iv (by simpa using hw);rw[i8 z1 z2];exact c9 8 z1 hp.1 (by show X.A.units+1+8+1<cLine;lia) z2 (i1.Gq I.i_ rx)
   ·rw[Wy,i9 hp.2 iv];exact q s I
  ·cases e
 ·rename_i ds;split at e
  ·rename_i hp;cases e;rw[ZQ] at hp;obtain⟨_,a,xs,rfl,h1,h2,_⟩:=r2;cases ry;obtain⟨e_,p,iv,_⟩:=gI I h1 h2;refine SeqAt.in_listAt (fZ s.heap d) p (fun w hw=>?_) ?_
   ·obtain⟨z,z1,z2⟩:=ja hp.2 iv (by simpa using hw);rw[i8 z1 z2];exact c9 8 z1 hp.1 (by show X.A.units+1+8+1<cLine;lia) z2 (i1.Gq I.i_ rx)
   ·rw[Wy,i9 hp.2 iv];exact q s I
  ·cases e
 ·rename_i kvs;split at e
  ·rename_i k;split at e
   ·rename_i hk;cases e;obtain⟨_,a,EX,rfl,h1,h2,_⟩:=r2;cases ry;obtain⟨b,ys,rfl,g1,g2⟩:=i1;rw[<- gW h2] at q;exact l5 hu I (bN.t h1 ⟨hk,b,ys,rfl,g1,g2⟩) rx q
   ·cases e
  ·cases e
 ·rename_i kvs;split at e
  ·rename_i i;cases e;obtain⟨_,a,EX,rfl,h1,h2,_⟩:=r2;cases ry;rw[<- gW h2] at q;cases (show x=kV (.inl i) from i1);exact l5 hu I (bN.k h1) rx q
  ·rename_i i;cases e;obtain⟨_,a,EX,rfl,h1,h2,_⟩:=r2;cases ry;rw[<- gW h2] at q;cases (show x=kV (.inr i) from i1);exact l5 hu I (bN.k h1) rx q
  ·cases e
 ·cases e
theorem rS(hu:X.A.units+20<cLine):Gk X (compareOp .In) vIn:=by
 intro pins s σ H x y v u Q I rx ry ⟨d1,d2,d,r1,r2,e,q⟩;unfold vIn at e;split at e
 ·obtain⟨b,e1,e2⟩:=Z2.mp e;cases e2;exact zU hu I rx ry r1.i r2 e1 fun s' I'=>⟨.bl b,H,I',rfl,Out.i q rfl⟩
 ·cases e
theorem zV(hu:X.A.units+20<cLine)(I:Inv X pins σ H s)(rx:av x v)(ry:av y u)(i1:EG H d x)(r2:FS H d2 y)(e:inB d d2=some b)(q:∀ s',Inv X pins σ H s'->Q (.bool<|!b) s'):wpAny (model X.prog X.w) X.A (compareOp .NotIn v u) Q X.xe s:=by
 unfold inB at e;split at e
 ·rename_i ds;split at e
  ·rename_i hp;cases e;rw[ZQ] at hp;obtain⟨a,xs,rfl,h1,h2⟩:=r2.i;cases ry;obtain⟨e_,rv,p,_⟩:=I.tuple (y_.of h1);have iv:=h2.Gq I.i_ rv;refine SeqAt.notIn_tupleAt (fZ s.heap d) (show s.heap.IsTuple a e_.toArray from p) (fun w hw=>?_) ?_
   ·obtain⟨z,z1,z2⟩:=ja hp.2 iv (by simpa using hw);rw[i8 z1 z2];exact c9 8 z1 hp.1 (by show X.A.units+1+8+1<cLine;lia) z2 (i1.Gq I.i_ rx)
   ·rw[Wy,i9 hp.2 iv];exact q s I
  ·cases e
 ·rename_i ds;split at e
  ·rename_i hp;cases e;rw[ZQ] at hp;obtain⟨_,a,xs,rfl,h1,h2,_⟩:=r2;cases ry;obtain⟨e_,p,iv,_⟩:=gI I h1 h2;refine SeqAt.notIn_listAt (fZ s.heap d) p (fun w hw=>?_) ?_
   ·obtain⟨z,z1,z2⟩:=ja hp.2 iv (by simpa using hw);rw[i8 z1 z2];exact c9 8 z1 hp.1 (by show X.A.units+1+8+1<cLine;lia) z2 (i1.Gq I.i_ rx)
   ·rw[Wy,i9 hp.2 iv];exact q s I
  ·cases e
 ·rename_i kvs;split at e
  ·rename_i k;split at e
   ·rename_i hk;cases e;obtain⟨_,a,EX,rfl,h1,h2,_⟩:=r2;cases ry;obtain⟨b,ys,rfl,g1,g2⟩:=i1;rw[<- gW h2] at q;exact l7 hu I (bN.t h1 ⟨hk,b,ys,rfl,g1,g2⟩) rx q
   ·cases e
  ·cases e
 ·rename_i kvs;split at e
  ·rename_i i;cases e;obtain⟨_,a,EX,rfl,h1,h2,_⟩:=r2;cases ry;rw[<- gW h2] at q;cases (show x=kV (.inl i) from i1);exact l7 hu I (bN.k h1) rx q
  ·rename_i i;cases e;obtain⟨_,a,EX,rfl,h1,h2,_⟩:=r2;cases ry;rw[<- gW h2] at q;cases (show x=kV (.inr i) from i1);exact l7 hu I (bN.k h1) rx q
  ·cases e
 ·cases e
theorem ko(hu:X.A.units+20<cLine):Gk X (compareOp .NotIn) vNotIn:=by
 intro pins s σ H x y v u Q I rx ry ⟨d1,d2,d,r1,r2,e,q⟩;unfold vNotIn at e;split at e
 ·obtain⟨b,e1,e2⟩:=Z2.mp e;cases e2;exact zV hu I rx ry r1.i r2 e1 fun s' I'=>⟨.bl<|!b,H,I',rfl,Out.i q rfl⟩
 ·cases e
@[simp] def di(f f':Op2)(ga gb gc:M Opd):M Vl:=fun D=>(ga D).bind fun p=>(gb p.2).bind fun q=>(rsl q.2 p.1).bind fun d1=>(rsl q.2 q.1).bind fun d2=>(f d1 d2).bind fun d=>(asB d).bind fun k=>
 if k=true then (gc q.2).bind fun r=>(rsl r.2 q.1).bind fun Ot=>(rsl r.2 r.1).bind fun d3=>(f' Ot d3).bind fun z=>(asB z).map fun b=>(.im<|.bl b,r.2) else some (.im<|.bl false,q.2)
theorem zW{Q:VK}(h:tV (di f f' ga gb gc) σ H Q):
  pO (fun x y H Q=>∃ d1 d2 d,FS H d1 x/\FS H d2 y/\f d1 d2=some d/\Out H d Q) (fun x y H Q=>∃ d1 d2 d,FS H d1 x/\FS H d2 y/\f' d1 d2=some d/\Out H d Q) (tO ga) (tO gb) (tO gc) σ H Q:=by
 obtain⟨D,F,r,D',st,nd,hg,q⟩:=h;obtain⟨⟨o1,D1⟩,h1,hg⟩:=Z8.mp hg;obtain⟨⟨o2,D2⟩,h2,hg⟩:=Z8.mp hg;obtain⟨d1,h3,hg⟩:=Z8.mp hg;obtain⟨d2,h4,hg⟩:=Z8.mp hg;obtain⟨d,h5,hg⟩:=Z8.mp hg;obtain⟨k,h6,hK⟩:=Z8.mp hg;have hd:=iT h6;subst hd;refine⟨D,F,o1,D1,st,nd,h1,fun x H1 F1 R1 p_ w1 s1=>⟨D1,F1,o2,D2,p_,(ZK.mp s1.nd).1,h2,fun y H2 F2 R2 m_ w2 s2=>?_⟩⟩;have Rw:cD H2 σ o1 x R1:=w1.mono s2.tup fun a ha o e=>s2.keep a o e fun h=>(ZK.mp s1.nd).2.2 a h a ha rfl;refine⟨d1,d2,_,Rw.read m_ h3,w2.read m_ h4,h5,fun v H3 R3 sm ow K3 fr=>?_⟩;obtain⟨rfl,rfl⟩:=(show v=.bl k/\R3=[] from ow);refine⟨k,rfl,?_⟩;have PX:=s1.trans s2 w1.chg;rw[Z7] at PX;have sA:=PX.new sm Yy (fun a ha=>nomatch ha) m_.chg;have E1:ai H3 D2 σ F2:=m_.mono sm.tupS fun a _ o e=>sm a o e;cases k with
 | false=>
  rw[ZY ZM] at hK ⊢;cases hK;exact q _ H3 F2 [] E1 ⟨rfl,rfl⟩ sA
 | true=>
  rw[ZZ rfl] at hK ⊢;obtain⟨⟨o3,D3⟩,g1,k1⟩:=Z8.mp hK;obtain⟨Ot,g2,k2⟩:=Z8.mp k1;obtain⟨d3,g3,k3⟩:=Z8.mp k2;obtain⟨z,g4,k4⟩:=Z8.mp k3;obtain⟨b,g5,k5⟩:=Z2.mp k4;cases k5;have hz:=iT g5;subst hz;rw[ZT] at sA;refine⟨D2,F2,o3,D3,E1,sA.nd,g1,fun w H4 F3 R4 E3 w3 s4=>?_⟩;have GH:=ZK.mp s2.nd;have Oa:cD H4 σ o2 y R2:=(w2.mono sm.tupS fun a _ o e=>sm a o e).mono s4.tup fun a ha o e=>s4.keep a o e fun h=>GH.2.2 a h a ha rfl;refine⟨Ot,d3,_,Oa.read E3 g2,w3.read E3 g3,g4,fun v H5 R5 Ou Rx SO MW=>?_⟩;obtain⟨rfl,rfl⟩:=(show v=.bl b/\R5=[] from Rx);exact q _ H5 F3 [] (E3.mono Ou.tupS fun a _ o e=>Ou a o e) ⟨rfl,rfl⟩ ((sA.seq s4).new Ou Yy (fun a ha=>nomatch ha) E3.chg)
theorem rT{op J4:CmpOp}{a b c:Expr}{pos:Pos}(ho:Gk X (compareOp op) f)(GB:Gk X (compareOp J4) f')(ha:VO X a ga)(hb:VO X b gb)(hc:VO X c gc)(hm:lastMarks [op,J4] [b,c]=false:=by with_unfolding_all rfl):VT X (.Compare a [op,J4] [b,c] pos) (kB<|di f f' ga gb gc):=by
 refine jP (wR ho GB ha hb hc hm) fun σ H Q ⟨D,F,k,D',st,nd,hg,q⟩=>?_;refine zW ⟨D,F,.im<|.bl k,D',st,nd,?_,fun v H' F' R f_ ow s=>⟨k,ow.1,q H' F' f_ (by rw[ow.2,ZT] at s;exact s)⟩⟩;obtain⟨p,h1,h2⟩:=Z8.mp hg;obtain⟨c',h3,h4⟩:=Z2.mp h2;cases h4;rw[h1,<- iT h3]
end
mutual
def u_:Im->Im->Bool
 | .int i,.int j=>decide (i<j)
 | .tup a,.tup b=>bX a b
 | _,_=>false
def bX:List Im->List Im->Bool
 | [],[]=>false
 | [],_::_=>true
 | _::_,[]=>false
 | a::r,b::t=>if Im.beq a b=true then bX r t else u_ a b
end
mutual
def bY:Nat->Im->Im->Bool
 | _,.int _,.int _=>true
 | n+1,.tup a,.tup b=>bH n a b
 | _,_,_=>false
def bH:Nat->List Im->List Im->Bool
 | _,[],[]=>true
 | n,a::r,b::t=>bY n a b && bH n r t
 | _,_,_=>false
end
theorem nk:∀ {n:Nat}{a b:List Im},bH n a b=true->a.length=b.length
 | _,[],[],_=>rfl
 | n,a::r,b::t,h=>by
  rw[bH,ZQ] at h;rw[ZD,ZD,nk h.2]
 | _,[],_::_,h=>by cases h
 | _,_::_,[],h=>by cases h
mutual
theorem ku:∀ {n:Nat}{a b:Im},bY n a b=true->Im.pl n a=true/\Im.pl n b=true/\az a b=Im.beq a b
 | n,.int i,.int j,_=>by
  refine⟨by cases n<;>rfl,by cases n<;>rfl,?_⟩;rw[az,Im.beq];by_cases h:i=j<;>simp[h]
 | n+1,.tup a,.tup b,h=>by
  rw[bY] at h;obtain⟨h1,h2,h3⟩:=rV h;exact⟨h1,h2,by rw[az,Im.beq];exact h3⟩
theorem rV:∀ {n:Nat}{a b:List Im},bH n a b=true->Im.pls n a=true/\Im.pls n b=true/\br a b=Im.GA a b
 | n,[],[],_=>⟨by cases n<;>rfl,by cases n<;>rfl,rfl⟩
 | n,a::r,b::t,h=>by
  rw[bH,ZQ] at h;obtain⟨h1,h2,h3⟩:=ku h.1;obtain⟨g1,g2,g3⟩:=rV h.2;exact⟨by rw[Im.pls,h1,g1];rfl,by rw[Im.pls,h2,g2];rfl,by rw[br,Im.GA,h3,g3]⟩
end
theorem f6{a b:Im}(h:¬ a=b):Im.beq a b=false:=by
 cases e:Im.beq a b with
 | false=>rfl
 | true=>exact absurd ((Im.beq_iff a b).mp e) h
mutual
theorem nq:∀ a:Im,u_ a a=false
 | .int i=>by simp[u_]
 | .tup a=>by rw[u_];exact rW a
 | .h_=>rfl
 | .bl _=>rfl
 | .str _=>rfl
 | .fn _=>rfl
 | .fl _=>rfl
 | .fd=>rfl
theorem rW:∀ a:List Im,bX a a=false
 | []=>rfl
 | a::r=>by rw[bX,ZZ<|(Im.beq_iff a a).mpr rfl];exact rW r
end
mutual
theorem gX:∀ {n:Nat}{a b:Im},bY n a b=true->a≠b->u_ a b=!(u_ b a)
 | n,.int i,.int j,_,h=>by
  have:i≠j:=fun e=>h (by rw[e]);rw[u_,u_];rcases Int.lt_or_gt_of_ne this with g | g
  ·simp[g];lia
  ·simp[g];lia
 | n+1,.tup a,.tup b,h,e=>by
  rw[bY] at h;rw[u_,u_];exact rX h fun z=>e (by rw[z])
theorem rX:∀ {n:Nat}{a b:List Im},bH n a b=true->a≠b->bX a b=!(bX b a)
 | n,[],[],_,h=>absurd rfl h
 | n,a::r,b::t,h,e=>by
  rw[bH,ZQ] at h;rw[bX,bX];by_cases z:a=b
  ·subst z;rw[ZZ ((Im.beq_iff a a).mpr rfl),ZZ<|(Im.beq_iff a a).mpr rfl];exact rX h.2 fun w=>e (by rw[w])
  ·rw[f6 z,f6<|fun w=>z w.symm,ZY ZM,ZY ZM];exact gX h.1 z
end
mutual
theorem kw:∀ {n:Nat}{a b c:Im},bY n a b=true->bY n b c=true->u_ a b=true->u_ b c=true->u_ a c=true
 | n,.int i,.int j,.int k,_,_,h1,h2=>by
  rw[u_] at h1 h2 ⊢;have:=Zn h1;have:=Zn h2;exact Zu (by lia)
 | n+1,.tup a,.tup b,.tup c,l1,l2,h1,h2=>by
  rw[bY] at l1 l2;rw[u_] at h1 h2 ⊢;exact rY l1 l2 h1 h2
theorem rY:∀ {n:Nat}{a b c:List Im},bH n a b=true->bH n b c=true->bX a b=true->bX b c=true->bX a c=true
 | n,[],[],[],_,_,h,_=>h
 | n,a::r,b::t,c::u,l1,l2,h1,h2=>by
  rw[bH,ZQ] at l1 l2;rw[bX] at h1 h2 ⊢;by_cases z1:a=b
  ·subst z1;rw[ZZ ((Im.beq_iff a a).mpr rfl)] at h1;by_cases z2:a=c
   ·subst z2;rw[ZZ ((Im.beq_iff a a).mpr rfl)] at h2 ⊢;exact rY l1.2 l2.2 h1 h2
   ·rw[f6 z2,ZY ZM] at h2 ⊢;exact h2
  ·rw[f6 z1,ZY ZM] at h1;by_cases z2:b=c
   ·subst z2;rw[f6 z1,ZY ZM];exact h1
   ·rw[f6 z2,ZY ZM] at h2;have h3:=kw l1.1 l2.1 h1 h2;have z3:¬ a=c:=fun w=>by
     subst w;have:=gX l2.1 z2;rw[h1,h2] at this;cases this
    rw[f6 z3,ZY ZM];exact h3
end
def nr(A:Around)(s:Shared)(y x:Value)(k:Bool):Prop:=∀ (prog:Program) (w:World) (E:Value->Shared->Prop) (Q:Value->Shared->Prop),Q (.bool k) s->wpAny (model prog w) A (richCompare .Lt y x) Q E s
def fA(f:Bool):List (Bool×Bool)->Bool
 | []=>f
 | (e,k)::r=>if e=true then fA f r else k
section
open PySem.SeqAt
open PySem.AutoSeq1 (wpAny_loadPart')
open PySem.MeetsSeq PySem.MeetsSeq2 PySem.MeetsSeq3
theorem zX(l b:Addr)(items r_:Array Value)(n n2:Nat)(dd KL:Option Addr)(sl KM:Array (Option Value))(ps:List (Bool×Bool))(Nb:ps.length=min items.size r_.size):
  Meets (Builtin.«tuple.__lt__» ⟨[.ref l,.ref b],[]⟩)
   (fun A R s=>s.heap.get? l=some { cls:=.type "tuple",dict:=dd,data:=.seq items n,slots:=sl }/\s.heap.get? b=some { cls:=.type "tuple",dict:=KL,data:=.seq r_ n2,slots:=KM }/\
    (∀ j (h1:j<items.size) (h2:j<r_.size) (h3:j<ps.length),EqAt A.in1 s items[j] r_[j] (ps[j]).1/\((ps[j]).1=false->nr A.in1 s items[j] r_[j] (ps[j]).2))/\
    R (.ok<|.ret<|.bool<|fA (decide (items.size<r_.size)) ps) s):=
 .of_wp fun prog w A R s h=>by
  obtain⟨hp,g,d,tk,os⟩:=s;obtain⟨hl,hb,he,h⟩:=h;have f2:=AutoSeq1.sub_tuple_tuple;have hZ:(items.toList.zip r_.toList).length=min items.size r_.size:=by simp
  wp_walk using wpAny_loadPart' hl,wpAny_loadPart' hb,XM _ (fun rest b s'=>b.1=none/\s'=⟨hp,g,d,tk,os⟩/\∃ i,rest=(items.toList.zip r_.toList).drop i/\
   R (.ok<|.ret<|.bool<|fA (decide (items.size<r_.size))<|ps.drop i) ⟨hp,g,d,tk,os⟩) _
  case turn=>
   rintro⟨y,x⟩ rest b s' ⟨HZ,rfl,i,hz,hR⟩;have Fq:i<(items.toList.zip r_.toList).length:=by
    rcases Y6 i (items.toList.zip r_.toList).length with h' | h'
    ·exact h'
    ·rw[X5 h'] at hz;cases hz
   have hm:i<min items.size r_.size:=hZ ▸ Fq;have h1:i<items.size:=by lia
   have h2:i<r_.size:=by lia
   have h3:i<ps.length:=by lia
   rw[Za Fq] at hz;injection hz with PY Md;have hy:y=items[i]:=by have:=congrArg Prod.fst PY;simpa using this
   have hx:x=r_[i]:=by have:=congrArg Prod.snd PY;simpa using this
   subst hy hx;rw[Za h3] at hR;obtain⟨Ol,Ku⟩:=he i h1 h2 h3;generalize ps[i]=pr at hR Ol Ku;obtain⟨e,k⟩:=pr;refine Z9 (Ol prog w _ _ ?_);cases e with
   | true=>
    have Me:R (.ok<|.ret<|.bool<|fA (decide (items.size<r_.size))<|ps.drop<|i+1) ⟨hp,g,d,tk,os⟩:=hR
    wp_walk
    exact⟨rfl,rfl,i+1,Md,Me⟩
   | false=>
    have Me:R (.ok<|.ret<|.bool k) ⟨hp,g,d,tk,os⟩:=hR;have Ry:=Ku rfl prog w
    wp_walk using Ry
    exact⟨_,rfl,by simpa using Me⟩
  case fin=>
   rintro⟨b1,b2⟩ s' ⟨HZ,rfl,i,hz,hR⟩;simp only at HZ;subst HZ;have SQ:min items.size r_.size<=i:=by
    rcases Y6 i (items.toList.zip r_.toList).length with h' | h'
    ·rw[Za h'] at hz;cases hz
    ·exact hZ ▸ h'
   rw[X5 (by lia)] at hR;have Me:R (.ok<|.ret<|.bool<|decide (items.size<r_.size)) ⟨hp,g,d,tk,os⟩:=hR
   wp_walk
   exact⟨_,rfl,by simpa [Builtin.Tuple.tupleCompareSizes] using Me⟩
  case h=>
   exact⟨rfl,rfl,0,rfl,by simpa using h⟩
end
def IU(ds es:List Im):List (Bool×Bool):=(ds.zip es).map fun p=>(az p.1 p.2,u_ p.1 p.2)
theorem rZ:∀ {n:Nat}{ds es:List Im},bH n ds es=true->fA false (IU ds es)=bX ds es
 | _,[],[],_=>rfl
 | n,a::r,b::t,h=>by
  rw[bH,ZQ] at h;show (if az a b=true then fA false (IU r t) else u_ a b)=bX (a::r) (b::t);rw[bX,(ku h.1).2.2,rZ h.2]
 | _,[],_::_,h=>by cases h
 | _,_::_,[],h=>by cases h
theorem r6{n:Nat}:∀ {ds es:List Im}{j:Nat}{a b:Im},bH n ds es=true->ds[j]?=some a->es[j]?=some b->bY n a b=true
 | [],es,j,a,b,_,h,_=>by simp at h
 | d::ds,[],j,a,b,h,_,_=>by cases h
 | d::ds,e::es,0,a,b,h,h1,h2=>by
  rw[bH,ZQ] at h;cases h1;cases h2;exact h.1
 | d::ds,e::es,j+1,a,b,h,h1,h2=>by
  rw[bH,ZQ] at h;exact r6 (j:=j) h.2 (by simpa using h1) (by simpa using h2)
theorem r9{A:Around}{i j:Int}(hx:E_ s.heap (.int i) u)(hy:E_ s.heap (.int j) v):nr A s u v (u_ (.int i)<|.int j):=by
 obtain⟨t,rfl⟩:=hx;obtain⟨t',rfl⟩:=hy;intro prog w E Q q;rw[u_] at q;exact HT.xi A s i t j t' prog w E Q q
theorem nt:∀ {n:Nat}{x y:Im},bY n x y=true->(∃ i j,x=.int i/\y=.int j)\/∃ m a b,n=m+1/\x=.tup a/\y=.tup b/\bH m a b=true:=by
 intro n x y h;unfold bY at h;split at h
 ·exact .inl ⟨_,_,rfl,rfl⟩
 ·exact .inr ⟨_,_,_,rfl,rfl,rfl,h⟩
 ·cases h
theorem zY(n:Nat):∀ {A:Around}{x y:Im}{u v:Value},bY n x y=true->A.units+n+2<cLine->E_ s.heap x u->E_ s.heap y v->nr A s u v (u_ x y):=by
 induction n with
 | zero=>
  intro A x y u v h hu hx hy;rcases nt h with ⟨i,j,rfl,rfl⟩ | ⟨m,_,_,e,_⟩
  ·exact r9 hx hy
  ·cases e
 | succ n ih=>
  intro A x y u v h hu hx hy;rcases nt h with ⟨i,j,rfl,rfl⟩ | ⟨m,ds,es,e,rfl,rfl,h⟩
  ·exact r9 hx hy
  cases e;obtain⟨a,o,e_,m,rfl,h1,h2,h3,h4⟩:=hx;obtain⟨b,o',its',m',rfl,g1,g2,g3,g4⟩:=hy;obtain⟨cls,dd,data,sl⟩:=o;obtain⟨Rz,KO,PZ,Ll⟩:=o';simp only at h2 h3 g2 g3;subst h2 h3 g2 g3;have l0:=nk h;have l1:ds.length=e_.size:=by rw[h4.length,ZO]
  have l2:es.length=its'.size:=by rw[g4.length,ZO]
  intro prog w E Q q;rw[u_,<- rZ h] at q;have lp:(IU ds es).length=min e_.size its'.size:=by rw[IU,Z3,List.length_zip,l1,l2]
  have hd:decide (e_.size<its'.size)=false:=Zl (by lia);refine richCompare_meets_room (op:=.Lt) ⟨_,h1,rfl⟩ ⟨_,g1,rfl⟩ PySem.F.slot_tuple_lt PySem.F.entry_tuple_lt (PySem.F.args_tuple_lt_2 _ _) (zX a b e_ its' m m' dd KO sl Ll (IU ds es) lp)
   ⟨h1,g1,fun j j1 j2 j3=>?_,show Value.bool (fA (decide (e_.size<its'.size))<|IU ds es)≠Value.notImplemented/\Q (.bool<|fA (decide (e_.size<its'.size))<|IU ds es) s from ⟨(fun x=>nomatch x),by rw[hd];exact q⟩⟩ (by lia);obtain⟨d1,e1,r1⟩:=h4.get (j:=j) (v:=e_[j]) (by rw[ZC];simp[j1]);obtain⟨d2,e2,r2⟩:=g4.get (j:=j) (v:=its'[j]) (by rw[ZC];simp[j2]);have lk:=r6 h e1 e2;have hp:=ku lk;have ez:(IU ds es)[j]=(az d1 d2,u_ d1 d2):=by
   have:(IU ds es)[j]?=some (az d1 d2,u_ d1 d2):=by
    rw[IU,Zy,(Xe (z:=(d1,d2))).mpr ⟨e1,e2⟩];rfl
   rw[ZV j3] at this;exact Zr this
  rw[ez];exact⟨c9 n hp.1 hp.2.1 (by show A.units+1+n+1<cLine;lia) r1 r2,fun _=>ih lk (by show A.units+1+n+2<cLine;lia) r1 r2⟩
end L2
namespace L2
open PySem PySem.Spec PyProof.Rows PySem.W
variable{e_:List Value}{ds:List Im}
theorem sd{α:Type}{p q:α->Bool}:∀ {l:List α},(∀ x∈l,p x=true->q x=true)->(∃ x∈l,q x=true/\p x=false)->l.countP p<l.countP q
 | [],_,h=>by obtain⟨x,hx,_⟩:=h;cases hx
 | a::l,h,⟨x,hx,h1,h2⟩=>by
  rw[List.countP_cons,List.countP_cons];have le:l.countP p<=l.countP q:=List.countP_mono_left fun y hy=>h y (.tail _ hy);rcases ZU.mp hx with rfl | hx
  ·rw[h1,h2];simp;lia
  ·have:=sd (fun y hy=>h y<|.tail _ hy) ⟨x,hx,h1,h2⟩;have ha:=h a (.head _);cases e1:p a<;>cases e2:q a<;>rw[e1,e2] at ha<;>simp at ha ⊢<;>lia
structure FM(ds:List Im):Prop where
 Kv:ds.length<=1000
 GJ:∀ a∈ds,∀ b∈ds,bY 6 a b=true
 nd:ds.Nodup
def JI(ds:List Im)(x:Im):Nat:=ds.countP fun d=>u_ d x
theorem kz(o:FM ds){x y:Im}(hx:x∈ds)(hy:y∈ds)(h:u_ x y=true):JI ds x<JI ds y:=
 sd (fun z hz e=>kw (o.GJ z hz x hx) (o.GJ x hx y hy) e h) ⟨x,hx,h,nq x⟩
theorem se(o:FM ds){x y:Im}(hx:x∈ds)(hy:y∈ds):decide ((JI ds x:Int)<(JI ds y:Int))=u_ x y:=by
 cases e:u_ x y with
 | true=>exact Zu (by have:=kz o hx hy e;lia)
 | false=>
  refine Zl fun z=>?_;by_cases h:x=y
  ·subst h;lia
  ·have t:=gX (o.GJ x hx y hy) h;rw[e] at t;have t':u_ y x=true:=by cases q:u_ y x<;>rw[q] at t<;>simp at t ⊢
   have:=kz o hy hx t';lia
theorem zZ(o:FM ds){x y:Im}(hx:x∈ds)(hy:y∈ds)(h:JI ds x=JI ds y):x=y:=by
 by_cases e:x=y
 ·exact e
 ·have t:=gX (o.GJ x hx y hy) e;cases q:u_ x y with
  | true=>have:=kz o hx hy q;lia
  | false=>
   rw[q] at t;have t':u_ y x=true:=by cases q:u_ y x<;>rw[q] at t<;>simp at t ⊢
   have:=kz o hy hx t';lia
def dQ(ds:List Im)(i:Nat):Int:=JI ds (ds.getD i .h_)
theorem gY{i:Nat}(h:i<ds.length):ds.getD i .h_∈ds:=by
 rw[Z6,ZV h];exact XI h
theorem kA(o:FM ds):∀ i j,i<ds.length->j<ds.length->dQ ds i=dQ ds j->i=j:=fun i j hi hj e=>by
 have:=zZ o (gY hi) (gY hj) (by unfold dQ at e;lia);rw[Z6,ZV hi,Z6,ZV hj] at this;exact (V5 o.nd).mp this
theorem Ov(o:FM ds){p:Array Nat}(hp:Rg ds.length p)(up:Up (dQ ds) p ds.length):(p.toList.map fun i=>ds.getD i .h_).Pairwise (fun a b=>u_ a b=true):=by
 rw[YW];intro i j hi hj GF;have hs:=hp.size;have Gb:i<ds.length:=by simpa [hs] using hi
 have JF:j<ds.length:=by simpa [hs] using hj
 have ne:=hp.ne (kA o) GF JF;have le:=up i j (by lia) JF;have g:∀ k (hk:k<(p.toList.map fun i=>ds.getD i .h_).length),(p.toList.map fun i=>ds.getD i .h_)[k]=ds.getD (p.getD k 0) .h_:=fun k hk=>by
  have FK:k<p.size:=by simpa using hk
  rw[List.getElem_map,Array.getElem_toList];simp[Array.getD,FK]
 rw[g i hi,g j hj];rw[<- se o (gY<|hp.lt Gb) (gY<|hp.lt JF)];refine Zu ?_;have e:∀ k,(JI ds (ds.getD (p.getD k 0) .h_):Int)=x_ (dQ ds) p k:=fun _=>rfl;rw[e i,e j];lia
theorem sf:∀ {l m:List Im},l.Perm m->l.Pairwise (fun a b=>u_ a b=true)->m.Pairwise (fun a b=>u_ a b=true)->(∀ a∈l,∀ b∈l,u_ a b=true->u_ b a=false)->l=m
 | [],m,p,_,_,_=>(List.nil_perm.mp p).symm
 | a::l,m,p,h1,h2,as=>by
  cases m with
  | nil=>exact absurd p.length_eq (by simp)
  | cons b m=>
   have e:a=b:=by
    by_cases e:a=b
    ·exact e
    ·have ha:a∈m:=by
      rcases ZU.mp (p.mem_iff.mp<|.head _) with z | z
      ·exact absurd z e
      ·exact z
     have hb:b∈l:=by
      rcases ZU.mp (p.mem_iff.mpr<|.head _) with z | z
      ·exact absurd z.symm e
      ·exact z
     have q1:=(Zq.mp h1).1 b hb;have q2:=(Zq.mp h2).1 a ha;rw[as a (.head _) b (.tail _ hb) q1] at q2;cases q2
   subst e;rw[sf (List.Perm.cons_inv p) (Zq.mp h1).2 (Zq.mp h2).2 fun x hx y hy=>as x (.tail _ hx) y<|.tail _ hy]
theorem nu(x:Im):∀ l:List Im,(fo u_ x l).Perm (x::l)
 | []=>ZF _
 | y::r=>by
  rw[fo];split
  ·exact ZF _
  ·exact (List.Perm.cons y<|nu x r).trans (List.Perm.swap x y r)
theorem f7:∀ l:List Im,(bL u_ l).Perm l
 | []=>ZF _
 | x::r=>(nu x _).trans (List.Perm.cons x<|f7 r)
theorem si{x:Im}:∀ {l:List Im},l.Pairwise (fun a b=>u_ a b=true)->(∀ y∈l,x≠y)->(∀ a∈x::l,∀ b∈x::l,bY 6 a b=true)->(fo u_ x l).Pairwise (fun a b=>u_ a b=true)
 | [],_,_,_=>Zw _ _
 | y::r,h,n,lk=>by
  have h':=Zq.mp h;rw[fo];split
  ·rename_i e;refine Zq.mpr ⟨fun z hz=>?_,h⟩;rcases ZU.mp hz with rfl | hz
   ·exact e
   ·exact kw (lk x (.head _) y<|.tail _<|.head _) (lk y (.tail _<|.head _) z<|.tail _<|.tail _ hz) e (h'.1 z hz)
  ·rename_i e;refine Zq.mpr ⟨fun z hz=>?_,si h'.2 (fun z hz=>n z<|.tail _ hz) fun a ha b hb=>lk a ?_ b ?_⟩
   ·rcases ZU.mp ((nu x r).mem_iff.mp hz) with rfl | hz
    ·have t:=gX (lk z (.head _) y<|.tail _<|.head _) (n y<|.head _);cases q:u_ y z with
     | true=>rfl
     | false=>rw[q] at t;exact absurd t e
    ·exact h'.1 z hz
   ·rcases ZU.mp ha with rfl | ha
    ·exact .head _
    ·exact .tail _ (.tail _ ha)
   ·rcases ZU.mp hb with rfl | hb
    ·exact .head _
    ·exact .tail _ (.tail _ hb)
theorem kC:∀ {l:List Im},l.Nodup->(∀ a∈l,∀ b∈l,bY 6 a b=true)->(bL u_ l).Pairwise (fun a b=>u_ a b=true)
 | [],_,_=>.nil
 | x::r,nd,lk=>by
  have Iu:=Y7.mp nd;refine si (kC Iu.2 fun a ha b hb=>lk a (.tail _ ha) b<|.tail _ hb) (fun y hy e=>Iu.1 (by rw[e];exact (f7 r).mem_iff.mp hy)) fun a ha b hb=>lk a ?_ b ?_
  ·rcases ZU.mp ha with rfl | ha
   ·exact .head _
   ·exact .tail _ ((f7 r).mem_iff.mp ha)
  ·rcases ZU.mp hb with rfl | hb
   ·exact .head _
   ·exact .tail _ ((f7 r).mem_iff.mp hb)
theorem kD{l:List Im}(o:FM ds)(p:l.Perm ds)(h:l.Pairwise (fun a b=>u_ a b=true)):l=bL u_ ds:=by
 refine sf (p.trans (f7 ds).symm) h (kC o.nd o.GJ) fun a ha b hb e=>?_;have t:=gX (o.GJ a (p.mem_iff.mp ha) b<|p.mem_iff.mp hb) (fun z=>by subst z;rw[nq] at e;cases e);rw[e] at t;cases q:u_ b a with
 | false=>rfl
 | true=>rw[q] at t;cases t
def cJ:Im->Bool
 | .tup (.int _::_)=>true
 | _=>false
def f8:Im->Bool
 | .tup (.tup _::_)=>true
 | _=>false
section
variable{prog:Program}{w:World}{A:Around}{E:Value->Shared->Prop}{s:Shared}
theorem sj{b:Bool}(n:Nat)(hu:A.units+n+2<cLine){Q:Bool->Shared->Prop}:∀ {ds es:List Im}{vs ws:List Value}{i:Nat},bH n ds es=true->aF s.heap ds vs->aF s.heap es ws->(b=true->i=0->∃ k r,ds=.int k::r)->Q (bX ds es) s->KatLex prog w A b false Q (vs.zip ws) i s
 | [],[],vs,ws,i,_,h1,h2,_,q=>by
  rw[show vs=[] from h1];exact kat_nil q
 | d::ds,e::es,vs,ws,i,h,h1,h2,hb,q=>by
  rw[bH,ZQ] at h;obtain⟨v,vs,rfl,a1,a2⟩:=h1;obtain⟨u,ws,rfl,b1,b2⟩:=h2;rw[Wf];obtain⟨p1,p2,p3⟩:=ku h.1;refine kat_cons (c9 n p1 p2 (by lia) a1 b1 prog w _ _ ?_);rw[p3];rw[bX] at q;cases hq:Im.beq d e with
  | true=>
   rw[hq,ZZ rfl] at q;exact kat_yes (sj n hu h.2 a2 b2 (fun _ z=>by lia) q)
  | false=>
   rw[hq,ZY ZM] at q;refine kat_no ?_;by_cases hf:(b && i == 0)=true
   ·rw[hf];rw[ZQ] at hf;obtain⟨k,r,z⟩:=hb hf.1 (by simpa using hf.2);cases z;rcases nt h.1 with ⟨i',j,z1,z2⟩ | ⟨_,_,_,_,z1,_⟩
    ·cases z1;cases z2;obtain⟨t,rfl⟩:=a1;obtain⟨t',rfl⟩:=b1;rw[u_] at q;exact oneLt_int q
    ·cases z1
   ·rw[show (b && i == 0)=false by simpa using hf];exact kat_one _ _ (zY n h.1 hu a1 b1 prog w _ _ q)
 | [],_::_,_,_,_,h,_,_,_,_=>by cases h
 | _::_,[],_,_,_,h,_,_,_,_=>by cases h
theorem nv{b:Bool}(o:FM ds)(iv:aF s.heap ds e_)(ht:∀ d∈ds,∃ r,d=.tup r)(hb:b=true->∀ d∈ds,cJ d=true)(hu:A.units+9<cLine):
  b7 e_.length (dQ ds) (kas_cmp prog w A (tuples' b)<|e_.toArray.zip e_.toArray) s:=by
 intro i j C hi hj q;have hl:=iv.length;have mi:=gY (ds:=ds) (i:=i) (by lia);have mj:=gY (ds:=ds) (i:=j) (by lia);unfold dQ at q;rw[se o mi mj] at q;obtain⟨d1,e1,r1⟩:=iv.get (j:=i) (v:=e_[i]) (by simp);obtain⟨d2,e2,r2⟩:=iv.get (j:=j) (v:=e_[j]) (by simp);rw[Z6,e1,Z6,e2] at q;rw[Z6,e1] at mi;rw[Z6,e2] at mj;obtain⟨a,ea⟩:=ht d1 mi;obtain⟨b',eb⟩:=ht d2 mj;subst ea eb;have lk:bH 5 a b'=true:=o.GJ _ mi _ mj;unfold kas_cmp;rw[kat_item rfl,kat_item rfl,Z6,Z6,ZV hi,ZV hj];show wpAny _ _ (keyLt' (tuples' b) e_[i] e_[j]) _ _ _;obtain⟨x,ox,xs,n1,z1,g1,g2,g3,g4⟩:=r1;obtain⟨y,oy,ys,n2,z2,k1,k2,k3,k4⟩:=r2;rw[z1,z2];refine kat_lt (b:=b) g1 g3 k1 k3 ?_;have l1:a.length=xs.size:=by rw[g4.length,ZO]
 have l2:b'.length=ys.size:=by rw[k4.length,ZO]
 rw[show decide (xs.size<ys.size)=false from Zl (by have:=nk lk;lia)];refine sj 5 (by lia) lk g4 k4 (fun GK _=>?_) (by have q':C (u_ (.tup a)<|.tup b') s:=q;rw[u_] at q';exact q');have:=hb GK _ mi;unfold cJ at this;split at this
 ·rename_i h;cases h;exact⟨_,_,rfl⟩
 ·cases this
theorem sk:∀ {ds:List Im}{e_:List Value},aF s.heap ds e_->(∀ d∈ds,cJ d=true)\/(∀ d∈ds,f8 d=true)->∃ fs,KatTups s.heap e_ fs/\fs.length=e_.length/\
  ((∀ d∈ds,cJ d=true)->∀ v∈fs,∃ i t,v=Value.int i t)/\((∀ d∈ds,f8 d=true)->∀ v∈fs,∃ a ob,v=Value.ref a/\s.heap.get? a=some ob/\ob.cls=.type "tuple")
 | [],e_,h,_=>by
  rw[show e_=[] from h];exact⟨[],trivial,rfl,(fun _ _ h=>nomatch h),(fun _ _ h=>nomatch h)⟩
 | d::ds,e_,h,hf=>by
  obtain⟨v,r,rfl,h1,h2⟩:=h;obtain⟨fs,t1,t2,t3,t4⟩:=sk h2 (hf.imp (fun z x hx=>z x<|.tail _ hx) fun z x hx=>z x<|.tail _ hx);have sh:∃ f r',d=.tup (f::r'):=by
   rcases hf with z | z
   ·have:=z d (.head _);unfold cJ at this;split at this
    ·exact⟨_,_,rfl⟩
    ·cases this
   ·have:=z d (.head _);unfold f8 at this;split at this
    ·exact⟨_,_,rfl⟩
    ·cases this
  obtain⟨f,r',rfl⟩:=sh;obtain⟨a,o,items,n,rfl,g1,g2,g3,g4⟩:=h1;obtain⟨fv,rv,e,g5,g6⟩:=g4;have Mc:items[0]?=some fv:=by
   rw[<- ZC,e];rfl
  refine⟨fv::fs,KatTups.cons g1 g2 g3 Mc t1,by simp[t2],fun z u hu=>?_,fun z u hu=>?_⟩
  ·rcases ZU.mp hu with rfl | hu
   ·have:=z _ (.head _);unfold cJ at this;split at this
    ·rename_i q;cases q;exact⟨_,g5⟩
    ·cases this
   ·exact t3 (fun x hx=>z x<|.tail _ hx) u hu
  ·rcases ZU.mp hu with rfl | hu
   ·have:=z _ (.head _);unfold f8 at this;split at this
    ·rename_i q;cases q;obtain⟨a',o',_,_,e',k1,k2,_⟩:=g5;exact⟨a',o',e',k1,k2⟩
    ·cases this
   ·exact t4 (fun x hx=>z x<|.tail _ hx) u hu
end
section
variable{X:Cx}
theorem aj.pick{H:Hp}{ys:List V}(h:aj H ds ys):∀ {p:List Nat},(∀ k∈p,k<ds.length)->aj H (p.map fun i=>ds.getD i .h_) (p.map fun i=>ys.getD i .h_)
 | [],_=>rfl
 | k::p,hp=>by
  obtain⟨v,e1,e2⟩:=h.get (i:=k) (d:=ds.getD k .h_) (by
   have:=hp k (.head _);rw[Z6,ZV this];rfl)
  refine⟨v,_,?_,e2,h.pick fun j hj=>hp j<|.tail _ hj⟩;rw[ZH,Z6,e1];rfl
structure ER(ds:List Im):Prop where
 ord:FM ds
 fst:(∀ d∈ds,cJ d=true)\/(∀ d∈ds,f8 d=true)
theorem ER.tup(o:ER ds):∀ d∈ds,∃ r,d=.tup r:=fun d hd=>by
 rcases o.fst with z | z
 ·have:=z d hd;unfold cJ at this;split at this
  ·exact⟨_,rfl⟩
  ·cases this
 ·have:=z d hd;unfold f8 at this;split at this
  ·exact⟨_,rfl⟩
  ·cases this
theorem aF.E8{h h':Heap}(k:∀ b o,h.get? b=some o->h'.get? b=some o){ds:List Im}{vs:List Value}(x:aF h ds vs):aF h' ds vs:=x.keep fun a o _ _ e _ _=>k a o e
theorem nA{h:Heap}{s:Shared}(o:ER ds)(h2:2<=e_.length)(iv:aF s.heap ds e_)(A:Around)(E:Value->Shared->Prop)(Q:SortKind->Shared->Prop)(hq:Q (tuples'<|decide (∀ d∈ds,cJ d=true)) s):
  wpAny (model X.prog X.w) A (keyKind' e_.toArray) Q E s:=by
 obtain⟨fs,t1,t2,t3,t4⟩:=sk iv o.fst;have hl:=iv.length;by_cases hf:∀ d∈ds,cJ d=true
 ·rw[Zu hf] at hq;refine kat_kind (T:=Value.type "int") t1 (by lia) (fun v hv=>?_) rfl ?_
  ·obtain⟨i,t,rfl⟩:=t3 hf v hv;exact Looks.of_pure rfl
  ·rw[show (Value.type "int" != Value.type "tuple")=true by decide];exact hq
 ·rw[Zl hf] at hq;have RA:=o.fst.resolve_left hf;refine kat_kind (T:=Value.type "tuple") t1 (by lia) (fun v hv=>?_) rfl ?_
  ·obtain⟨a,ob,rfl,g1,g2⟩:=t4 RA v hv;have:Looks (model X.prog X.w) s.heap (typeOf<|.ref a) ob.cls:=(Looks.ld g1).andThen .now;rw[g2] at this;exact this
  ·rw[show (Value.type "tuple" != Value.type "tuple")=false by decide];exact hq
theorem sq(hc:X.calm=true)(hu:X.A.units+20<cLine):aQ X (.builtin "sorted") (fun xs H Q=>∃ (a:Addr) (ds:List Im) (ys:List V),xs=[.ref a]/\(EL X.K H a ys\/y_ X.K H a ys)/\aj H ds ys/\ER ds/\
  ∀ l zs,H l=none->aj H (bL u_ ds) zs->Q (.ref l) (upd H l<|.lst zs)):=by
 intro pins s σ H xs us Q I r h;obtain⟨a,ds,ys,rfl,hs,hi,o,q⟩:=h;obtain⟨u,rfl,ru⟩:=bM r;cases ru;have hz:ys.length<=1000:=by rw[<- hi.length];exact o.ord.Kv
 have go:∀ {T:String}{e_:List Value}{n:Nat}{ob:Obj},(T = "list" \/ T = "tuple")->au ys e_->s.heap.get? a=some ob->ob.cls=.type T->ob.data=.seq e_.toArray n->wpAny (model X.prog X.w) X.A (call (.builtin "sorted") [.ref a]) (EP X pins σ Q) X.xe s:=by
  intro T e_ n ob hT rv e eC eD;have iv:=hi.Gq I.i_ rv;have li:e_.length=ds.length:=iv.length.symm;refine rj hc (dQ ds) (tuples'<|decide (∀ d∈ds,cJ d=true)) I rv hT e eC eD hz (fun h2 h6 tk k A E Q hq=>nA (h:=h6) o h2 (iv.E8 k) A E Q hq) (fun h6 tk k=>?_) (by rw[li];exact kA o.ord) (.inl (by have:=o.ord.Kv;lia)) fun p l r1 r2 fl=>?_
  ·refine nv (s:={ s with heap:=h6,toks:=tk }) o.ord (iv.E8 k) o.tup (fun hb=>?_) (by show X.A.units+1+1+9<cLine;lia);exact Zn hb
  ·rw[li] at r1 r2;have e1:(p.toList.map fun i=>ds.getD i .h_)=bL u_ ds:=kD o.ord (kf r1) (Ov o.ord r1 r2);refine q l _ fl ?_;rw[<- e1];exact hi.pick fun k hk=>Zh.mp (r1.mem_iff.mp hk)
 rcases hs with hs | hs
 ·obtain⟨e_,rv,p,_⟩:=I.list hs;obtain⟨ob,e,eC,n,eD⟩:=p.isList;exact go (.inl rfl) rv e eC eD
 ·obtain⟨e_,rv,p,_⟩:=I.tuple hs;obtain⟨ob,e,eC,n,eD⟩:=p;exact go (.inr rfl) rv e eC eD
end
section
variable{X:Cx}
theorem sr{H:Hp}:∀ {kvs:List (List Im×V)}{es:List (List Im×Addr×Value)},Paired (fun (p:List Im×V) (q:List Im×Addr×Value)=>p.1=q.1/\HW H p.1 q.2.1/\av p.2 q.2.2) kvs es->
  aj H (kvs.map fun p=>.tup p.1) (es.map fun x=>V.ref x.2.1)/\au (es.map fun x=>V.ref x.2.1) (es.map fun x=>Value.ref x.2.1)
 | _,_,.nil=>⟨rfl,.nil⟩
 | _,_,.cons r t=>by
  obtain⟨h1,h2⟩:=sr t;exact⟨⟨_,_,rfl,r.2.1.2,h1⟩,.cons rfl h2⟩
theorem z0(hc:X.calm=true)(hu:X.A.units+20<cLine):aQ X (.builtin "sorted") (fun xs H Q=>∃ (d:Addr) (kvs:List (List Im×V)),xs=[.ref d]/\H d=some (.dT kvs)/\ER (kvs.map fun p=>.tup p.1)/\
  ∀ l zs,H l=none->aj H (bL u_<|kvs.map fun p=>.tup p.1) zs->Q (.ref l) (upd H l<|.lst zs)):=by
 intro pins s σ H xs us Q I r h;obtain⟨d,kvs,rfl,hd,so,q⟩:=h;obtain⟨u,rfl,ru⟩:=bM r;cases ru;obtain⟨z,lo,es,rel,o,RB,ep,e1,e2,e3,e4,nd⟩:=I.i_ d _ hd;obtain⟨hi,rv⟩:=sr rel;have P0:HG s.heap d (es.map fun x=>Value.ref x.2.1) ep:=⟨o,RB,e1,e2,e3,by rw[e4,Yw];rfl⟩;generalize (es.map fun x=>Value.ref x.2.1)=e_ at rv P0;generalize (es.map fun x=>V.ref x.2.1)=ys at hi rv;generalize J8:(kvs.map fun p=>Im.tup p.1)=ds at hi so q;have iv:=hi.Gq I.i_ rv;have li:e_.length=ds.length:=iv.length.symm;have Kv:=so.ord.Kv;have hl:ys.length=e_.length:=rv.length;have L_:e_.length<=sizeLine:=Zg (by lia) (show 1000<=sizeLine by decide);refine XY kind_sorted plain_sorted entry_sorted (args_sorted1 _) ?z
 case z=>
  unfold Builtin.«sorted»;refine Z9 (m:=checkCount "sorted" 1 1 _) (Z4<|Z9<|kdu_collect (A:=X.A.in1) (yt lo) (I.ok.hd hc) P0 L_ fun h' tk acc Jo Fy=>?_);have ea:acc.toList=e_:=by
   apply V1
   ·rw[ZO];exact Fy.1
   ·intro i h1 h2;have:=Fy.2 i acc.toList[i] (by rw[<- ZC];exact ZV h1);have this:e_[i]?=some acc.toList[i]:=this;rw[ZV h2] at this;exact (Zr this).symm
  rw[ea];refine Z9 (V7 ?_ L_);have oB:(h'.push<|seqObj "list" e_.toArray 0).get? h'.objs.size=some (seqObj "list" e_.toArray 0):=ZN _ rfl;have kB:∀ b o,s.heap.get? b=some o->(h'.push<|seqObj "list" e_.toArray 0).get? b=some o:=fun b o e=>Z5 _ (Jo b o e);have I1:Inv X pins σ H { s with heap:=h',toks:=tk }:=I.kept Jo;have nB:∀ b o,s.heap.get? b=some o->b≠h'.objs.size:=fun b o e=>ZB (ZP<|Jo b o e);refine Z9 (Y1<|Zd slot_list_sort ⟨_,oB,rfl⟩ entry_list_sort ?y<|args_list_sort _)
  case y=>
   refine m7 (s:={ s with heap:=h'.push (seqObj "list" e_.toArray 0),toks:=tk }) (dQ ds) (tuples'<|decide (∀ d∈ds,cJ d=true)) oB
    (fun h2 h6 k6 Q hq=>nA (X:=X) (h:=h6) so h2 (iv.E8 fun b o eb=>k6 b o (nB b o eb)<|kB b o eb) _ _ Q hq)
    (fun h6 k6=>nv (s:={ s with heap:=h6,toks:=tk }) so.ord (iv.E8 fun b o eb=>k6 b o (nB b o eb)<|kB b o eb) so.tup (fun hb=>Zn hb) (by show X.A.units+1+1+9<cLine;lia))
    (by rw[li];exact kA so.ord) (.inl (by lia)) (by lia) fun p h2 r1 r2 k2 ⟨e9,Ma⟩=>⟨_,rfl,Z4 ⟨_,rfl,?_⟩⟩;have fB:H h'.objs.size=none:=I1.i_.fresh (ZR _);have Om:∀ b o,h'.get? b=some o->b≠h'.objs.size:=fun b o e=>ZB (ZP e);rw[li] at r1 r2;refine⟨.ref h'.objs.size,upd H h'.objs.size<|.lst<|p.toList.map fun i=>ys.getD i .h_,?_,rfl,q _ _ fB ?_⟩
   ·refine I1.laid (t':=tk) (fun b u e=>k2 b u (Om b u e)<|Z5 _ e) (ZR _) ⟨?_,_,e9,?_,Ma⟩
    ·rw[Z3,ZO,r1.size];lia
    ·refine kg (by simp) fun i v u h1 h2=>?_;rw[Zy] at h1 h2;cases Iy:p.toList[i]? with
     | none=>rw[Iy] at h1;cases h1
     | some k=>
      rw[Iy] at h1 h2;cases h1;cases h2;have hk:k<e_.length:=by rw[li];exact Zh.mp (r1.mem_iff.mp<|Zt Iy)
      obtain⟨u,h3,h4⟩:=rv.get (i:=k) (x:=ys[k]'(by lia)) (by simp[show k<ys.length by lia]);rw[ZV hk] at h3;have h3:=Zr h3;simp only[List.getD,ZV hk,ZV (show k<ys.length by lia),Xf];rw[h3];exact h4
   ·rw[<- kD so.ord (kf r1) (Ov so.ord r1 r2)];exact hi.pick fun k hk=>Zh.mp (r1.mem_iff.mp hk)
def jb(ds:List Im):Bool:=decide (ds.length<=1000) && ds.all (fun a=>ds.all fun b=>bY 6 a b) && decide ds.Nodup && (ds.all cJ || ds.all f8)
theorem kF:jb ds=true↔ER ds:=by
 unfold jb;rw[ZQ,ZQ,ZQ,VH,Yv,Yv,YG,YG,YG];constructor
 ·rintro⟨⟨⟨h1,h2⟩,h3⟩,h4⟩;exact⟨⟨h1,fun a ha b hb=>YG.mp (h2 a ha) b hb,h3⟩,h4⟩
 ·rintro⟨⟨h1,h2,h3⟩,h4⟩;exact⟨⟨⟨h1,fun a ha=>YG.mpr fun b hb=>h2 a ha b hb⟩,h3⟩,h4⟩
def dR(ds:List Im):Option Vl:=if jb ds=true then some (.lst<|bL u_ ds) else none
def z_:OpN:=fun ds=>match ds with
 | [.lst x]=>match E4 x with
  | some ns=>vSorted [.lst x]
  | none=>dR x
 | [.im (.tup x)]=>dR x
 | [.dT kvs]=>dR (kvs.map fun p=>.tup p.1)
 | _=>none
theorem nE{d:Vl}(h:dR ds=some d):ER ds/\d=.lst (bL u_ ds):=by
 unfold dR at h;split at h
 ·rename_i e;cases h;exact⟨kF.mp e,rfl⟩
 ·cases h
theorem ss{H:Hp}:∀ {kvs:List (List Im×Im)}{EX:List (List Im×V)},Gc H kvs EX->(kvs.map fun p=>Im.tup p.1)=EX.map fun p=>Im.tup p.1
 | _,_,.nil=>rfl
 | _,_,.cons r t=>by rw[ZH,ZH,ss t,r.1]
theorem gZ(hc:X.calm=true)(hu:X.A.units+20<cLine):bT X (.builtin "sorted") z_:=by
 intro pins s σ H xs us Q I r ⟨ds,d,rd,e,q⟩;unfold z_ at e;split at e
 ·rename_i x;split at e
  ·exact zC hc hu pins s σ H xs us Q I r ⟨_,d,rd,e,q⟩
  ·obtain⟨so,rfl⟩:=nE e;obtain⟨v,rfl,_,p,ys,rfl,h1,h2,_⟩:=bF rd;exact sq hc hu pins s σ H _ us Q I r ⟨p,x,ys,rfl,.inl<|EL.of h1,h2,so,fun l zs fl hz=>Out.l q fl hz⟩
 ·rename_i x;obtain⟨so,rfl⟩:=nE e;obtain⟨v,rfl,hv⟩:=bF rd;obtain⟨p,ys,rfl,h1,h2⟩:=hv.i;exact sq hc hu pins s σ H _ us Q I r ⟨p,x,ys,rfl,.inr<|y_.of h1,h2,so,fun l zs fl hz=>Out.l q fl hz⟩
 ·rename_i kvs;obtain⟨so,rfl⟩:=nE e;obtain⟨v,rfl,_,p,EX,rfl,h1,h2,_⟩:=bF rd;rw[ss h2] at so q;exact z0 hc hu pins s σ H _ us Q I r ⟨p,EX,rfl,h1,so,fun l zs fl hz=>Out.l q fl hz⟩
 ·cases e
end
end L2
namespace PySem
open Sem (wp)
end PySem
namespace PySem
namespace F
end F
end PySem
namespace L2
open PySem PySem.Spec PyProof.Rows PySem.W
section
variable{X:Cx}{pins:List (Addr×Obj)}{σ:L2.St}{H:Hp}{s0:Shared}
end
section
variable{X:Cx}
end
section
variable{prog:Program}{w:World}{A:Around}{E:Value->Shared->Prop}{s:Shared}
end
section
variable{prog:Program}{w:World}{A:Around}{E:Value->Shared->Prop}{s:Shared}
end
section
open PySem.SeqAt
open PySem.AutoSeq1 (wpAny_loadPart')
open PySem.MeetsSeq PySem.MeetsSeq2 PySem.MeetsSeq3
end
section
variable{X:Cx}
end
section
variable{prog:Program}{w:World}{A:Around}{E:Value->Shared->Prop}{s:Shared}
end
section
variable{prog:Program}{w:World}{A:Around}{E:Value->Shared->Prop}{s:Shared}
end
section
variable{X:Cx}
end
section
variable{X:Cx}
end
mutual
def Nd:Im->PyData
 | .int i=>.int i
 | .bl b=>.bool b
 | .str x=>.str x
 | .tup ds=>.tuple (jc ds)
 | _=>.none
def jc:List Im->List PyData
 | []=>[]
 | d::r=>Nd d::jc r
end
mutual
theorem z9{h:Heap}:∀ {n:Nat}{d:Im}{u:Value},Im.pl n d=true->E_ h d u->Reads h u (Nd d) []
 | _,.h_,u,_,e=>by cases (show u=.none from e);exact .none
 | _,.bl b,u,_,e=>by cases (show u=.bool b from e);exact .bool b
 | _,.int i,u,_,e=>by obtain⟨t,rfl⟩:=e;exact .int i t
 | _,.str x,u,_,e=>by obtain⟨t,rfl⟩:=e;exact .str x t
 | n+1,.tup ds,u,k,e=>by
  obtain⟨a,o,items,m,rfl,h1,h2,h3,h4⟩:=e;exact .tuple h1 h2 h3 (su (n:=n) k h4)
 | 0,.tup ds,u,k,e=>by cases k
 | n,.fn a,u,k,e=>by cases n<;>cases k
 | n,.fl a,u,k,e=>by cases n<;>cases k
 | n,.fd,u,k,e=>by cases n<;>cases k
theorem su{h:Heap}:∀ {n:Nat}{ds:List Im}{us:List Value},Im.pls n ds=true->aF h ds us->ReadsAll h us (jc ds) []
 | _,[],us,_,e=>by rw[show us=[] from e];exact .nil
 | n,d::ds,us,k,e=>by
  obtain⟨v,r,rfl,h1,h2⟩:=e;rw[Im.pls,ZQ] at k;exact .cons (z9 k.1 h1) (su k.2 h2)
end
mutual
theorem Aa:∀ d:Im,PyData.hasDict (Nd d)=false
 | .h_=>rfl
 | .bl _=>rfl
 | .int _=>rfl
 | .str _=>rfl
 | .fn _=>rfl
 | .fl _=>rfl
 | .fd=>rfl
 | .tup ds=>sv ds
theorem sv:∀ ds:List Im,PyData.hasDictAll (jc ds)=false
 | []=>rfl
 | d::r=>by
  show (PyData.hasDict (Nd d) || PyData.hasDictAll (jc r))=false;rw[Aa d,sv r];rfl
end
section
variable{X:Cx}
end
section
variable{prog:Program}{w:World}{A:Around}{E:Value->Shared->Prop}{s:Shared}
end
section
variable{X:Cx}
end
end L2
namespace G
open PySem L2
variable{c b a:Int×Int}{ks:List (Int×Int)}{h:Vl}{n:Nat}
noncomputable def Ab:MS:=(am (sIf (kB<|ae vGt (oV<|ae vIx (oSl 0)<|oV<|eC<|.int 0)<|oV<|eC<|.int 0) (am (aw 2<|ae vMod (oV<|ae vIx (oSl 0)<|oV<|eC<|.int 0)<|oSl 1)<|am (bv (ae vDiv (oV<|ae vIx (oSl 0)<|oV<|eC<|.int 0)<|oSl 1)<|gIx 0 (eC<|.int 0) putV)<|aI<|bD 2) sNil)<|am (bv (ae vAdd (oV<|ae vIx (oSl 0)<|oV<|eC<|.int 2)<|oV<|eC<|.int 1)<|gIx 0 (eC<|.int 2) putV)<|am (aw 3<|ae vMod (oV<|ae vMul (oV<|ae vAdd (oV<|ae vIx (oSl 0)<|oV<|eC<|.int 1)<|oV<|ae vMul (oV<|ae vIx (oSl 0)<|oV<|eC<|.int 2)<|oV<|eC<|.int 104729)<|oV<|eC<|.int 48271)<|oV<|eC<|.int 2305843009213693951)<|am (bv (ae vMod (oV<|ae vMul (oSl 3)<|oV<|ae vAdd (oV<|ae vMod (oSl 3)<|oV<|eC<|.int 1009)<|oV<|eC<|.int 69621)<|oV<|eC<|.int 2305843009213693951)<|gIx 0 (eC<|.int 1) putV)<|aI<|ae vMod (oV<|ae vDiv (oV<|ae vIx (oSl 0)<|oV<|eC<|.int 1)<|oV<|eC<|.int 1000003)<|oSl 1)
noncomputable def jd:Fn:=bb 2 4 [0,1] Ab
noncomputable def Ac:MS:=(aI<|bf<|aa (oV<|aC<|aa (oV<|ae vSub (oV<|ae vIx (oSl 0)<|oV<|eC<|.int 0)<|oV<|eC<|.int 1)<|aa (oV<|ae vIx (oSl 0)<|oV<|eC<|.int 1) aNil)<|aa (oV<|aC<|aa (oV<|ae vIx (oSl 0)<|oV<|eC<|.int 0)<|aa (oV<|ae vSub (oV<|ae vIx (oSl 0)<|oV<|eC<|.int 1)<|oV<|eC<|.int 1) aNil)<|aa (oV<|aC<|aa (oV<|ae vIx (oSl 0)<|oV<|eC<|.int 0)<|aa (oV<|ae vAdd (oV<|ae vIx (oSl 0)<|oV<|eC<|.int 1)<|oV<|eC<|.int 1) aNil)<|aa (oV<|aC<|aa (oV<|ae vAdd (oV<|ae vIx (oSl 0)<|oV<|eC<|.int 0)<|oV<|eC<|.int 1)<|aa (oV<|ae vIx (oSl 0)<|oV<|eC<|.int 1) aNil) aNil)
noncomputable def Ad:Fn:=bb 1 1 [0] Ac
noncomputable def Ae:MS:=(am (aw 4<|ae vIx (oV<|ao 1 G.Ad<|aa (oV<|ae vIx (oSl 2)<|oV<|ao 2 G.jd<|aa (oSl 0)<|aa (oV<|ak vLen<|aa (oSl 2) aNil) aNil) aNil)<|oV<|ao 2 G.jd<|aa (oSl 0)<|aa (oV<|eC<|.int 4) aNil)<|sIf (aT (kB<|ae vNotIn (oSl 4)<|oSl 2)<|aT (kB<|di vLe vLe (oV<|eC<|.int 0) (oV<|ae vIx (oSl 4)<|oV<|eC<|.int 0)<|oV<|eC<|.int 24)<|kB<|di vLe vLe (oV<|eC<|.int 0) (oV<|ae vIx (oSl 4)<|oV<|eC<|.int 1)<|oV<|eC<|.int 24) (dO<|dh fm 2 mAppend<|aa (oSl 4) aNil) sNil)
noncomputable def Af:MS:=(am (aw 2<|bf<|aa (oV<|aC<|aa (oV<|eC<|.int 12)<|aa (oV<|eC<|.int 12) aNil) aNil)<|am (cV (iR1<|aa (oV<|ao 2 G.jd<|aa (oSl 0)<|aa (oSl 1) aNil) aNil) (gN 3) G.Ae)<|aI<|bD 2)
noncomputable def Ag:Fn:=bb 2 5 [0,1] Af
noncomputable def Ah:MS:=(dO<|dh fm 5 zv<|aa (oV<|ao 2 G.jd<|aa (oSl 0)<|aa (oV<|ak vLen<|aa (oSl 5) aNil) aNil) aNil)
noncomputable def Ai:M Vl:=(bD 0)
noncomputable def Aj:M Bool:=(kB<|ae vEq (oV<|ae vMul (oV<|ae vMod (oV<|ae vIx (oSl 0)<|oV<|eC<|.int 0)<|oV<|eC<|.int 2)<|oV<|ae vMod (oV<|ae vMod (oV<|ae vIx (oSl 0)<|oV<|eC<|.int 1)<|oV<|eC<|.int 3)<|oV<|eC<|.int 2)<|oV<|eC<|.int 0)
abbrev iI(i:Int):Vl:=.im (.int i)
def cM(p:Int×Int):Im:=.tup [.int p.1,.int p.2]
abbrev cT(ps:List (Int×Int)):Vl:=.im (.tup<|ps.map cM)
abbrev cL(ps:List (Int×Int)):Vl:=.lst (ps.map cM)
abbrev lf(d s t:Int):Vl:=.lst [.int d,.int s,.int t]
def Gw(n:Nat)(h:Vl):Prop:=∃ d s t,h=lf d s t/\0<=d/\0<=s/\s<2 ^ 62/\0<=t/\t+n<2 ^ 40
theorem Gw.mono{m:Nat}(x:Gw n h)(e:m<=n):Gw m h:=by
 obtain⟨d,s,t,rfl,h1,h2,h3,h4,h5⟩:=x;exact⟨d,s,t,rfl,h1,h2,h3,h4,by lia⟩
theorem Gw.lst(x:Gw n h):∃ q,h=.lst q:=by
 obtain⟨d,s,t,rfl,_⟩:=x;exact⟨_,rfl⟩
def kM(p:Int×Int):List Im:=[.int p.1,.int p.2]
theorem sw(p:Int×Int):cM p=.tup (kM p):=rfl
theorem nF(h:kM a=kM b):a=b:=by
 unfold kM at h;simp at h;exact Xn h.1 h.2
theorem Ak(h:cM a=cM b):a=b:=by
 rw[sw,sw] at h;exact nF (by injection h)
theorem Al(p:Int×Int):Im.keys 7 (kM p)=true:=rfl
def uC:Im->Int×Int
 | .tup [.int a,.int b]=>(a,b)
 | _=>(0,0)
theorem sx(p:Int×Int):uC (cM p)=p:=rfl
theorem sy(p:Int×Int):Im.pl 8 (cM p)=true:=rfl
theorem kG:∀ ps:List (Int×Int),Im.pls 8 (ps.map cM)=true
 | []=>rfl
 | p::r=>by rw[ZH,Im.pls,sy,kG r];rfl
theorem nG(a b:Int×Int):az (cM a) (cM b)=decide (a=b):=by
 show ((a.1 == b.1) && ((a.2 == b.2) && true))=_;obtain⟨a1,a2⟩:=a;obtain⟨b1,b2⟩:=b;by_cases h1:a1=b1<;>by_cases h2:a2=b2<;>simp[h1,h2]
theorem Am(ps:List (Int×Int))(c:Int×Int):((ps.map cM).any fun x=>az x<|cM c)=decide (c∈ps):=by
 rw[Vq,VM,List.any_eq_true,Yv];constructor
 ·rintro⟨x,hx,e⟩;have:decide (x=c)=true:=by rw[<- nG];exact e
  rw[<- Zn this];exact hx
 ·intro h;refine⟨c,h,?_⟩;show az (cM c) (cM c)=true;rw[nG];exact Zu rfl
theorem sD:∀ (l:List Im) (ks:List (Int×Int)),(∀ x∈l,x∈ks.map cM)->l=(l.map uC).map cM
 | [],_,_=>rfl
 | x::l,ks,h=>by
  obtain⟨p,_,e⟩:=Ze.mp (h x<|.head _);rw[ZH,ZH,<- sD l ks fun y hy=>h y<|.tail _ hy,<- e,sx]
theorem sE{l:List Im}(h:l.Perm (ks.map cM)):∃ ms:List (Int×Int),ms.Perm ks/\l=ms.map cM:=by
 refine⟨l.map uC,?_,sD l ks fun x hx=>h.mem_iff.mp hx⟩;have:=Vv uC h;rw[Yw] at this;have e:(uC ∘ cM:Int×Int->Int×Int)=id:=funext sx;rw[e,List.map_id] at this;exact this
theorem kJ(nd:ks.Nodup)(hl:ks.length<=1000):ER (ks.map cM):=by
 refine⟨⟨by rw[Z3];exact hl,fun a ha b hb=>?_,?_⟩,.inl fun d hd=>?_⟩
 ·obtain⟨x,_,rfl⟩:=Ze.mp ha;obtain⟨y,_,rfl⟩:=Ze.mp hb;rfl
 ·exact List.Pairwise.map cM (fun a b n e=>n<|Ak e) nd
 ·obtain⟨x,_,rfl⟩:=Ze.mp hd;rfl
def mt(ks:List (Int×Int)):List (List Im×Im):=ks.map fun c=>(kM c,.bl true)
theorem sF(ks:List (Int×Int))(c:Int×Int):((mt ks).any fun p=>decide (p.1=kM c))=decide (c∈ks):=by
 unfold mt;rw[Vq,VM,List.any_eq_true,Yv];constructor
 ·rintro⟨x,hx,e⟩;have:kM x=kM c:=Zn e;rw[<- nF this];exact hx
 ·intro h;exact⟨c,h,Zu rfl⟩
theorem An(h:c∉ks):fu (mt ks) (kM c) (.bl true)=mt (ks++[c]):=by
 unfold fu;rw[ZY (by rw[sF];simpa using h)];unfold mt;rw[YI];rfl
theorem Ao{α:Type}{ws:List α}(h:ws≠[]):∃ w' w,ws=w'++[w]:=⟨ws.dropLast,ws.getLast h,(List.dropLast_concat_getLast h).symm⟩
theorem Ow(p:Int×Int):Fw [Im.int p.1,.int p.2] 0=some (.int p.1):=rfl
theorem RD(p:Int×Int):Fw [Im.int p.1,.int p.2] 1=some (.int p.2):=rfl
theorem atC{cs:List (Int×Int)}{i:Int}(h0:0<=i)(h:cs[i.toNat]?=some c):Fw (cs.map cM) i=some (cM c):=rH h0 (by rw[Zy,h];rfl)
theorem nH(ps:List (Int×Int))(c:Int×Int):inB (cM c) (cL ps)=some (decide (c∈ps)):=by
 rw[zS,sy,kG,Am];rfl
noncomputable def mid:MS:=(sIf (kOr (kB<|ae vEq (oSl 2)<|oV<|eC<|.int 1)<|kB<|ae vEq (oSl 2)<|oV<|eC<|.int 2) (cV (iR1<|aa (oV<|ao 2 G.jd<|aa (oSl 0)<|aa (oV<|ae vAdd (oV<|eC<|.int 1)<|oV<|ae vDiv (oV<|ak vLen<|aa (oSl 5) aNil)<|oV<|eC<|.int 2) aNil) aNil) (gN 6) G.Ah)<|sIf (kB<|ae vEq (oSl 2)<|oV<|eC<|.int 3) (aw 5<|aP 1 [] (ba<|oSl 5) (gN 0) G.Aj G.Ai)<|sIf (kB<|ae vGt (oSl 2)<|oV<|eC<|.int 3) (aw 5<|ao 2 G.Ag<|aa (oSl 0)<|aa (oSl 1) aNil) sNil)
abbrev Ed:=(Int×Int)×(Int×Int)
def kE(e:Ed):List Im:=[cM e.1,cM e.2]
def bump:List (Ed×Int)->Ed->List (Ed×Int)
 | [],e=>[(e,1)]
 | (f,n)::r,e=>if f=e then (f,n+1)::r else (f,n)::bump r e
end G
namespace L2
open PySem PySem.Spec PyProof.Rows PySem.W
section
variable{X:Cx}
end
section
variable{X:Cx}{kt:List (Addr×List Im)}{kd:List (Addr×List (List Im×Addr))}
end
variable{K:PySem.W.Frag}{P:Program}{w:World}
end L2
namespace L2
open PySem PySem.Spec PyProof.Rows PySem.W
def JJ(D:SD)(i:Nat)(ds:List Im):Bool:=match D[i]? with
 | some (some<|.lst y)=>decide (y=ds)
 | _=>false
theorem sG{D:SD}{i:Nat}{ds:List Im}(h:JJ D i ds=true):D[i]?=some (some<|.lst ds):=by
 unfold JJ at h;split at h
 ·rename_i y e;rw[e,Zn h]
 ·cases h
section
variable{X:Cx}
end
end L2
namespace G
open PySem L2
noncomputable def sH:MS:=(aI<|aC<|aa (oV<|ae vSub (oV<|ae vIx (oSl 1)<|oV<|eC<|.int 0)<|oV<|ae vMod (oV<|ae vSub (oV<|ae vIx (oSl 1)<|oV<|eC<|.int 0)<|oV<|ae vIx (oV<|ae vIx (oSl 0)<|oV<|eC<|.int 0)<|oV<|eC<|.int 0)<|oV<|eC<|.int 2)<|aa (oV<|ae vSub (oV<|ae vIx (oSl 1)<|oV<|eC<|.int 1)<|oV<|ae vMod (oV<|ae vSub (oV<|ae vIx (oSl 1)<|oV<|eC<|.int 1)<|oV<|ae vIx (oV<|ae vIx (oSl 0)<|oV<|eC<|.int 0)<|oV<|eC<|.int 1)<|oV<|eC<|.int 2) aNil)
noncomputable def g9:Fn:=bb 2 2 [0,1] sH
noncomputable def nJ:MS:=(am (sIf (kB<|ae vLt (oSl 1)<|oV<|ak vLen<|aa (oSl 0) aNil) (aI<|ae vIx (oSl 0)<|oSl 1) sNil)<|aI<|eC<|.int 0)
noncomputable def hU:Fn:=bb 2 2 [0,1] nJ
noncomputable def sI:MS:=(am (aw 2<|ao 2 G.hU<|aa (oSl 0)<|aa (oSl 1) aNil)<|am (aw 3<|ae vMul (oV<|ae vMul (oV<|ae vPow (oV<|eC<|.int 10)<|oV<|eC<|.int 60)<|oV<|ae vPow (oV<|eC<|.int 10)<|oV<|eC<|.int 60)<|oV<|ae vPow (oV<|eC<|.int 10)<|oV<|eC<|.int 60)<|am (aw 4<|ae vMod (oV<|ae vMul (oV<|ae vAdd (oV<|ae vAdd (oV<|ae vMod (oSl 2)<|oV<|eC<|.int 2147483629)<|oV<|ae vMul (oV<|ae vMul (oV<|eC<|.int 7919)<|oSl 1)<|oSl 1)<|oV<|eC<|.int 11)<|oV<|eC<|.int 48271)<|oV<|eC<|.int 2147483647)<|aI<|bf<|aa (oV<|ae vMul (oV<|ae vMod (oSl 2)<|oSl 3)<|oV<|ak vInt<|aa (oV<|ae vGe (oSl 2)<|oV<|ae vPow (oV<|eC<|.int 10)<|oV<|eC<|.int 18) aNil)<|aa (oSl 4)<|aa (oV<|eC<|.int 0) aNil)
noncomputable def je:Fn:=bb 2 5 [0,1] sI
noncomputable def nK:MS:=(am (sIf (kB<|ae vGt (oV<|ae vIx (oSl 0)<|oV<|eC<|.int 0)<|oV<|eC<|.int 0) (am (aw 2<|ae vMod (oV<|ae vIx (oSl 0)<|oV<|eC<|.int 0)<|oSl 1)<|am (bv (ae vDiv (oV<|ae vIx (oSl 0)<|oV<|eC<|.int 0)<|oSl 1)<|gIx 0 (eC<|.int 0) putV)<|aI<|bD 2) sNil)<|am (bv (ae vAdd (oV<|ae vIx (oSl 0)<|oV<|eC<|.int 2)<|oV<|eC<|.int 1)<|gIx 0 (eC<|.int 2) putV)<|am (bv (ae vMod (oV<|ae vAdd (oV<|ae vAdd (oV<|ae vMul (oV<|ae vIx (oSl 0)<|oV<|eC<|.int 1)<|oV<|eC<|.int 48271)<|oV<|eC<|.int 12345)<|oV<|ae vMul (oV<|eC<|.int 7919)<|oV<|ae vIx (oSl 0)<|oV<|eC<|.int 2)<|oV<|eC<|.int 2147483647)<|gIx 0 (eC<|.int 1) putV)<|aI<|ae vMod (oV<|ae vDiv (oV<|ae vMod (oV<|ae vMul (oV<|ae vIx (oSl 0)<|oV<|eC<|.int 1)<|oV<|ae vIx (oSl 0)<|oV<|eC<|.int 1)<|oV<|eC<|.int 1999999973)<|oV<|eC<|.int 31)<|oSl 1)
noncomputable def aX:Fn:=bb 2 3 [0,1] nK
noncomputable def kK(rec:Fn):M Vl:=(ao 2 rec<|aa (oSl 0)<|aa (oSl 1) aNil)
noncomputable def kL(rec:Fn):MS:=(am (sIf (bx<|oV<|fW "tuple"<|oSl 1) (am (sIf (kOr (cS<|bx<|oV<|fW "tuple"<|oSl 0)<|kB<|ae vNe (oV<|ak vLen<|aa (oSl 0) aNil)<|oV<|ak vLen<|aa (oSl 1) aNil) (aI<|eC<|.bl false) sNil)<|aI<|ak vAll<|aa (oV<|aP 2 [] (iZ<|aa (oSl 0)<|aa (oSl 1) aNil) (gT 2<|aJ (gN 0)<|aJ (gN 1) gNil') kYes<|G.kK rec) aNil) sNil)<|am (sIf (bx<|oV<|fW "str"<|oSl 1) (aI<|eB<|aT (kB<|fW "str"<|oSl 0)<|kB<|ae vEq (oSl 0)<|oSl 1) sNil)<|aI<|eB<|aT (kB<|fW "int"<|oSl 0)<|aT (kB<|eB<|cS<|kB<|fW "bool"<|oSl 0)<|kB<|ae vEq (oSl 0)<|oSl 1)
noncomputable def bz:Nat->Fn
 | 0=>fun _=>none
 | k+1=>bb 2 2 [0,1] (kL<|bz k)
noncomputable def kN:MS:=(am (bv (ae vIx (oSl 2)<|oV<|ao 2 G.aX<|aa (oSl 0)<|aa (oV<|ak vLen<|aa (oSl 2) aNil) aNil)<|gT 2<|aJ (gN 4)<|aJ (gN 5) gNil')<|am (sIf (kB<|ae vEq (oV<|ao 2 G.aX<|aa (oSl 0)<|aa (oV<|eC<|.int 3) aNil)<|oV<|eC<|.int 0) (bv (ae vIx (oSl 2)<|oV<|ej<|eC<|.int 1)<|gT 2<|aJ (gN 4)<|aJ (gN 5) gNil') sNil)<|am (bv (ae vIx (oV<|bf<|aa (oV<|aC<|aa (oV<|eC<|.int 0)<|aa (oV<|eC<|.int 2) aNil)<|aa (oV<|aC<|aa (oV<|eC<|.int 2)<|aa (oV<|eC<|.int 0) aNil)<|aa (oV<|aC<|aa (oV<|eC<|.int 0)<|aa (oV<|ej<|eC<|.int 2) aNil)<|aa (oV<|aC<|aa (oV<|ej<|eC<|.int 2)<|aa (oV<|eC<|.int 0) aNil) aNil)<|oV<|ao 2 G.aX<|aa (oSl 0)<|aa (oV<|eC<|.int 4) aNil)<|gT 2<|aJ (gN 6)<|aJ (gN 7) gNil')<|am (aw 8<|aC<|aa (oV<|ae vAdd (oSl 4)<|oSl 6)<|aa (oV<|ae vAdd (oSl 5)<|oSl 7) aNil)<|sIf (aT (kB<|ae vNotIn (oSl 8)<|oSl 2)<|aT (kB<|ae vLt (oV<|ak vLen<|aa (oSl 2) aNil)<|oSl 1)<|aT (kB<|di vLe vLe (oV<|eC<|.int 0) (oV<|ae vIx (oSl 8)<|oV<|eC<|.int 0)<|oV<|eC<|.int 29)<|kB<|di vLe vLe (oV<|eC<|.int 0) (oV<|ae vIx (oSl 8)<|oV<|eC<|.int 1)<|oV<|eC<|.int 29) (dO<|dh fm 2 mAppend<|aa (oSl 8) aNil) sNil)
noncomputable def sJ:MS:=(am (aw 1<|ae vAdd (oV<|eC<|.int 1)<|oV<|ao 2 G.aX<|aa (oSl 0)<|aa (oV<|ae vIx (oV<|bf<|aa (oV<|eC<|.int 3)<|aa (oV<|eC<|.int 8)<|aa (oV<|eC<|.int 14)<|aa (oV<|eC<|.int 40) aNil)<|oV<|ao 2 G.aX<|aa (oSl 0)<|aa (oV<|eC<|.int 4) aNil) aNil)<|am (aw 2<|bf<|aa (oV<|aC<|aa (oV<|ao 2 G.aX<|aa (oSl 0)<|aa (oV<|eC<|.int 30) aNil)<|aa (oV<|ao 2 G.aX<|aa (oSl 0)<|aa (oV<|eC<|.int 30) aNil) aNil) aNil)<|am (cV (iR1<|aa (oV<|ae vMul (oV<|eC<|.int 3)<|oSl 1) aNil) (gN 3) G.kN)<|aI<|ak z_<|aa (oSl 2) aNil)
noncomputable def jf:Fn:=bb 1 9 [0] sJ
noncomputable def sK:MS:=(am (bv (bD 0)<|gT 2<|aJ (gN 1)<|aJ (gN 2) gNil')<|aI<|bf<|aa (oV<|aC<|aa (oSl 1)<|aa (oSl 2) aNil)<|aa (oV<|aC<|aa (oSl 1)<|aa (oV<|ae vAdd (oSl 2)<|oV<|eC<|.int 1) aNil)<|aa (oV<|aC<|aa (oV<|ae vAdd (oSl 1)<|oV<|eC<|.int 1)<|aa (oV<|ae vAdd (oSl 2)<|oV<|eC<|.int 1) aNil)<|aa (oV<|aC<|aa (oV<|ae vAdd (oSl 1)<|oV<|eC<|.int 1)<|aa (oSl 2) aNil) aNil)
noncomputable def fC:Fn:=bb 1 3 [0] sK
noncomputable def kO:MS:=(dO<|dh fm 1 mExtend<|aa (oV<|ao 1 G.fC<|aa (oSl 2) aNil) aNil)
noncomputable def nL:MS:=(am (aw 1<|bf aNil)<|am (cV (ba<|oSl 0) (gN 2) G.kO)<|aI<|ak vTuple<|aa (oV<|ak z_<|aa (oSl 1) aNil) aNil)
noncomputable def dS:Fn:=bb 1 3 [0] nL
end G
namespace L2
open PySem PySem.Spec PyProof.Rows PySem.W
def uzV:Vl->Vl
 | .im (.fl x)=>.fz x
 | d=>d
@[simp] theorem Ev(x:List Im):uzV (.im<|.fl x)=.fz x:=rfl
@[simp] theorem Ew(x:List Im):uzV (.im<|.tup x)=.im (.tup x):=rfl
section
variable{X:Cx}
end
end L2
namespace L2
open PySem
section
variable{D D1 D2:SD}
variable{d:Vl}
theorem v_{g:M Vl}(h:g D=some (d,D1)):oV g D=some (.vl d,D1):=by unfold oV;rw[h];rfl
variable{x:Opd}
theorem a_{g:M Opd}{h:M (List Opd)}{xs:List Opd}(e1:g D=some (x,D1))(e2:h D1=some (xs,D2)):aa g h D=some (x::xs,D2):=by unfold aa;rw[e1];show (h D1).map _=_;rw[e2];rfl
variable{d1 d2:Vl}
theorem b_{op:Vl->Vl->Option Vl}{ga gb:M Opd}{y:Opd}(e1:ga D=some (x,D1))(e2:gb D1=some (y,D2))(e3:rsl D2 x=some d1)(e4:rsl D2 y=some d2)(e5:op d1 d2=some d):ae op ga gb D=some (d,D2):=by
 unfold ae;rw[e1];show (gb D1).bind _=_;rw[e2];show (rsl D2 x).bind _=_;rw[e3];show (rsl D2 y).bind _=_;rw[e4];show (op d1 d2).map _=_;rw[e5];rfl
variable{g:M (List Opd)}{n:Nat}{os:List Opd}{ds outs:List Vl}
theorem c_{G:Fn}{r:Vl}(e1:g D=some (os,D1))(e0:os.length=n)(e2:aY os D1=some (ds,D2))(e3:G ds=some (r,outs)):ao n G g D=some (r,wb os outs D2):=by
 unfold ao;rw[e1];show (if os.length=n then _ else _)=_;rw[ZZ e0];show (aY os D1).bind _=_;rw[e2];show (G ds).map _=_;rw[e3];rfl
theorem E9{op:List Vl->Option Vl}(e1:g D=some (os,D1))(e2:cj D1 os=some ds)(e3:op ds=some d):ak op g D=some (d,D1):=by
 unfold ak;rw[e1];show (cj D1 os).bind _=_;rw[e2];show (op ds).map _=_;rw[e3];rfl
variable{b:Bool}
theorem FN{g:M Vl}(e:g D=some (.im<|.bl b,D1)):kB g D=some (b,D1):=by unfold kB;rw[e];rfl
theorem P1{g:M Bool}(e:g D=some (b,D1)):cS g D=some (!b,D1):=by unfold cS;rw[e];rfl
theorem K7{g:M Opd}(e:g D=some (x,D1))(e2:rsl D1 x=some d)(e3:dw d=some b):bx g D=some (b,D1):=by
 unfold bx;rw[e];show (rsl D1 x).bind _=_;rw[e2];show (dw d).map _=_;rw[e3];rfl
theorem Jp{g:M Vl}{h:MG}(e:g D=some (d,D1))(e2:h d D1=some D2):bv g h D=some (.nx,D2):=by unfold bv;rw[e];show (h d D1).map _=_;rw[e2];rfl
theorem Nf{g:M Vl}(e:g D=some (d,D1)):dO g D=some (.nx,D1):=by unfold dO;rw[e];rfl
variable{D3:SD}
theorem Ng{ty:Vl->Bool}{i:Nat}{mt:Vl->List Vl->Option (Vl×Vl)}{c0 c r c':Vl}(e0:D[i]?=some (some c0))(e1:ty c0=true)(e2:g D=some (os,D1))(e3:aY os D1=some (ds,D2))(e4:D2[i]?=some (some c))(e5:mt c ds=some (r,c'))(k:D2.set i (some c')=D3):dh ty i mt g D=some (r,D3):=by
 subst k;unfold dh;rw[e0];show (if ty c0=true then _ else _)=_;rw[ZZ e1,e2];show (aY os D1).bind _=_;rw[e3];show (match D2[i]? with | some (some c)=>_ | _=>none)=_;rw[e4];show (mt c ds).map _=_;rw[e5];rfl
theorem K8(e1:g D=some (os,D1))(e2:aY os D1=some (ds,D2))(e3:ds.length<=100000)(k:mkT ds=d):aC g D=some (d,D2):=by
 unfold aC;rw[e1];show (aY os D1).bind _=_;rw[e2];show (if _ then _ else _)=_;rw[ZZ e3,k]
theorem JK(e1:g D=some (os,D1))(e2:aY os D1=some (ds,D2))(e3:ds.length<=100000)(k:mkL ds=d):bf g D=some (d,D2):=by
 unfold bf;rw[e1];show (aY os D1).bind _=_;rw[e2];show (if _ then _ else _)=_;rw[ZZ e3,k]
variable{i:Int}
theorem RE{g:M Vl}(e:g D=some (.im<|.int i,D1)):ej g D=some (.im<|.int<|-i,D1):=by unfold ej;rw[e];rfl
theorem P2{x:List Im}{d:Im}(h:x.length<100000):mAppend (.lst x) [.im d]=some (.im .h_,.lst<|x++[d]):=ZZ h
theorem hV(i j:Int):vEq (.im<|.int i) (.im<|.int j)=some (.im<|.bl<|decide (i=j)):=by
 show some (Vl.im<|.bl<|i == j)=_;by_cases h:i=j<;>simp[h]
theorem nM(i j:Int):vNe (.im<|.int i) (.im<|.int j)=some (.im<|.bl<|!decide (i=j)):=by
 show some (Vl.im<|.bl<|!(i == j))=_;by_cases h:i=j<;>simp[h]
variable{j:Int}
theorem dj(h:bW i j=true):vMul (.im<|.int i) (.im<|.int j)=some (.im<|.int<|i * j):=ZZ h
theorem dz(h:0<j):vMod (.im<|.int i) (.im<|.int j)=some (.im<|.int<|i % j):=ZZ (Zu h)
theorem sL(h:0<j)(h2:j<1073741824):vDiv (.im<|.int i) (.im<|.int j)=some (.im<|.int<|i / j):=ZZ (Zu (⟨h,h2⟩:0<j/\j<1073741824))
theorem sM(h:decide (0<=j/\j<=1000000/\i.natAbs<2 ^ 64)=true):vPow (.im<|.int i) (.im<|.int j)=some (.im<|.int<|i ^ j.toNat):=ZZ h
variable{r:Option (Fl×SD)}{b:MS}{c:M Bool}
theorem ic{a:MS}(e:c D=some (true,D1))(h:a D1=r):sIf c a b D=r:=(gU e).trans h
theorem cq{a:MS}(e:c D=some (false,D1))(h:b D1=r):sIf c a b D=r:=(km e).trans h
theorem EJ{g h:MS}(e:g D=some (.nx,D1))(k:h D1=r):am g h D=r:=(bG e).trans k
variable{i:Nat}
theorem bj{g:M Vl}(e:g D=some (d,D1))(h:i<D1.length)(k:D1.set i (some d)=D2):aw i g D=some (.nx,D2):=(rK e h).trans (by rw[k])
variable{xs:List Im}{tg:MG}{o:Option (Nat×Vl)}
theorem ie{g:MI}{fl:Fl}(e:g D=some ((xs,o),D1))(h:bo tg b xs D1=some (fl,D2))(k:rst o D2=D3):cV g tg b D=some (fl,D3):=(rJ e h).trans (by rw[k])
theorem Ox{own:Nat}{caps:List Nat}{gi:MI}{e:M Vl}{C':SD}{ds:List Im}(h1:gi D=some ((xs,o),D1))(h2:bP own tg c e xs [] (cW caps D1)=some (ds,C'))(k:rst o (cG caps C' D1)=D3):aP own caps gi tg c e D=some (.lst ds,D3):=(ft h1 h2).trans (by rw[k])
variable{b a:M Bool}
theorem Ap(e:a D=some (true,D1)):kOr a b D=some (true,D1):=by unfold kOr;rw[e];rfl
variable{r:Option (Bool×SD)}
theorem nN(e:a D=some (false,D1))(h:b D1=r):kOr a b D=r:=by unfold kOr;rw[e];exact h
theorem cZ(e:a D=some (true,D1))(h:b D1=r):aT a b D=r:=by unfold aT;rw[e];exact h
theorem ig(e:a D=some (false,D1)):aT a b D=some (false,D1):=by unfold aT;rw[e];rfl
theorem sN{j:Nat}(e1:g D=some (os,D1))(e2:aY os D1=some ([d1,d2],D2))(hi:i<D2.length)(hj:j<D2.length)(k:(D2.set i<|some d1).set j (some d2)=D3):fV i j g D=some (.nx,D3):=by
 unfold fV;rw[e1];show (aY os D1).bind _=_;rw[e2];show (if i<D2.length/\j<D2.length then _ else _)=_;rw[ZZ ⟨hi,hj⟩,k]
theorem P3{g:M Bool}{b:Bool}(e:g D=some (b,D1)):eB g D=some (.im<|.bl b,D1):=by unfold eB;rw[e];rfl
variable{r:Vl}
theorem d_{G:Fn}(e1:g D=some (os,D1))(e0:os.length=n)(e2:aY os D1=some (ds,D2))(e3:G ds=some (r,outs))(k:wb os outs D2=D3):ao n G g D=some (r,D3):=by rw[<- k];exact c_ e1 e0 e2 e3
theorem P4{g:M Bool}(e:g D=some (true,D1)):cS g D=some (false,D1):=P1 e
theorem P5{g:M Opd}{l h:M (Option Int)}{lo hi:Option Int}{d':Vl}(e1:g D=some (x,D1))(e2:l D1=some (lo,D2))(e3:h D2=some (hi,D3))(e4:rsl D3 x=some d)(e5:vSl d lo hi=some d'):eSl g l h D=some (d',D3):=by
 unfold eSl;rw[e1];show (l D1).bind _=_;rw[e2];show (h D2).bind _=_;rw[e3];show (rsl D3 x).bind _=_;rw[e4];show (vSl d lo hi).map _=_;rw[e5];rfl
theorem Oy(e1:g D=some (os,D1))(e2:cj D1 os=some [.im (.int j)])(h:gH j):iR1 g D=some ((bw 0 j.toNat,none),D1):=by
 unfold iR1;rw[e1];show (cj D1 os).bind _=_;rw[e2];show (if gH j then _ else _)=_;rw[ZZ h]
theorem cK{m:Nat}{fix:List Nat}{g:MS}(hl:ds.length=n)(e:g (ds.map some++List.replicate (m - n) none)=some (.rt r,D))(ho:dg fix ds D 0=outs):bb n m fix g ds=some (r,outs):=dy D hl e ho
end
end L2
namespace G
open PySem L2
variable{D:SD}{k m:Int}{ns:List Int}{h:Vl}{n:Nat}
abbrev Ce:=Int×Int
variable{B l ks bs:List Ce}{a o c b:Ce}
def cl(b:Ce):Nat->Ce
 | 0=>b
 | 1=>(b.1,b.2+1)
 | 2=>(b.1+1,b.2+1)
 | _=>(b.1+1,b.2)
def ot(b:Ce):Nat->Ce
 | 0=>(b.1 - 2,b.2)
 | 1=>(b.1,b.2+2)
 | 2=>(b.1+2,b.2)
 | _=>(b.1,b.2 - 2)
def ar(b:Ce):List Ce:=[b,(b.1,b.2+1),(b.1+1,b.2+1),(b.1+1,b.2)]
def jn(T:List Ed)(a b:Ce):Bool:=decide ((a,b)∈T\/(b,a)∈T)
def nx(T:List Ed)(p:Ce×Nat):Ce×Nat:=if jn T p.1 (ot p.1 p.2)=true then (ot p.1 p.2,(p.2+3) % 4) else (p.1,(p.2+1) % 4)
def px(T:List Ed)(p:Ce×Nat):Ce×Nat:=if jn T p.1 (ot p.1<|(p.2+3) % 4)=true then (ot p.1<|(p.2+3) % 4,(p.2+1) % 4) else (p.1,(p.2+3) % 4)
structure Kw(bs:List Ce):Prop where
 ne:bs≠[]
 nd:bs.Nodup
 len:bs.length<=40
 Jt:∀ b∈bs,0<=b.1/\b.1<=29/\0<=b.2/\b.2<=29
 par:∀ a∈bs,∀ b∈bs,(a.1 - b.1) % 2=0/\(a.2 - b.2) % 2=0
 con:∀ p:Ce->Ce,(∀ a∈bs,∀ b∈bs,(b=(a.1,a.2+2)\/b=(a.1+2,a.2))->p a=p b)->∀ a∈bs,∀ b∈bs,p a=p b
theorem dA:c∈ar b↔(c.1=b.1\/c.1=b.1+1)/\(c.2=b.2\/c.2=b.2+1):=by
 obtain⟨x,y⟩:=c;obtain⟨u,v⟩:=b;simp only[ar,ZU,Y9,W8,Prod.mk.injEq];constructor
 ·lia
 ·lia
theorem sO(b:Ce){k:Nat}(hk:k<4):cl b k∈ar b:=by
 match k,hk with
 | 0,_=>simp[cl,ar]
 | 1,_=>simp[cl,ar]
 | 2,_=>simp[cl,ar]
 | 3,_=>simp[cl,ar]
theorem Aq(h:c∈ar b):∃ k,k<4/\c=cl b k:=by
 simp only[ar,ZU,Y9,W8] at h;rcases h with h | h | h | h
 ·exact⟨0,by decide,h⟩
 ·exact⟨1,by decide,h⟩
 ·exact⟨2,by decide,h⟩
 ·exact⟨3,by decide,h⟩
theorem Kw.one(B:Kw bs){a b c:Ce}(ha:a∈bs)(hb:b∈bs)(h1:c∈ar a)(h2:c∈ar b):a=b:=by
 have p:=B.par a ha b hb;rw[dA] at h1 h2;exact Xn (by lia) (by lia)
def bl(o c:Ce):Ce:=(c.1 - (c.1 - o.1) % 2,c.2 - (c.2 - o.2) % 2)
def kk(o c:Ce):Nat:=if (c.1 - o.1) % 2=0 then (if (c.2 - o.2) % 2=0 then 0 else 1) else (if (c.2 - o.2) % 2=0 then 3 else 2)
def pc(p:Ce×Nat):Ce:=cl p.1 p.2
theorem sP{α:Type}[DecidableEq α]:∀ {l m:List α},l.Nodup->(∀ x∈l,x∈m)->m.length<=l.length->l.Perm m
 | [],m,_,_,h=>by rw[List.length_eq_zero_iff.mp (le_zero.mp h)]
 | x::l,m,nd,s,h=>by
  have hx:=s x (.head _);obtain⟨n1,n2⟩:=Y7.mp nd;have p:=List.perm_cons_erase hx;refine .trans (.cons x (sP n2 (fun y hy=>(Wt (fun e=>n1 (by rw[<- e];exact hy))).mpr<|s y<|.tail _ hy) ?_)) p.symm;have:=p.length_eq;simp at this h;lia
def cells(bs:List Ce):List Ce:=bs.flatMap ar
theorem sQ:c∈cells bs↔∃ b∈bs,∃ k,k<4/\c=cl b k:=by
 unfold cells;rw[Y8];constructor
 ·rintro⟨b,hb,h⟩;exact⟨b,hb,Aq h⟩
 ·rintro⟨b,hb,k,hk,rfl⟩;exact⟨b,hb,sO b hk⟩
theorem kP(b:Ce):(ar b).Nodup:=by
 obtain⟨x,y⟩:=b;simp[ar,Y7];lia
theorem kQ{α β:Type}{f:α->List β}:∀ {l:List α},l.Nodup->(∀ a∈l,(f a).Nodup)->(∀ a∈l,∀ b∈l,∀ x,x∈f a->x∈f b->a=b)->(l.flatMap f).Nodup
 | [],_,_,_=>by simp
 | a::l,nd,h1,h2=>by
  obtain⟨n1,n2⟩:=Y7.mp nd;rw[List.flatMap_cons,ZK];refine⟨h1 a<|.head _,kQ n2 (fun b hb=>h1 b<|.tail _ hb)<|fun b hb c hc=>h2 b (.tail _ hb) c<|.tail _ hc,fun x hx y hy e=>?_⟩;obtain⟨b,hb,hy⟩:=Y8.mp hy;subst e;have:=h2 a (.head _) b (.tail _ hb) x hx hy;subst this;exact n1 hb
theorem Kw.G'(B:Kw bs):(cells bs).Nodup:=kQ B.nd (fun b _=>kP b) fun a ha b hb x h1 h2=>B.one ha hb h1 h2
theorem eu:∀ bs:List Ce,(cells bs).length=4 * bs.length
 | []=>rfl
 | b::bs=>by
  have:=eu bs;unfold cells at *;rw[List.flatMap_cons,ZI,this];simp[ar];lia
theorem dB(x:Gw (n+1) h)(Mf:0<m)(RF:m<1073741824):∃ v h',aX [h,iI m]=some (iI v,[h',iI m])/\0<=v/\v<m/\Gw n h':=by
 obtain⟨d,s,t,rfl,h1,h2,h3,h4,h5⟩:=x;have nz:¬ m=0:=by lia
 by_cases hd:0<d
 ·refine⟨d % m,lf (d / m) s t,?_,Xw _ (by lia),Xz _ Mf,d / m,s,t,rfl,Int.ediv_nonneg h1 (by lia),h2,h3,h4,by lia⟩;unfold aX nK;have gt:vGt (iI d) (iI 0)=some (.im<|.bl true):=congrArg (fun b=>some<|Vl.im<|.bl b) (Zu hd);refine dy [some (lf (d / m) s t),some<|iI m,some<|iI<|d % m] rfl (kl ((gU<|FN<|b_ (v_<|b_ (d:=iI d) rfl rfl rfl rfl rfl) rfl rfl rfl gt).trans ((bG ((rK (b_ (v_<|b_ (d:=iI d) rfl rfl rfl rfl rfl) rfl rfl rfl<|dz Mf) (show 2<3 by decide)).trans rfl)).trans<|(bG<|Jp (D2:=[some (lf (d / m) s t),some<|iI m,some<|iI<|d % m]) (b_ (v_<|b_ (d:=iI d) rfl rfl rfl rfl rfl) rfl rfl rfl<|sL Mf RF) rfl).trans rfl))) rfl
 ·obtain⟨s',Mg⟩:∃ s':Int,s'=(s * 48271+12345+7919 * (t+1)) % 2147483647:=⟨_,rfl⟩;have q0:0<=s':=by rw[Mg];exact Xw _ (by decide)
  have q1:s'<2147483647:=by
   rw[Mg];exact Xz _ (by decide)
  have m1:bW s 48271=true:=fX (by decide) (by decide);have m2:bW 7919 (t+1)=true:=ni (by decide) (by decide);have m3:bW s' s'=true:=fX (by lia) (by lia);refine⟨s' * s' % 1999999973 / 31 % m,lf d s'<|t+1,?_,Xw _ (by lia),Xz _ Mf,d,s',t+1,rfl,h1,q0,by lia,by lia,by lia⟩;unfold aX nK;have gt:vGt (iI d) (iI 0)=some (.im<|.bl false):=congrArg (fun b=>some<|Vl.im<|.bl b) (Zl hd);have x1:ae vMul (oV<|ae vIx (oSl 0)<|oV<|eC<|.int 1) (oV<|eC<|.int 48271) [some (lf d s<|t+1),some<|iI m,none]=some (iI<|s * 48271,[some (lf d s<|t+1),some<|iI m,none]):=b_ (v_<|b_ (d:=iI s) rfl rfl rfl rfl rfl) rfl rfl rfl (dj m1);have x2:ae vMul (oV<|eC<|.int 7919) (oV<|ae vIx (oSl 0)<|oV<|eC<|.int 2) [some (lf d s<|t+1),some<|iI m,none]=some (iI<|7919 * (t+1),[some (lf d s<|t+1),some<|iI m,none]):=b_ rfl (v_<|b_ (d:=iI (t+1)) rfl rfl rfl rfl rfl) rfl rfl (dj m2);have x3:ae vMod (oV<|ae vAdd (oV<|ae vAdd (oV<|ae vMul (oV<|ae vIx (oSl 0)<|oV<|eC<|.int 1)<|oV<|eC<|.int 48271)<|oV<|eC<|.int 12345)<|oV<|ae vMul (oV<|eC<|.int 7919)<|oV<|ae vIx (oSl 0)<|oV<|eC<|.int 2) (oV<|eC<|.int 2147483647) [some (lf d s<|t+1),some<|iI m,none]=some (iI s',[some (lf d s<|t+1),some<|iI m,none]):=by
   rw[Mg];exact b_ (v_<|b_ (v_<|b_ (v_ x1) rfl rfl rfl rfl) (v_ x2) rfl rfl rfl) rfl rfl rfl (dz (by decide))
  have x4:ae vMul (oV<|ae vIx (oSl 0)<|oV<|eC<|.int 1) (oV<|ae vIx (oSl 0)<|oV<|eC<|.int 1) [some (lf d s'<|t+1),some<|iI m,none]=some (iI<|s' * s',[some (lf d s'<|t+1),some<|iI m,none]):=b_ (v_<|b_ (d:=iI s') rfl rfl rfl rfl rfl) (v_<|b_ (d:=iI s') rfl rfl rfl rfl rfl) rfl rfl (dj m3);exact dy [some (lf d s'<|t+1),some<|iI m,none] rfl ((bG<|(km<|FN<|b_ (v_<|b_ (d:=iI d) rfl rfl rfl rfl rfl) rfl rfl rfl gt).trans rfl).trans ((bG<|Jp (D2:=[some (lf d s<|t+1),some<|iI m,none]) (b_ (d:=iI (t+1)) (v_<|b_ (d:=iI t) rfl rfl rfl rfl rfl) rfl rfl rfl rfl) rfl).trans ((bG<|Jp (D2:=[some (lf d s'<|t+1),some<|iI m,none]) x3 rfl).trans (bR (b_ (v_ (b_ (v_ (b_ (v_ x4) rfl rfl rfl (dz (by decide)))) rfl rfl rfl (sL (by decide) (by decide)))) rfl rfl rfl<|dz Mf))))) rfl
theorem Ar(hk:0<=k):∃ c,hU [.fz (ns.map .int),iI k]=some (iI c,[.fz (ns.map .int),iI k]):=by
 by_cases hl:k<(ns.length:Int)
 ·obtain⟨c,hc⟩:∃ c,ns[k.toNat]?=some c:=⟨ns[k.toNat]'(by lia),by simp⟩;have RG:Fw (ns.map Im.int) k=some (.int c):=rH hk (by rw[Zy,hc];rfl);have lt:vLt (iI k) (iI ((ns.map Im.int).length:Int))=some (.im<|.bl true):=congrArg (fun b=>some<|Vl.im<|.bl b) (Zu (by rw[Z3];exact hl));have vi:vIx (.fz<|ns.map .int) (iI k)=some (iI c):=congrArg (Option.map Vl.im) RG;unfold hU nJ;exact⟨c,dy [some (.fz<|ns.map .int),some<|iI k] rfl (kl<|(gU<|FN<|b_ rfl (v_<|E9 rfl rfl rfl) rfl rfl lt).trans<|bR<|b_ rfl rfl rfl rfl vi) rfl⟩
 ·have lt:vLt (iI k) (iI ((ns.map Im.int).length:Int))=some (.im<|.bl false):=congrArg (fun b=>some<|Vl.im<|.bl b) (Zl (by rw[Z3];exact hl));unfold hU nJ;exact⟨0,dy [some (.fz<|ns.map .int),some<|iI k] rfl ((bG<|(km<|FN<|b_ rfl (v_<|E9 rfl rfl rfl) rfl rfl lt).trans rfl).trans rfl) rfl⟩
theorem As(hk:0<=k)(G7:k<1000):∃ h,je [.fz (ns.map .int),iI k]=some (h,[.fz (ns.map .int),iI k])/\Gw 1000000 h:=by
 obtain⟨c,hc⟩:=Ar (ns:=ns) hk;have m1:bW 7919 k=true:=ni (by decide) (by decide);have m2:bW (7919 * k) k=true:=fX (by lia) (by lia);have m3:bW (c % 2147483629+7919 * k * k+11) 48271=true:=fX (by decide) (by decide);obtain⟨s,hs⟩:∃ s:Int,s=(c % 2147483629+7919 * k * k+11) * 48271 % 2147483647:=⟨_,rfl⟩;have s0:0<=s:=by rw[hs];exact Xw _ (by decide)
 have s1:s<2147483647:=by rw[hs];exact Xz _ (by decide)
 have p1:bW (10 ^ 60) (10 ^ 60)=true:=by decide +kernel
 have p2:bW (10 ^ 60 * 10 ^ 60) (10 ^ 60)=true:=by decide +kernel
 have p3:∀ (x:Int) (b:Bool),bW x (if b then 1 else 0)=true:=fun x b=>fX (by cases b<;>decide) (by cases b<;>decide);have q1:(0:Int)<10 ^ 60 * 10 ^ 60 * 10 ^ 60:=by decide
 have v6:vPow (iI 10) (iI 60)=some (iI<|10 ^ (60:Int).toNat):=sM (by decide);have v8:vPow (iI 10) (iI 18)=some (iI<|10 ^ (18:Int).toNat):=sM (by decide);rw[show (60:Int).toNat=60 from rfl] at v6;rw[show (18:Int).toNat=18 from rfl] at v8;have key:Gw 1000000 (lf (c % (10 ^ 60 * 10 ^ 60 * 10 ^ 60) * (if decide ((10:Int) ^ 18<=c) then 1 else 0)) s 0):=by
  have h1:=Xw c (show (10 ^ 60 * 10 ^ 60 * 10 ^ 60:Int)≠0 by decide);refine⟨_,_,_,rfl,?_,s0,by lia,X4 0,by decide⟩;split
  ·rw[Int.mul_one];exact h1
  ·rw[Int.mul_zero];exact X4 0
 refine⟨_,?_,key⟩;generalize (10:Int) ^ 60=P at *;generalize (10:Int) ^ 18=R at *;unfold je sI;have s3:aw 4 (ae vMod (oV<|ae vMul (oV<|ae vAdd (oV<|ae vAdd (oV<|ae vMod (oSl 2)<|oV<|eC<|.int 2147483629)<|oV<|ae vMul (oV<|ae vMul (oV<|eC<|.int 7919)<|oSl 1)<|oSl 1)<|oV<|eC<|.int 11)<|oV<|eC<|.int 48271)<|oV<|eC<|.int 2147483647) [some (.fz<|ns.map .int),some<|iI k,some<|iI c,some<|iI<|P * P * P,none]=some (.nx,[some (.fz<|ns.map .int),some<|iI k,some<|iI c,some<|iI<|P * P * P,some<|iI s]):=by
  rw[hs];exact bj (b_ (v_ (b_ (v_ (b_ (v_ (b_ (v_ (b_ rfl rfl rfl rfl (dz (by decide)))) (v_<|b_ (v_<|b_ rfl rfl rfl rfl<|dj m1) rfl rfl rfl<|dj m2) rfl rfl rfl)) rfl rfl rfl rfl)) rfl rfl rfl<|dj m3)) rfl rfl rfl (dz (by decide))) (show 4<5 by decide) rfl
 exact cK rfl (EJ (bj (c_ rfl rfl rfl hc) (show 2<5 by decide) rfl) (EJ (bj (b_ (v_<|b_ (v_<|b_ rfl rfl rfl rfl v6) (v_<|b_ rfl rfl rfl rfl v6) rfl rfl<|dj p1) (v_<|b_ rfl rfl rfl rfl v6) rfl rfl<|dj p2) (show 3<5 by decide) rfl)<|EJ s3<|bR<|JK (a_ (v_<|b_ (v_<|b_ rfl rfl rfl rfl<|dz q1) (v_<|E9 (a_ (v_<|b_ rfl (v_<|b_ rfl rfl rfl rfl v8) rfl rfl rfl) rfl) rfl rfl) rfl rfl<|dj<|p3 _ _) rfl) rfl (Zs rfl) rfl)) rfl
structure Gr(m:Int)(bs:List Ce):Prop where
 ne:bs≠[]
 nd:bs.Nodup
 len:(bs.length:Int)<=m
 Jt:∀ b∈bs,0<=b.1/\b.1<=29/\0<=b.2/\b.2<=29
 par:∀ a∈bs,∀ b∈bs,(a.1 - b.1) % 2=0/\(a.2 - b.2) % 2=0
 con:∀ p:Ce->Ce,(∀ a∈bs,∀ b∈bs,(b=(a.1,a.2+2)\/b=(a.1+2,a.2))->p a=p b)->∀ a∈bs,∀ b∈bs,p a=p b
def Mh:List Ce:=[(0,2),(2,0),(0,-2),(-2,0)]
theorem Gr.add(g:Gr m bs){c d:Ce}(hc:c∈bs)(hd:d∈Mh)(hn:(c.1+d.1,c.2+d.2)∉bs)(hl:(bs.length:Int)<m)(hr:0<=c.1+d.1/\c.1+d.1<=29/\0<=c.2+d.2/\c.2+d.2<=29):Gr m (bs++[(c.1+d.1,c.2+d.2)]):=by
 have d2:d.1 % 2=0/\d.2 % 2=0:=by
  simp only[Mh,ZU,Y9,W8] at hd;rcases hd with h | h | h | h<;>subst h<;>exact⟨by decide,by decide⟩
 refine⟨by simp,ZK.mpr ⟨g.nd,Zw _ _,fun x hx y hy e=>hn (by rw[Z1.mp hy] at e;rw[<- e];exact hx)⟩,by simp;lia,fun b hb=>?_,fun a ha b hb=>?_,fun p hp a ha b hb=>?_⟩
 ·rcases Zx.mp hb with h | h
  ·exact g.Jt b h
  ·rw[Z1.mp h];exact hr
 ·have key:∀ x∈bs,(x.1 - (c.1+d.1)) % 2=0/\(x.2 - (c.2+d.2)) % 2=0:=fun x hx=>by
   have:=g.par x hx c hc;exact⟨by lia,by lia⟩
  rcases Zx.mp ha with h1 | h1<;>rcases Zx.mp hb with h2 | h2
  ·exact g.par a h1 b h2
  ·rw[Z1.mp h2];exact key a h1
  ·rw[Z1.mp h1];have:=key b h2;exact⟨by show ((c.1+d.1) - b.1) % 2=0;lia,by show ((c.2+d.2) - b.2) % 2=0;lia⟩
  ·rw[Z1.mp h1,Z1.mp h2];exact⟨by simp,by simp⟩
 ·have q0:=g.con p fun a ha b hb=>hp a (ZA _ ha) b (ZA _ hb);have IP:c∈bs++[(c.1+d.1,c.2+d.2)]:=ZA _ hc;have Hs:(c.1+d.1,c.2+d.2)∈bs++[(c.1+d.1,c.2+d.2)]:=ZG _ (.head _);have q1:p c=p (c.1+d.1,c.2+d.2):=by
   simp only[Mh,ZU,Y9,W8] at hd;rcases hd with h | h | h | h
   ·subst h;exact hp _ IP _ Hs (.inl (Xn (by simp) (by simp)))
   ·subst h;exact hp _ IP _ Hs (.inr (Xn (by simp) (by simp)))
   ·subst h;exact (hp _ Hs _ IP (.inl (Xn (by simp) (by simp;lia)))).symm
   ·subst h;exact (hp _ Hs _ IP (.inr (Xn (by simp;lia) (by simp)))).symm
  have q2:∀ x∈bs++[(c.1+d.1,c.2+d.2)],p x=p c:=fun x hx=>by
   rcases Zx.mp hx with h | h
   ·exact q0 x h c hc
   ·rw[Z1.mp h];exact q1.symm
  rw[q2 a ha,q2 b hb]
theorem P6(h:bs.length<100000):mAppend (cL bs) [.im (cM o)]=some (.im .h_,cL<|bs++[o]):=by
 have:mAppend (cL bs) [.im (cM o)]=some (.im .h_,.lst<|bs.map cM++[cM o]):=P2 (by rw[Z3];exact h);rw[this];simp
theorem K9(bs:List Ce):vLen [cL bs]=some (iI (bs.length:Int)):=by
 show some (iI ((bs.map cM).length:Int))=_;rw[Z3]
theorem Nh(bs:List Ce):vLen [cT bs]=some (iI (bs.length:Int)):=by
 show some (iI ((bs.map cM).length:Int))=_;rw[Z3]
theorem P7{ga gb gc:M Opd}{x y z:Opd}{a b c:Int}(e1:ga D=some (x,D))(e2:gb D=some (y,D))(e3:rsl D x=some (iI a))(e4:rsl D y=some (iI b))(e5:gc D=some (z,D))(e6:rsl D z=some (iI c):=by rfl):kB (di vLe vLe ga gb gc) D=some (decide (a<=b) && decide (b<=c),D):=by
 unfold kB di;rw[e1];show ((gb D).bind _).bind _=_;rw[e2];show ((rsl D x).bind _).bind _=_;rw[e3];show ((rsl D y).bind _).bind _=_;rw[e4];show ((if decide (a<=b)=true then _ else _):Option (Vl×SD)).bind _=_;cases decide (a<=b) with
 | false=>rfl
 | true=>
  rw[ZZ rfl];show ((gc D).bind _).bind _=_;rw[e5];show ((rsl D y).bind _).bind _=_;rw[e4];show ((rsl D z).bind _).bind _=_;rw[e6];rfl
abbrev Hy(h:Vl)(m:Int)(bs:List Ce)(k o4 o5 o6 o7 o8:Option Vl):SD:=[some h,some<|iI m,some<|cL bs,k,o4,o5,o6,o7,o8]
theorem At{k o4 o5 o6 o7 o8:Option Vl}(H:Gw (n+3) h)(g:Gr m bs)(hm:m<=40):
  ∃ h' Ni p4 p5 p6 p7 p8,kN (Hy h m bs k o4 o5 o6 o7 o8)=some (.nx,Hy h' m Ni k p4 p5 p6 p7 p8)/\Gw n h'/\Gr m Ni:=by
 have hp:=YS.mpr g.ne;have hl:=g.len;obtain⟨v1,h1,e1,a1,a2,H1⟩:=dB (n:=n+2) (m:=(bs.length:Int)) H (by lia) (by lia);obtain⟨c0,K6⟩:∃ c,bs[v1.toNat]?=some c:=⟨bs[v1.toNat]'(by lia),by simp⟩;obtain⟨v2,h2,e2,b1,b2,H2⟩:=dB (n:=n+1) (m:=3) H1 (by lia) (by lia);obtain⟨v3,h3,e3,d1,d2,H3⟩:=dB (n:=n) (m:=4) H2 (by lia) (by lia);obtain⟨d,hd⟩:∃ d,Mh[v3.toNat]?=some d:=⟨Mh[v3.toNat]'(by show v3.toNat<4;lia),by simp⟩;have t1:=atC a1 K6;have t3:=atC d1 hd;obtain⟨P8,l,rfl⟩:=Ao g.ne;have t2:Fw ((P8++[l]).map cM) (-1)=some (cM l):=zG (by simp);obtain⟨q0,rfl⟩:=H.lst;obtain⟨q1,rfl⟩:=H1.lst;obtain⟨q2,rfl⟩:=H2.lst;obtain⟨q3,rfl⟩:=H3.lst;generalize RH:P8++[l]=bs at *;have s1:bv (ae vIx (oSl 2)<|oV<|ao 2 G.aX<|aa (oSl 0)<|aa (oV<|ak vLen<|aa (oSl 2) aNil) aNil) (gT 2<|aJ (gN 4)<|aJ (gN 5) gNil') (Hy (.lst q0) m bs k o4 o5 o6 o7 o8)=some (.nx,Hy (.lst q1) m bs k (some<|iI c0.1) (some<|iI c0.2) o6 o7 o8):=by
  exact Jp (b_ rfl (v_<|c_ (a_ rfl<|a_ (v_<|E9 rfl rfl<|K9 bs) rfl) rfl rfl e1) rfl rfl<|congrArg (Option.map Vl.im) t1) rfl
 obtain⟨c,hc,s2⟩:∃ c∈bs,sIf (kB<|ae vEq (oV<|ao 2 G.aX<|aa (oSl 0)<|aa (oV<|eC<|.int 3) aNil)<|oV<|eC<|.int 0) (bv (ae vIx (oSl 2)<|oV<|ej<|eC<|.int 1)<|gT 2<|aJ (gN 4)<|aJ (gN 5) gNil') sNil (Hy (.lst q1) m bs k (some<|iI c0.1) (some<|iI c0.2) o6 o7 o8)=some (.nx,Hy (.lst q2) m bs k (some<|iI c.1) (some<|iI c.2) o6 o7 o8):=by
  by_cases hz:v2=0
  ·have q:=hV v2 0;rw[Zu hz] at q;exact⟨l,by rw[<- RH];simp,ic (FN<|b_ (v_<|c_ rfl rfl rfl e2) rfl rfl rfl q)<|Jp (b_ rfl (v_<|RE rfl) rfl rfl<|congrArg (Option.map Vl.im) t2) rfl⟩
  ·have q:=hV v2 0;rw[Zl hz] at q;exact⟨c0,Zt K6,cq (FN<|b_ (v_<|c_ rfl rfl rfl e2) rfl rfl rfl q) rfl⟩
 have s3:bv (ae vIx (oV<|bf<|aa (oV<|aC<|aa (oV<|eC<|.int 0)<|aa (oV<|eC<|.int 2) aNil)<|aa (oV<|aC<|aa (oV<|eC<|.int 2)<|aa (oV<|eC<|.int 0) aNil)<|aa (oV<|aC<|aa (oV<|eC<|.int 0)<|aa (oV<|ej<|eC<|.int 2) aNil)<|aa (oV<|aC<|aa (oV<|ej<|eC<|.int 2)<|aa (oV<|eC<|.int 0) aNil) aNil)<|oV<|ao 2 G.aX<|aa (oSl 0)<|aa (oV<|eC<|.int 4) aNil) (gT 2<|aJ (gN 6)<|aJ (gN 7) gNil') (Hy (.lst q2) m bs k (some<|iI c.1) (some<|iI c.2) o6 o7 o8)=some (.nx,Hy (.lst q3) m bs k (some<|iI c.1) (some<|iI c.2) (some<|iI d.1) (some<|iI d.2) o8):=by
  have RI:Fw [Im.tup [.int 0,.int 2],.tup [.int 2,.int 0],.tup [.int 0,.int<|-2],.tup [.int (-2),.int 0]] v3=some (.tup [.int d.1,.int d.2]):=t3;exact Jp (b_ rfl (v_<|c_ rfl rfl rfl e3) rfl rfl<|congrArg (Option.map Vl.im) RI) rfl
 obtain⟨o,ho⟩:∃ o:Ce,o=(c.1+d.1,c.2+d.2):=⟨_,rfl⟩;obtain⟨D,hD⟩:∃ D:SD,D=Hy (.lst q3) m bs k (some<|iI c.1) (some<|iI c.2) (some<|iI d.1) (some<|iI d.2) (some<|.im<|cM o):=⟨_,rfl⟩;have s4:aw 8 (aC<|aa (oV<|ae vAdd (oSl 4)<|oSl 6)<|aa (oV<|ae vAdd (oSl 5)<|oSl 7) aNil) (Hy (.lst q3) m bs k (some<|iI c.1) (some<|iI c.2) (some<|iI d.1) (some<|iI d.2) o8)=some (.nx,D):=by
  rw[hD,ho];rfl
 have Kx:=nH bs o;have g0:=Ow o;have g1:=RD o;have n1:kB (ae vNotIn (oSl 8)<|oSl 2) D=some (!decide (o∈bs),D):=by
  rw[hD];show (((inB (cM o)<|cL bs).map fun r=>Vl.im<|.bl<|!r).map fun d=>(d,_)).bind (fun p=>(asB p.1).map fun b=>(b,p.2))=_;rw[Kx];rfl
 have n2:kB (di vLe vLe (oV<|eC<|.int 0) (oV<|ae vIx (oSl 8)<|oV<|eC<|.int 0)<|oV<|eC<|.int 29) D=some (decide (0<=o.1) && decide (o.1<=29),D):=by
  rw[hD];exact P7 rfl rfl rfl rfl rfl
 have n3:kB (di vLe vLe (oV<|eC<|.int 0) (oV<|ae vIx (oSl 8)<|oV<|eC<|.int 1)<|oV<|eC<|.int 29) D=some (decide (0<=o.2) && decide (o.2<=29),D):=by
  rw[hD];exact P7 rfl rfl rfl rfl rfl
 have n4:kB (ae vLt (oV<|ak vLen<|aa (oSl 2) aNil)<|oSl 1) D=some (decide ((bs.length:Int)<m),D):=by
  rw[hD];exact FN (b_ (v_<|E9 rfl rfl<|K9 bs) rfl rfl rfl rfl)
 have fin:∀ b:Bool,b=(!decide (o∈bs) && (decide ((bs.length:Int)<m) && ((decide (0<=o.1) && decide (o.1<=29)) && (decide (0<=o.2) && decide (o.2<=29)))))->
   aT (kB<|ae vNotIn (oSl 8)<|oSl 2) (aT (kB<|ae vLt (oV<|ak vLen<|aa (oSl 2) aNil)<|oSl 1)<|aT (kB<|di vLe vLe (oV<|eC<|.int 0) (oV<|ae vIx (oSl 8)<|oV<|eC<|.int 0)<|oV<|eC<|.int 29)<|kB<|di vLe vLe (oV<|eC<|.int 0) (oV<|ae vIx (oSl 8)<|oV<|eC<|.int 1)<|oV<|eC<|.int 29) D=some (b,D):=by
  intro b hb;rw[hb];simp -implicitDefEqProofs only[aT,n1,n2,n3,n4,YF];generalize (decide (0<=o.1) && decide (o.1<=29))=y;generalize (decide (0<=o.2) && decide (o.2<=29))=z;cases decide (o∈bs)<;>cases decide ((bs.length:Int)<m)<;>cases y<;>rfl
 unfold kN;by_cases Gx:o∉bs/\(bs.length:Int)<m/\0<=o.1/\o.1<=29/\0<=o.2/\o.2<=29
 ·have ht:=fin true (by simp[Gx]);refine⟨.lst q3,bs++[o],some<|iI c.1,some<|iI c.2,some<|iI d.1,some<|iI d.2,some<|.im<|cM o,(bG s1).trans<|(bG s2).trans<|(bG s3).trans<|(bG s4).trans<|(gU ht).trans ?_,H3,?_⟩
  ·have l2:bs.length<100000:=by lia
   rw[hD];exact Nf (Ng rfl rfl rfl rfl rfl (P6 l2) rfl)
  ·rw[ho];rw[ho] at Gx;exact g.add hc (Zt hd) Gx.1 Gx.2.1 Gx.2.2
 ·have hf:=fin false (by
   cases z:(!decide (o∈bs) && (decide ((bs.length:Int)<m) && ((decide (0<=o.1) && decide (o.1<=29)) && (decide (0<=o.2) && decide (o.2<=29))))) with
   | false=>rfl
   | true=>
    simp at z;exact absurd ⟨z.1,by lia,z.2.2.1.1,z.2.2.1.2,z.2.2.2.1,z.2.2.2.2⟩ Gx)
  exact⟨.lst q3,bs,some<|iI c.1,some<|iI c.2,some<|iI d.1,some<|iI d.2,some<|.im<|cM o,(bG s1).trans ((bG s2).trans ((bG s3).trans ((bG s4).trans ((km hf).trans (by rw[hD];rfl))))),H3,g⟩
theorem Oz:u_ (cM a) (cM b)=true↔a.1<b.1\/(a.1=b.1/\a.2<b.2):=by
 obtain⟨x,y⟩:=a;obtain⟨u,v⟩:=b;show (if Im.beq (.int x) (.int u)=true then (if Im.beq (.int y) (.int v)=true then false else decide (y<v)) else decide (x<u))=true↔_;have e:∀ i j:Int,Im.beq (.int i) (.int j)=decide (i=j):=fun i j=>by
  show (i == j)=_;by_cases h:i=j<;>simp[h]
 rw[e,e];by_cases h1:x=u<;>by_cases h2:y=v<;>simp[h1,h2]
def be(l:List Ce):Prop:=(l.map cM).Pairwise (fun a b=>u_ a b=true)
theorem f9(nd:ks.Nodup)(hl:ks.length<=1000):∃ ms:List Ce,ms.Perm ks/\dR (ks.map cM)=some (cL ms)/\be ms:=by
 have so:=kJ nd hl;obtain⟨ms,pm,em⟩:=sE (f7<|ks.map cM);refine⟨ms,pm,?_,?_⟩
 ·unfold dR;rw[ZZ (kF.mpr so),em]
 ·unfold be;rw[<- em];exact kC so.1.3 so.1.2
theorem sR:∀ {x:List Im},(∀ d∈x,∃ r,d=.tup r)->z_ [.lst x]=dR x
 | [],_=>rfl
 | d::x,h=>by
  obtain⟨r,rfl⟩:=h d (.head _);rfl
theorem jg{i:Nat}{ms:List Ce}(hD:D[i]?=some (some<|cL ks))(h:dR (ks.map cM)=some (cL ms)):ak z_ (aa (oSl i) aNil) D=some (cL ms,D):=by
 have hv:z_ [cL ks]=some (cL ms):=by
  rw[sR,h];intro d hd;obtain⟨c,_,rfl⟩:=Ze.mp hd;exact⟨_,rfl⟩
 simp -implicitDefEqProofs only[ak,aa,oSl,rD,hD,YF,map_some,rF,rE,zE,Xf,hv]
theorem jh{D1:SD}{g:M Vl}{x:List Im}(h:g D=some (.lst x,D1)):ak vTuple (aa (oV g) aNil) D=some (.im<|.tup x,D1):=by
 simp -implicitDefEqProofs only[ak,aa,oV,rD,h,YF,map_some,rF,rE,zD,vTuple,ed]
theorem Au(H:Gw (n+1000) h):∃ h' bs,jf [h]=some (cL bs,[h'])/\Gw n h'/\Kw bs/\be bs:=by
 obtain⟨v0,h0,e0,a1,a2,H0⟩:=dB (n:=n+999) (m:=4) H (by lia) (by lia);obtain⟨w,hw,w1,w2⟩:∃ w:Int,Fw [Im.int 3,.int 8,.int 14,.int 40] v0=some (.int w)/\0<w/\w<=40:=by
  have:v0=0\/v0=1\/v0=2\/v0=3:=by lia
  rcases this with rfl | rfl | rfl | rfl
  ·exact⟨3,rfl,by decide,by decide⟩
  ·exact⟨8,rfl,by decide,by decide⟩
  ·exact⟨14,rfl,by decide,by decide⟩
  ·exact⟨40,rfl,by decide,by decide⟩
 obtain⟨v1,h1,e1,b1,b2,H1⟩:=dB (n:=n+998) (m:=w) H0 w1 (by lia);obtain⟨v2,h2,e2,c1,c2,H2⟩:=dB (n:=n+997) (m:=30) H1 (by lia) (by lia);obtain⟨v3,h3,e3,d1,d2,H3⟩:=dB (n:=n+996) (m:=30) H2 (by lia) (by lia);obtain⟨m,hm⟩:∃ m:Int,m=1+v1:=⟨_,rfl⟩;have g0:Gr m [(v2,v3)]:=⟨by simp,by simp,by simp;lia,fun b hb=>by rw[Z1.mp hb];exact⟨c1,by show v2<=29;lia,d1,by show v3<=29;lia⟩,fun a ha b hb=>by rw[Z1.mp hb,Z1.mp ha];exact⟨by simp,by simp⟩,fun p _ a ha b hb=>by rw[Z1.mp hb,Z1.mp ha]⟩;obtain⟨D',lp,h4,bs,o3,o4,o5,o6,o7,o8,rfl,H4,g⟩:=nj (tg:=gN 3) (b:=kN) (xs:=bw 0 (3 * m).toNat) (fun i D=>∃ h bs o3 o4 o5 o6 o7 o8,D=Hy h m bs o3 o4 o5 o6 o7 o8/\Gw (n+996 - 3 * i) h/\Gr m bs) (D:=Hy h3 m [(v2,v3)] none none none none none none) ⟨h3,[(v2,v3)],none,none,none,none,none,none,rfl,H3,g0⟩
  (fun i x D hx hI=>by
   obtain⟨h,bs,o3,o4,o5,o6,o7,o8,rfl,HH,g⟩:=hI;have hi:i<(3 * m).toNat:=by
    have:=(ZE.mp hx).1
    rwa [bw,Z3,Y2] at this
   obtain⟨h',Ni,p4,p5,p6,p7,p8,e,H',g'⟩:=At (n:=n+996 - 3 * (i+1)) (k:=some (.im x)) (o4:=o4) (o5:=o5) (o6:=o6) (o7:=o7) (o8:=o8) (HH.mono (by lia)) g (by lia);exact⟨Hy h m bs (some<|.im x) o4 o5 o6 o7 o8,.nx,_,rfl,e,.inl rfl,h',Ni,_,_,_,_,_,_,rfl,H',g'⟩)
 have lr:(bw 0 (3 * m).toNat).length=(3 * m).toNat:=by rw[bw,Z3,Y2]
 rw[lr] at H4;have gl:=g.len;obtain⟨ms,pm,es,rs⟩:=f9 g.nd (by lia);refine⟨h4,ms,?_,H4.mono (by lia),⟨fun z=>?_,pm.nodup_iff.mpr g.nd,by rw[pm.length_eq];lia,fun b hb=>g.Jt b<|pm.mem_iff.mp hb,fun a ha b hb=>g.par a (pm.mem_iff.mp ha) b<|pm.mem_iff.mp hb,fun p hp a ha b hb=>g.con p (fun a ha b hb=>hp a (pm.mem_iff.mpr ha) b<|pm.mem_iff.mpr hb) a (pm.mem_iff.mp ha) b<|pm.mem_iff.mp hb⟩,rs⟩
 ·obtain⟨q,rfl⟩:=H.lst;obtain⟨q0,rfl⟩:=H0.lst;obtain⟨q1,rfl⟩:=H1.lst;obtain⟨q2,rfl⟩:=H2.lst;obtain⟨q3,rfl⟩:=H3.lst;obtain⟨q4,rfl⟩:=H4.lst;have sm:gH (3 * m):=⟨by lia,by lia⟩;have mk:bW 3 m=true:=ni (by decide) (by decide);have s1:aw 1 (ae vAdd (oV<|eC<|.int 1)<|oV<|ao 2 G.aX<|aa (oSl 0)<|aa (oV<|ae vIx (oV<|bf<|aa (oV<|eC<|.int 3)<|aa (oV<|eC<|.int 8)<|aa (oV<|eC<|.int 14)<|aa (oV<|eC<|.int 40) aNil)<|oV<|ao 2 G.aX<|aa (oSl 0)<|aa (oV<|eC<|.int 4) aNil) aNil) [some (.lst q),none,none,none,none,none,none,none,none]=some (.nx,[some (.lst q1),some<|iI m,none,none,none,none,none,none,none]):=by
   rw[hm];exact bj (b_ rfl (v_<|c_ (a_ rfl<|a_ (v_<|b_ (v_<|JK rfl rfl (Zs rfl) rfl) (v_<|c_ rfl rfl rfl e0) rfl rfl<|congrArg (Option.map Vl.im) hw) rfl) rfl rfl e1) rfl rfl rfl) (show 1<9 by decide) rfl
  have s2:aw 2 (bf<|aa (oV<|aC<|aa (oV<|ao 2 G.aX<|aa (oSl 0)<|aa (oV<|eC<|.int 30) aNil)<|aa (oV<|ao 2 G.aX<|aa (oSl 0)<|aa (oV<|eC<|.int 30) aNil) aNil) aNil) [some (.lst q1),some<|iI m,none,none,none,none,none,none,none]=some (.nx,Hy (.lst q3) m [(v2,v3)] none none none none none none):=
   bj (JK (a_ (v_<|K8 (a_ (v_<|c_ rfl rfl rfl e2)<|a_ (v_<|c_ rfl rfl rfl e3) rfl) rfl (Zs rfl) rfl) rfl) rfl (Zs rfl) rfl) (show 2<9 by decide) rfl;unfold jf sJ;exact cK rfl (EJ s1<|EJ s2<|EJ (ie (Oy (a_ (v_<|b_ rfl rfl rfl rfl<|dj mk) rfl) rfl sm) lp rfl)<|bR<|jg rfl es) rfl
 ·subst z;have:=pm.length_eq;have h1:=YS.mpr g.ne;simp at this;lia
theorem sS(b:Ce):fC [.im (cM b)]=some (cL<|ar b,[.im (cM b)]):=by
 unfold fC sK;exact dy [some (.im<|cM b),some<|iI b.1,some<|iI b.2] rfl rfl rfl
theorem nO:∀ (bs done:List Ce) (o0 o2:Option Vl),4 * (done.length+bs.length)<=1000->∃ Ky,bo (gN 2) kO (bs.map cM) [o0,some<|cL<|cells done,o2]=some (.nx,[o0,some<|cL<|cells<|done++bs,Ky])
 | [],done,o0,o2,_=>⟨o2,by rw[ZT];rfl⟩
 | b::bs,done,o0,o2,hl=>by
  rw[ZD] at hl;obtain⟨Ky,ih⟩:=nO bs (done++[b]) o0 (some<|.im<|cM b) (by rw[ZI,Yj];lia);refine⟨Ky,?_⟩;have e:=sS b;have cl:=eu done;have l2:(cells done).length+4<=100000:=by lia
  have ea:(cells done).map cM++(ar b).map cM=(cells<|done++[b]).map cM:=by
   unfold cells;rw[List.flatMap_append];simp
  have l3:(cells done).length+(ar b).length<=100000:=l2;rw[ZH,bo];dsimp only;rw[show gN 2 (.im<|cM b) [o0,some<|cL<|cells done,o2]=some [o0,some<|cL<|cells done,some<|.im<|cM b] from rfl];show (kO _).bind _=_;have me:mExtend (cL<|cells done) [cL (ar b)]=some (.im .h_,cL<|cells<|done++[b]):=by
   show _=some (Vl.im .h_,Vl.lst<|(cells<|done++[b]).map cM);rw[<- ea];exact ZZ (by rw[Z3,Z3];exact l3)
  rw[show kO [o0,some<|cL<|cells done,some<|.im<|cM b]=some (.nx,[o0,some<|cL<|cells<|done++[b],some<|.im<|cM b]) from Nf (Ng rfl rfl (a_ (v_<|c_ rfl rfl rfl e) rfl) rfl rfl me (by rfl))];rw[show done++b::bs=done++[b]++bs by simp];exact ih
theorem Av(B:Kw bs):∃ fs,dS [cL bs]=some (cT fs,[cL bs])/\fs.Perm (cells bs)/\be fs:=by
 have hl:=B.len;have cl:=eu bs;obtain⟨o2,lp⟩:=nO bs [] (some<|.jk) none (by simp;lia);obtain⟨fs,pm,es,rs⟩:=f9 B.G' (by lia);refine⟨fs,?_,pm,rs⟩;unfold dS nL;refine dy [some (cL bs),some<|cL<|cells bs,o2] rfl ((bG (D1:=[some (cL bs),some<|cL<|cells [],none]) rfl).trans<|(bG<|(rJ (o:=some (0,cL bs)) (xs:=bs.map cM) (D1:=[some .jk,some<|cL<|cells [],none]) rfl lp).trans rfl).trans<|bR ?_) rfl;exact jh (jg (D:=[some (cL bs),some<|cL<|cells bs,o2]) (i:=1) rfl es)
def Lc(a b:Ce):Prop:=a.1<b.1\/(a.1=b.1/\a.2<b.2)
theorem ji:be l↔l.Pairwise Lc:=by
 unfold be;rw[XS];constructor
 ·exact fun h=>h.imp fun {a b} z=>Oz.mp z
 ·exact fun h=>h.imp fun {a b} z=>Oz.mpr z
theorem Lc.RJ(h:Lc a a):False:=by
 rcases h with h | ⟨_,h⟩<;>exact Int.lt_irrefl _ h
theorem Lc.nd(h:l.Pairwise Lc):l.Nodup:=h.imp fun {a b} z e=>by subst e;exact z.RJ
def c7:Nat->List Ce->List Ce->Option (List Ce)
 | _,[],S=>some S
 | 0,_::_,_=>none
 | n+1,a::r,S=>if (ar a).all (fun c=>decide (c∈a::r))=true then c7 n ((a::r).filter fun c=>!decide (c∈ar a)) (S++[a]) else none
theorem jj(a:Ce):a∈ar a:=.head _
theorem sT{rest:List Ce}(nd:rest.Nodup)(h:∀ c∈ar a,c∈rest):rest.Perm (ar a++rest.filter fun c=>!decide (c∈ar a)):=by
 have p:rest.Perm (rest.filter (fun c=>decide (c∈ar a))++rest.filter fun c=>!decide (c∈ar a)):=(List.filter_append_perm _ _).symm;refine p.trans (ZJ _ ?_);refine (Yp (nd.sublist Yn)<|kP a).mpr fun c=>?_;rw[Ya];exact⟨fun z=>Zn z.2,fun z=>⟨h c z,Zu z⟩⟩
theorem nP:∀ (n:Nat) {rest S S':List Ce},rest.Pairwise Lc->c7 n rest S=some S'->∃ T,S'=S++T/\T.Pairwise Lc/\rest.Perm (cells T)/\(∀ t∈T,t∈rest)/\T.head?=rest.head?
 | n,[],S,S',_,h=>by
  have:some S=some S':=by cases n<;>exact h
  cases this;exact⟨[],(ZT _).symm,.nil,.refl _,(fun _ z=>nomatch z),rfl⟩
 | 0,_::_,_,_,_,h=>by cases h
 | n+1,a::r,S,S',hp,h=>by
  unfold c7 at h;split at h
  ·rename_i FF;have FF:∀ c∈ar a,c∈a::r:=fun c hc=>Zn (YG.mp FF c hc);obtain⟨T,rfl,t1,t2,t3,t4⟩:=nP n (hp.sublist Yn) h;have hr:∀ t∈T,t∈r:=fun t ht=>by
    have:=Ya.mp (t3 t ht);rcases ZU.mp this.1 with e | e
    ·subst e;have:=this.2;rw[Zu (jj t)] at this;cases this
    ·exact e
   refine⟨a::T,by rw[Z7];rfl,Zq.mpr ⟨fun t ht=>(Zq.mp hp).1 t (hr t ht),t1⟩,?_,fun t ht=>?_,rfl⟩
   ·exact (sT (Lc.nd hp) FF).trans (t2.append_left _)
   ·rcases ZU.mp ht with e | e
    ·rw[e];exact .head _
    ·exact .tail _ (hr t e)
  ·cases h
def dC(o:Ce)(B:List Ce):Prop:=∀ b∈B,(b.1 - o.1) % 2=0/\(b.2 - o.2) % 2=0
theorem sU(h:dC o B)(ha:a∈B)(hb:b∈B)(h1:c∈ar a)(h2:c∈ar b):a=b:=by
 have:=h a ha;have:=h b hb;have:=dA.mp h1;have:=dA.mp h2;exact Xn (by lia) (by lia)
theorem Aw(nd:B.Nodup)(h:dC o B):(cells B).Nodup:=kQ nd (fun b _=>kP b) fun a ha b hb x h1 h2=>sU h ha hb h1 h2
theorem sV{o:Ce}:∀ (n:Nat) {rest S B:List Ce},rest.Pairwise Lc->rest.length<=n->B.Nodup->dC o B->rest.Perm (cells B)->∃ T,c7 n rest S=some (S++T)/\∀ t∈T,t∈B
 | n,[],S,B,_,_,_,_,_=>⟨[],by cases n<;>rw[ZT]<;>rfl,fun _ z=>nomatch z⟩
 | 0,_::_,_,_,_,h,_,_,_=>by simp at h
 | n+1,a::r,S,B,hp,hl,nd,ev,pm=>by
  obtain⟨b,hb,Kz⟩:=Y8.mp (pm.mem_iff.mp<|.head r);have RL:b∈a::r:=pm.mem_iff.mpr (Y8.mpr ⟨b,hb,jj b⟩);have e:b=a:=by
   rcases ZU.mp RL with e | e
   ·exact e
   ·have z:Lc a b:=(Zq.mp hp).1 b e;have:=dA.mp Kz;unfold Lc at z;exact absurd z (by lia)
  subst e;have FF:∀ c∈ar b,c∈b::r:=fun c hc=>pm.mem_iff.mpr (Y8.mpr ⟨b,hb,hc⟩);have Fq:((b::r).filter fun c=>!decide (c∈ar b)).length<=n:=by
   have:=(sT (Lc.nd hp) FF).length_eq;rw[ZI] at this;have f4:(ar b).length=4:=rfl;lia
  have p2:((b::r).filter fun c=>!decide (c∈ar b)).Perm (cells<|B.erase b):=by
   have ne:=nd.erase b;have RM:dC o (B.erase b):=fun c hc=>ev c (WE hc);refine (Yp ((Lc.nd hp).sublist Yn)<|Aw ne RM).mpr fun c=>?_;rw[Ya,pm.mem_iff];constructor
   ·rintro⟨h1,h2⟩;obtain⟨d,hd,hc⟩:=Y8.mp h1;refine Y8.mpr ⟨d,(nd.mem_erase_iff).mpr ⟨fun e=>?_,hd⟩,hc⟩;subst e;rw[Zu hc] at h2;cases h2
   ·intro h1;obtain⟨d,hd,hc⟩:=Y8.mp h1;have Go:=nd.mem_erase_iff.mp hd;refine⟨Y8.mpr ⟨d,Go.2,hc⟩,?_⟩;rw[WN,XH];exact fun z=>Go.1 (sU ev Go.2 hb hc z)
  obtain⟨T,t1,t2⟩:=sV n (S:=S++[b]) (hp.sublist Yn) Fq (nd.erase b) (fun c hc=>ev c<|WE hc) p2;refine⟨b::T,?_,fun t ht=>?_⟩
  ·unfold c7;rw[ZZ (YG.mpr fun c hc=>Zu<|FF c hc),t1,Z7];rfl
  ·rcases ZU.mp ht with e | e
   ·rw[e];exact hb
   ·exact WE (t2 t e)
abbrev hd(d s t:Int):Vl:=.lst [.int d,.int s,.int t]
end G
namespace L2
open PySem PySem.Spec PyProof.Rows
variable{g nl n2 slot ep n i m:Nat}{items pl:Array Value}{l a2 S I a:Addr}{P:List Im->Addr->Prop}{w:World}{o2 o:Obj}{f0 x:Value}{h' h:Heap}{ks:List (List Im)}{Q:Option Value->Shared->Prop}{s:Shared}{es:Array (Int×Value)}{ps:List Nat}{ow:Array (Option Nat)}{β α:Type}{hs:List Int}{k:List Im}{led:Bool}{t:SetTable}{xs:Array Nat}
abbrev be(xs:Array Nat):Prop:=xs.toList.Pairwise (· < ·)
theorem jl(r:be xs){i k:Nat}{d:Nat}(h:i<k)(hk:k<xs.size):xs.getD i d<xs.getD k d:=by
 have hi:i<xs.size:=Wn h hk;have e:∀ m (hm:m<xs.size),xs.getD m d=xs.toList[m]'(by simpa using hm):=fun m hm=>by simp[Array.getD,hm]
 rw[e i hi,e k hk];exact YW.mp r i k _ _ h
theorem nQ(xs:Array Nat)(r:be xs)(j:Nat):∀ (fuel lo hi:Nat),hi - lo<=fuel->lo<=hi->hi<=xs.size->(∀ i,i<lo->xs.getD i j<j)->(∀ i,hi<=i->i<xs.size->j<=xs.getD i j)->
  (SetTable.below.go xs j fuel lo hi<=xs.size/\(∀ i,i<SetTable.below.go xs j fuel lo hi->xs.getD i j<j)/\∀ i,SetTable.below.go xs j fuel lo hi<=i->i<xs.size->j<=xs.getD i j)
 | 0,lo,hi,h1,h2,h3,a,b=>by
  have e:lo=hi:=by lia
  subst e;exact⟨h3,a,b⟩
 | fuel+1,lo,hi,h1,h2,h3,a,b=>by
  unfold SetTable.below.go;by_cases h:lo<hi
  ·rw[ZZ h];dsimp only;by_cases hm:xs.getD ((lo+hi) / 2) j<j
   ·rw[ZZ hm];refine nQ xs r j fuel _ _ (by lia) (by lia) h3 (fun i Gb=>?_) b;rcases Y6 i ((lo+hi) / 2) with h' | h'
    ·exact Wn (jl r h' (by lia)) hm
    ·have:i=(lo+hi) / 2:=by lia
     rw[this];exact hm
   ·rw[ZY hm];refine nQ xs r j fuel _ _ (by lia) (by lia) (by lia) a (fun i Gb Fr=>?_);rcases Y6 ((lo+hi) / 2) i with h' | h'
    ·exact Xj (XA (Wg.mp hm)<|jl r h' Fr)
    ·have:i=(lo+hi) / 2:=by lia
     rw[this];exact Wg.mp hm
  ·rw[ZY h];have e:lo=hi:=by lia
   subst e;exact⟨h3,a,b⟩
theorem kR(r:be xs)(j:Nat):SetTable.below xs j<=xs.size/\(∀ i,i<SetTable.below xs j->xs.getD i j<j)/\∀ i,SetTable.below xs j<=i->i<xs.size->j<=xs.getD i j:=
 nQ xs r j xs.size 0 xs.size (by lia) (by lia) (by lia) (fun i h=>absurd h<|WZ _) fun i h h'=>absurd h' (by lia)
theorem nR(r:be xs){i j:Nat}(h:xs[i]?=some j):SetTable.below xs j=i:=by
 obtain⟨a,b,c⟩:=kR r j;obtain⟨hi,e⟩:=YX.mp h;have ei:xs.getD i j=j:=by simp[Array.getD,hi,e]
 rcases WI (SetTable.below xs j) i with h1 | h1 | h1
 ·have h2:=c _ (ZR _) (Wn h1 hi);have h3:=jl r (d:=j) h1 hi;lia
 ·exact h1
 ·have:=b i h1;lia
theorem Ax(r:be xs){i j:Nat}(h:xs[i]?=some j):SetTable.below xs (j+1)=i+1:=by
 obtain⟨a,b,c⟩:=kR r (j+1);obtain⟨hi,e⟩:=YX.mp h;have ei:xs.getD i (j+1)=j:=by simp[Array.getD,hi,e]
 rcases WI (SetTable.below xs<|j+1) (i+1) with h1 | h1 | h1
 ·have:=c i (by lia) hi;lia
 ·exact h1
 ·have h2:=b (i+1) h1;have h3:=jl r (d:=j+1) (Yt i) (by lia);lia
theorem Ay(r:be xs):SetTable.below xs 0=0:=by
 obtain⟨a,b,c⟩:=kR r 0;rcases Nat.eq_zero_or_pos (SetTable.below xs 0) with h | h
 ·exact h
 ·exact absurd (b 0 h) (WZ _)
theorem Az(r:be xs){j:Nat}(h:¬ (xs[SetTable.below xs j]?=some j)):be (SetTable.insertAt xs (SetTable.below xs j) j):=by
 obtain⟨a,b,c⟩:=kR r j;unfold be;rw[SetTable.toList_insertAt];refine List.pairwise_append.mpr ⟨List.Pairwise.sublist (XV _ _) r,Zq.mpr ⟨fun y hy=>?_,List.Pairwise.sublist (WK _ _) r⟩,fun x hx y hy=>?_⟩
 ·obtain⟨k,hk,rfl⟩:=YM.mp hy;rw[XT];have hs:SetTable.below xs j+k<xs.size:=by simp at hk;lia
  have h1:=c (SetTable.below xs j+k) (X3 _ _) hs;have e:xs.getD (SetTable.below xs j+k) j=xs.toList[SetTable.below xs j+k]:=by simp[Array.getD,hs]
  rw[e] at h1;refine Nat.lt_of_le_of_ne h1 fun he=>?_;rcases Nat.eq_zero_or_pos k with h0 | h0
  ·subst h0;apply h;rw[YX];exact⟨by lia,by simpa using he.symm⟩
  ·have h2:=jl r (d:=j) (Nat.lt_add_of_pos_right (n:=SetTable.below xs j) h0) hs;have h3:=c (SetTable.below xs j) (ZR _) (by lia);rw[e] at h2;exact absurd he (ZB<|XA h3 h2)
 ·obtain⟨k,hk,rfl⟩:=YM.mp hx;rw[WP];have FK:k<SetTable.below xs j:=by simp at hk;lia
  have hs:k<xs.size:=by lia
  have h1:=b k FK;have e:xs.getD k j=xs.toList[k]:=by simp[Array.getD,hs]
  rw[e] at h1;rcases ZU.mp hy with rfl | hy
  ·exact h1
  ·obtain⟨m,hm,rfl⟩:=YM.mp hy;rw[XT];have HJ:SetTable.below xs j+m<xs.size:=by simp at hm;lia
   have h2:=c (SetTable.below xs j+m) (X3 _ _) HJ;have e2:xs.getD (SetTable.below xs j+m) j=xs.toList[SetTable.below xs j+m]:=by simp[Array.getD,HJ]
   rw[e2] at h2;exact Zv h1 h2
structure Fe(t:SetTable)(led:Bool):Prop where
 rise:be t.place
 K':t.dummies=#[]
 led:t.led=led
theorem Fe.IA(h:Fe t led)(b:Bool):Fe { t with plain:=b } led:=⟨h.rise,h.K',h.led⟩
theorem sW(j:Nat):SetTable.has #[] j=false:=rfl
theorem AA(hd:t.dummies=#[])(j:Nat):(∃ i,t.slot j=.live i)\/(t.slot j=.empty/\¬ (t.place[SetTable.below t.place j]?=some j)):=by
 unfold SetTable.slot;dsimp only;by_cases h:(t.place[SetTable.below t.place j]? == some j)=true
 ·rw[ZZ h];exact .inl ⟨_,rfl⟩
 ·rw[ZY h,hd,sW];exact .inr ⟨rfl,fun e=>h (by rw[e];exact YH _)⟩
theorem Fe.put(h:Fe t led){j:Nat}(hj:¬ (t.place[SetTable.below t.place j]?=some j)):Fe (t.put j).1 led:=by
 refine⟨Az h.rise hj,?_,h.led⟩;show (if SetTable.has t.dummies j=true then _ else t.dummies)=#[];rw[h.K',sW];rfl
theorem AB{mask finger moves:Nat}{plain:Bool}{hs:Array Int}{o:Array Nat}(e:SetTable.laid mask finger moves led plain hs=some (t,o)):Fe t led:=by
 unfold SetTable.laid at e;cases h:SetTable.layClean mask hs with
 | none=>rw[h] at e;cases e
 | some ow=>
  rw[h] at e;cases e;refine⟨?_,rfl,rfl⟩;show (List.map (fun x:Nat×Nat=>x.1)<|List.filterMap (fun j=>Option.map (fun x=>(j,x))<|ow.getD j none)<|range<|mask+1).Pairwise (· < ·);rw[List.map_filterMap];refine List.Pairwise.filterMap _ (R:=(· < ·)) (fun a b Kz x hx y hy=>?_) List.pairwise_lt_range;cases ha:ow.getD a none with
  | none=>rw[ha] at hx;cases hx
  | some u=>
   cases hb:ow.getD b none with
   | none=>rw[hb] at hy;cases hy
   | some v=>
    rw[ha] at hx;rw[hb] at hy;cases hx;cases hy;exact Kz
def ii(m:Nat)(p:SetTable.Probe):SetTable.Probe:=
 if p.more > 0 then { p with j:=p.j+1,more:=p.more - 1 } else
 { p with j:=(SetTable.leap m p.i p.perturb).1,more:=SetTable.runEnd m (SetTable.leap m p.i p.perturb).1 - (SetTable.leap m p.i p.perturb).1,i:=(SetTable.leap m p.i p.perturb).1,perturb:=(SetTable.leap m p.i p.perturb).2 }
def K_(m i pt:Nat):SetTable.Probe:={ j:=i,more:=SetTable.runEnd m i - i,i:=i,perturb:=pt,dummy:=none }
def Ex(m:Nat)(h:Int):Nat->SetTable.Probe
 | 0=>K_ m (SetTable.bits h % (m+1)) (SetTable.bits h)
 | k+1=>ii m (Ex m h k)
def EI(m:Nat)(h:Int):Nat->Nat×Nat
 | 0=>(SetTable.bits h % (m+1),SetTable.bits h)
 | q+1=>SetTable.leap m (EI m h q).1 (EI m h q).2
theorem nS(m:Nat)(h:Int):∀ k,(Ex m h k).dummy=none
 | 0=>rfl
 | k+1=>by
  rw[Ex,ii];split
  ·exact nS m h k
  ·exact nS m h k
theorem AC(m i:Nat):SetTable.runEnd m i - i<=9:=by
 unfold SetTable.runEnd;split<;>lia
theorem ij{m:Nat}{h:Int}{k i pt:Nat}(e:Ex m h k=K_ m i pt):∀ r,r<=SetTable.runEnd m i - i->Ex m h (k+r)={ K_ m i pt with j:=i+r,more:=SetTable.runEnd m i - i - r }
 | 0,_=>e
 | r+1,hr=>by
  show ii m (Ex m h<|k+r)=_;rw[ij e r (by lia),ii,ZZ (show SetTable.runEnd m i - i - r > 0 by lia)];rfl
theorem AD{h:Int}{k pt:Nat}(e:Ex m h k=K_ m i pt):Ex m h (k+(SetTable.runEnd m i - i)+1)=K_ m (SetTable.leap m i pt).1 (SetTable.leap m i pt).2:=by
 show ii m (Ex m h<|k+(SetTable.runEnd m i - i))=_;rw[ij e _ (ZR _),ii,ZY (show ¬ (SetTable.runEnd m i - i - (SetTable.runEnd m i - i) > 0) by lia)];rfl
def kq(m:Nat)(h:Int):Nat->Nat
 | 0=>0
 | q+1=>kq m h q+(SetTable.runEnd m (EI m h q).1 - (EI m h q).1)+1
theorem ik(m:Nat)(h:Int):∀ q,Ex m h (kq m h q)=K_ m (EI m h q).1 (EI m h q).2
 | 0=>rfl
 | q+1=>AD (ik m h q)
theorem sX(m:Nat)(h:Int):∀ q,kq m h q<=10 * q
 | 0=>ZR _
 | q+1=>by
  have:=sX m h q;have:=AC m (EI m h q).1;show kq m h q+_+1<=_;lia
theorem sY(m:Nat)(h:Int):∀ k,∃ q r,k=kq m h q+r/\r<=SetTable.runEnd m (EI m h q).1 - (EI m h q).1
 | 0=>⟨0,0,rfl,Yl _⟩
 | k+1=>by
  obtain⟨q,r,e,hr⟩:=sY m h k;by_cases z:r+1<=SetTable.runEnd m (EI m h q).1 - (EI m h q).1
  ·exact⟨q,r+1,by lia,z⟩
  ·exact⟨q+1,0,by show _=kq m h q+_+1+0;lia,Yl _⟩
def HM(m:Nat):Nat->Nat->Nat
 | 0,x=>x
 | k+1,x=>(HM m k x * 5+1) % (m+1)
theorem jm(m:Nat)(a x:Nat):∀ b,HM m (a+b) x=HM m b (HM m a x)
 | 0=>rfl
 | b+1=>by
  show (HM m (a+b) x * 5+1) % (m+1)=_;rw[jm m a x b];rfl
def Nj(m:Nat):Nat->Nat->Nat->Nat
 | 0,_,acc=>acc
 | k+1,x,acc=>Nj m k ((x * 5+1) % (m+1)) (acc ||| 2 ^ x)
theorem AE(m k x:Nat):HM m k ((x * 5+1) % (m+1))=HM m (k+1) x:=by
 rw[Vr k 1,jm];rfl
theorem sZ{m:Nat}:∀ {n x y acc:Nat},(Nj m n x acc).testBit y=true->acc.testBit y=true\/∃ k,k<n/\HM m k x=y
 | 0,_,_,_,h=>.inl h
 | n+1,x,y,acc,h=>by
  rcases sZ (n:=n) h with h | ⟨k,h1,h2⟩
  ·rw[Nat.testBit_or,VH] at h;rcases h with h | h
   ·exact .inl h
   ·rw[Nat.testBit_two_pow,Yv] at h;exact .inr ⟨0,Wl _,h⟩
  ·exact .inr ⟨k+1,Nat.succ_lt_succ h1,by rw[<- AE];exact h2⟩
def nU(m:Nat):Bool:=beq (Nj m (m+1) 0 0) (2 ^ (m+1) - 1) && beq (HM m (m+1) 0) 0
theorem AF(c:nU m=true){a x:Nat}(ha:a<=m)(hx:x<=m):∃ k,k<=m/\HM m k a=x:=by
 rw[nU,ZQ] at c;have z:=Nat.eq_of_beq_eq_true c.2;have all:∀ y,y<=m->∃ k,k<m+1/\HM m k 0=y:=fun y hy=>by
  have q:(Nj m (m+1) 0 0).testBit y=true:=by
   rw[Nat.eq_of_beq_eq_true c.1,Nat.testBit_two_pow_sub_one];exact Zu (Nat.lt_succ_of_le hy)
  rcases sZ q with h | h
  ·rw[Nat.zero_testBit] at h;cases h
  ·exact h
 obtain⟨ka,h1,rfl⟩:=all a ha;obtain⟨kx,h2,rfl⟩:=all x hx;rcases Y6 kx ka with h | h
 ·refine⟨kx+(m+1 - ka),by lia,?_⟩;rw[<- jm,show ka+(kx+(m+1 - ka))=(m+1)+kx by lia,jm,z]
 ·refine⟨kx - ka,by lia,?_⟩;rw[<- jm,show ka+(kx - ka)=kx by lia]
def GM(m:Nat):Prop:=m=7\/m=31\/m=127\/m=511
theorem GM.RN(g:GM m):nU m=true:=by
 rcases g with rfl | rfl | rfl | rfl<;>decide +kernel
theorem AG(h:Int):SetTable.bits h<2 ^ 64:=by
 unfold SetTable.bits;have h1:=Xw h (show (2 ^ 64:Int)≠0 by decide);have h2:=Xz h (show (0:Int)<2 ^ 64 by decide);lia
theorem s9(m:Nat)(h:Int):∀ q,(EI m h q).2=SetTable.bits h / 32 ^ q
 | 0=>by rw[Nat.pow_zero,Nat.div_one];rfl
 | q+1=>by
  show (EI m h q).2 / 32=_;rw[s9 m h q,Nat.div_div_eq_div_mul];rfl
theorem nV(m:Nat)(h:Int):∀ q,(EI m h q).1<=m
 | 0=>Xo (Vu _<|Wl _)
 | q+1=>Xo (Vu _<|Wl _)
theorem tf(m:Nat)(h:Int):∀ k,EI m h (13+k)=(HM m k (EI m h 13).1,0)
 | 0=>by
  have e:(EI m h 13).2=0:=by
   rw[s9];exact Nat.div_eq_of_lt (Wn (AG h) (by decide))
  show EI m h 13=((EI m h 13).1,0);rw[<- e]
 | k+1=>by
  show SetTable.leap m (EI m h<|13+k).1 (EI m h<|13+k).2=_;rw[tf m h k];show ((HM m k (EI m h 13).1 * 5+1+0 / 32) % (m+1),0 / 32)=_;rw[Nat.zero_div,VV];rfl
theorem tj(g:GM m)(h:Int){x:Nat}(hx:x<=m):∃ q,q+1<SetTable.turns m/\(EI m h q).1=x:=by
 obtain⟨k,h1,h2⟩:=AF g.RN (nV m h 13) hx;exact⟨13+k,by unfold SetTable.turns;lia,by rw[tf];exact h2⟩
theorem AH(g:GM m)(h:Int){x:Nat}(hx:x<=m):∃ k,k<10 * SetTable.turns m/\(Ex m h k).j=x:=by
 obtain⟨q,h1,h2⟩:=tj g h hx;refine⟨kq m h q,by have:=sX m h q;lia,?_⟩;rw[ik];exact h2
theorem tm(h:i<=m):SetTable.runEnd m i<=m:=by unfold SetTable.runEnd;split<;>lia
theorem tp(m:Nat)(h:Int)(k:Nat):(Ex m h k).j<=m:=by
 obtain⟨q,r,rfl,hr⟩:=sY m h k;rw[ij (ik m h q) r hr];have:=tm (nV m h q);have e:SetTable.runEnd m (EI m h q).1 >= (EI m h q).1:=by unfold SetTable.runEnd;split<;>lia
 show (EI m h q).1+r<=m;lia
theorem kS{α:Type}[DecidableEq α]:∀ {l m:List α},l.Nodup->(∀ x∈l,x∈m)->l.length<=m.length
 | [],m,_,_=>Yl _
 | a::l,m,nd,h=>by
  have Iu:=Y7.mp nd;have q:=kS (l:=l) (m:=m.erase a) Iu.2 fun x hx=>(Wt (fun e:x=a=>Iu.1<|e ▸ hx)).mpr (h x<|.tail _ hx);have ha:=h a (.head _);rw[V6 ha] at q;have:=VR ha;rw[ZD];lia
def Jq(m:Nat)(Hz:Nat->Prop)(h:Int)(j:Nat):Prop:=∃ k,(Ex m h k).j=j/\∀ k',k'<k->Hz (Ex m h k').j
theorem Jq.mono{Hz Mi:Nat->Prop}{h:Int}{j:Nat}(r:Jq m Hz h j)(i:∀ x,Hz x->Mi x):Jq m Mi h j:=let ⟨k,e,a⟩:=r;⟨k,e,fun k' z=>i _<|a k' z⟩
structure HN(t:SetTable)(hs:List Int):Prop where
 gm:GM t.mask
 len:t.place.size=hs.length
 loose:t.place.size * 5<t.mask * 3
 le:∀ j∈t.place.toList,j<=t.mask
 KA:∀ p∈t.place.toList.zip hs,Jq t.mask (·∈t.place.toList) p.2 p.1
theorem GM.pos(g:GM m):7<=m/\m<=511/\m % 2=1:=by rcases g with rfl | rfl | rfl | rfl<;>decide
theorem AI(r:be t.place){j:Nat}(h:j∈t.place.toList):∃ i,t.slot j=.live i/\t.place[i]?=some j:=by
 obtain⟨i,hi,e⟩:=YM.mp h;have e':t.place[i]?=some j:=by
  rw[<- ZC,ZV hi,e]
 refine⟨i,?_,e'⟩;unfold SetTable.slot;dsimp only;rw[nR r e',e',ZZ<|YH _]
theorem AJ(hd:t.dummies=#[]){j:Nat}(h:j∉t.place.toList):t.slot j=.empty:=by
 rcases AA hd j with ⟨i,e⟩ | ⟨e,_⟩
 ·unfold SetTable.slot at e;dsimp only at e;split at e
  ·next q=>
   have q':=eq_of_beq q;refine absurd ?_ h;rw[<- ZC] at q';exact Zt q'
  ·split at e<;>cases e
 ·exact e
theorem HN.some(H:HN t hs)(h:Int):∃ k,k<10 * SetTable.turns t.mask/\(Ex t.mask h k).j∉t.place.toList:=by
 have:∃ x,x<=t.mask/\x∉t.place.toList:=by
  refine XX fun c=>?_;have q:=kS (l:=range (t.mask+1)) (m:=t.place.toList) Wz fun x hx=>XX fun z=>c ⟨x,Xo<|Zh.mp hx,z⟩;rw[Y2,ZO] at q;have:=H.loose;lia
 obtain⟨x,h1,h2⟩:=this;obtain⟨k,k1,k2⟩:=AH H.gm h h1;exact⟨k,k1,by rw[k2];exact h2⟩
theorem tq{t : SetTable}(r : be t.place)(hd : t.dummies = #[])(hA : Nat -> Int)(h : Int): ∀ (fuel k0 : Nat), (∃ k, k0 <= k /\ k < k0 + fuel /\ (Ex t.mask h k).j ∉ t.place.toList) ->
    ∃ k1, k0 <= k1 /\ (∀ k, k0 <= k -> k < k1 -> ∃ i, t.place[i]? = some (Ex t.mask h k).j /\ hA i ≠ h) /\
      ((SetTable.probe.go t hA h fuel (Ex t.mask h k0) = some (.empty (Ex t.mask h k1).j none) /\ (Ex t.mask h k1).j ∉ t.place.toList) \/
        ∃ i, SetTable.probe.go t hA h fuel (Ex t.mask h k0) = some (.candidate (Ex t.mask h k1).j i<|Ex t.mask h<|k1 + 1) /\ t.slot (Ex t.mask h k1).j = .live i /\ t.place[i]? = some (Ex t.mask h k1).j /\ hA i = h)
  | 0, k0, ⟨k, a, b, _⟩ => absurd a (by lia)
  | fuel + 1, k0, ⟨k, a, b, c⟩ => by
    by_cases z : (Ex t.mask h k0).j ∈ t.place.toList
    · obtain ⟨i, e1, e2⟩ := AI r z
      by_cases q : hA i = h
      · refine ⟨k0, ZR _, fun k h1 h2 => absurd h1 (by lia), .inr ⟨i, ?_, e1, e2, q⟩⟩
        unfold SetTable.probe.go;rw [e1];dsimp only;rw [ZZ (by rw [q]; exact YH _)];rfl
      · have ne : k ≠ k0 := fun e => c (e ▸ z)
        obtain ⟨k1, h1, h2, h3⟩ := tq r hd hA h fuel (k0 + 1) ⟨k, by lia, by lia, c⟩;have e : SetTable.probe.go t hA h (fuel + 1) (Ex t.mask h k0) = SetTable.probe.go t hA h fuel (Ex t.mask h<|k0 + 1) := by
          rw [SetTable.probe.go, e1];dsimp only;rw [ZY (by rw [XC]; exact q)];rfl
        refine ⟨k1, by lia, fun k g1 g2 => ?_, by rw [e]; exact h3⟩;rcases Y6 k0 k with g | g
        · exact h2 k g g2
        · rw [show k = k0 by lia]; exact ⟨i, e2, q⟩
    · refine ⟨k0, ZR _, fun k h1 h2 => absurd h1 (by lia), .inl ⟨?_, z⟩⟩
      unfold SetTable.probe.go;rw [AJ hd z];dsimp only;rw [nS]
theorem nW(xs:Array α)(p:Nat)(x:α):(SetTable.insertAt xs p x).toList=xs.toList.take p++x::xs.toList.drop p:=SetTable.toList_insertAt xs p x
theorem jo{l:List α}{p:Nat}{x y:α}:y∈l.take p++x::l.drop p↔y=x\/y∈l:=by
 constructor
 ·intro h;rcases Zx.mp h with h | h
  ·exact .inr (YN h)
  ·rcases ZU.mp h with h | h
   ·exact .inl h
   ·exact .inr (YK h)
 ·rintro (rfl | h)
  ·exact ZG _ (.head _)
  ·rw[<- Zz p l] at h;rcases Zx.mp h with h | h
   ·exact ZA _ h
   ·exact ZG _ (.tail _ h)
theorem AK{a:List α}{b:List β}(hl:a.length=b.length)(p:Nat)(x:α)(y:β):(a.take p++x::a.drop p).zip (b.take p++y::b.drop p)=(a.zip b).take p++(x,y)::(a.zip b).drop p:=by
 rw[List.zip_append (by rw[Zm,Zm,hl]),Wf];have e1:∀ (p:Nat) (a:List α) (b:List β),(a.take p).zip (b.take p)=(a.zip b).take p:=fun p=>by
  induction p with
  | zero=>intro a b;rfl
  | succ p ih=>intro a b;cases a with
   | nil=>rfl
   | cons x a=>cases b with
    | nil=>rfl
    | cons y b=>exact congrArg ((x,y)::·) (ih a b)
 have e2:∀ (p:Nat) (a:List α) (b:List β),(a.drop p).zip (b.drop p)=(a.zip b).drop p:=fun p=>by
  induction p with
  | zero=>intro a b;rfl
  | succ p ih=>intro a b;cases a with
   | nil=>rfl
   | cons x a=>cases b with
    | nil=>show (a.drop p).zip []=_;rw[List.zip_nil_right];rfl
    | cons y b=>exact ih a b
 rw[e1,e2]
theorem HN.put(H:HN t hs){h:Int}{k:Nat}(hk:(Ex t.mask h k).j∉t.place.toList)(ha:∀ k',k'<k->(Ex t.mask h k').j∈t.place.toList):
  (∀ j∈(t.put (Ex t.mask h k).j).1.place.toList,j<=t.mask)/\∀ p∈(t.put (Ex t.mask h k).j).1.place.toList.zip (hs.take (t.put (Ex t.mask h k).j).2++h::hs.drop (t.put (Ex t.mask h k).j).2),Jq t.mask (·∈(t.put (Ex t.mask h k).j).1.place.toList) p.2 p.1:=by
 have e:(t.put (Ex t.mask h k).j).1.place.toList=t.place.toList.take (t.put (Ex t.mask h k).j).2++(Ex t.mask h k).j::t.place.toList.drop (t.put (Ex t.mask h k).j).2:=nW _ _ _;rw[e];refine⟨fun j hj=>?_,fun p hp=>?_⟩
 ·rcases jo.mp hj with rfl | hj
  ·exact tp _ _ _
  ·exact H.le j hj
 ·rw[AK (by rw[ZO];exact H.len)] at hp;rcases jo.mp hp with rfl | hp
  ·exact⟨k,rfl,fun k' z=>jo.mpr<|.inr<|ha k' z⟩
  ·exact (H.KA p hp).mono fun x hx=>jo.mpr (.inr hx)
def eE(ow:Array (Option Nat))(j:Nat):Prop:=(ow.getD j<|some 0).isSome=true
theorem tu{m:Nat}(ow:Array (Option Nat))(h:Int):∀ (fuel q:Nat),(∀ k',k'<kq m h q->eE ow (Ex m h k').j)->(∃ q',q<=q'/\q'<q+fuel/\¬ eE ow (EI m h q').1)->
  ∃ j,SetTable.layClean.free m ow fuel (EI m h q).1 (EI m h q).2=some j/\j<=m/\¬ eE ow j/\Jq m (eE ow) h j
 | 0,q,_,⟨q',a,b,_⟩=>absurd a (by lia)
 | fuel+1,q,hk,⟨q',a,b,c⟩=>by
  unfold SetTable.layClean.free;have le:SetTable.runEnd m (EI m h q).1<=m:=tm (nV m h q);have ge:(EI m h q).1<=SetTable.runEnd m (EI m h q).1:=by unfold SetTable.runEnd;split<;>lia
  cases hf:(range<|SetTable.runEnd m (EI m h q).1+1 - (EI m h q).1).find? (fun k=>(ow.getD ((EI m h q).1+k)<|some 0).isNone) with
  | some k=>
   dsimp only;rw[List.find?_range_eq_some] at hf;obtain⟨h1,h2,h3⟩:=hf;have KZ:k<SetTable.runEnd m (EI m h q).1+1 - (EI m h q).1:=Zh.mp h2;refine⟨_,rfl,by lia,?_,kq m h q+k,?_,fun k' FK=>?_⟩
   ·unfold eE;intro z;rw[Option.isNone_iff_eq_none] at h1;rw[h1] at z;cases z
   ·rw[ij (ik m h q) k (by lia)]
   ·rcases Y6 k' (kq m h q) with z | z
    ·exact hk k' z
    ·have e:k'=kq m h q+(k' - kq m h q):=by lia
     rw[e,ij (ik m h q) (k' - kq m h q) (by lia)];have:=h3 (k' - kq m h q) (by lia);show (ow.getD ((EI m h q).1+(k' - kq m h q))<|some 0).isSome=true;cases w:ow.getD ((EI m h q).1+(k' - kq m h q)) (some 0) with
     | none=>rw[w] at this;cases this
     | some _=>rfl
  | none=>
   dsimp only;rw[List.find?_range_eq_none] at hf;have Hz:∀ k,k<SetTable.runEnd m (EI m h q).1+1 - (EI m h q).1->eE ow ((EI m h q).1+k):=fun k hk=>by
    have:=hf k hk;unfold eE;cases w:ow.getD ((EI m h q).1+k) (some 0) with
    | none=>rw[w] at this;cases this
    | some _=>rfl
   have ne:q'≠q:=fun e=>c (by rw[e];exact Hz 0 (by lia));refine tu ow h fuel (q+1) (fun k' FK=>?_) ⟨q',by lia,by lia,c⟩;rcases Y6 k' (kq m h q) with z | z
   ·exact hk k' z
   ·have G7:k'<kq m h q+(SetTable.runEnd m (EI m h q).1 - (EI m h q).1)+1:=FK;have e:k'=kq m h q+(k' - kq m h q):=by lia
    rw[e,ij (ik m h q) (k' - kq m h q) (by lia)];exact Hz _ (by lia)
structure GL(m:Nat)(ow:Array (Option Nat))(ps:List Nat)(hs:List Int):Prop where
 size:ow.size=m+1
 len:ps.length=hs.length
 nd:ps.Nodup
 le:∀ j∈ps,j<=m
 own:∀ (j k:Nat),ow[j]?=some (some k)↔ps[k]?=some j
 KA:∀ p∈ps.zip hs,Jq m (·∈ps) p.2 p.1
theorem GL.Hz(I:GL m ow ps hs){j:Nat}(hj:j<=m):eE ow j↔j∈ps:=by
 have hl:j<ow.size:=by rw[I.size];lia
 unfold eE;rw[show ow.getD j (some 0)=ow[j] by simp[Array.getD,hl]];have e:ow[j]?=some ow[j]:=Zi hl;constructor
 ·intro z;obtain⟨k,hk⟩:=Xb.mp z;rw[hk] at e;exact Zt ((I.own j k).mp e)
 ·intro z;obtain⟨k,hk⟩:=Xl z;have:=(I.own j k).mpr hk;rw[e] at this;rw[Zr this];rfl
theorem GL.step(g:GM m){ow:Array (Option Nat)}{ps:List Nat}{hs:List Int}(I:GL m ow ps hs)(hl:hs.length<=m)(h:Int):
  ∃ j,SetTable.layClean.free m ow (SetTable.turns m) (SetTable.bits h % (m+1)) (SetTable.bits h)=some j/\GL m (ow.setIfInBounds j<|some hs.length) (ps++[j]) (hs++[h]):=by
 have room:∃ x,x<=m/\x∉ps:=by
  refine XX fun c=>?_;have q:=kS (l:=range (m+1)) (m:=ps) Wz fun x hx=>XX fun z=>c ⟨x,Xo<|Zh.mp hx,z⟩;rw[Y2,I.len] at q;lia
 obtain⟨x,P9,RO⟩:=room;obtain⟨q,SR,RP⟩:=tj g h P9;obtain⟨j,f1,f2,f3,f4⟩:=tu (m:=m) ow h (SetTable.turns m) 0 (fun k' FK=>absurd FK<|WZ _) ⟨q,Yl _,by lia,by rw[RP];exact fun z=>RO<|(I.Hz P9).mp z⟩;have hj:j∉ps:=fun z=>f3 ((I.Hz f2).mpr z);have Mg:j<ow.size:=by rw[I.size];lia
 refine⟨j,f1,by rw[Array.size_setIfInBounds,I.size],by rw[ZI,ZI,I.len];rfl,?_,?_,fun j' k=>?_,?_⟩
 ·exact ZK.mpr ⟨I.nd,Zw _ _,fun a ha b hb e=>hj (by rw[<- Z1.mp hb,<- e];exact ha)⟩
 ·intro a ha;rcases Zx.mp ha with ha | ha
  ·exact I.le a ha
  ·rw[Z1.mp ha];exact f2
 ·rw[Array.getElem?_setIfInBounds];by_cases e:j=j'
  ·subst e;rw[ZZ rfl,ZZ Mg];constructor
   ·intro z;cases z;rw[<- I.len,Zf<|ZR _,Nat.sub_self];rfl
   ·intro z;rcases Y6 k ps.length with w | w
    ·rw[Zb w] at z;exact absurd (Zt z) hj
    ·rw[Zf w] at z;have:k - ps.length=0:=by
      have:=(ZE.mp z).1;rw[Yj] at this;lia
     rw[show k=hs.length by rw[<- I.len];lia]
  ·rw[ZY e,I.own j' k];rcases Y6 k ps.length with w | w
   ·rw[Zb w]
   ·rw[Zf w,YA w];constructor
    ·intro z;cases z
    ·intro z;have:=Zt z;exact absurd (Z1.mp this) (fun z=>e z.symm)
 ·intro p hp;rw[List.zip_append I.len] at hp;rcases Zx.mp hp with hp | hp
  ·exact (I.KA p hp).mono fun x hx=>ZA _ hx
  ·rw[Wf,List.zip_nil_left] at hp;rw[Z1.mp hp];obtain⟨k,e,a⟩:=f4;exact⟨k,e,fun k' FK=>ZA _<|(I.Hz<|tp _ _ _).mp<|a k' FK⟩
theorem tw{m:Nat}(g:GM m):∀ (rest hs:List Int) (ow:Array (Option Nat)) (ps:List Nat),GL m ow ps hs->(hs++rest).length<=m->
  ∃ Nk OA,rest.foldl (fun (acc:Option (Array (Option Nat)×Nat)) h=>do
   let (owner,k) <- acc
   let j <- SetTable.layClean.free m owner (SetTable.turns m) (SetTable.bits h % (m+1)) (SetTable.bits h)
   pure (owner.setIfInBounds j<|some k,k+1)) (some (ow,hs.length))=some (Nk,(hs++rest).length)/\GL m Nk OA (hs++rest)
 | [],hs,ow,ps,I,_=>⟨ow,ps,by rw[ZT];rfl,by rw[ZT];exact I⟩
 | h::rest,hs,ow,ps,I,hl=>by
  obtain⟨j,e,I'⟩:=I.step g (by rw[ZI] at hl;lia) h;obtain⟨Nk,OA,e2,I2⟩:=tw g rest (hs++[h]) _ _ I' (by rw[Z7];exact hl);rw[Z7] at e2 I2;refine⟨Nk,OA,?_,I2⟩;rw[Yk];rw[show (hs++[h]).length=hs.length+1 from ZI] at e2;refine Eq.trans (congrArg (fun z=>List.foldl _ z rest) ?_) e2;show (SetTable.layClean.free m ow (SetTable.turns m) (SetTable.bits h % (m+1))<|SetTable.bits h).bind _=_;rw[e];rfl
theorem AL(g:GM m)(hs:Array Int)(hl:hs.size<=m):∃ ow ps,SetTable.layClean m hs=some ow/\GL m ow ps hs.toList:=by
 have I0:GL m (Array.replicate (m+1) none) [] []:=by
  refine⟨Array.size_replicate,rfl,Yy,fun _ h=>(Y9 h).elim,fun j k=>⟨fun z=>?_,fun z=>?_⟩,fun _ h=>(Y9 h).elim⟩
  ·have:=(YX.mp z).2;rw[Array.getElem_replicate] at this;cases this
  ·simp at z
 obtain⟨ow,ps,e,I⟩:=tw g hs.toList [] _ _ I0 (by rw[Wr,ZO];exact hl);refine⟨ow,ps,?_,I⟩;unfold SetTable.layClean;rw[<- Array.foldl_toList];exact congrArg (Option.map (·.1)) e
theorem AM{p:Nat×Nat}:p∈(range<|m+1).filterMap (fun j=>(ow.getD j none).map (j,·))↔p.1<=m/\ow[p.1]?=some (some p.2):=by
 rw[WW];constructor
 ·rintro⟨j,h1,h2⟩;obtain⟨k,e1,rfl⟩:=Z2.mp h2;refine⟨Xo<|Zh.mp h1,?_⟩;show ow[j]?=some (some k);by_cases z:j<ow.size
  ·rw[show ow.getD j none=ow[j] by simp[Array.getD,z]] at e1;rw[Zi z,e1]
  ·rw[show ow.getD j none=none by simp[Array.getD,z]] at e1;cases e1
 ·rintro⟨h1,h2⟩;refine⟨p.1,Zh.mpr<|Nat.lt_succ_of_le h1,?_⟩;obtain⟨z,e⟩:=YX.mp h2;rw[show ow.getD p.1 none=ow[p.1] by simp[Array.getD,z],e];rfl
theorem tz{α β:Type}:∀ {l:List (α×β)},(l.map (·.1)).Nodup->(∀ a∈l,∀ b∈l,a.2=b.2->a.1=b.1)->(l.map (·.2)).Nodup
 | [],_,_=>Yy
 | x::l,h,i=>by
  rw[ZH] at h ⊢;have h':=Y7.mp h;refine Y7.mpr ⟨fun z=>?_,tz h'.2 fun a ha b hb=>i a (.tail _ ha) b<|.tail _ hb⟩;obtain⟨y,hy,e⟩:=Ze.mp z;have:=i y (.tail _ hy) x (.head _) e;exact h'.1 (by rw[<- this];exact X8 hy)
theorem tB{α β γ:Type}(f:α->β)(g:α->γ):∀ l:List α,(l.map f).zip (l.map g)=l.map fun x=>(f x,g x)
 | []=>rfl
 | x::l=>congrArg (_::·) (tB f g l)
theorem AN{wanted:Nat}(g:GM (SetTable.sizeAbove wanted - 1))(hl:es.size * 5<(SetTable.sizeAbove wanted - 1) * 3){led:Bool}(k:t.led=led):
  ∃ t' order,t.relaid (es.map (·.1)) wanted=some (t',order)/\order.toList.Perm (range es.size)/\Fe t' led/\HN t' ((order.filterMap (es[·]?)).toList.map (·.1)):=by
 obtain⟨ow,ps,e,I⟩:=AL g (es.map (·.1)) (by rw[Vx];lia);generalize hm:SetTable.sizeAbove wanted - 1=m at *;have hL:t.relaid (es.map (·.1)) wanted=some ({ mask:=m,place:=(((range<|m+1).filterMap fun j=>(ow.getD j none).map (j,·)).map (·.1)).toArray,dummies:=#[],finger:=t.finger,led:=t.led,moves:=t.movedTo m,plain:=t.plain },(((range<|m+1).filterMap fun j=>(ow.getD j none).map (j,·)).map (·.2)).toArray):=by
  unfold SetTable.relaid SetTable.laid;rw[hm,e];rfl
 have Gm:=fun (p:Nat×Nat)=>AM (m:=m) (ow:=ow) (p:=p);have rise:(((range<|m+1).filterMap fun j=>(ow.getD j none).map (j,·)).map (·.1)).Pairwise (· < ·):=by
  have:=(AB (t:=_) (o:=_) hL);exact this.rise
 generalize RQ:(range<|m+1).filterMap (fun j=>(ow.getD j none).map (j,·))=L at hL Gm rise;have pos:∀ p∈L,ps[p.2]?=some p.1:=fun p hp=>(I.own _ _).mp ((Gm p).mp hp).2;have lt:∀ p∈L,p.2<es.size:=fun p hp=>by
  have:=(ZE.mp<|pos p hp).1;rw[I.len,ZO,Vx] at this;exact this
 have LY:(L.map (·.1)).Nodup:=rise.imp fun h=>ZB h;have GH:(L.map (·.2)).Nodup:=tz LY fun a ha b hb e=>by
  have h1:=pos a ha;have h2:=pos b hb;rw[e] at h1;exact Zr (h1.symm.trans h2)
 have perm:(L.map (·.2)).Perm (range es.size):=by
  refine (Yp GH Wz).mpr fun x=>?_;rw[Zh];constructor
  ·intro h;obtain⟨p,hp,rfl⟩:=Ze.mp h;exact lt p hp
  ·intro h;have hx:x<ps.length:=by rw[I.len,ZO,Vx];exact h
   have h1:ps[x]?=some ps[x]:=ZV hx;exact Ze.mpr ⟨(ps[x],x),(Gm _).mpr ⟨I.le _<|XI hx,(I.own _ _).mpr h1⟩,rfl⟩
 have hlen:L.length=es.size:=by
  have:=perm.length_eq
  rwa [Z3,Y2] at this
 have P':((L.map (·.2)).filterMap (es[·]?)).map (·.1)=L.map fun p=>(es.getD p.2 (0,.none)).1:=by
  clear Gm rise pos LY GH perm hlen hL RQ;induction L with
  | nil=>rfl
  | cons p L ih=>
   have hp:=lt p (.head _);rw[ZH,W6<|Zi hp,ZH,ZH,ih fun q hq=>lt q<|.tail _ hq];congr 1;simp[Array.getD,hp]
 refine⟨_,_,hL,?_,⟨?_,rfl,k⟩,⟨g,?_,?_,?_,?_⟩⟩
 ·exact perm
 ·exact rise
 ·rw[WH];show (L.map (·.1)).toArray.size=(((L.map (·.2)).filterMap (es[·]?)).map (·.1)).length;rw[P',ZS,Z3,Z3]
 ·show (L.map (·.1)).toArray.size * 5<m * 3;rw[ZS,Z3,hlen];exact hl
 ·intro j hj;obtain⟨p,hp,rfl⟩:=Ze.mp hj;exact ((Gm p).mp hp).1
 ·rw[WH];show ∀ p∈(L.map (·.1)).zip (((L.map (·.2)).filterMap (es[·]?)).map (·.1)),Jq m (·∈L.map (·.1)) p.2 p.1;rw[P',tB];intro p hp;obtain⟨q,hq,rfl⟩:=Ze.mp hp;have h1:=pos q hq;have h2:((es.map (·.1)).toList)[q.2]?=some (es.getD q.2 (0,.none)).1:=by
   have:=lt q hq;rw[ZC,Array.getElem?_map,Zi this];simp[Array.getD,this]
  have hz:(q.1,(es.getD q.2 (0,.none)).1)∈ps.zip (es.map (·.1)).toList:=by
   refine Zt (i:=q.2) ?_;rw[Xe];exact⟨h1,h2⟩
  refine (I.KA _ hz).mono fun x hx=>?_;obtain⟨k,hk⟩:=Xl hx;exact Ze.mpr ⟨(x,k),(Gm _).mpr ⟨I.le x hx,(I.own _ _).mpr hk⟩,rfl⟩
theorem AO(g:GM m)(h1:n * 5<m * 3)(h2:(n+1) * 5 >= m * 3)(h3:n+1<=300):GM (SetTable.sizeAbove (SetTable.grown<|n+1) - 1)/\(n+1) * 5<(SetTable.sizeAbove (SetTable.grown<|n+1) - 1) * 3/\SetTable.sizeAbove (SetTable.grown<|n+1)<=512:=by
 rcases g with rfl | rfl | rfl | rfl
 ·rw[show n=4 by lia];exact⟨.inr (.inl (by decide)),by decide,by decide⟩
 ·rw[show n=18 by lia];exact⟨.inr (.inr (.inl (by decide))),by decide,by decide⟩
 ·rw[show n=76 by lia];exact⟨.inr (.inr (.inr (by decide))),by decide,by decide⟩
 ·lia
section
variable{prog:Program}{w:World}{A:Around}{E:Value->Shared->Prop}{s:Shared}
end
section
variable{prog:Program}{w:World}
theorem tD:∀ (n:Nat) {A:Around}{E:Value->Shared->Prop}{s:Shared}{d:Im}{v:Value}{Q:Bool->Shared->Prop},Im.key n d=true->E_ s.heap d v->(∀ b,Q b s)->wpAny (model prog w) A (hashByValue n v) Q E s
 | n,A,E,s,.int i,v,Q,_,hv,h=>by
  obtain⟨t,rfl⟩:=hv;rw[show hashByValue n (.int i t)=pure true from by cases n<;>rfl];exact Z4 (h _)
 | n,A,E,s,.str i,v,Q,_,hv,h=>by
  obtain⟨t,rfl⟩:=hv;rw[show hashByValue n (.str i t)=pure false from by cases n<;>rfl];exact Z4 (h _)
 | n+1,A,E,s,.tup ds,v,Q,k,hv,h=>by
  obtain⟨a,o,items,m,rfl,ho,hc,hd,hi⟩:=hv;have hT:s.TypeIs (.ref a) "tuple" := ⟨o,ho,hc⟩;unfold hashByValue;refine Z9 (W2 hT Xr.lookup ?_);show wpAny _ _ (seqItems? (.ref a) >>= _) _ _ s;refine Z9 (YU ho hd ?_);refine Z9 ?_;show wpAny _ _ (forIn items _ _) _ _ s;rw[<- WY];rw[Im.key] at k;refine XM _ (fun rest r s'=>s'=s/\∃ left,Im.keys n left=true/\aF s.heap left rest) _ ?_ ?_ _ _ ⟨rfl,ds,k,hi⟩
  ·rintro v rest r s' ⟨rfl,left,hk,hl⟩;cases left with
   | nil=>cases (show v::rest=[] from hl)
   | cons d left=>
    obtain⟨v',r',e,h1,FV⟩:=hl;cases e;rw[Im.keys,ZQ] at hk;refine Z9 (tD n hk.1 h1 fun b=>?_);cases b
    ·show wpAny _ _ (pure<|ForInStep.done _) _ _ _;exact Z4 (Z4<|h _)
    ·show wpAny _ _ (pure<|ForInStep.yield _) _ _ _;exact Z4 ⟨rfl,left,hk.2,FV⟩
  ·rintro⟨r1,r2⟩ s' ⟨rfl,_⟩;cases r1 with
   | none=>exact Z4 (h _)
   | some b=>exact Z4 (h _)
 | _,_,_,_,.h_,_,_,k,_,_=>by cases ‹Nat›<;>cases k
 | _,_,_,_,.bl _,_,_,k,_,_=>by cases ‹Nat›<;>cases k
 | _,_,_,_,.fn _,_,_,k,_,_=>by cases ‹Nat›<;>cases k
 | _,_,_,_,.fl _,_,_,k,_,_=>by cases ‹Nat›<;>cases k
 | _,_,_,_,.fd,_,_,k,_,_=>by cases ‹Nat›<;>cases k
 | 0,_,_,_,.tup _,_,_,k,_,_=>by cases k
theorem nX:∀ (n:Nat) {A:Around}{E:Value->Shared->Prop}{s:Shared}{d:Im}{v:Value}{Q:Bool->Shared->Prop},Im.key n d=true->E_ s.heap d v->Q false s->wpAny (model prog w) A (ofAClassStatement n v) Q E s
 | n,A,E,s,.int i,v,Q,_,hv,h=>by
  obtain⟨t,rfl⟩:=hv;rw[show ofAClassStatement n (.int i t)=pure false from by cases n<;>rfl];exact Z4 h
 | n,A,E,s,.str i,v,Q,_,hv,h=>by
  obtain⟨t,rfl⟩:=hv;rw[show ofAClassStatement n (.str i t)=pure false from by cases n<;>rfl];exact Z4 h
 | n+1,A,E,s,.tup ds,v,Q,k,hv,h=>by
  obtain⟨a,o,items,m,rfl,ho,hc,hd,hi⟩:=hv;have hT:s.TypeIs (.ref a) "tuple" := ⟨o,ho,hc⟩;unfold ofAClassStatement;refine Z9 (WS hT ?_);dsimp only;rw[ZZ (show ("tuple" == "tuple")=true by decide)];refine Z9 (Z4 ?_);simp only[Xu,Zo,Yz];refine Z9 (YU ho hd ?_);dsimp only;refine Z9 ?_;show wpAny _ _ (forIn items _ _) _ _ s;rw[<- WY];rw[Im.key] at k;refine XM _ (fun rest r s'=>r.1=none/\s'=s/\∃ left,Im.keys n left=true/\aF s.heap left rest) _ ?_ ?_ _ _ ⟨rfl,rfl,ds,k,hi⟩
  ·rintro v rest r s' ⟨hr,rfl,left,hk,hl⟩;cases left with
   | nil=>cases (show v::rest=[] from hl)
   | cons d left=>
    obtain⟨v',r',e,h1,FV⟩:=hl;cases e;rw[Im.keys,ZQ] at hk;refine Z9 (nX n hk.1 h1 ?_);simp only[Zo,Yz];exact Z4 ⟨rfl,rfl,left,hk.2,FV⟩
  ·rintro⟨r1,r2⟩ s' ⟨hr,rfl,_⟩;simp only at hr;subst hr;exact Z4 h
 | _,_,_,_,.h_,_,_,k,_,_=>by cases ‹Nat›<;>cases k
 | _,_,_,_,.bl _,_,_,k,_,_=>by cases ‹Nat›<;>cases k
 | _,_,_,_,.fn _,_,_,k,_,_=>by cases ‹Nat›<;>cases k
 | _,_,_,_,.fl _,_,_,k,_,_=>by cases ‹Nat›<;>cases k
 | _,_,_,_,.fd,_,_,k,_,_=>by cases ‹Nat›<;>cases k
 | 0,_,_,_,.tup _,_,_,k,_,_=>by cases k
theorem AQ{A:Around}{E:Value->Shared->Prop}{x:Addr}{Q:Bool->Shared->Prop}(hx:(bt prog w).is s.heap k x){vs:List Value}(hv:∀ v∈vs,∃ b k',v=.ref b/\(bt prog w).is s.heap k' b)(h:Q false s):
  wpAny (model prog w) A (searchCouldBeSeen (.ref x) vs) Q E s:=by
 unfold searchCouldBeSeen;refine Z9 ?_;refine XM _ (fun rest r s'=>r.1=none/\s'=s/\∀ v∈rest,∃ b k',v=.ref b/\(bt prog w).is s.heap k' b) _ ?_ ?_ _ _ ⟨rfl,rfl,hv⟩
 ·rintro v rest r s' ⟨hr,rfl,hl⟩;obtain⟨b,k',rfl,hb⟩:=hl v (.head _);have FV:∀ v∈rest,∃ b k',v=.ref b/\(bt prog w).is s'.heap k' b:=fun v hv=>hl v (.tail _ hv);dsimp only;cases SS:(x == b) with
  | true=>
   simp only[Bool.true_or,Xh];exact Z4 ⟨rfl,rfl,FV⟩
  | false=>
   simp only[Bool.false_or];rw[ZY (show ¬ ((carriedByValue (Value.ref x) && carriedByValue (Value.ref b))=true) from fun z=>ZM z)];refine Z9 (jE 8 (d:=.tup _) hx.1 hx.2 ?_);simp only[Xu,Zo,Yz];refine Z9 (jE 8 (d:=.tup _) hb.1 hb.2 ?_);simp only[Xu,Zo,Yz];refine Z9 (nX 8 (d:=.tup _) hx.1 hx.2 ?_);simp only[Zo,Yz];refine Z9 (nX 8 (d:=.tup _) hb.1 hb.2 ?_);simp only[Zo,Yz];exact Z4 ⟨rfl,rfl,FV⟩
 ·rintro⟨r1,r2⟩ s' ⟨hr,rfl,_⟩;simp only at hr;subst hr;exact Z4 h
end
section
variable(w:World)(P:List Im->Addr->Prop)
def kT(z:List Im×Int×Value):Prop:=∃ b,z.2.2=.ref b/\z.2.1=EU w (.tup z.1)/\P z.1 b
structure FB(es:Array (Int×Value))(t:SetTable)(led:Bool)(ks:List (List Im)):Prop where
 La:∃ zs:List (List Im×Int×Value),zs.map (·.2)=es.toList/\(zs.map (·.1)).Perm ks/\∀ z∈zs,kT w P z
 tab:Fe t led
 ht:HN t (es.toList.map (·.1))
 nd:ks.Nodup
def bp(h:Heap)(a:Addr)(led:Bool)(ks:List (List Im)):Prop:=∃ o es ep t,h.get? a=some o/\o.ExactSet/\o.data=.set es ep t/\FB w P es t led ks
end
section
variable{prog:Program}{w:World}{P:List Im->Addr->Prop}{A:Around}{E:Value->Shared->Prop}
theorem FB.size(D:FB w P es t led ks):t.place.size=es.size:=by
 rw[D.ht.len,Z3,ZO]
theorem FB.fit(D:FB w P es t led ks):t.fits es.size=true:=by
 have:=D.ht.loose;unfold SetTable.fits SetTable.fill;rw[D.tab.K',D.size,ZQ,XC,Yv];rw[D.size] at this;exact⟨rfl,by show es.size+0<=_;lia⟩
theorem FB.num(D:FB w P es t led ks):es.size=ks.length:=by
 obtain⟨zs,h1,h2,_⟩:=D.La;rw[<- h2.length_eq,Z3,<- ZO,<- h1,Z3]
theorem tE(r:be xs){i i' j:Nat}(a:xs[i]?=some j)(b:xs[i']?=some j):i=i':=by
 rw[<- nR r a,<- nR r b]
theorem AR{M:Model}{c:Bool}{m:Sem Bool}{u r:Sem α}{Q:α->Shared->Prop}(h1:∀ Q':Bool->Shared->Prop,Q' false s->wpAny M A m Q' E s)(h2:wpAny M A r Q E s):
  wpAny M A (if c=true then (do let b <- m;if b=true then u else r) else r) Q E s:=by
 cases c
 ·rw[ZY ZM];exact h2
 ·rw[ZZ rfl];refine Z9 (h1 _ ?_);rw[ZY ZM];exact h2
theorem tF{a x:Addr}{k:List Im}{led:Bool}{ks:List (List Im)}{o:Obj}{es:Array (Int×Value)}{ep:Nat}{t:SetTable}{s:Shared}{Q:SetFound->Shared->Prop}{zs:List (List Im×Int×Value)}(hu:A.units+20<cLine)(ho:s.heap.get? a=some o)(hd:o.data=.set es ep t)(D:FB w P es t led ks)(hx:(bt prog w).is s.heap k x)(HP:∀ q b,P q b->(bt prog w).is s.heap q b)(z1:zs.map (·.2)=es.toList)(z2:(zs.map (·.1)).Perm ks)(z3:∀ z∈zs,kT w P z)(IB:k∈ks->Q (.there none) s)(GW:k∉ks->∀ kk,(Ex t.mask (EU w<|.tup k) kk).j∉t.place.toList->(∀ k',k'<kk->(Ex t.mask (EU w<|.tup k) k').j∈t.place.toList)->Q (.free (Ex t.mask (EU w<|.tup k) kk).j false) s){kE:Nat}(hE:(Ex t.mask (EU w<|.tup k) kE).j∉t.place.toList)(Nl:kE<10 * SetTable.turns t.mask):
  ∀ (fuel k0:Nat) (st:Option SetTable.Probe),st.getD (t.probeStart<|EU w<|.tup k)=Ex t.mask (EU w<|.tup k) k0->kE<k0+fuel->(∀ k',k'<k0->(Ex t.mask (EU w<|.tup k) k').j∈t.place.toList)->
   (∀ (i k':Nat),k'<k0->t.place[i]?=some (Ex t.mask (EU w<|.tup k) k').j->(zs.map (·.1))[i]?≠some k)->
   wpAny (model prog w) A (setSearchFrom a (.ref x) (EU w<|.tup k) true fuel st) Q E s
 | 0,k0,st,_,hf,hk,_=>by
  refine absurd (hk kE (by lia)) hE
 | fuel+1,k0,st,Fv,hf,hk,hs=>by
  have RR:k0<=kE:=by
   rcases Y6 kE k0 with z | z
   ·exact absurd (hk kE z) hE
   ·exact z
  have hz:zs.length=es.size:=by rw[<- ZO,<- z1,Z3]
  have hash:∀ (i:Nat) (q:List Im),(zs.map (·.1))[i]?=some q->∃ e b,es[i]?=some e/\e.2=.ref b/\e.1=EU w (.tup q)/\(bt prog w).is s.heap q b:=fun i q hq=>by
   obtain⟨z,e1,e2⟩:=Z2.mp (by rw[Zy] at hq;exact hq);obtain⟨b,c1,c3,c2⟩:=z3 z (Zt e1);subst e2;refine⟨z.2,b,?_,c1,c3,HP _ _ c2⟩;rw[<- ZC,<- z1,Zy,e1];rfl
  unfold setSearchFrom;refine Z9 (YR ho hd D.fit ?_);dsimp only;rw[ZY (by unfold SetTable.gaveWay;rw[XC];have:=D.ht.gm.pos;lia)];rw[Fv];unfold SetTable.probe;obtain⟨k1,g1,g2,g3⟩:=tq D.tab.rise D.tab.K' (fun i=>(es[i]?.map (·.1)).getD 0) (EU w<|.tup k) (10 * SetTable.turns t.mask) k0 ⟨kE,RR,by lia,hE⟩;have Hz:∀ k',k'<k1->(Ex t.mask (EU w<|.tup k) k').j∈t.place.toList:=fun k' FK=>by
   rcases Y6 k' k0 with z | z
   ·exact hk k' z
   ·obtain⟨i,h1,_⟩:=g2 k' z FK;rw[<- ZC] at h1;exact Zt h1
  have JL:∀ (i k':Nat),k'<k1->t.place[i]?=some (Ex t.mask (EU w<|.tup k) k').j->(zs.map (·.1))[i]?≠some k:=fun i k' FK hp hq=>by
   rcases Y6 k' k0 with z | z
   ·exact hs i k' z hp hq
   ·obtain⟨i',h1,h2⟩:=g2 k' z FK;have:=tE D.tab.rise hp h1;subst this;obtain⟨e,b,c1,c2,c3,c4⟩:=hash i k hq;rw[c1] at h2;exact h2 c3
  generalize hg:SetTable.probe.go t _ (EU w<|.tup k) _ (Ex t.mask (EU w<|.tup k) k0)=g;rcases g3 with ⟨e,hn⟩ | ⟨i,e,e2,e3,e4⟩
  ·cases hg.symm.trans e;refine Z4 (GW (fun RT=>?_) k1 hn Hz);have OB:=z2.mem_iff.mpr RT;obtain⟨i,hi⟩:=Xl OB;obtain⟨e,b,c1,c2,c3,c4⟩:=hash i k hi;have Gb:i<es.size:=(YX.mp c1).1;have hp:t.place[i]?=some (t.place[i]'(by rw[D.size];exact Gb)):=Zi (by rw[D.size];exact Gb);have hm:(t.place[i]'(by rw[D.size];exact Gb),EU w<|.tup k)∈t.place.toList.zip (es.toList.map (·.1)):=by
    refine Zt (i:=i) ?_;rw[Xe];refine⟨by rw[ZC];exact hp,?_⟩;rw[Zy,ZC,c1,<- c3];rfl
   obtain⟨ki,r1,r2⟩:=D.ht.KA _ hm;have Fq:ki<k1:=by
    rcases WI ki k1 with z | z | z
    ·exact z
    ·refine absurd ?_ hn;rw[<- z,r1];exact Array.getElem_mem_toList ..
    ·exact absurd (r2 k1 z) hn
   exact JL i ki Fq (by rw[hp,r1]) hi
  ·cases hg.symm.trans e;have Gb:i<zs.length:=by rw[hz,<- D.size];exact (YX.mp e3).1
   have P_:(zs.map (·.1))[i]?=some zs[i].1:=by rw[Zy,ZV Gb];rfl
   obtain⟨en,b,c1,c2,c3,c4⟩:=hash i _ P_;dsimp only;refine AR (fun Q' q=>AQ hx (fun v hv=>?_) q) ?_
   ·obtain⟨e',RU,rfl⟩:=Ze.mp hv;have Ku:e'∈es.toList:=Array.mem_toList_iff.mpr (Array.mem_filter.mp<|Array.mem_toList_iff.mp RU).1;rw[<- z1] at Ku;obtain⟨z,RV,rfl⟩:=Ze.mp Ku;obtain⟨b',d1,_,d2⟩:=z3 z RV;exact⟨b',z.1,d1,HP _ _ d2⟩
   ·obtain⟨eh,ev⟩:=en;cases c2;rw[c1];dsimp only;refine Z9 (Y1 ((bt prog w).eqBool (show A.units+10<cLine by lia) c4 hx ?_));refine Z9 (YR ho hd D.fit ?_);by_cases hq:zs[i].1=k
    ·rw[Zu hq,ZZ<|show (true && true)=true from rfl];exact Z4 (IB (z2.mem_iff.mp (by rw[<- hq];exact X8 (XI Gb))))
    ·rw[Zl hq,ZY (by decide)];dsimp only;rw[show t.sameMemory t.moves t.mask=some true by unfold SetTable.sameMemory;rw[ZZ (YH _)]];dsimp only;rw[ZZ rfl,e2];dsimp only;rw[c1];dsimp only;refine Z9 (wpAny_isSame_ref_self<|Z9<|Z4 ?_);rw[ZZ rfl];dsimp only;rw[ZY ZM];refine tF hu ho hd D hx HP z1 z2 z3 IB GW hE Nl fuel (k1+1) _ rfl (by lia) (fun k' FK=>?_) fun i' k' FK hp=>?_
     ·rcases Y6 k' k1 with z | z
      ·exact Hz k' z
      ·rw[show k'=k1 by lia];rw[<- ZC] at e3;exact Zt e3
     ·rcases Y6 k' k1 with z | z
      ·exact JL i' k' z hp
      ·rw[show k'=k1 by lia] at hp;have:=tE D.tab.rise hp e3;subst this;rw[P_];exact fun e=>hq (Zr e)
end
def cb(ks:List (List Im))(k:List Im):List (List Im):=if k∈ks then ks else ks++[k]
section
variable{prog:Program}{w:World}{P:List Im->Addr->Prop}{A:Around}{E:Value->Shared->Prop}{s:Shared}
structure HQ(w:World)(P:List Im->Addr->Prop)(es:Array (Int×Value))(t:SetTable)(led:Bool)(ks:List (List Im))(n:Nat):Prop where
 La:∃ zs:List (List Im×Int×Value),zs.map (·.2)=es.toList/\(zs.map (·.1)).Perm ks/\∀ z∈zs,kT w P z
 tab:Fe t led
 gm:GM t.mask
 len:t.place.size=es.size
 le:∀ j∈t.place.toList,j<=t.mask
 KA:∀ p∈t.place.toList.zip (es.toList.map (·.1)),Jq t.mask (·∈t.place.toList) p.2 p.1
 nd:ks.Nodup
 sz:es.size=n+1
 Qa:n * 5<t.mask * 3
theorem HQ.Kv(D:HQ w P es t led ks n):t.fits es.size=true:=by
 have:=D.Qa;have:=D.gm.pos;unfold SetTable.fits SetTable.fill;rw[D.tab.K',D.len,D.sz,ZQ,XC,Yv];exact⟨rfl,by show n+1+0<=_;lia⟩
theorem HQ.done(D:HQ w P es t led ks n)(hf:¬ ((n+1) * 5 >= t.mask * 3)):FB w P es t led ks:=
 ⟨D.La,D.tab,⟨D.gm,by rw[D.len,Z3,ZO],by rw[D.len,D.sz];lia,D.le,D.KA⟩,D.nd⟩
theorem tJ{es':Array (Int×Value)}{t':SetTable}(ho:h.get? a=some o)(hd:o.data=.set es ep t):
  (h.update a<|Obj.putSet es' t').get? a=some { o with data:=.set es' (ep+1) t' }:=by
 have:=YB (Obj.putSet es' t') ho (by rw[putSet_of es' t' hd];rfl);rw[putSet_of es' t' hd] at this;exact this
theorem nY{α β:Type}(f:α->β)(l:List α)(m:List β)(hm:l.map f=m):∀ is:List Nat,(is.filterMap (l[·]?)).map f=is.filterMap (m[·]?)
 | []=>rfl
 | i::is=>by
  subst hm;rw[Yo,Yo,Zy];cases l[i]? with
  | none=>exact nY f l _ rfl is
  | some x=>exact congrArg (f x::·) (nY f l _ rfl is)
theorem tK(l:List α):(range l.length).filterMap (l[·]?)=l:=by
 have:=filterMap_getElem?_range l.toArray;simpa using this
theorem nZ{es HA : Array (Int × Value)}{t1:SetTable}{R : Bool -> Shared -> Prop}(ho : s.heap.get? a = some o)(hex : o.ExactSet)(hd : o.data = .set es ep t)(hn : es.size = n)(hl : n + 1 <= 300)(D : HQ w P HA t1 led ks n)(h : ∀ h', Heap.SameBut a s.heap h' -> bp w P h' a led ks -> R true { s with heap := h' }):
    wpAny (model prog w) A (do
        storeSet a HA t1
        if (!false && t1.tooFull) = true then do
            setRelay a (SetTable.grown<|es.size + 1)
            pure true
          else pure true) R E s := by
  refine Z9 (wpAny_storeSet_of ho hd ?_ (by rw [D.sz]; exact Zg hl (by decide)));have JH := tJ (es' := HA) (t' := t1) ho hd;have Qb := YT s.heap a (Obj.putSet HA t1);have ef : t1.tooFull = decide ((n + 1) * 5 >= t1.mask * 3) := by
    unfold SetTable.tooFull SetTable.fill;rw [D.tab.K', D.len, D.sz];rfl
  by_cases hf : (n + 1) * 5 >= t1.mask * 3
  · rw [ef, Zu hf, ZZ<|show (!false && true) = true from rfl]
    obtain ⟨g1, g2, g3⟩ := AO D.gm D.Qa hf hl;unfold setRelay;refine Z9 (Z9<|YR JH rfl D.Kv ?_);dsimp only;rw [hn, ZY (fun z => absurd (Zv z g3) (by decide))];obtain ⟨t', order, r1, r2, r3, r4⟩ := AN (t := t1) (es := HA) (wanted := SetTable.grown (n + 1)) g1 (by rw [D.sz]; exact g2) D.tab.led;rw [r1];have eo : (order.filterMap (HA[·]?)).toList = order.toList.filterMap (HA.toList[·]?) := by
      rw [WH];simp
    have hp : (order.filterMap (HA[·]?)).toList.Perm HA.toList := by
      rw [eo];refine (r2.filterMap _).trans ?_;rw [<- ZO, tK]
    have hsz : (order.filterMap (HA[·]?)).size = HA.size := by rw [<- ZO, hp.length_eq, ZO]
    refine Z9 (m := if ((order.filterMap (HA[·]?)).size != HA.size) = true then _ else _) ?_;rw [hsz, ZY (by simp)];refine Z4 ?_;dsimp only;refine wpAny_storeSet_of JH rfl ?_ (by rw [hsz, D.sz]; exact Zg hl (by decide));refine Z4 (h _ (Qb.trans<|YT _ a _) ⟨_, _, _, _, tJ JH rfl, hex, rfl, ?_, r3, r4, D.nd⟩);obtain ⟨zs, z1, z2, z3⟩ := D.La;refine ⟨order.toList.filterMap (zs[·]?), ?_, ?_, fun z hz => ?_⟩
    · rw [eo]
      exact nY (·.2) zs _ z1 _
    · refine (Vv _ ?_).trans z2
      refine (r2.filterMap _).trans ?_;rw [show HA.size = zs.length by rw [<- ZO, <- z1, Z3], tK]
    · obtain ⟨i, _, e⟩ := WW.mp hz
      exact z3 z (Zt e)
  · rw [ef, Zl hf, ZY (show ¬ ((!false && false) = true) from by decide)]
    refine Z4 (h _ Qb ⟨_, _, _, _, JH, hex, rfl, D.done hf⟩)
theorem AS{x:Addr}{Q:Bool->Shared->Prop}(hu:A.units+20<cLine)(S:bp w P s.heap a led ks)(hx:(bt prog w).is s.heap k x)(hP:P k x)(HP:∀ q b,P q b->(bt prog w).is s.heap q b)(hl:ks.length+1<=300)(h:∀ b h',Heap.SameBut a s.heap h'->bp w P h' a led (cb ks k)->Q b { s with heap:=h' }):
  wpAny (model prog w) A (setAddHashed a (.ref x)<|EU w<|.tup k) Q E s:=by
 obtain⟨o,es,ep,t,ho,hex,hd,D⟩:=S;have D0:=D;obtain⟨zs,z1,z2,z3⟩:=D.La;obtain⟨kE,Nl,hE⟩:=D.ht.some (EU w<|.tup k);have Qc:=D.ht.gm.pos;unfold setAddHashed setAddHashedIn;refine Y1 (Z9<|YR ho hd D.fit ?_);dsimp only;rw[ZY (show ¬ (byScan (Value.ref x) es=true) from fun z=>ZM z)];unfold setSearch;refine Z9 (tF hu ho hd D hx HP z1 z2 z3 (fun hk=>?_) (fun hk kk hn ha=>?_) hE Nl 100000 0 none rfl (by unfold SetTable.turns at Nl;lia) (fun k' z=>absurd z<|WZ _) fun i k' z=>absurd z<|WZ _)
 ·refine Z4 ?_;have e:s={ s with heap:=s.heap }:=by cases s;rfl
  rw[e];refine h _ _ (Heap.SameBut.refl a s.heap) ?_;rw[cb,ZZ hk];exact⟨o,es,ep,t,ho,hex,hd,D⟩
 ·dsimp only;refine Z9 (YR ho hd D.fit ?_);dsimp only;obtain⟨p1,p2⟩:=D.ht.put (h:=EU w (.tup k)) hn ha;have RW:¬ (t.place[SetTable.below t.place (Ex t.mask (EU w<|.tup k) kk).j]?=some (Ex t.mask (EU w<|.tup k) kk).j):=fun z=>hn (by rw[<- ZC] at z;exact Zt z);have OC:=D.tab.put RW;have hD:∀ b:Bool,HQ w P (SetTable.insertAt es (t.put (Ex t.mask (EU w<|.tup k) kk).j).2 (EU w<|.tup k,.ref x)) { (t.put (Ex t.mask (EU w<|.tup k) kk).j).1 with plain:=b } led (ks++[k]) es.size:=fun b=>by
   have e1:(SetTable.insertAt es (t.put (Ex t.mask (EU w<|.tup k) kk).j).2 (EU w<|.tup k,Value.ref x)).toList=_:=nW _ _ _;have e2:(t.put (Ex t.mask (EU w<|.tup k) kk).j).1.place.toList=_:=nW _ _ _;have hsz:(SetTable.insertAt es (t.put (Ex t.mask (EU w<|.tup k) kk).j).2 (EU w<|.tup k,Value.ref x)).size=es.size+1:=by
    rw[<- ZO,e1,ZI,ZD,Zm,Zp,ZO];lia
   refine⟨⟨zs.take (t.put (Ex t.mask (EU w<|.tup k) kk).j).2++(k,EU w<|.tup k,.ref x)::zs.drop (t.put (Ex t.mask (EU w<|.tup k) kk).j).2,?_,?_,fun z hz=>?_⟩,OC.IA b,D.ht.gm,?_,p1,?_,?_,hsz,?_⟩
   ·rw[e1,<- z1,YI,ZH,YJ,Yr]
   ·rw[YI,ZH,YJ,Yr];refine List.perm_middle.trans ?_;rw[Zz];exact (z2.cons k).trans (ZX (l₁:=[k]))
   ·rcases jo.mp hz with rfl | hz
    ·exact⟨x,rfl,rfl,hP⟩
    ·exact z3 z hz
   ·show (t.put (Ex t.mask (EU w<|.tup k) kk).j).1.place.size=_;rw[hsz,<- ZO,e2,ZI,ZD,Zm,Zp,ZO,D.size];lia
   ·rw[e1,YI,ZH,YJ,Yr];exact p2
   ·exact ZK.mpr ⟨D.nd,Zw _ k,fun y hy z hz=>by cases Z1.mp hz;exact fun e=>hk<|e ▸ hy⟩
   ·have:=D.ht.loose;rw[D.size] at this;exact this
  have GD:∀ h',Heap.SameBut a s.heap h'->bp w P h' a led (ks++[k])->Q true { s with heap:=h' }:=fun h' Mj hS=>h true h' Mj (by rw[cb,ZY hk];exact hS);have Hs:es.size+1<=300:=by rw[D.num];exact hl
  split
  ·refine Z9 (tD 8 (d:=.tup k) hx.1 hx.2 fun b=>?_);cases b
   ·exact nZ ho hex hd rfl Hs (hD false) GD
   ·exact nZ ho hex hd rfl Hs (hD _) GD
  ·refine Z9 (Z4 ?_);exact nZ ho hex hd rfl Hs (hD _) GD
end
def cu(w:World):Bool:=!w.params.followText "set-order"
def eF(led:Bool):Obj:={ cls:=.type "set",dict:=none,data:=.set #[] 0 (.fresh 0 0 led) }
theorem AT:isSubtype (.type "tuple") (.type "set")=pure false:=by rw[WG];kernel_rfl
theorem AU:isSubtype (.type "tuple") (.type "frozenset")=pure false:=by rw[WG];kernel_rfl
section
variable{prog:Program}{w:World}{A:Around}{E:Value->Shared->Prop}{s:Shared}
theorem AV(a:Value){Q₁:Value->Shared->Prop}(h:Q₁ (.ref s.heap.objs.size) { s with heap:=s.heap.push (eF<|cu w) }):
  codeAny (model prog w) A (.call (.builtin "set.__new__") ⟨[.type "set",a],[]⟩) (wants Q₁ E) s:=by
 refine codeAny_of_tree ?_;show wpAny _ A.in1 (do checkBuiltinCall "set.__new__" ⟨[.type "set",a],[]⟩;again (.builtin "set.__new__" ⟨[.type "set",a],[]⟩)) _ _ s;refine Z9 (VB (PySem.F.newCall_set_1 a)<|Z4 ⟨Ww PySem.F.plain_set_new _,Xv PySem.F.entry_set_new ?_⟩);rw[XR PySem.F.plain_set_new _];unfold Builtin.«set.__new__» Builtin.Frozenset.newClass;have Jn:=sub_set_self;obtain⟨hp,g,d,tk,os⟩:=s;dsimp only
 wp_walk
 refine VZ (Z4 ?_);dsimp only;simp only[newObj];refine Z9 (wpAny_alloc<|Z4 ?_);exact Z4 h
end
section
variable{prog:Program}{w:World}{A:Around}{E:Value->Shared->Prop}{s:Shared}
end
theorem jp:Slot "set_iterator" "__next__" "set_iterator.__next__" :=
 .of (owner := "set_iterator") (n := "__next__") (by rw[typeLookup_type,builtinLookup_eq_fast];kernel_rfl) (by decide +kernel) (by decide +kernel) (by decide +kernel)
  (by first | exact .inl (by decide +kernel) | exact .inr (by decide +kernel)) (by rw[WG];kernel_rfl)
theorem AW:entryFor table "set_iterator.__next__" = some Builtin.«set_iterator.__next__»:=entryFor_of_tree (by kernel_rfl)
theorem tL:Manifest.owners.lookup (String.ofList ['r','o','t','a','r','e','t','i','_','t','e','s'].reverse)=some Manifest.sig_set_iterator:=by kernel_rfl
theorem AX(a:Value):argsOk "set_iterator.__next__" ⟨[a],[]⟩:=by
 unfold argsOk;rw[signature?_of (id := "set_iterator.__next__") (n:=['_','_','t','x','e','n','_','_']) (o:=['r','o','t','a','r','e','t','i','_','t','e','s']) (by kernel_rfl) tL];kernel_rfl
theorem AY:entryFor table "set.__iter__" = some Builtin.«frozenset.__iter__»:=
 entryFor_alias (id' := "frozenset.__iter__") (by kernel_rfl) rfl (by decide +kernel) (by kernel_rfl)
theorem tM:Slot "set_iterator" "__iter__" "set_iterator.__iter__" :=
 .of (owner := "set_iterator") (n := "__iter__") (by rw[typeLookup_type,builtinLookup_eq_fast];kernel_rfl) (by decide +kernel) (by decide +kernel) (by decide +kernel)
  (by first | exact .inl (by decide +kernel) | exact .inr (by decide +kernel)) (by rw[WG];kernel_rfl)
theorem AZ(a:Value):argsOk "set_iterator.__iter__" ⟨[a],[]⟩:=by
 unfold argsOk;rw[signature?_of (id := "set_iterator.__iter__") (n:=['_','_','r','e','t','i','_','_']) (o:=['r','o','t','a','r','e','t','i','_','t','e','s']) (by kernel_rfl) tL];kernel_rfl
theorem A3:entryFor table "set_iterator.__iter__" = some Builtin.«dict_keyiterator.__iter__»:=
 entryFor_alias (id' := "dict_keyiterator.__iter__") (by kernel_rfl) (by first | rfl | decide +kernel | (unfold String.splitOn;simp +decide [String.splitOnAux])) (by decide +kernel) (by kernel_rfl)
def GN(h:Heap)(I:Addr)(f0:Value)(i:Nat)(S:Addr)(n ep:Nat):Prop:=∃ o,h.get? I=some o/\o.cls=.type "set_iterator" /\ o.data=.fields #[f0,.int i 0,.ref S,.int n 0,.int ep 0]
def HR(h:Heap)(S:Addr)(es:Array (Int×Value))(ep:Nat)(t:SetTable):Prop:=∃ o,h.get? S=some o/\o.ExactSet/\o.data=.set es ep t
theorem GN.go(x:GN h I f0 i S n ep)(k:∀ o,h.get? I=some o->h'.get? I=some o):GN h' I f0 i S n ep:=let ⟨o,e,r⟩:=x;⟨o,k o e,r⟩
theorem HR.go(x:HR h S es ep t)(k:∀ o,h.get? S=some o->h'.get? S=some o):HR h' S es ep t:=let ⟨o,e,r⟩:=x;⟨o,k o e,r⟩
section
variable{prog:Program}{w:World}{A:Around}{E:Value->Shared->Prop}{s:Shared}
theorem GN.ty(x:GN s.heap I f0 i S n ep):s.TypeIs (.ref I) "set_iterator" := let ⟨o,e,c,_⟩:=x;⟨o,e,c⟩
theorem A4{M:Model}{src:Source}{Q:Nat->Shared->Prop}(hn:0<n)(h:∀ i,i<n->Q i { s with drawn:=s.drawn.bump src }):wpAny M A (choose src n) Q E s:=
 fun _ _ _=>⟨Xi hn,h _<|Vu _ hn⟩
theorem n5{α:Type}:∀ (l:List α) (i:Nat) (h:i<l.length),(l[i]::l.eraseIdx i).Perm l
 | x::xs,0,_=>.refl _
 | x::xs,i+1,h=>(List.Perm.swap x _ _).trans (List.Perm.cons x<|n5 xs i<|VQ h)
theorem tN{α:Type}{M:Model}:∀ (n:Nat) (xs:List α) (s:Shared) (Q:List α->Shared->Prop),xs.length=n->(∀ d ys,List.Perm ys xs->Q ys { s with drawn:=d })->wpAny M A (drawOrder n xs) Q E s
 | 0,xs,s,Q,hl,h=>by
  have e:xs=[]:=YC hl;subst e;unfold drawOrder;exact Z4 (h s.drawn [] .nil)
 | n+1,[],s,Q,hl,h=>by cases hl
 | n+1,x::xs,s,Q,hl,h=>by
  unfold drawOrder;refine Z9 (A4 (by rw[hl];exact Wl _) fun i hi=>?_);have e:(x::xs)[i]?=some (x::xs)[i]:=ZV hi;rw[e];dsimp only;refine Z9 (tN n _ _ _ (by rw[We hi,hl];rfl) fun d ys hp=>?_);refine Z4 (h d _ ?_);refine (List.Perm.cons _ hp).trans ?_;exact n5 _ i hi
theorem kU(hit:GN s.heap I f0 i S n ep)(h:wpAny (model prog w) A.in1 (Builtin.«set_iterator.__next__» ⟨[.ref I],[]⟩) (fun fin s'=>∃ v,fin=.done (.ret v)/\Q (some v) s') (fun e s'=>wpAny (model prog w) A (do let b <- isInstance e (.type "StopIteration");if b=true then pure none else throw e) Q E s') s):
  wpAny (model prog w) A (pyNext<|.ref I) Q E s:=by
 unfold pyNext;refine Z9 (W9<|Zc (name:=Str.ofString "__next__") hit.ty jp<|Zd jp hit.ty AW ?z<|AX _)
 case z=>
  refine YV h (fun fin s' ⟨v,e,q⟩=>⟨v,e,Z4 q⟩) fun e s' q=>q
theorem kW{f0':Value}{i':Nat}{Q:Unit->Shared->Prop}{k:Nat}(hit:GN s.heap I f0 i S n ep)(hk:k<5)(he:(#[f0,.int i 0,.ref S,.int n 0,.int ep 0]:Array Value).setIfInBounds k x=#[f0',.int i' 0,.ref S,.int n 0,.int ep 0])(q:∀ h',GN h' I f0' i' S n ep->Heap.SameBut I s.heap h'->Q () { s with heap:=h' }):wpAny (model prog w) A (setField (.ref I) k x) Q E s:=by
 obtain⟨o,f1,f2,f3⟩:=hit;refine XL f1 f3 hk (q _ ⟨_,YB _ f1<|WF<|X2 f3 _,(V9 ..).trans f2,?_⟩<|YT ..);rw[X2 f3,he]
theorem tR(hh:A.handled=none)(q:∀ h',Heap.ExtBut I s.heap h'->Q none { s with heap:=h' }):
  wpAny (model prog w) A.in1 (newExc (.type "StopIteration") [] >>= fun x=>(raiseNew x:Sem PySem.Fin)) (fun fin s'=>∃ v,fin=.done (.ret v)/\Q (some v) s') (fun e s'=>wpAny (model prog w) A (do let b <- isInstance e (.type "StopIteration");if b=true then pure none else throw e) Q E s') s:=by
 apply Z9;simp only[newExc,newTuple];refine Z9 (Zj (Z9 (m:=firstArgMember _ _) (VB (a:=Value.none) (by first | rfl | (simp only[firstArgMember];rfl)) (Zj ?_ (by size_fits)))) (by size_fits));simp only[raiseNew];apply Z9;apply wpAny_handled;rw[show A.in1.handled=none from hh];refine Z9 (m:=pure _) (Z4<|wpAny_throw ?_);apply Z9;refine Xk (T := "StopIteration") (b:=true) ⟨_,ZN _ rfl,rfl⟩ isSubtype_stop ?_;exact Z4 (q _<|fun b o _ e=>Z5 _<|Z5 _ e)
theorem tT{next:Nat}(hit:GN s.heap I (.int slot 0) i S n ep)(hS:HR s.heap S es ep t)(hf:t.fits es.size=true)(hn:es.size=n)(hx:∀ (Q':Option (Value×Nat)->Shared->Prop) (E':Value->Shared->Prop),Q' (some (x,next)) s->wpAny (model prog w) A.in1 (setNext S slot i ep) Q' E' s)(q:∀ h',GN h' I (.int next 0) (i+1) S n ep->Heap.SameBut I s.heap h'->Q (some x) { s with heap:=h' }):wpAny (model prog w) A (pyNext<|.ref I) Q E s:=by
 refine kU hit ?_;obtain⟨o,f1,f2,f3⟩:=id hit;obtain⟨oS,e1,e2,e3⟩:=hS;unfold Builtin.«set_iterator.__next__»;refine Z9 (Z4<|Z9<|Xm f1 f3 ?_);show wpAny _ _ (setEntries S >>= _) _ _ _;refine Z9 (XN e1 e3 hf ?_);dsimp only;rw[ZY (by rw[hn];simp)];refine Z9 (m:=setNext S _ _ _) (hx _ _ ?_);dsimp only;refine Z9 (kW (f0':=.int next 0) (i':=i) hit (by decide) rfl fun h1 IC JM=>?_);refine Z9 (kW (s:={ s with heap:=h1 }) (f0':=.int next 0) (i':=i+1) IC (by decide) rfl fun h2 OD RX=>?_);exact Z4 ⟨_,rfl,q h2 OD<|JM.trans RX⟩
theorem tU(hh:A.handled=none)(hit:GN s.heap I (.int slot 0) i S n ep)(hS:HR s.heap S es ep t)(hf:t.fits es.size=true)(hn:es.size=n)(hx:∀ (Q':Option (Value×Nat)->Shared->Prop) (E':Value->Shared->Prop),Q' none s->wpAny (model prog w) A.in1 (setNext S slot i ep) Q' E' s)(q:∀ h',Heap.ExtBut I s.heap h'->Q none { s with heap:=h' }):wpAny (model prog w) A (pyNext<|.ref I) Q E s:=by
 refine kU hit ?_;obtain⟨o,f1,f2,f3⟩:=id hit;obtain⟨oS,e1,e2,e3⟩:=hS;unfold Builtin.«set_iterator.__next__»;refine Z9 (Z4<|Z9<|Xm f1 f3 ?_);show wpAny _ _ (setEntries S >>= _) _ _ _;refine Z9 (XN e1 e3 hf ?_);dsimp only;rw[ZY (by rw[hn];simp)];refine Z9 (m:=setNext S _ _ _) (hx _ _ ?_);dsimp only;refine Z9 (XL f1 f3 (show 2<5 by decide) ?_);exact tR (I:=I) hh fun h' hb=>q h' fun b o HZ e=>hb b o HZ ((YT ..).extBut b o HZ e)
theorem A5{place:Nat}{tk:Tok}{x:Int×Value}(hit:GN s.heap I (.ref a2) i S n ep)(hS:HR s.heap S es ep t)(hf:t.fits es.size=true)(hn:es.size=n)(h2:s.heap.get? a2=some o2)(d2:o2.data=.seq pl n2)(hp:pl[i]?=some (.int place tk))(hx:es[place]?=some x)(q:∀ h',GN h' I (.ref a2) (i+1) S n ep->Heap.SameBut I s.heap h'->Q (some x.2) { s with heap:=h' }):wpAny (model prog w) A (pyNext<|.ref I) Q E s:=by
 refine kU hit ?_;obtain⟨o,f1,f2,f3⟩:=id hit;obtain⟨oS,e1,e2,e3⟩:=hS;unfold Builtin.«set_iterator.__next__»;refine Z9 (Z4<|Z9<|Xm f1 f3 ?_);show wpAny _ _ (setEntries S >>= _) _ _ _;refine Z9 (XN e1 e3 hf ?_);dsimp only;rw[ZY (by rw[hn];simp)];show wpAny _ _ (seqItems? (.ref a2) >>= _) _ _ _;refine Z9 (YU h2 d2 ?_);dsimp only;rw[Yq,hp];dsimp only;show wpAny _ _ (setNextDrawn S _ _ >>= _) _ _ _;unfold setNextDrawn;refine Z9 (Z9<|YR e1 e3 hf ?_);dsimp only;rw[ZY (by simp),Yq,hx];dsimp only;refine Z4 ?_;refine Z9 (kW (f0':=.ref a2) (i':=i+1) hit (by decide) rfl fun h1 IC JM=>?_);exact Z4 ⟨_,rfl,q h1 IC JM⟩
theorem A6(hh:A.handled=none)(hit:GN s.heap I (.ref a2) i S n ep)(hS:HR s.heap S es ep t)(hf:t.fits es.size=true)(hn:es.size=n)(h2:s.heap.get? a2=some o2)(d2:o2.data=.seq pl n2)(hp:pl[i]?=none)(q:∀ h',Heap.ExtBut I s.heap h'->Q none { s with heap:=h' }):wpAny (model prog w) A (pyNext<|.ref I) Q E s:=by
 refine kU hit ?_;obtain⟨o,f1,f2,f3⟩:=id hit;obtain⟨oS,e1,e2,e3⟩:=hS;unfold Builtin.«set_iterator.__next__»;refine Z9 (Z4<|Z9<|Xm f1 f3 ?_);show wpAny _ _ (setEntries S >>= _) _ _ _;refine Z9 (XN e1 e3 hf ?_);dsimp only;rw[ZY (by rw[hn];simp)];show wpAny _ _ (seqItems? (.ref a2) >>= _) _ _ _;refine Z9 (YU h2 d2 ?_);dsimp only;rw[Yq,hp];dsimp only;refine Z9 (kW (f0':=.int 0 0) (i':=i) hit (by decide) rfl fun h1 IC JM=>?_);obtain⟨o',g1,g2,g3⟩:=IC;refine Z9 (XL (s:={ s with heap:=h1 }) g1 g3 (show 2<5 by decide) ?_);exact tR (I:=I) hh fun h' hb=>q h' fun b o HZ e=>hb b o HZ ((YT ..).extBut b o HZ<|JM.extBut b o HZ e)
end
def c8(val:Nat->List Im):Nat->List (List Im)
 | 0=>[]
 | i+1=>cb (c8 val i) (val i)
theorem bp.fresh(led:Bool):bp w P (h.push<|eF led) h.objs.size led []:=
 ⟨_,#[],0,_,ZN _ rfl,⟨rfl,rfl,rfl⟩,rfl,⟨[],rfl,.nil,fun z hz=>(Y9 hz).elim⟩,⟨List.Pairwise.nil,rfl,rfl⟩,⟨.inl rfl,rfl,show 0 * 5<7 * 3 by decide,fun j hj=>(Y9 hj).elim,fun p hp=>(Y9 hp).elim⟩,Yy⟩
theorem bp.at(S:bp w P h a led ks)(k:∀ o,h.get? a=some o->h'.get? a=some o):bp w P h' a led ks:=by
 obtain⟨o,es,ep,t,ho,r⟩:=S;exact⟨o,es,ep,t,k o ho,r⟩
section
variable{prog:Program}{w:World}{P:List Im->Addr->Prop}{A:Around}{E:Value->Shared->Prop}{s:Shared}
theorem A7{R:Result->Shared->Prop}{fp wr:List Addr}{Pi:Nat->Value->Prop}{St:Nat->Heap->Prop}{h0:Heap}(hu:A.units+25<cLine)(W:Walks prog w A.in1 I fp wr n Pi St)(Qd:S∉fp)(val:Nat->List Im)(OE:∀ i v,Pi i v->∃ b,v=.ref b/\P (val i) b)(HP:∀ q b,P q b->(bt prog w).is h0 q b)(hw:∀ b o,h0.get? b=some o->b∉wr)(OF:∀ u items m,h0.get? S=some u->u.data=.seq items m->False)(hN:∀ i,i<n->(c8 val i).length+1<=300):
  ∀ (k i:Nat) (s:Shared),n - i=k->i<=n->jD h0 s.heap->St i s.heap->bp w P s.heap S led (c8 val i)->
   (∀ h' tk,(∀ b o,b≠S->b∉wr->s.heap.get? b=some o->h'.get? b=some o)->bp w P h' S led (c8 val n)->R (.ok<|.ret .none) { s with heap:=h',toks:=tk })->
   codeAny (model prog w) A (.builtin "set.update.loop" ⟨[.ref S,.ref I],[]⟩) R s:=by
 have Qe:S∉wr:=fun h=>Qd (W.sub _ h);intro k;induction k with
 | zero=>
  intro i s hk hi T Fv hS hR;have Kx:i=n:=by lia
  subst Kx;refine Xv Xd ?_;rw[XR X7 _];show wpAny _ A.in1 (pyNext (.ref I) >>= _) _ _ s;refine Z9 (W.done s _ _ Fv fun h' tk hm=>?_);show wpAny _ A.in1 (ret Value.none) _ _ _;exact Z4 (hR h' tk (fun b o _ hw e=>hm b o hw e)<|hS.at fun o e=>hm S o Qe e)
 | succ k ih=>
  intro i s hk hi T Fv hS hR;have Fq:i<n:=by lia
  refine Xv Xd ?_;rw[XR X7 _];show wpAny _ A.in1 (pyNext (.ref I) >>= _) _ _ s;refine Z9 (W.item i s _ _ Fq Fv fun v h1 ST hP OG hm=>?_);obtain⟨x,rfl,OH⟩:=OE i v hP;have T1:jD h0 h1:=fun b o items m e1 e2 e3=>hm b o (hw b o e1) (T b o items m e1 e2 e3);have KB:∀ q b,P q b->(bt prog w).is h1 q b:=fun q b z=>⟨(HP q b z).1,(HP q b z).2.keep T1⟩;show wpAny _ A.in1 (holding [Value.ref x] (setAdd S<|.ref x) >>= _) _ _ _;refine Z9 (Y1 ?_);unfold setAdd;refine Y1 ?_;refine Z9 ((bt prog w).pyHash (k:=val i) (show A.units+1+10<cLine by lia) (KB _ _ OH) ?_);refine AS (s:={ s with heap:=h1,toks:=_ }) (show A.units+1+20<cLine by lia) (hS.at fun o e=>hm S o Qe e) (KB _ _ OH) OH KB (hN i Fq) fun b h2 Mj Mk=>?_;refine Z4 ⟨Ww X7 _,ih (i+1) _ (by lia) Fq (fun b o items m e1 e2 e3=>?_) (W.frame _ h1 h2 OG fun b hb o e=>?_) Mk fun h3 RY HI Nm=>?_⟩
  ·show h2.get? b=some o;rw[Mj.2 b (fun h:b=S=>OF o items m (h ▸ e1) e3)];exact T1 b o items m e1 e2 e3
  ·rw[Mj.2 b (fun h:b=S=>Qd (by rw[<- h];exact hb))];exact e
  ·refine hR h3 RY (fun b o hb hw e=>HI b o hb hw ?_) Nm;show h2.get? b=some o;rw[Mj.2 b hb];exact hm b o hw e
end
section
variable{prog:Program}{w:World}{P:List Im->Addr->Prop}{A:Around}{E:Value->Shared->Prop}{s:Shared}
variable{Q:Value->Shared->Prop}
theorem A8(hh:A.handled=none)(Ml:s.heap.get? l=some o)(K0:o.cls=.type "tuple")(K5:o.data=.seq items nl)(hu:A.units+28<cLine)(hi:∀ i v,items[i]?=some v->∃ b,v=.ref b/\P (ks.getD i []) b)(HP:∀ q b,P q b->(bt prog w).is s.heap q b)(hb:∀ i,i<items.size->(c8 (fun i=>ks.getD i []) i).length+1<=300)(Nt:l≠S)(hS:s.heap.get? S=some (eF led))(OF:bp w P s.heap S led [])(h:∀ h' tk,bp w P h' S led (c8 (fun i=>ks.getD i []) items.size)->(∀ b o,b≠S->s.heap.get? b=some o->h'.get? b=some o)->Q .none { s with heap:=h',toks:=tk }):
  wpAny (model prog w) A (Builtin.«set.__init__» ⟨[.ref S,.ref l],[]⟩) (fun fin s'=>∃ r,fin=.done (.ret r)/\Q r s') E s:=by
 obtain⟨RZ,Qf,Qg,OI⟩:=o;simp only at K0 K5;subst K0;subst K5;have R6:=AT;have R7:=AU;have R8:(Value.type "tuple" == Value.type "dict")=false:=by decide
 unfold eF at hS;have Ko:s.heap.IsTuple l items:=⟨_,Ml,rfl,nl,rfl⟩;unfold Builtin.«set.__init__» noKeywords Builtin.Frozenset.updateFrom;generalize R9:pyIter=PI
 wp_walk
 subst R9;refine wpAny_pyIter_tuple Ko ?_;refine Z9 (wpAny_runValue ?_);have R_:l<s.heap.objs.size:=ZP Ml;have Sa:S<s.heap.objs.size:=ZP hS;have Sb:A.in1.handled=none:=by simp[hh]
 refine A7 (led:=led) (P:=P) (h0:=s.heap) (show A.units+25<cLine by lia) (Walks.tuple Sb _ l (ZB R_) items) ?_ (fun i=>ks.getD i []) hi HP ?_ ?_ hb (items.size - 0) 0 _ (by lia) (Yl _) ?_ ⟨⟨_,ZN _ rfl,rfl,rfl⟩,?_⟩ ?_ fun h' tk hk Mm=>?_
 ·simp only[ZU,Y9,W8,not_or];exact⟨ZB Sa,fun e=>Nt e.symm⟩
 ·intro b o e;rw[Z1];exact ZB (ZP e)
 ·intro u items m e1 e2;rw[hS] at e1;cases e1;cases e2
 ·intro b o items m e1 e2 e3;exact Z5 _ e1
 ·obtain⟨o,ho,r⟩:=Ko;exact⟨o,Z5 _ ho,r⟩
 ·exact OF.at fun o e=>Z5 _ e
 ·show wpAny _ _ _ _ _ _;refine Z4 ?_;show wpAny _ _ (ret Value.none) _ _ _;refine Z4 ⟨_,rfl,h h' tk Mm fun b o hb e=>hk b o hb ?_<|Z5 _ e⟩;rw[Z1];exact ZB (ZP e)
theorem A9(hh:A.handled=none)(Ml:s.heap.get? l=some o)(K0:o.cls=.type "tuple")(K5:o.data=.seq items nl)(hu:A.units+30<cLine)(hi:∀ i v,items[i]?=some v->∃ b,v=.ref b/\P (ks.getD i []) b)(HP:∀ q b,P q b->(bt prog w).is s.heap q b)(hb:∀ i,i<items.size->(c8 (fun i=>ks.getD i []) i).length+1<=300)(h:∀ h' tk,bp w P h' s.heap.objs.size (cu w) (c8 (fun i=>ks.getD i []) items.size)->(∀ b o,s.heap.get? b=some o->h'.get? b=some o)->Q (.ref s.heap.objs.size) { s with heap:=h',toks:=tk }):
  wpAny (model prog w) A (call (.type "set") [.ref l]) Q E s:=by
 obtain⟨c,tl,Sc⟩:=Yu.mro;have Qh:=Yu.made;have Jn:=Yu.sub;refine wpAny_call (codeAny_of_tree ?_);show wpAny _ _ (callAny (.type "set") _) _ _ _;refine Z4 ⟨Code.quiet_builtin _ (by decide +kernel),Xv F.entry_type_call ?_⟩;rw[Around.under_plain (weight_type_call_type "set" [.ref l] []) rfl];have h1:=Yu.notType;have h2:=Yu.canCreate;have SU:=PySem.F.typeCall_set_1 (.ref l);repeat (any_goals (first | assumption | wp_step))
 refine WU (AV (.ref l) (E:=E) (Q₁:=fun obj s₁=>obj=.ref s.heap.objs.size/\s₁={ s with heap:=s.heap.push (eF<|cu w) }) ⟨rfl,rfl⟩) fun r s₁ hr=>?_;cases r with
 | error e=>exact hr
 | ok fl=>
  cases fl with
  | ret obj=>
   obtain⟨rfl,rfl⟩:=hr;have hS:(s.heap.push<|eF<|cu w).get? s.heap.objs.size=some (eF<|cu w):=ZN _ rfl;have hT:Shared.TypeIs { s with heap:=s.heap.push (eF<|cu w) } (.ref s.heap.objs.size) "set" := ⟨_,hS,rfl⟩;have SV:=Yu.init.lookup;have SW:=Yu.init.bind (.ref s.heap.objs.size);repeat (any_goals (first | assumption | wp_step))
   refine WU (codeAny_call_builtin (R:=wants (fun r s₂=>r=.none/\∃ h' tk,s₂={ s with heap:=h',toks:=tk }/\
     bp w P h' s.heap.objs.size (cu w) (c8 (fun i=>ks.getD i []) items.size)/\(∀ b o,s.heap.get? b=some o->h'.get? b=some o)) E) Yu.init.plain PySem.F.entry_set_init<|check_set_init_1 hT ?_) fun r₂ s₂ ID=>?_
   ·refine YV (A8 (s:={ s with heap:=s.heap.push (eF<|cu w) }) (by simp[hh]) (Z5 _ Ml) K0 K5 (by show A.in1.in1.units+28<cLine;show A.units+1+1+28<cLine;lia) hi (fun q b z=>⟨(HP q b z).1,(HP q b z).2.keep fun b o _ _ e _ _=>Z5 _ e⟩) hb (ZB<|ZP Ml) hS (bp.fresh _) (Q:=fun r s₂=>r=.none/\∃ h' tk,s₂={ s with heap:=h',toks:=tk }/\
     bp w P h' s.heap.objs.size (cu w) (c8 (fun i=>ks.getD i []) items.size)/\(∀ b o,s.heap.get? b=some o->h'.get? b=some o)) fun h' tk Mm hk=>⟨rfl,h',tk,rfl,Mm,fun b o e=>hk b o (ZB<|ZP e)<|Z5 _ e⟩) (fun fin s' hq=>?_) fun _ _ e=>e;obtain⟨r,rfl,hq⟩:=hq;exact hq
   ·cases r₂ with
    | error e=>exact ID
    | ok Mn=>
     cases Mn with
     | ret r=>
      obtain⟨rfl,h',tk,rfl,Mm,FK⟩:=ID;repeat (any_goals (first | assumption | wp_step))
      exact h _ _ Mm FK
     | _=>exact ID.elim
  | _=>exact hr.elim
end
section
variable{prog:Program}{w:World}{A:Around}{E:Value->Shared->Prop}{s:Shared}
theorem tW{α:Type}(next:Nat->Nat):∀ (fuel k:Nat) (left:List α) (out:Array α),left.length=fuel->(pickOrder.go next fuel k left out).toList.Perm (out.toList++left)
 | 0,k,left,out,h=>by
  have e:left=[]:=YC h;subst e;unfold pickOrder.go;rw[ZT]
 | fuel+1,k,left,out,h=>by
  unfold pickOrder.go;have hi:next k % left.length<left.length:=Vu _ (by rw[h];exact Wl _)
  rw[ZV hi];dsimp only;refine (tW next fuel (k+1) _ _ (by rw[We hi,h];rfl)).trans ?_;rw[Xq,Z7];exact ZL _ (n5 _ _ hi)
theorem Ba(next:Nat->Nat)(xs:Array α):(pickOrder next xs).toList.Perm xs.toList:=tW next xs.size 0 xs.toList #[] (by rw[ZO])
theorem kX{Q:Bool->Shared->Prop}(h:Q (w.params.followText "set-order") s):wpAny (model prog w) A setsByText Q E s:=by
 unfold setsByText;exact Z9 (VZ<|Z4 h)
variable{Q:Option (Value×Nat)->Shared->Prop}
theorem tX(hS:HR s.heap S es ep t)(hf:t.fits es.size=true)(GK:w.params.followText "set-order" = false)(Lb:(!t.plain && decide (es.size > 1))=false)(hl:t.led=true)(hb:SetTable.below t.place slot=i)(q:Q (match es[i]?,t.place[i]? with | some (_,x),some j=>some (x,j+1) | _,_=>none) s):wpAny (model prog w) A (setNext S slot g ep) Q E s:=by
 obtain⟨o,e1,e2,e3⟩:=hS;unfold setNext;refine Z9 (YR e1 e3 hf ?_);dsimp only;refine Z9 (kX ?_);rw[GK,ZY ZM];show wpAny _ _ (if (!t.plain && decide (es.size > 1))=true then _ else _) _ _ _;rw[Lb,ZY ZM];show wpAny _ _ ((if (!t.led && !es.isEmpty)=true then (unsupported "set:maker-not-led" : Sem Unit) else pure ()) >>= _) _ _ _;rw[hl];refine Z9 (m:=pure ()) (Z4 ?_);rw[hb];exact Z4 q
theorem tY(hS:HR s.heap S es ep t)(hf:t.fits es.size=true)(GK:w.params.followText "set-order" = true)(q:Q (((pickOrder (w.params.setOrder S ep) es)[g]?).map fun e=>(e.2,slot)) s):wpAny (model prog w) A (setNext S slot g ep) Q E s:=by
 obtain⟨o,e1,e2,e3⟩:=hS;unfold setNext;refine Z9 (YR e1 e3 hf ?_);dsimp only;refine Z9 (kX ?_);rw[GK,ZZ rfl,ZY (by simp)];unfold setWalk;refine Z9 (Z9<|YR e1 e3 hf ?_);dsimp only;refine Z9 (kX ?_);rw[GK,ZZ rfl];exact Z9 (VZ<|Z4<|Z4 q)
theorem n9{Q:Value->Shared->Prop}(hit:GN s.heap I f0 i S n ep)(q:Q (.ref I) s):wpAny (model prog w) A (pyIter<|.ref I) Q E s:=by
 refine Wa hit.ty tM (Zd tM hit.ty A3 ?_<|AZ _);show wpAny _ _ (ret<|.ref I) _ _ s;exact Z4 ⟨_,rfl,"set_iterator",_,hit.ty,jp.lookup,q⟩
def oa(place:Array Nat):Nat->Nat
 | 0=>0
 | i+1=>place.getD i 0+1
theorem tZ{place:Array Nat}(r:be place):∀ {i:Nat},i<=place.size->SetTable.below place (oa place i)=i
 | 0,_=>Ay r
 | i+1,h=>by
  have e:place[i]?=some (place.getD i 0):=by simp[Array.getD,show i<place.size from h]
  exact Ax r e
def dU(es:Array (Int×Value)):List Value:=es.toList.map (·.2)
theorem kY(es:Array (Int×Value)):(dU es).length=es.size:=by rw[dU,Z3,ZO]
theorem Bb(hh:A.handled=none)(ne:S≠I)(hf:t.fits es.size=true)(GK:w.params.followText "set-order" = false)(Lb:(!t.plain && decide (es.size > 1))=false)(hl:t.led=true)(r:be t.place):
  Walks prog w A I [I,S] [I] (dU es).length (fun i v=>(dU es)[i]?=some v) (fun i h=>GN h I (.int (oa t.place i) 0) i S es.size ep/\HR h S es ep t) where
 sub:=fun b hb=>by
  have:b=I:=by simpa using hb
  simp[this]
 frame:=fun i h h' st k=>⟨st.1.go (k I (by simp)),st.2.go (k S (by simp))⟩
 item:=fun i s Q E hi st hQ=>by
  rw[kY] at hi;have hp:t.place.size=es.size:=by
   simp only[SetTable.fits,ZQ,XC] at hf;exact hf.1
  have e1:es[i]?=some es[i]:=Zi hi;have e2:t.place[i]?=some (t.place.getD i 0):=by simp[Array.getD,show i<t.place.size by lia]
  have hv:(dU es)[i]?=some es[i].2:=by rw[dU,Zy,ZC,e1];rfl
  refine tT (next:=oa t.place (i+1)) (x:=es[i].2) st.1 st.2 hf rfl (fun Q' E' q=>tX st.2 hf GK Lb hl (tZ r (by lia)) ?_) fun h' a b=>hQ _ h' s.toks hv ⟨a,st.2.go fun o e=>b.extBut S o ne e⟩ fun c o hc e=>b.extBut c o (by simpa using hc) e;rw[e1,e2];exact q
 done:=fun s Q E st hQ=>by
  rw[kY] at st;have hp:t.place.size=es.size:=by
   simp only[SetTable.fits,ZQ,XC] at hf;exact hf.1
  refine tU hh st.1 st.2 hf rfl (fun Q' E' q=>tX st.2 hf GK Lb hl (tZ r (by lia)) ?_) fun h' b=>hQ h' s.toks fun c o hc e=>b c o (by simpa using hc) e;rw[WQ (ZR _)];exact q
 self:=fun i s Q E st hQ=>n9 st.1 hQ
theorem Bc(hh:A.handled=none)(ne:S≠I)(hf:t.fits es.size=true)(GK:w.params.followText "set-order" = true):
  Walks prog w A I [I,S] [I] (dU<|pickOrder (w.params.setOrder S ep) es).length (fun i v=>(dU<|pickOrder (w.params.setOrder S ep) es)[i]?=some v) (fun i h=>GN h I (.int (0:Nat) 0) i S es.size ep/\HR h S es ep t) where
 sub:=fun b hb=>by
  have:b=I:=by simpa using hb
  simp[this]
 frame:=fun i h h' st k=>⟨st.1.go (k I (by simp)),st.2.go (k S (by simp))⟩
 item:=fun i s Q E hi st hQ=>by
  rw[kY] at hi;have e1:(pickOrder (w.params.setOrder S ep) es)[i]?=some (pickOrder (w.params.setOrder S ep) es)[i]:=Zi hi;have hv:(dU<|pickOrder (w.params.setOrder S ep) es)[i]?=some (pickOrder (w.params.setOrder S ep) es)[i].2:=by rw[dU,Zy,ZC,e1];rfl
  refine tT (next:=0) (x:=(pickOrder (w.params.setOrder S ep) es)[i].2) st.1 st.2 hf rfl (fun Q' E' q=>tY st.2 hf GK ?_) fun h' a b=>hQ _ h' s.toks hv ⟨a,st.2.go fun o e=>b.extBut S o ne e⟩ fun c o hc e=>b.extBut c o (by simpa using hc) e;rw[e1];exact q
 done:=fun s Q E st hQ=>by
  rw[kY] at st;refine tU hh st.1 st.2 hf rfl (fun Q' E' q=>tY st.2 hf GK ?_) fun h' b=>hQ h' s.toks fun c o hc e=>b c o (by simpa using hc) e;rw[WQ (ZR _)];exact q
 self:=fun i s Q E st hQ=>n9 st.1 hQ
def gg(ps:List Nat):List Value:=ps.map fun (i:Nat)=>rawInt i
def dW(es:Array (Int×Value))(ps:List Nat):List Value:=ps.filterMap fun i=>es[i]?.map (·.2)
theorem ua{es:Array (Int×Value)}:∀ {ps:List Nat},(∀ p∈ps,p<es.size)->∀ (i:Nat) (h:i<ps.length),∃ x,es[ps[i]]?=some x/\(dW es ps)[i]?=some x.2
 | [],_,i,h=>by cases h
 | p::ps,hp,i,h=>by
  have KY:p<es.size:=hp p (.head _);have e:es[p]?=some es[p]:=Zi KY;have e2:dW es (p::ps)=es[p].2::dW es ps:=by rw[dW,W6 (b:=es[p].2) (by rw[e];rfl)];rfl
  rw[e2];cases i with
  | zero=>exact⟨es[p],e,rfl⟩
  | succ i=>
   obtain⟨x,h1,h2⟩:=ua (fun p h=>hp p<|.tail _ h) i (VQ h);exact⟨x,h1,h2⟩
theorem og{es:Array (Int×Value)}:∀ {ps:List Nat},(∀ p∈ps,p<es.size)->(dW es ps).length=ps.length
 | [],_=>rfl
 | p::ps,hp=>by
  have KY:p<es.size:=hp p (.head _);have e:es[p]?=some es[p]:=Zi KY;rw[dW,W6 (b:=es[p].2) (by rw[e];rfl),ZD,ZD];exact congrArg (·+1) (og fun p h=>hp p<|.tail _ h)
theorem Bd(hh:A.handled=none)(ne:S≠I)(ne2:a2≠I)(hf:t.fits es.size=true)(hp:∀ p∈ps,p<es.size):
  Walks prog w A I [I,S,a2] [I] (dW es ps).length (fun i v=>(dW es ps)[i]?=some v) (fun i h=>GN h I (.ref a2) i S es.size ep/\HR h S es ep t/\∃ o,h.get? a2=some o/\o.data=.seq (gg ps).toArray n2) where
 sub:=fun b hb=>by
  have:b=I:=by simpa using hb
  simp[this]
 frame:=fun i h h' st k=>⟨st.1.go (k I (by simp)),st.2.1.go (k S (by simp)),let ⟨o,e,r⟩:=st.2.2;⟨o,k a2 (by simp) o e,r⟩⟩
 item:=fun i s Q E hi st hQ=>by
  obtain⟨p_,m_,o,e,r⟩:=st;rw[og hp] at hi;obtain⟨x,h1,h2⟩:=ua hp i hi;refine A5 (x:=x) (place:=ps[i]) (tk:=0) p_ m_ hf rfl e r ?_ h1 fun h' a b=>hQ _ h' s.toks h2 ⟨a,m_.go fun o e=>b.extBut S o ne e,o,b.extBut a2 o ne2 e,r⟩ fun c o hc e=>b.extBut c o (by simpa using hc) e;rw[WD,gg,Zy,ZV hi];rfl
 done:=fun s Q E st hQ=>by
  obtain⟨p_,m_,o,e,r⟩:=st;refine A6 hh p_ m_ hf rfl e r ?_ fun h' b=>hQ h' s.toks fun c o hc e=>b c o (by simpa using hc) e;rw[WD,gg,Zy,YA (by rw[og hp];exact ZR _)];rfl
 self:=fun i s Q E st hQ=>n9 st.1 hQ
end
section
variable{prog:Program}{w:World}{A:Around}{E:Value->Shared->Prop}{s:Shared}
theorem Be{r:Addr}{Q:Bool->Shared->Prop}(hT:s.TypeIs (.ref r) "set")(h:Q false s):wpAny (model prog w) A (Builtin.List.listLengthHint<|.ref r) Q E s:=by
 unfold Builtin.List.listLengthHint;refine Z9 (W2 hT PySem.F.slot_set_len.lookup ?_);generalize Qi:("set.__len__" : String)=Sd
 wp_delta
 rw[show splitId Sd=some ("set","__len__") from by subst Qi;decide +kernel];subst Qi;refine Z9 (Xk (T := "set") (b:=true) hT (by rw[WG];kernel_rfl) ?_);refine VD (fun Kz=>absurd Kz (by decide)) (fun _=>?_);refine VD (fun _=>?_) (fun Kz=>absurd (by decide +kernel) Kz);refine Z9 (WS hT ?_);exact Z4 h
theorem Bf(hp:ps.Perm (range es.size)):dW es ps=(ps.filterMap fun i=>es[i]?).map (·.2)/\(ps.filterMap fun i=>es[i]?).Perm es.toList:=by
 refine⟨?_,(hp.filterMap _).trans (by rw[filterMap_getElem?_range])⟩;rw[List.map_filterMap];rfl
end
section
variable{prog:Program}{w:World}{A:Around}{E:Value->Shared->Prop}{s:Shared}
end
theorem Bg{f:α->β}:∀ {l' l:List β},l'.Perm l->∀ zs:List α,zs.map f=l->∃ Ld:List α,Ld.Perm zs/\Ld.map f=l':=by
 intro l' l p;induction p with
 | nil=>intro zs e;cases List.map_eq_nil_iff.mp e;exact⟨[],.nil,rfl⟩
 | cons x p ih=>
  intro zs e;obtain⟨a,r,rfl,rfl,e2⟩:=Ws.mp e;obtain⟨Ld,p1,p2⟩:=ih r e2;exact⟨a::Ld,p1.cons a,by rw[ZH,p2]⟩
 | swap x y l=>
  intro zs e;obtain⟨a,r,rfl,rfl,e2⟩:=Ws.mp e;obtain⟨b,r2,rfl,rfl,e3⟩:=Ws.mp e2;exact⟨b::a::r2,.swap a b r2,by rw[ZH,ZH,e3]⟩
 | trans p1 p2 Se Sf=>
  intro zs e;obtain⟨z2,q1,q2⟩:=Sf zs e;obtain⟨z1,q3,q4⟩:=Se z2 q2;exact⟨z1,q3.trans q1,q4⟩
theorem uc{w:World}{P:List Im->Addr->Prop}:∀ zs:List (List Im×Int×Value),(∀ z∈zs,kT w P z)->∃ ws:List (List Im×Addr),zs.map (fun z=>z.2.2)=ws.map (fun z=>Value.ref z.2)/\ws.map (·.1)=zs.map (·.1)/\∀ z∈ws,P z.1 z.2
 | [],_=>⟨[],rfl,rfl,fun _ h=>(Y9 h).elim⟩
 | z::zs,h=>by
  obtain⟨b,e1,e2,e3⟩:=h z (.head _);obtain⟨ws,w1,w2,w3⟩:=uc zs fun z hz=>h z (.tail _ hz);refine⟨(z.1,b)::ws,by rw[ZH,ZH,w1,e1],by rw[ZH,ZH,w2],fun y hy=>?_⟩;rcases ZU.mp hy with rfl | hy
  ·exact e3
  ·exact w3 y hy
section
variable{prog:Program}{w:World}{P:List Im->Addr->Prop}{A:Around}{E:Value->Shared->Prop}{s:Shared}
theorem Bh{Q:Value->Shared->Prop}(hh:A.handled=none)(hS:bp w P s.heap S (cu w) ks)(hz:ks.length<=300)(h:∀ (h1:Heap) (d:_) (I:Addr) (fp:List Addr) (vs:List Value) (ws:List (List Im×Addr)) (St:Nat->Heap->Prop),(∀ b o,s.heap.get? b=some o->h1.get? b=some o)->s.heap.objs.size<=I->(∀ b∈fp,b=S\/s.heap.objs.size<=b)->
   Walks prog w A I fp [I] vs.length (fun i v=>vs[i]?=some v) St->St 0 h1->vs=ws.map (fun z=>Value.ref z.2)->(ws.map (·.1)).Perm ks->(∀ z∈ws,P z.1 z.2)->Q (.ref I) { s with heap:=h1,drawn:=d }):
  wpAny (model prog w) A (pyIter<|.ref S) Q E s:=by
 obtain⟨o,es,ep,t,e1,e2,e3,D⟩:=hS;have ty:s.TypeIs (.ref S) "set" := ⟨o,e1,e2.1⟩;have Le:S<s.heap.objs.size:=ZP e1;have hsz:es.size<=sizeLine:=by rw[D.num];exact Zg hz (by decide)
 have give:∀ l:List (Int×Value),l.Perm es.toList->∃ ws:List (List Im×Addr),l.map (·.2)=ws.map (fun z=>Value.ref z.2)/\(ws.map (·.1)).Perm ks/\∀ z∈ws,P z.1 z.2:=fun l pl=>by
  obtain⟨zs,z1,z2,z3⟩:=D.La;obtain⟨Ld,p1,p2⟩:=Bg pl zs z1;obtain⟨ws,w1,w2,w3⟩:=uc (w:=w) (P:=P) Ld fun z hz=>z3 z (p1.mem_iff.mp hz);refine⟨ws,?_,?_,w3⟩
  ·rw[<- p2,Yw];exact w1
  ·rw[w2];exact (p1.map _).trans z2
 refine Wa ty PySem.F.slot_set_iter (Zd PySem.F.slot_set_iter ty AY ?z<|PySem.F.args_set_iter_1 _)
 case z=>
  unfold Builtin.«frozenset.__iter__» Builtin.Frozenset.slot0 Builtin.Frozenset.addrOf Builtin.Frozenset.sizeOf;refine Z9 (Z9<|Z4<|Z4 ?_);refine Z9 (Z9<|XN e1 e3 D.fit<|Z4 ?_);refine Z9 ?_;unfold setDrawn;refine Z9 (YR e1 e3 D.fit ?_);dsimp only;refine Z9 (kX<|Z4 ?_);have OJ:w.params.followText "set-order" = true\/(!t.plain && decide (es.size > 1))=false->
    wpAny (model prog w) A.in1 (do let ep <- setEpoch S;let r <- newFields "set_iterator" [rawInt 0,rawInt 0,.ref S,rawInt es.size,rawInt ep];ret r) (fun fin s'=>∃ r,fin=PySem.Fin.done (.ret r)/\∃ T' q,s'.TypeIs r T'/\typeLookup (.type T') "__next__" = pure (some q)/\Q r s') E s:=by
   intro hc;refine Z9 (wpAny_setEpoch_of e1 e3 D.fit<|Z9<|Zj<|Z4 ⟨_,rfl,"set_iterator",_,⟨_,ZN _ rfl,rfl⟩,jp.lookup,?_⟩);have kp:∀ b o,s.heap.get? b=some o->(s.heap.push { cls:=.type "set_iterator",dict:=none,data:=.fields [rawInt 0,rawInt 0,.ref S,rawInt es.size,rawInt ep].toArray }).get? b=some o:=fun b o e=>Z5 _ e;have Qj:GN (s.heap.push { cls:=.type "set_iterator",dict:=none,data:=.fields [rawInt 0,rawInt 0,.ref S,rawInt es.size,rawInt ep].toArray }) s.heap.objs.size (.int (0:Nat) 0) 0 S es.size ep:=⟨_,ZN _ rfl,rfl,rfl⟩;have sat:HR (s.heap.push { cls:=.type "set_iterator",dict:=none,data:=.fields [rawInt 0,rawInt 0,.ref S,rawInt es.size,rawInt ep].toArray }) S es ep t:=⟨o,kp _ _ e1,e2,e3⟩;have fp:∀ b∈[s.heap.objs.size,S],b=S\/s.heap.objs.size<=b:=fun b hb=>by
    rcases ZU.mp hb with rfl | hb
    ·exact .inr (ZR _)
    ·exact .inl (Z1.mp hb)
   cases GK:w.params.followText "set-order" with
   | true=>
    have hp:=Ba (w.params.setOrder S ep) es;obtain⟨ws,w1,w2,w3⟩:=give _ hp;exact h _ s.drawn _ _ _ _ _ kp (ZR _) fp (Bc hh (ZB Le) D.fit GK) ⟨Qj,sat⟩ w1 w2 w3
   | false=>
    have Lb:=hc.resolve_left (by rw[GK];exact ZM);obtain⟨ws,w1,w2,w3⟩:=give _ (.refl _);exact h _ s.drawn _ _ _ _ _ kp (ZR _) fp (Bb hh (ZB Le) D.fit GK Lb (by rw[D.tab.led,cu,GK];rfl) D.tab.rise) ⟨Qj,sat⟩ w1 w2 w3
  show wpAny _ _ (if (!w.params.followText "set-order" && (!t.plain && decide (es.size > 1)))=true then _ else _) _ _ _;cases hd:(!w.params.followText "set-order" && (!t.plain && decide (es.size > 1))) with
  | false=>
   rw[ZY ZM];refine Z9 (m:=pure (rawInt 0)) (Z4<|OJ ?_);cases GK:w.params.followText "set-order" with
   | true=>exact .inl rfl
   | false=>rw[GK] at hd;exact .inr hd
  | true=>
   rw[ZZ rfl];refine Z9 (tN es.size (range es.size) s _ Y2 fun d ps hp=>?_);have Nb:∀ p∈ps,p<es.size:=fun p h=>Zh.mp (hp.mem_iff.mp h);have JC:ps.length=es.size:=by rw[hp.length_eq,Y2]
   refine Z9 (m:=newObj (.type "tuple") (.seq (gg ps).toArray)) (Zj ?_ (show (gg ps).toArray.size<=sizeLine by rw[ZS,gg,Z3,JC];exact hsz));refine Z9 (wpAny_setEpoch_of (Z5 _ e1) e3 D.fit<|Z9<|Zj<|Z4 ⟨_,rfl,"set_iterator",_,⟨_,ZN _ rfl,rfl⟩,jp.lookup,?_⟩);obtain⟨q1,q2⟩:=Bf hp;obtain⟨ws,w1,w2,w3⟩:=give _ q2;have hI:({ s with heap:=s.heap.push { cls:=.type "tuple",dict:=none,data:=.seq (gg ps).toArray },drawn:=d }:Shared).heap.objs.size=s.heap.objs.size+1:=YY ..;refine h _ d _ [_,S,s.heap.objs.size] (dW es ps) ws _ (fun b o e=>Z5 _<|Z5 _ e) ?_ ?_ (Bd (ep:=ep) (t:=t) (n2:=0) hh ?_ ?_ D.fit Nb) ⟨⟨_,ZN _ rfl,rfl,rfl⟩,⟨o,Z5 _<|Z5 _ e1,e2,e3⟩,⟨_,Z5 _<|ZN _ rfl,rfl⟩⟩ (q1.trans w1) w2 w3
   ·exact Xj (by rw[YY];exact Yt _)
   ·intro b hb;rcases ZU.mp hb with rfl | hb
    ·exact .inr (by rw[YY];exact Nat.le_succ _)
    ·rcases ZU.mp hb with rfl | hb
     ·exact .inl rfl
     ·exact .inr (by rw[Z1.mp hb];exact ZR _)
   ·rw[YY];exact ZB (XU Le)
   ·rw[YY];exact ZB (Yt _)
theorem Bi{Q:List Value->Shared->Prop}(hh:A.handled=none)(hS:bp w P s.heap S (cu w) ks)(hl:ks.length<=300)(h:∀ (h':Heap) (tk:Nat) (d:_) (ws:List (List Im×Addr)),(∀ b o,s.heap.get? b=some o->h'.get? b=some o)->(ws.map (·.1)).Perm ks->(∀ z∈ws,P z.1 z.2)->Q (ws.map fun z=>Value.ref z.2) { s with heap:=h',toks:=tk,drawn:=d }):
  wpAny (model prog w) A (collect<|.ref S) Q E s:=by
 have Le:S<s.heap.objs.size:=let ⟨_,_,_,_,e,_⟩:=hS;ZP e
 unfold collect;refine Z9 (wpAny_runValue<|Xv entry_proto_collect' ?_);rw[XR PySem.F.plain_proto_collect _];show wpAny _ A.in1 (newList [] >>= fun l=>again<|.builtin "list.__iadd__" ⟨[l,.ref S],[]⟩) _ _ s;refine Z9 (Zj ?_);refine Z4 ⟨Ww VY _,Xv entry_list_iadd' ?_⟩;rw[XR VY _];generalize hH:s.heap.push { cls:=.type "list",dict:=none,data:=.seq ([]:List Value).toArray }=H1;have kH:∀ b o,s.heap.get? b=some o->H1.get? b=some o:=fun b o e=>by rw[<- hH];exact Z5 _ e
 have hB:H1.get? s.heap.objs.size=some { cls:=.type "list",dict:=none,data:=.seq #[] }:=by rw[<- hH];exact ZN _ rfl
 have Qk:s.heap.objs.size<H1.objs.size:=ZP hB;have Ql:bp w P H1 S (cu w) ks:=hS.at fun o e=>kH S o e;have ty:Shared.TypeIs { s with heap:=H1 } (.ref S) "set" := let ⟨o,_,_,_,e,x,_⟩:=Ql;⟨o,e,x.1⟩
 show wpAny _ A.in1 (Builtin.List.listExtendWith (.ref s.heap.objs.size) (.ref S)<|.ref s.heap.objs.size) _ _ _;unfold Builtin.List.listExtendWith;refine Z9 (WS (T := "set") ty ?_);have h1:Builtin.List.listSameRef (.ref s.heap.objs.size) (.ref S)=false:=by simp[Builtin.List.listSameRef,Xi Le]
 have h2:(Value.type "set" == Value.type "list")=false:=by decide
 have h3:(Value.type "set" == Value.type "tuple")=false:=by decide
 simp only[h1,h2,h3,Bool.or_false,Zo,Yz];refine Z9 (Bh (s:={ s with heap:=H1 }) hh Ql hl fun h2 d I fp vs ws St k2 hI Sg W st ev pm iv=>?_);have hn:vs.length<=sizeLine:=by rw[ev,Z3,<- Z3 (f:=(·.1)),pm.length_eq];exact Zg hl (by decide)
 have Qm:s.heap.objs.size∉fp:=fun hm=>by
  rcases Sg _ hm with e | e
  ·exact absurd e (Xi Le)
  ·exact absurd Qk (Wg.mpr e)
 have Mk:h2.get? s.heap.objs.size=some { cls:=.type "list",dict:=none,data:=.seq #[] }:=k2 _ _ hB;have Sh:Shared.TypeIs { s with heap:=h2,drawn:=d } (.ref S) "set" := let ⟨o,e,c⟩:=ty;⟨o,k2 _ _ e,c⟩
 have key:∀ (hp:Heap) (c:Nat) (R:Result->Shared->Prop),St 0 hp->(∀ b o,b≠s.heap.objs.size->h2.get? b=some o->hp.get? b=some o)->hp.get? s.heap.objs.size=some { cls:=.type "list",dict:=none,data:=.seq #[] c }->
   (∀ (h':Heap) (tk:Nat) (c':Nat),(∀ b o,s.heap.get? b=some o->h'.get? b=some o)->h'.get? s.heap.objs.size=some { cls:=.type "list",dict:=none,data:=.seq vs.toArray c' }->R (.ok<|.ret<|.ref s.heap.objs.size) { s with heap:=h',toks:=tk,drawn:=d })->
   codeAny (model prog w) A (.builtin "list.extend.loop" ⟨[.ref s.heap.objs.size,.ref I,.ref s.heap.objs.size],[]⟩) R { s with heap:=hp,drawn:=d }:=fun hp c R st kp Si hR=>
  codeAny_extend_loopS W.toS hn s.heap.objs.size Qm (.ref s.heap.objs.size) vs.length 0 _ #[] c rfl (Yl _) st Si (ItemsOf.nil _) fun s' acc c' hm Qn Fy=>by
   rw[show s'={ s with heap:=s'.heap,toks:=s'.toks,drawn:=d } from by obtain⟨_,hg,hd2,ho,_⟩:=hm;cases s';cases hg;cases hd2;cases ho;rfl];have ea:acc=vs.toArray:=by
    apply Array.toList_inj.mp;apply V1
    ·rw[ZO];exact Fy.1
    ·intro i g1 g2;have:=Fy.2 i acc.toList[i] (by rw[<- ZC];exact ZV g1);have this:vs[i]?=some acc.toList[i]:=this;rw[ZV g2] at this;exact (Zr this).symm
   rw[ea] at Qn;refine hR s'.heap s'.toks c' (fun b o e=>hm.heap b o (fun Gm=>?_)<|kp b o (ZB<|ZP e)<|k2 b o<|kH b o e) Qn;rcases ZU.mp Gm with e' | Gm
   ·exact absurd (ZP e) (by rw[e'];exact Yh _)
   ·have e3:=ZP e;rw[Z1.mp Gm] at e3;have:s.heap.objs.size<=I:=Zg (Xj Qk) hI;exact absurd e3 (Wg.mpr this)
 refine Z9 (Y1<|Be (s:={ s with heap:=h2,drawn:=d }) Sh ?_);refine VD (fun _=>?_) (fun _=>Z4 ⟨Ww Wc _,key _ 0 _ st (fun b o _ e=>e) Mk fun h' tk c' k3 OK=>Z9 (wpAny_load OK (Z4 (by rw[ev];exact h h' tk d ws k3 pm iv)))⟩);refine Z9 (Yb ?_);refine Z9 ?_;show wpAny _ _ (updateSeq s.heap.objs.size (·.push .none) >>= fun _=>updateSeq s.heap.objs.size (·.pop)) _ _ _;refine Z9 (wpAny_updateSeq (s:={ s with heap:=h2,drawn:=d }) Mk rfl ?_);have Nm:=YB (Obj.mapSeq (·.push Value.none)) Mk rfl;refine wpAny_updateSeq (hz:=by seq_fits) Nm rfl ?_;have Sj:=YB (Obj.mapSeq (·.pop)) Nm rfl;refine Z4 ⟨Ww Wc _,key _ _ _ ?_ (fun b o hb e=>?_) Sj fun h' tk c' k3 OK=>Z9 (wpAny_load OK (Z4 (by rw[ev];exact h h' tk d ws k3 pm iv)))⟩
 ·refine W.frame 0 _ _ st fun b hb o e=>?_;have Qo:b≠s.heap.objs.size:=fun h=>Qm (h ▸ hb);exact (Y3 _ _<|Yd Qo).trans ((Y3 _ _<|Yd Qo).trans e)
 ·exact (Y3 _ _<|Yd hb).trans ((Y3 _ _<|Yd hb).trans e)
end
end L2
namespace L2
open PySem PySem.Spec PyProof.Rows PySem.W
section
variable{X:Cx}{pins:List (Addr×Obj)}{σ:St}{H:Hp}{s:Shared}
theorem Inv.IE(I:Inv X pins σ H s)(d:Drawn):Inv X pins σ H { s with drawn:=d }:=⟨I.ok,I.os,I.bare,I.base,I.loc,I.cell,I.free,I.B_,I.pin,I.i_,I.len⟩
end
section
variable{X:Cx}
end
variable{Mo pos p2 p:Pos}{a:Expr}{ks:List (List Im)}
theorem ER.perm{ds es:List Im}(o:ER ds)(p:es.Perm ds):ER es:=
 ⟨⟨by rw[p.length_eq];exact o.ord.Kv,fun a ha b hb=>o.ord.GJ a (p.mem_iff.mp ha) b<|p.mem_iff.mp hb,p.nodup_iff.mpr o.ord.nd⟩,o.fst.imp (fun h d hd=>h d<|p.mem_iff.mp hd) fun h d hd=>h d<|p.mem_iff.mp hd⟩
theorem ud{H:Hp}:∀ {ws:List (List Im×Addr)},(∀ z∈ws,EG H (.tup z.1)<|.ref z.2)->aj H ((ws.map (·.1)).map .tup) (ws.map fun z=>V.ref z.2)
 | [],_=>rfl
 | z::ws,h=>⟨_,_,rfl,h z<|.head _,ud fun y hy=>h y<|.tail _ hy⟩
theorem oh:∀ ws:List (List Im×Addr),au (ws.map fun z=>V.ref z.2) (ws.map fun z=>Value.ref z.2)
 | []=>.nil
 | z::ws=>.cons rfl (oh ws)
section
variable{X:Cx}{pins:List (Addr×Obj)}{σ:St}{H:Hp}{s:Shared}{P:List Im->Addr->Prop}
theorem Bj(hc:X.calm=true)(hu:X.A.units+20<cLine){S:Addr}{ks:List (List Im)}{Q:VK}(I:Inv X pins σ H s)(hS:bp X.w P s.heap S (cu X.w) ks)(hP:∀ k b,P k b->EG H (.tup k) (.ref b))(o:ER (ks.map .tup))(hz:ks.length<=300)(q:∀ l zs,H l=none->aj H (bL u_<|ks.map .tup) zs->Q (.ref l) (upd H l<|.lst zs)):
  wpAny (model X.prog X.w) X.A (call (.builtin "sorted") [.ref S]) (EP X pins σ Q) X.xe s:=by
 refine XY kind_sorted plain_sorted entry_sorted (args_sorted1 _) ?z
 case z=>
  unfold Builtin.«sorted»;refine Z9 (m:=checkCount "sorted" 1 1 _) (Z4<|Z9<|Bi (A:=X.A.in1) (I.ok.hd hc) hS hz fun h' tk d ws Jo pm hw=>?_);have I1:Inv X pins σ H { s with heap:=h',toks:=tk,drawn:=d }:=(I.IE d).kept (t':=tk) Jo;have hi:aj H ((ws.map (·.1)).map .tup) (ws.map fun z=>V.ref z.2):=ud fun z hz=>hP _ _ (hw z hz);have iv:aF h' ((ws.map (·.1)).map .tup) (ws.map fun z=>Value.ref z.2):=hi.Gq I1.i_ (oh ws);have OL:((ws.map (·.1)).map Im.tup).Perm (ks.map .tup):=pm.map _;have o2:=o.perm OL;have lw:ws.length<=300:=by rw[<- Z3 (f:=(·.1)),pm.length_eq];exact hz
  generalize J8:(ws.map (·.1)).map Im.tup=ds at hi iv OL o2;generalize Ks:ws.map (fun z=>V.ref z.2)=ys at hi;have rv:au ys (ws.map fun z=>Value.ref z.2):=Ks ▸ oh ws;generalize hits:ws.map (fun z=>Value.ref z.2)=e_ at iv rv ⊢;have li:e_.length=ds.length:=iv.length.symm;have lz:e_.length<=300:=by rw[<- hits,Z3];exact lw
  show wpAny _ _ (newList e_ >>= _) _ _ _;refine Z9 (V7 ?_ (Zg lz (by decide)));have oB:(h'.push<|seqObj "list" e_.toArray 0).get? h'.objs.size=some (seqObj "list" e_.toArray 0):=ZN _ rfl;refine Z9 (Y1<|Zd slot_list_sort ⟨_,oB,rfl⟩ entry_list_sort ?y<|args_list_sort _)
  case y=>
   have KC:∀ h6:Heap,(∀ b ob,b≠h'.objs.size->(h'.push<|seqObj "list" e_.toArray 0).get? b=some ob->h6.get? b=some ob)->∀ b ob,h'.get? b=some ob->h6.get? b=some ob:=fun h6 k6 b ob e=>k6 b ob (ZB<|ZP e) (Z5 _ e);refine m7 (s:={ s with heap:=h'.push (seqObj "list" e_.toArray 0),toks:=tk,drawn:=d }) (dQ ds) (tuples'<|decide (∀ d∈ds,cJ d=true)) oB (fun h2 h6 k6 Q hq=>nA (h:=h6) (s:={ s with heap:=h6,toks:=tk,drawn:=d }) o2 h2 (iv.E8<|KC h6 k6) _ _ Q hq) (fun h6 k6=>?_) (by rw[li];exact kA o2.ord) (.inl (by lia)) (by lia) fun p h2 r1 r2 k2 ⟨e9,Ma⟩=>⟨_,rfl,Z4 ⟨_,rfl,?_⟩⟩
   ·refine nv (s:={ s with heap:=h6,toks:=tk,drawn:=d }) o2.ord (iv.E8<|KC h6 k6) o2.tup (fun hb=>Zn hb) (by show X.A.units+1+1+9<cLine;lia)
   ·have fB:H h'.objs.size=none:=I1.i_.fresh (ZR _);rw[li] at r1 r2;have e1:(p.toList.map fun i=>ds.getD i .h_)=bL u_ (ks.map .tup):=kD o.ord ((kf r1).trans OL) (Ov o2.ord r1 r2);have hp:=hi.pick (p:=p.toList) fun k hk=>Zh.mp (r1.mem_iff.mp hk);rw[e1] at hp;refine⟨.ref h'.objs.size,upd H h'.objs.size<|.lst<|p.toList.map fun i=>ys.getD i .h_,?_,rfl,q _ _ fB hp⟩;refine I1.laid (t':=tk) (fun b u e=>KC h2 k2 b u e) (ZR _) ⟨?_,_,e9,?_,Ma⟩
    ·rw[Z3,ZO,r1.size];exact Zg (by lia:ds.length<=300) (by decide)
    ·refine kg (by simp) fun i v u h1 h2=>?_;rw[Zy] at h1 h2;cases Iy:p.toList[i]? with
     | none=>rw[Iy] at h1;cases h1
     | some k=>
      rw[Iy] at h1 h2;cases h1;cases h2;have hk:k<ds.length:=Zh.mp (r1.mem_iff.mp<|Zt Iy);have G7:k<ys.length:=by rw[rv.length,li];exact hk
      obtain⟨u,h3,h4⟩:=rv.get (i:=k) (x:=ys[k]) (ZV G7);show av (ys.getD k .h_) (e_.getD k .none);rw[Z6,ZV G7,Z6,h3];exact h4
def bA(ks:List (List Im)):List (List Im):=ks.foldl cb []
theorem oj(ks:List (List Im)):∀ i,i<=ks.length->c8 (fun i=>ks.getD i []) i=(ks.take i).foldl cb []
 | 0,_=>by rw[Vz];rfl
 | i+1,h=>by
  rw[List.take_succ_eq_append_getElem (show i<ks.length from h),List.foldl_append,<- oj ks i (Nat.le_of_succ_le h)];show cb _ (ks.getD i [])=cb _ ks[i];rw[Z6,ZV<|show i<ks.length from h];rfl
theorem Bk(l:List (List Im)):∀ (acc:List (List Im)) (x:List Im),x∈l.foldl cb acc↔x∈acc\/x∈l:=by
 induction l with
 | nil=>intro acc x;simp
 | cons k r ih=>
  intro acc x;rw[Yk,ih];unfold cb;by_cases hk:k∈acc
  ·rw[ZZ hk,ZU];constructor
   ·rintro (h | h)
    ·exact .inl h
    ·exact .inr (.inr h)
   ·rintro (h | h | h)
    ·exact .inl h
    ·exact .inl (h ▸ hk)
    ·exact .inr h
  ·rw[ZY hk,Zx,Z1,ZU,or_assoc]
theorem Bl{x:List Im}:x∈bA ks↔x∈ks:=by
 rw[bA,Bk];simp
theorem Bm(l:List (List Im)):∀ acc:List (List Im),acc.Nodup->(l.foldl cb acc).Nodup:=by
 induction l with
 | nil=>intro acc h;exact h
 | cons k r ih=>
  intro acc h;refine ih _ ?_;unfold cb;split
  ·exact h
  ·next hn=>exact ZK.mpr ⟨h,Zw _ k,fun x hx y hy=>by cases Z1.mp hy;exact fun e=>hn<|e ▸ hx⟩
theorem Bn(ks:List (List Im)):(bA ks).Nodup:=Bm ks [] Yy
theorem Bo(l:List (List Im)):∀ acc:List (List Im),acc.length<=(l.foldl cb acc).length:=by
 induction l with
 | nil=>intro acc;exact ZR _
 | cons k r ih=>
  intro acc;refine Zg ?_ (ih _);unfold cb;split
  ·exact ZR _
  ·rw[ZI];exact X3 _ _
theorem Bp{i:Nat}(h:i<=ks.length):(c8 (fun i=>ks.getD i []) i).length<=(bA ks).length:=by
 rw[oj ks i h];have e:bA ks=(ks.drop i).foldl cb ((ks.take i).foldl cb []):=by
  rw[bA,<- List.foldl_append,Zz]
 rw[e];exact Bo _ _
theorem Bq(ks:List (List Im)):c8 (fun i=>ks.getD i []) ks.length=bA ks:=by
 rw[oj ks _ (ZR _),XG];rfl
def Br(ta:TA):TE:=fun σ H Q=>ta σ H fun vs H1=>∃ (a:Addr) (ks:List (List Im)) (ys:List V),vs=[.ref a]/\H1 a=some (.tup ys)/\aj H1 (ks.map .tup) ys/\(∀ k∈ks,Im.keys 7 k=true)/\ER ((bA ks).map .tup)/\(bA ks).length<300/\
 ∀ l zs,H1 l=none->aj H1 (bL u_<|(bA ks).map .tup) zs->Q (.ref l) (upd H1 l<|.lst zs)
theorem aj.at{H:Hp}:∀ {ds:List Im}{vs:List V}{i:Nat}{v:V},aj H ds vs->vs[i]?=some v->∃ d,ds[i]?=some d/\EG H d v
 | [],vs,i,v,h,e=>by rw[show vs=[] from h] at e;simp at e
 | d::ds,vs,0,v,h,e=>by
  obtain⟨u,r,rfl,h1,h2⟩:=h;cases e;exact⟨d,rfl,h1⟩
 | d::ds,vs,i+1,v,h,e=>by
  obtain⟨u,r,rfl,h1,h2⟩:=h;obtain⟨d',e1,e2⟩:=aj.at (i:=i) h2 (by simpa using e);exact⟨d',by simpa using e1,e2⟩
theorem Bs(hc:X.calm=true)(hu:X.A.units+30<cLine){l:Addr}{ks:List (List Im)}{ys:List V}{Q:Value->Shared->Prop}(I:Inv X pins σ H s)(hl:H l=some (.tup ys))(hi:aj H (ks.map .tup) ys)(hk:∀ k∈ks,Im.keys 7 k=true)(hz:(bA ks).length<300)(h:∀ h' tk S,Inv X pins σ H { s with heap:=h',toks:=tk }->bp X.w (fun k b=>Im.keys 7 k=true/\EG H (.tup k) (.ref b)) h' S (cu X.w) (bA ks)->Q (.ref S) { s with heap:=h',toks:=tk }):
  wpAny (model X.prog X.w) X.A (call (.type "set") [.ref l]) Q X.xe s:=by
 obtain⟨z,e_,rv,o,e1,e2,n,e3⟩:=I.i_ l _ hl;have li:e_.length=ks.length:=by rw[<- rv.length,<- hi.length,Z3]
 have hb:e_.toArray.size=ks.length:=by rw[ZS,li]
 refine A9 (P:=fun k b=>Im.keys 7 k=true/\EG H (.tup k) (.ref b)) (items:=e_.toArray) (ks:=ks) (I.ok.hd hc) e1 e2 e3 hu (fun i v hv=>?_) (fun q b z=>⟨z.1,z.2.Gq I.i_ rfl⟩) (fun i hi=>?_) fun h' tk hS kp=>?_
 ·rw[WD] at hv;have Gb:i<ys.length:=by rw[rv.length];exact (ZE.mp hv).1
  obtain⟨u,g1,g2⟩:=rv.get (i:=i) (x:=ys[i]) (ZV Gb);rw[hv] at g1;cases g1;obtain⟨d,g3,g4⟩:=hi.at (i:=i) (v:=ys[i]) (ZV Gb);rw[Zy] at g3;obtain⟨k,g5,rfl⟩:=Z2.mp g3;obtain⟨b,xs,g6,g7,g8⟩:=id g4;rw[g6] at g2 g4;refine⟨b,g2,?_⟩;rw[Z6,g5];exact⟨hk k<|Zt g5,g4⟩
 ·rw[hb] at hi;have:=Bp (ks:=ks) (Xj hi);lia
 ·rw[hb,Bq] at hS;exact h h' tk _ (I.kept (t':=tk) kp) hS
theorem Bt{ta:TA}(hc:X.calm=true)(hu:X.A.units+30<cLine)(hl:Gl X "sorted")(OM:X.mg "sorted" = none)(hg:Gl X "set")(hm:X.mg "set" = none)(ha:PA X [a] ta)(hs:starEach [a] X.env=[(false,eval a X.env)]:=by rfl):
  PE X (.Call (.Name "sorted" p2) [.Call (.Name "set" p) [a] [] pos] [] Mo) (Br ta):=by
 intro pins s σ H Q I h;refine XD (fJ I hl OM (show bootBuiltins "sorted" = some (.builtin "sorted") by decide +kernel) (WB ?_ rfl rfl) (by decide) (by decide));refine Calls.spliced_cons ?_;refine Call_ (fJ I hg hm (show bootBuiltins "set" = some (.type "set") by decide +kernel)<|X6 (t_ (ha pos pins s σ H _ I h) fun us s1 ⟨vs,H1,I1,r1,q1⟩=>?_) hs rfl);obtain⟨l,ks,ys,rfl,Ih,hi,hk,ho,hz,q⟩:=q1;obtain⟨u,rfl,ru⟩:=bM r1;cases ru;exact Bs hc hu I1 Ih hi hk hz fun h' tk S I2 hS=>Calls.spliced_nil (Bj hc (by lia) I2 hS (fun k b z=>z.2) ho (by lia) q)
end
def Gy:List Im->Option (List<|List Im)
 | []=>some []
 | .tup a::r=>(Gy r).map (a::·)
 | _=>none
theorem ue:∀ {x:List Im}{ks:List (List Im)},Gy x=some ks->x=ks.map .tup
 | [],ks,h=>by cases h;rfl
 | .tup a::r,ks,h=>by
  obtain⟨k,h1,rfl⟩:=Z2.mp h;rw[ue h1];rfl
 | .h_::_,_,h=>by cases h
 | .bl _::_,_,h=>by cases h
 | .int _::_,_,h=>by cases h
 | .str _::_,_,h=>by cases h
 | .fn _::_,_,h=>by cases h
 | .fl _::_,_,h=>by cases h
 | .fd::_,_,h=>by cases h
theorem uf:∀ ks:List (List Im),Gy (ks.map .tup)=some ks
 | []=>rfl
 | k::ks=>by
  show (Gy<|ks.map .tup).map (k::·)=_;rw[uf ks];rfl
def kZ(ks:List (List Im)):Bool:=ks.all (Im.keys 7) && decide ((bA ks).length<300)
def k7(g:M (List Opd)):M Vl:=fun D=>(g D).bind fun p=>(cj p.2 p.1).bind fun ds=>match ds with
 | [.im (.tup x)]=>(Gy x).bind fun ks=>if kZ ks=true/\jb ((bA ks).map .tup)=true then some (.lst<|bL u_<|(bA ks).map .tup,p.2) else none
 | _=>none
theorem ug:kZ ks=true↔(∀ k∈ks,Im.keys 7 k=true)/\(bA ks).length<300:=by
 unfold kZ;rw[ZQ,YG,Yv]
section
variable{X:Cx}
theorem Bu{g:M (List Opd)}(hu:X.A.units+30<cLine)(hl:Gl X "sorted")(OM:X.mg "sorted" = none)(hg:Gl X "set")(hm:X.mg "set" = none)(ha:VA X [a] g)(hs:starEach [a] X.env=[(false,eval a X.env)]:=by rfl)(hc:X.calm=true:=by rfl):
  VE X (.Call (.Name "sorted" p2) [.Call (.Name "set" p) [a] [] pos] [] Mo) (k7 g):=by
 refine aW (Bt hc hu hl OM hg hm ha hs) fun σ H Q ⟨D,F,r,D',st,nd,FL,q⟩=>?_;obtain⟨⟨os,D1⟩,h1,h2⟩:=Z8.mp FL;obtain⟨ds,h3,h4⟩:=Z8.mp h2;refine⟨D,F,os,D1,st,nd,h1,fun vs H1 F1 R1 p_ o1 s1=>?_⟩;have rd:=o1.read p_ h3;split at h4
 ·rename_i x;obtain⟨ks,e1,e2⟩:=Z8.mp h4;split at e2
  ·rename_i hn;cases e2;obtain⟨v,rfl,e⟩:=iY rd;obtain⟨b,xs,rfl,hb,hi⟩:=(show ∃ a xs,v=V.ref a/\H1 a=some (.tup xs)/\aj H1 x xs from e);cases ue e1;obtain⟨k1,k2⟩:=ug.mp hn.1;refine⟨b,ks,xs,rfl,hb,hi,k1,kF.mp hn.2,k2,fun l zs fl hz=>?_⟩;have s2:aA H1 (upd H1 l<|.lst zs):=(aA.refl H1).upd fl;exact q _ _ F1 [l] (p_.mono s2.tupS fun a _ o e=>s2 a o e) ⟨l,_,rfl,bI,hz.mono s2.tupS.tup,rfl⟩ (s1.new s2 (Zw _ _) (fun a ha=>by rw[Z1.mp ha];exact fl) p_.chg)
  ·cases e2
 ·cases h4
end
end L2
namespace L2
open PySem PySem.Spec PyProof.Rows
section
variable{X:Cx}
end
end L2
namespace G
open PySem L2
variable{n:Nat}
theorem Gd{m:Nat}(h:Nat.ble (n+1) m=true):n<m:=Zs h
abbrev bV(b:Bool):Vl:=.im (.bl b)
def ce(ks:List (Int×Int))(c:Int×Int):List (Int×Int):=if c∈ks then ks else ks++[c]
theorem Bv(ks:List (Int×Int))(c:Int×Int):fu (mt ks) (kM c) (.bl true)=mt (ce ks c):=by
 unfold ce;by_cases h:c∈ks
 ·rw[ZZ h];unfold fu;rw[ZZ (by rw[sF];simpa using h)];unfold mt;rw[Yw];refine Wo fun x _=>?_;show (if kM x=kM c then (kM x,Im.bl true) else (kM x,Im.bl true))=_;split<;>rfl
 ·rw[ZY h];exact An h
theorem Bw{i:Nat}{x:Im}(h:(bw 0 n)[i]?=some x):i<n/\x=.int (0+(i:Int)):=by
 have hi:i<n:=by
  have:=(ZE.mp h).1
  rwa [bw,Z3,Y2] at this
 rw[bw,Zy,List.getElem?_range hi] at h;exact⟨hi,(Zr h).symm⟩
def Up(cs:List (Int×Int)):Prop:=cs.Pairwise fun a b=>u_ (cM a) (cM b)=true
theorem uh{ks:List (Int×Int)}(nd:ks.Nodup)(hl:ks.length<=1000):∃ cs:List (Int×Int),bL u_ (ks.map cM)=cs.map cM/\cs.Perm ks/\Up cs:=by
 have o:=kJ nd hl;obtain⟨cs,h1,h2⟩:=sE (f7<|ks.map cM);refine⟨cs,h2,h1,?_⟩;have:=kC o.ord.nd o.ord.GJ;rw[h2] at this;exact XS.mp this
end G
namespace L2
open PySem PySem.Spec PyProof.Rows
section
variable{X:Cx}
theorem Bx(hc:X.calm=true):aQ X (.builtin "max") (fun xs H Q=>∃ a i j,xs=[.ref a]/\H a=some (.tup [V.int i,V.int j])/\Q (.int<|if j > i then j else i) H):=by
 intro pins s σ H xs us Q I r h;obtain⟨l,i,j,rfl,hl,q⟩:=h;obtain⟨u,rfl,ru⟩:=bM r;cases ru;obtain⟨e_,rv,p,hz⟩:=I.tuple (y_.of hl);have GG:s.heap.IsTuple l e_.toArray:=p;have hlen:e_.length=2:=rv.length.symm;have ll:l<s.heap.objs.size:=ZP GG.choose_spec.1;refine call_max_walk (wpAny_pyIter_tuple GG ⟨s.heap.objs.size,[s.heap.objs.size,l],[s.heap.objs.size],e_.toArray.size,_,_,_,rfl,Walks.tuple (A:=X.A.in1) (I.ok.hd hc) _ l (ZB ll) e_.toArray,
  ⟨⟨_,ZN _ rfl,rfl,rfl⟩,GG.push _⟩,?_,by rw[ZS];lia,CmpOf.ints_gt (fun k=>(([i,j]:List Int)[k]?).getD 0) (fun k v hv=>fw (ns:=[i,j]) rv k v (by simpa using hv)),fun v h' tk hP hk=>?_⟩)
 ·intro b hb;show b<(s.heap.push _).objs.size;rw[YY];rcases ZU.mp hb with rfl | hb
  ·exact Yt _
  ·rw[Z1.mp hb];exact XU ll
 ·obtain⟨t,rfl⟩:=fw (ns:=[i,j]) rv _ v (by simpa using hP);refine⟨.int _,H,I.kept<|W7 hk,⟨t,rfl⟩,?_⟩;rw[hlen];by_cases h:j > i
  ·have e:argBest (fun a b=>decide ((([i,j]:List Int)[b]?).getD 0<(([i,j]:List Int)[a]?).getD 0)) (2 - 1)=1:=ZZ (Zu h);rw[e];rw[ZZ h] at q;exact q
  ·have e:argBest (fun a b=>decide ((([i,j]:List Int)[b]?).getD 0<(([i,j]:List Int)[a]?).getD 0)) (2 - 1)=0:=ZY (fun z=>h<|Zn z);rw[e];rw[ZY h] at q;exact q
theorem By(hc:X.calm=true):aQ X (.builtin "min") (fun xs H Q=>∃ a i j,xs=[.ref a]/\H a=some (.tup [V.int i,V.int j])/\Q (.int<|if j<i then j else i) H):=by
 intro pins s σ H xs us Q I r h;obtain⟨l,i,j,rfl,hl,q⟩:=h;obtain⟨u,rfl,ru⟩:=bM r;cases ru;obtain⟨e_,rv,p,hz⟩:=I.tuple (y_.of hl);have GG:s.heap.IsTuple l e_.toArray:=p;have hlen:e_.length=2:=rv.length.symm;have ll:l<s.heap.objs.size:=ZP GG.choose_spec.1;refine call_min_walk (wpAny_pyIter_tuple GG ⟨s.heap.objs.size,[s.heap.objs.size,l],[s.heap.objs.size],e_.toArray.size,_,_,_,rfl,Walks.tuple (A:=X.A.in1) (I.ok.hd hc) _ l (ZB ll) e_.toArray,
  ⟨⟨_,ZN _ rfl,rfl,rfl⟩,GG.push _⟩,?_,by rw[ZS];lia,CmpOf.ints_lt (fun k=>(([i,j]:List Int)[k]?).getD 0) (fun k v hv=>fw (ns:=[i,j]) rv k v (by simpa using hv)),fun v h' tk hP hk=>?_⟩)
 ·intro b hb;show b<(s.heap.push _).objs.size;rw[YY];rcases ZU.mp hb with rfl | hb
  ·exact Yt _
  ·rw[Z1.mp hb];exact XU ll
 ·obtain⟨t,rfl⟩:=fw (ns:=[i,j]) rv _ v (by simpa using hP);refine⟨.int _,H,I.kept<|W7 hk,⟨t,rfl⟩,?_⟩;rw[hlen];by_cases h:j<i
  ·have e:argBest (fun a b=>decide ((([i,j]:List Int)[a]?).getD 0<(([i,j]:List Int)[b]?).getD 0)) (2 - 1)=1:=ZZ (Zu h);rw[e];rw[ZZ h] at q;exact q
  ·have e:argBest (fun a b=>decide ((([i,j]:List Int)[a]?).getD 0<(([i,j]:List Int)[b]?).getD 0)) (2 - 1)=0:=ZY (fun z=>h<|Zn z);rw[e];rw[ZY h] at q;exact q
@[simp] def vMaxP:OpN:=fun ds=>match ds with
 | [.im (.tup [.int i,.int j])]=>some (.im<|.int<|if j > i then j else i)
 | _=>none
@[simp] def vMinP:OpN:=fun ds=>match ds with
 | [.im (.tup [.int i,.int j])]=>some (.im<|.int<|if j<i then j else i)
 | _=>none
theorem Bz(hc:X.calm=true):bT X (.builtin "max") vMaxP:=by
 refine (Bx hc).imp fun xs H Q ⟨ds,d,rd,e,q⟩=>?_;unfold vMaxP at e;split at e
 ·rename_i i j;cases e;obtain⟨v,rfl,a,ys,rfl,k1,k2⟩:=iY rd;cases gS (ns:=[i,j]) k2;exact⟨a,i,j,rfl,k1,Out.i q rfl⟩
 ·cases e
theorem BA(hc:X.calm=true):bT X (.builtin "min") vMinP:=by
 refine (By hc).imp fun xs H Q ⟨ds,d,rd,e,q⟩=>?_;unfold vMinP at e;split at e
 ·rename_i i j;cases e;obtain⟨v,rfl,a,ys,rfl,k1,k2⟩:=iY rd;cases gS (ns:=[i,j]) k2;exact⟨a,i,j,rfl,k1,Out.i q rfl⟩
 ·cases e
end
end L2
namespace G
open PySem L2
variable{c b o:Ce}{fs:List Ce}
noncomputable def jq:MS:=(bv (eC<|.bl true)<|gIx 1 (bD 2) putA)
noncomputable def ui:MS:=(am (aw 1 eDict0T)<|am (cV (ba<|oSl 0) (gN 2) G.jq)<|aI<|bD 1)
noncomputable def fD:Fn:=bb 1 3 [0] ui
abbrev ON:=Int×Int
theorem uj(o0:Option Vl):∀ (cs ks:List ON) (o2:Option Vl),ks.length+cs.length<100000->∃ Ky,bo (gN 2) jq (cs.map cM) [o0,some<|.dT<|mt ks,o2]=some (.nx,[o0,some<|.dT<|mt<|cs.foldl ce ks,Ky])
 | [],ks,o2,_=>⟨o2,rfl⟩
 | c::cs,ks,o2,hl=>by
  have hp:putA (.dT<|mt ks) (.im<|.tup<|kM c) (bV true)=some (.dT<|mt<|ce ks c):=by
   rw[<- Bv];exact ZZ ⟨rfl,by unfold mt;rw[Z3];rw[ZD] at hl;lia⟩
  have la:(ce ks c).length<=ks.length+1:=by
   unfold ce;split
   ·lia
   ·rw[ZI];exact ZR _
  obtain⟨Ky,ih⟩:=uj o0 cs (ce ks c) (some<|.im<|cM c) (by rw[ZD] at hl;lia);refine⟨Ky,?_⟩;have e:jq [o0,some<|.dT<|mt ks,some<|.im<|cM c]=some (.nx,[o0,some<|.dT<|mt<|ce ks c,some<|.im<|cM c]):=by
   unfold jq;refine Jp rfl ?_;show (putA (.dT<|mt ks) (.im<|.tup<|kM c)<|bV true).map _=_;rw[hp];rfl
  rw[ZH,bo];show (jq [o0,some<|.dT<|mt ks,some<|.im<|cM c]).bind _=_;rw[e];exact ih
theorem om:∀ (l ks:List Ce),ks.Nodup->(l.foldl ce ks).Nodup/\∀ c,c∈l.foldl ce ks↔c∈ks\/c∈l
 | [],ks,nd=>⟨nd,fun c=>by simp⟩
 | x::l,ks,nd=>by
  have h1:(ce ks x).Nodup/\∀ c,c∈ce ks x↔c∈ks\/c=x:=by
   unfold ce;split
   ·rename_i h;exact⟨nd,fun c=>⟨.inl,fun z=>z.elim id fun e=>by rw[e];exact h⟩⟩
   ·rename_i h;refine⟨ZK.mpr ⟨nd,by simp,fun a ha b hb=>?_⟩,fun c=>by simp⟩;rw[Z1.mp hb];exact fun e=>h (e ▸ ha)
  obtain⟨a,b⟩:=om l (ce ks x) h1.1;refine⟨a,fun c=>?_⟩;rw[Yk,b c,h1.2 c,ZU,or_assoc]
def bk(o:Ce)(fs:List Ce):List Ce:=(fs.map<|bl o).foldl ce []
theorem k8(o:Ce)(fs:List Ce):(bk o fs).Nodup:=(om _ [] .nil).1
theorem k9:b∈bk o fs↔∃ c∈fs,bl o c=b:=by
 unfold bk;rw[(om _ [] .nil).2 b,Ze];simp
theorem BB(o c:Ce):c∈ar (bl o c):=by
 rw[dA];unfold bl;dsimp only;lia
theorem uk(h:(b.1 - o.1) % 2=0/\(b.2 - o.2) % 2=0)(hc:c∈ar b):bl o c=b:=by
 have:=dA.mp hc;unfold bl;exact Xn (by dsimp only;lia) (by dsimp only;lia)
theorem ul(o:Ce)(fs:List Ce):dC o (bk o fs):=fun b hb=>by
 obtain⟨c,_,rfl⟩:=k9.mp hb;unfold bl;dsimp only;lia
theorem BC(nd:fs.Nodup)(h:fs.length=4 * (bk o fs).length):fs.Perm (cells<|bk o fs):=
 sP nd (fun c hc=>Y8.mpr ⟨bl o c,k9.mpr ⟨c,hc,rfl⟩,BB o c⟩) (by rw[eu,h];exact ZR _)
theorem oo{S:List Ce}(p:fs.Perm (cells S))(nd:S.Nodup)(ev:dC o S):(bk o fs).Perm S:=by
 refine (Yp (k8 o fs) nd).mpr fun b=>?_;rw[k9];constructor
 ·rintro⟨c,hc,rfl⟩;obtain⟨s,hs,h4⟩:=Y8.mp (p.mem_iff.mp hc);rw[uk (ev s hs) h4];exact hs
 ·exact fun hb=>⟨b,p.mem_iff.mpr<|Y8.mpr ⟨b,hb,jj b⟩,uk (ev b hb)<|jj b⟩
theorem BD{n:Nat}(hp:fs.Pairwise Lc)(hn:fs.length<=n)(ho:fs.head?=some o):
  (∃ S,c7 n fs []=some S/\S.head?=some o/\dC o S/\fs.length=4 * (bk o fs).length/\(bk o fs).Perm S/\S.Pairwise Lc)\/
  (fs.length≠4 * (bk o fs).length/\(c7 n fs []=none\/∃ S,c7 n fs []=some S/\S.head?=some o/\¬ dC o S/\S.length<=fs.length)):=by
 have len:∀ {S:List Ce},fs.Perm (cells S)->fs.length=4 * S.length:=fun p=>by rw[p.length_eq,eu]
 by_cases h:fs.length=4 * (bk o fs).length
 ·left;obtain⟨T,t1,t2⟩:=sV n (S:=[]) hp hn (k8 o fs) (ul o fs) (BC (Lc.nd hp) h);obtain⟨T',e,u1,u2,u3,u4⟩:=nP n hp t1;cases (List.append_cancel_left e:T=T');have ev:dC o T:=fun b hb=>ul o fs b (t2 b hb);exact⟨T,t1,u4.trans ho,ev,h,oo u2 (Lc.nd u1) ev,u1⟩
 ·refine .inr ⟨h,?_⟩;cases hc:c7 n fs [] with
  | none=>exact .inl rfl
  | some S=>
   obtain⟨T',e,u1,u2,u3,u4⟩:=nP n hp hc;cases (show S=T' from e);refine .inr ⟨S,rfl,u4.trans ho,fun ev=>h ?_,by have:=len u2;lia⟩;rw[(oo u2 (Lc.nd u1) ev).length_eq];exact len u2
def eM(e:Ed):Im:=.tup (kE e)
abbrev eL(es:List Ed):Vl:=.lst (es.map eM)
theorem BE(ho:fs[0]?=some o):g9 [cT fs,.im<|cM c]=some (.im<|cM<|bl o c,[cT fs,.im<|cM c]):=by
 have t:Fw (fs.map cM) 0=some (cM o):=atC (by decide) (by simpa using ho);have a0:vIx (.im<|cM c) (iI 0)=some (iI c.1):=rfl;have a1:vIx (.im<|cM c) (iI 1)=some (iI c.2):=rfl;have b0:vIx (.im<|cM o) (iI 0)=some (iI o.1):=rfl;have b1:vIx (.im<|cM o) (iI 1)=some (iI o.2):=rfl;have t':vIx (cT fs) (iI 0)=some (.im<|cM o):=by
  show (Fw (fs.map cM) 0).map Vl.im=_;rw[t];rfl
 unfold g9 sH;exact dy [some (cT fs),some<|.im<|cM c] rfl (bR (K8 (a_ (v_ (b_ (v_<|b_ rfl rfl rfl rfl a0) (v_ (b_ (v_<|b_ (v_<|b_ rfl rfl rfl rfl a0) (v_<|b_ (v_<|b_ rfl rfl rfl rfl t') rfl rfl rfl b0) rfl rfl rfl) rfl rfl rfl (dz (by decide)))) rfl rfl rfl)) (a_ (v_ (b_ (v_<|b_ rfl rfl rfl rfl a1) (v_ (b_ (v_<|b_ (v_<|b_ rfl rfl rfl rfl a1) (v_<|b_ (v_<|b_ rfl rfl rfl rfl t') rfl rfl rfl b1) rfl rfl rfl) rfl rfl rfl (dz (by decide)))) rfl rfl rfl)) rfl)) rfl (Zs rfl) rfl)) rfl
def st(b:Ce):Nat->Ce
 | 0=>(b.1 - 1,b.2)
 | 1=>(b.1,b.2+1)
 | 2=>(b.1+1,b.2)
 | _=>(b.1,b.2 - 1)
end G
namespace L2
open PySem PySem.Spec PyProof.Rows
variable{F7 body:List Stmt}{b0:Stmt}{HL EO cp np pos p:Pos}{y qual x:Str}{CM C L e f a:Addr}{q pins:List (Addr×Obj)}{EE:Value->Shared->Prop}{t:TS}{hs:List ExceptHandler}{h0:ExceptHandler}{D:Ends}{R:SD->SD->Prop}{i m k n:Nat}{s s0:Shared}{σ:St}{E:XK}{outer l:List Env}{A:Around}{cd a0:Value}{scope:Scope}{H0 H:Hp}{Q:Unit->Shared->Prop}{vs:Array Value}{oe:Obj}{h' h:Heap}{S:List Addr}{w:World}{P:Program}{es:List Expr}{g:M (List Opd)}{fix:List Nat}{N ps:List Str}{K:PySem.W.Frag}{G:Fn}
def jr:List (Addr×Obj)->Bool
 | []=>true
 | (_,o)::r=>(match o.data with
  | .seq _ _=>(match o.cls with | .type n=>n != "list" | _=>true)
  | _=>true) && jr r
theorem BF{K:List (Addr×Obj)}{o:Obj}{e_:Array Value}(h:jr K=true)(e:K.lookup a=some o)(hc:o.cls=.type "list")(hd:o.data=.seq e_ n):False:=by
 induction K with
 | nil=>cases e
 | cons p r ih=>
  obtain⟨b,x⟩:=p;rw[jr,ZQ] at h;simp only[List.lookup] at e;split at e
  ·cases e;have h1:=h.1;rw[hd] at h1;dsimp only at h1;rw[hc] at h1;exact absurd h1 (by decide)
  ·exact ih h.2 e
theorem um{H:Hp}:∀ ns:List Int,aj H (ns.map .int) (ns.map V.int)
 | []=>rfl
 | n::r=>⟨.int n,_,rfl,rfl,um r⟩
theorem BG(hK:jr K=true)(H:Hp)(a:Addr)(ns:List Int)(hO:jN H)(hS:EL K H a (ns.map V.int))(ht:∃ outs,G [.fz (ns.map .int)]=some (.im<|.bl true,outs)){E:XK}:Ir 1 G [.ref a] H (fun v _=>v=.bl true) E:=by
 obtain⟨outs,ht⟩:=ht;have hf:∃ o,H a=some (.Fa o<|.lst<|ns.map V.int):=by
  rcases hS with (h | h) | ⟨o,e_,n,h1,h2,h3,h4,_⟩
  ·rcases hO a with e | ⟨o,xs,e⟩
   ·rw[e] at h;cases h
   ·rw[e] at h;cases h
  ·exact h
  ·exact (BF hK h1 h2 h4).elim
 obtain⟨o,ho⟩:=hf;refine⟨rfl,[.fz (ns.map .int)],[],.im<|.bl true,outs,⟨_,_,[],[],rfl,⟨a,_,o,rfl,ho,um ns,rfl⟩,⟨rfl,rfl⟩,rfl⟩,Yy,ht,fun v H' R R' h _ _=>?_⟩;exact h.1
theorem oq{us:List Value}(h:us.length=n+1):∃ a r,us=a::r/\r.length=n:=by
 cases us with
 | nil=>cases h
 | cons a r=>exact⟨a,r,rfl,Nat.succ.inj h⟩
theorem GZ.KD{st:Stmt}{fd:FuncData}(F:GZ K x qual st f fd)(h:∀ (kV doc pm:Value) (an:Option Addr) (s_ ct:Value) (a:Value),bindArgs (PySem.W.fnOf x qual (dH st) (cg st) (ay st) .none kV doc pm an s_ ct) ⟨[a],[]⟩=pure (ps.zip [a]))(hp:ps.length=1:=by rfl):cN K fd ps []:=
 F.binds fun kV doc pm an s_ ct us hl=>by
  replace hl:=hl.trans hp;obtain⟨a,u1,rfl,h1⟩:=oq hl;obtain rfl:=YC h1;exact h kV doc pm an s_ ct a
theorem GZ.KF{st:Stmt}{fd:FuncData}(F:GZ K x qual st f fd)(h:∀ (kV doc pm:Value) (an:Option Addr) (s_ ct:Value) (a b:Value),bindArgs (PySem.W.fnOf x qual (dH st) (cg st) (ay st) .none kV doc pm an s_ ct) ⟨[a,b],[]⟩=pure (ps.zip [a,b]))(hp:ps.length=2:=by rfl):cN K fd ps []:=
 F.binds fun kV doc pm an s_ ct us hl=>by
  replace hl:=hl.trans hp;obtain⟨a,u1,rfl,h1⟩:=oq hl;obtain⟨b,u2,rfl,h2⟩:=oq h1;obtain rfl:=YC h2;exact h kV doc pm an s_ ct a b
def Raw(K:PySem.W.Frag)(x:Str)(st:Stmt)(f:Addr):Prop:=∃ fd,GZ K x x st f fd/\PySem.W.nsIn K mainGlobals x=some (some<|.ref f)
def Gz(K:PySem.W.Frag)(mg:Str->Option Value)(x:Str)(st:Stmt)(f:Addr)(ps:List Str):Prop:=∃ fd,GZ K x x st f fd/\cN K fd ps []/\mg x=some (.ref f)
def EN(P:Program)(w:World)(K:PySem.W.Frag)(mg:Str->Option Value)(base:Heap)(k:Nat)(x:Str)(st:Stmt)(f:Addr)(ps:List Str)(n:Nat)(G:Fn):Prop:=∃ fd,GZ K x x st f fd/\cN K fd ps []/\mg x=some (.ref f)/\E2 P w K mg base Hw k f fd ps (Ir n G)
theorem BH{st:Stmt}{oc:Value}{od an:Option Addr}{HE:Array (Option Value)}{kV doc pm s_ ct:Value}(a:PySem.W.nsIn K mainGlobals x=some (some<|.ref f))(l:K.lookup f=some ⟨oc,od,.func<|PySem.W.fnOf x x (dH st) (cg st) (ay st) .none kV doc pm an s_ ct,HE⟩)(c:PySem.W.codeIn K s_ x=true)(k:PySem.W.keepIn K (.ref f)=true):Raw K x st f:=⟨_,yf l c k,a⟩
section
variable{P:Program}{w:World}{K:PySem.W.Frag}{mg:Str->Option Value}{base h:Heap}{k n:Nat}{x:Str}{st:Stmt}{f:Addr}{ps:List Str}{G:Fn}
theorem Raw.b1(r:Raw K x st f)(X:K.In h)(Gg:h.Ns mainGlobals mg)(hb:∀ (kV doc pm:Value) (an:Option Addr) (s_ ct a:Value),bindArgs (PySem.W.fnOf x x (dH st) (cg st) (ay st) .none kV doc pm an s_ ct) ⟨[a],[]⟩=pure (ps.zip [a]))(hp:ps.length=1:=by rfl):Gz K mg x st f ps:=
 have ⟨_,U,a⟩:=r
 ⟨_,U,U.KD hb hp,W5 X Gg a⟩
theorem Raw.b2(r:Raw K x st f)(X:K.In h)(Gg:h.Ns mainGlobals mg)(hb:∀ (kV doc pm:Value) (an:Option Addr) (s_ ct a b:Value),bindArgs (PySem.W.fnOf x x (dH st) (cg st) (ay st) .none kV doc pm an s_ ct) ⟨[a,b],[]⟩=pure (ps.zip [a,b]))(hp:ps.length=2:=by rfl):Gz K mg x st f ps:=
 have ⟨_,U,a⟩:=r
 ⟨_,U,U.KF hb hp,W5 X Gg a⟩
theorem EN.fd{fd:FuncData}(C:EN P w K mg base k x st f ps n G)(U:GZ K x x st f fd):E2 P w K mg base Hw k f fd ps (Ir n G):=by
 obtain⟨SX,U',_,_,g⟩:=C;obtain⟨oc,od,kV,doc,pm,an,s_,ct,HE,e,l,_⟩:=U.ex;obtain⟨SY,SZ,S0,Sk,S3,S4,Sl,S5,Sm,e',l',_⟩:=U'.ex;rw[l] at l';cases l';exact g
theorem BI(r:Raw K x st f)(X:K.In h)(Gg:h.Ns mainGlobals mg){fa:Addr}(OO:mg x=some (.ref fa)){p:Str}(hb:∀ (kV doc pm:Value) (an:Option Addr) (s_ ct:Value) (s:Shared) (v:Value),BindsTo s (PySem.W.fnOf x x (dH st) (cg st) (ay st) .none kV doc pm an s_ ct) ⟨[v],[]⟩ [(p,v)])(C:∀ base,EN P w K mg base k x st f [p] n G):
  ∃ fd:FuncData,(∀ (s:Shared) (v:Value),BindsTo s fd ⟨[v],[]⟩ [(p,v)])/\∀ base:Heap,K.In base->base.Ns mainGlobals mg->E2 P w K mg base Hw k fa fd [p] (Ir n G):=by
 obtain⟨fd,U,a⟩:=r;cases OO.symm.trans (W5 X Gg a);refine⟨fd,?_,fun b _ _=>(C b).fd U⟩;obtain⟨oc,od,kV,doc,pm,an,s_,ct,HE,rfl,l,_⟩:=U.ex;exact hb kV doc pm an s_ ct
theorem cv{g:MS}(F:Gz K mg x st f ps)(S:j_ N ps (ay st))(hn:ps.length=n)(PR:∀ i∈fix,i<n)(hb:N.Nodup->∀ (s_:Value) (A:Around) (outer:List Env) (s:Shared) (H:Hp) (E:XK),Ez k (A.deeper<|envOfC x (ay st) s.heap.objs.size f s_)->Hc (cP Hw P w K mg base N x (ay st) f s_ A outer s H E).KK fix (cg st) g):
  EN P w K mg base (k+1) x st f ps n (bb n N.length fix g):=
 have ⟨_,U,b,m⟩:=F
 ⟨_,U,b,m,PQ U S hn PR<|hb S.nd⟩
end
section
variable{X:Cx}
variable{e:Expr}
theorem aK{st:Stmt}(C:EN X.prog X.w X.K X.mg X.base k x st f ps n G)(hr:Ez m X.A)(hg:Gl X x)(ha:VA X (e::es) g)(hm:k<=m:=by decide)(GX:(x == ("__debug__" : Str))=false:=by decide)(he:starEach (e::es) X.env=(false,eval e X.env)::starEach es X.env:=by rfl)(FQ:(backTo pos<|starEach es X.env).any (·.1)=false:=by rfl):
  VE X (.Call (.Name x p) (e::es) [] pos) (ao n G g):=
 have ⟨_,U,b,m,F⟩:=C
 qO F (hr.mono hm) hg m U.kp b ha GX he FQ
theorem ah{i:Int}{j pos}:VO X (.Constant (.int i) j pos) (oV<|eC<|.int i):=af dJ
theorem vv(i:Nat){x:Str}{pos:Pos}(hN:X.N[i]?=some x:=by rfl)(hv:MQ X.env.scope x:=by first | exact Or.inl rfl | exact Or.inr (Or.inl rfl) | exact Or.inr (Or.inr rfl))(hd:(x == ("__debug__" : Str))=false:=by decide)(Hg:(x == ("__classdict__" : Str))=false:=by decide):VO X (.Name x pos) (oSl i):=yS (pB hN hv hd Hg)
theorem ag{g:M Opd}(he:VO X e g)(hs:starEach [e] X.env=(false,eval e X.env)::starEach [] X.env:=by rfl):VA X [e] (aa g aNil):=aq he iW hs
theorem aH{a b:Expr}{ga gb:M Opd}(hr:Ez m X.A)(ha:VO X a ga)(hb:VO X b gb)(hs:lZ b:=by exact fun _ _=>rfl):VE X (.Subscript a b pos) (ae vIx ga gb):=yT (zk (by have:=hr.un;omega)) ha hb hs
end
theorem ES.gone(x:ES P w H h)(n:h.get? a=none):H a=none:=by
 cases q:H a with
 | none=>rfl
 | some o=>
  have hx:∃ u,h.get? a=some u:=by
   have z:=x a o q;clear q;induction o with
   | lst xs=>obtain⟨_,e_,m,_,e⟩:=z;exact⟨_,e⟩
   | tup xs=>obtain⟨_,e_,_,ob,e,_⟩:=z;exact⟨_,e⟩
   | dK kvs=>obtain⟨_,_,vs,_,ob,es,ep,e,_⟩:=z;exact⟨_,e⟩
   | dT kvs=>obtain⟨_,_,xs,_,ob,es,ep,e,_⟩:=z;exact⟨_,e⟩
   | set S m=>obtain⟨ob,es,ep,t,e,_⟩:=z;exact⟨_,e⟩
   | ins C dx fs=>obtain⟨_,_,_,e,_⟩:=z;exact⟨_,e⟩
   | own _=>exact z
   | xd fs=>obtain⟨mA,⟨o,es,ep,e,_⟩,_⟩:=z;exact⟨_,e⟩
   | Jt lo hi=>obtain⟨t,u,v,e⟩:=z;exact⟨_,e⟩
   | Fa ob u ih=>exact⟨_,z.1⟩
   | Ju ps=>exact⟨_,z⟩
   | met f y=>exact⟨_,z⟩
   | ext φ=>exact z.2.1
  obtain⟨u,e⟩:=hx;rw[n] at e;cases e
section
variable{M:Model}{A:Around}{EE:Value->Shared->Prop}{s:Shared}{P:Program}{w:World}{H:Hp}{base:Heap}{env:Env}{outer:List Env}{L e:Addr}
theorem ou(hl:s.heap.FunFrames base l)(hs:∀ b∈EW l,b∈S):s.heap.FunFrames (PySem.W.hideAll s.heap S) l:=by
 induction l with
 | nil=>trivial
 | cons x r ih=>
  obtain⟨hk,⟨L,o,hf,_,ho,hd⟩,hr⟩:=hl;refine⟨hk,⟨L,o,hf,Yg S<|hs L ?_,ho,hd⟩,ih hr fun b hb=>hs b ?_⟩
  ·show L∈(x::r).filterMap (·.frame);rw[Yo,hf];exact .head _
  ·show b∈(x::r).filterMap (·.frame);rw[Yo,hf];exact .tail _ hb
theorem oz(hl:s.heap.FunFrames base l)(hH:∀ b∈S,H b=none){xs:List Addr}(hS:∀ b∈S,b∈EW l\/b∈xs)(i_:ES P w H s.heap)(k1:(PySem.W.hideAll s.heap S).StaysIn h')(k4:∀ b o,s.heap.get? b=some o->(∀ vs,o.data≠.fields vs)->∃ sl,h'.get? b=some { o with slots:=sl }):Un (EW l) xs H H s.heap h'/\ES P w H h':=by
 have keep:∀ b o,s.heap.get? b=some o->b∉S->h'.get? b=some o:=fun b o q n=>k1 b o (XQ S q n);refine⟨⟨fun b o q _ nf nx=>keep b o q fun z=>(hS b z).elim nf nx,fun b o q _ hf _=>?_,fun _ _ _ n _=>n,fun b o q nx=>?_,fun _ _ q=>q,fun _ _ _ q=>q,fun _ ps q=>⟨#[],by rw[q];simp⟩⟩,fun a o q=>?_⟩
 ·obtain⟨_,o',ho,hd⟩:=hl.mem hf;rw[q] at ho;cases ho;exact k4 b o q hd
 ·by_cases hb:b∈S
  ·rcases hS b hb with hf | hx
   ·obtain⟨_,o',ho,hd⟩:=hl.mem hf;rw[q] at ho;cases ho;obtain⟨sl,e1⟩:=k4 b o q hd;exact⟨_,e1⟩
   ·exact absurd hx nx
  ·exact⟨o,keep b o q hb⟩
 ·refine (i_ a o q).Ge (fun b u hb hu=>keep b u hu fun z=>?_) (fun _ z=>z) fun _ _ z=>z;rcases hb with rfl | hb
  ·rw[hH b z] at q;cases q
  ·rw[hH b z] at hb;cases hb
def Qq(H:Hp)(h0 h:Heap)(e:Addr)(cls a0:Value):Prop:=∃ oe vs T oT ts,h.get? e=some oe/\(oe.cls=cls/\vs[0]?=some a0)/\oe.data=.fields vs/\vs[1]?=some (.ref T)/\h0.get? T=none/\T≠e/\h.get? T=some oT/\oT.data=.fields ts/\ts[3]?=some .none/\H T=none
theorem BJ(Sn:A.frames=some (env::outer))(hl:s.heap.FunFrames base (env::outer))(hf:env.frame=some L)(he:s.heap.get? e=some oe)(hd:oe.data=.fields vs)(h1:vs[1]?=some .none)(h0:vs[0]?=some a0)(hH:H e=none)(hF:∀ b∈EW (env::outer),H b=none)(i_:ES P w H s.heap)(h:∀ h',Un (EW (env::outer)) [e] H H s.heap h'->ES P w H h'->Qq H s.heap h' e oe.cls a0->Q () { s with heap:=h' }):wpAny M A (leaving env<|.ref e) Q EE s:=by
 have hS:∀ b∈e::EW (env::outer),b∈EW (env::outer)\/b∈[e]:=fun b hb=>by
  rcases ZU.mp hb with r | r
  ·rw[r];exact .inr (.head _)
  ·exact .inl r
 refine wpAny_leaving_firstW (base:=PySem.W.hideAll s.heap (e::EW (env::outer))) Sn (ou hl fun b hb=>.tail _ hb) hf he (fun b o q=>WX _ q) (Yg _<|.head _) hd h1 h0 fun h' ⟨k1,_,k3,k4⟩=>?_;obtain⟨JN,Jr,T,oT,ts,t1,t2,t3,t4,t5,t6,t7,t8,t9⟩:=k3;obtain⟨u,ho⟩:=oz (P:=P) (w:=w) hl (fun b hb=>(hS b hb).elim (hF b) fun z=>by rw[Z1.mp z];exact hH) (xs:=[e]) hS i_ k1 k4;have hT:s.heap.get? T=none:=by
  cases q:s.heap.get? T with
  | none=>rfl
  | some o=>
   by_cases hT:T∈e::EW (env::outer)
   ·rcases ZU.mp hT with r | r
    ·exact absurd r t6
    ·obtain⟨_,o',GB,Go⟩:=hl.mem r;obtain⟨sl,e1⟩:=k4 T o' GB Go;rw[t7] at e1;cases e1;exact absurd t8 (Go ts)
   ·rw[XQ _ q hT] at t5;cases t5
 exact h h' u ho ⟨JN,Jr,T,oT,ts,t1,t2,t3,t4,hT,t6,t7,t8,t9,i_.gone hT⟩
end
theorem Un.out{fs:List Addr}{h0 h1 h2:Heap}(a:Un fs [] H0 H h0 h1)(b:Un (L::fs) [e] H H h1 h2)(hL:∀ c o,h0.get? c=some o->c≠L)(hE:∀ c o,h0.get? c=some o->c≠e):Un fs [] H0 H h0 h2:=by
 have nx:∀ c o,h0.get? c=some o->c∉[e]:=fun c o q z=>hE c o q (Z1.mp z);have nf:∀ c o,h0.get? c=some o->c∉fs->c∉L::fs:=fun c o q n z=>(ZU.mp z).elim (hL c o q) n;have n0:∀ c:Addr,c∉([]:List Addr):=fun c z=>by cases z
 refine⟨fun c o q n hc _=>b.keep c o (a.keep c o q n hc<|n0 c) (a.free c o q n<|n0 c) (nf c o q hc)<|nx c o q,fun c o q n hc _=>?_,fun c o q n _=>a.free c o q n<|n0 c,fun c o q _=>?_,fun c xs q=>b.Fg c xs<|a.Fg c xs q,fun c o u q=>b.Fb c o u<|a.Fb c o u q,fun c ps q=>?_⟩
 ·obtain⟨sl,e1⟩:=a.slot c o q n hc (n0 c);obtain⟨Ll,e2⟩:=b.slot c _ e1 (a.free c o q n<|n0 c) (.tail _ hc) (nx c o q);exact⟨Ll,e2⟩
 ·obtain⟨o',e1⟩:=a.there c o q (n0 c);exact b.there c o' e1 (nx c o q)
 ·obtain⟨m1,e1⟩:=a.Ft c ps q;obtain⟨m2,e2⟩:=b.Ft c _ e1;exact⟨m1++m2,by rw[e2,Array.append_assoc]⟩
def JO(P:Program)(w:World):Ib:=fun outer H s E ev s'=>∃ (e C:Addr) (a0:Value) (H':Hp),ev=.ref e/\s'.os=s.os/\AllBare s'.gens/\Un (EW outer) [] H H' s.heap s'.heap/\ES P w H' s'.heap/\s.heap.get? e=none/\H' e=none/\Qq H' s.heap s'.heap e (.ref C) a0/\E (.ref C) none H'
theorem BK{mg:Str->Option Value}{base:Heap}{t':Nat}(I:Inv (cP (JO P w) P w K mg base N qual scope f cd A outer s0 H0 E) pins σ H s)(k:∀ b u,s.heap.get? b=some u->h'.get? b=some u)(n:s.heap.get? e=none)(he:h'.get? e=some oe)(hc:oe.cls=.ref C)(hd:oe.data=.fields vs)(h1:vs[1]?=some .none)(h0:vs[0]?=some a0)(wq:E (.ref C) none H):
  (cP (JO P w) P w K mg base N qual scope f cd A outer s0 H0 E).xe (.ref e) { s with heap:=h',toks:=t' }:=by
 have J:=I.kept (t':=t') k;have hE:H e=none:=I.i_.gone n;refine BJ (base:=base) (P:=P) (w:=w) (H:=H) (L:=s0.heap.objs.size) J.ok.frames J.stack rfl he hd h1 h0 hE J.Fu J.i_ fun h2 un ho tr=>?_;rw[hc] at tr;obtain⟨JN,Jr,T,oT,ts,t1,t2,t3,t4,t5,t6⟩:=tr;have old:∀ c o,s0.heap.get? c=some o->∃ o',s.heap.get? c=some o':=fun c o q=>I.base.there c o q fun z=>by cases z
 refine⟨e,C,a0,H,rfl,J.os,J.bare,?_,ho,?_,hE,⟨JN,Jr,T,oT,ts,t1,t2,t3,t4,?_,t6⟩,wq⟩
 ·refine Un.out (L:=s0.heap.objs.size) (e:=e) J.base un (fun c o q=>ZB<|ZP q) fun c o q z=>?_;obtain⟨o',e1⟩:=old c o q;rw[z,n] at e1;cases e1
 ·cases q:s0.heap.get? e with
  | none=>rfl
  | some o=>
   obtain⟨o',e1⟩:=old e o q;rw[n] at e1;cases e1
 ·cases q:s0.heap.get? T with
  | none=>rfl
  | some o=>
   obtain⟨o',e1⟩:=old T o q;rw[k T o' e1] at t5;cases t5
theorem BL{bB:List Value}{Qr:String}(X:K.In h)(q:PySem.W.excIn K C bB Qr=true):∃ bm N nm qn bs Mp sn sb ab cl dd k0 k1 k2 k3 k5 mN,h.get? C=some (excClassObj nm qn C N bs bm Mp sn sb ab cl dd k0 k1 k2 k3 k5 Qr)/\h.Ns N mN/\mN "__init__" = none/\OwnTail h bB bm:=by
 unfold PySem.W.excIn at q;split at q
 ·rename_i dd cd sl lk;split at q
  ·rename_i C' bm k0 k1 k2 k3 nw k5 e1 e2;rw[ZQ,ZQ,ZQ,ZQ,ZQ] at q;obtain⟨⟨⟨⟨⟨q1,q2⟩,q3⟩,q4⟩,q5⟩,q6⟩:=q;cases XC.mp q1;cases XC.mp q2;obtain⟨nm,bs,mr,nn,qn,Mp,sn,sb,ab,cl,dl⟩:=cd;dsimp only at e1 q3 q5 q6;cases dl with
   | true=>cases q3
   | false=>
    subst e1;obtain⟨sl⟩:=sl;dsimp only at e2;subst e2;exact⟨bm,nn,nm,qn,bs,Mp,sn,sb,ab,cl,dd,k0,k1,k2,k3,k5,_,X _ _ lk,.of_isNs<|PySem.W.isNs_of_in X q5,PySem.W.nsMap_none_of_in X q5<|XC.mp q6,PySem.W.tail_of_in X q4⟩
  ·cases q
 ·cases q
def Nn(X:Cx)(C:Addr):TS:=fun _ σ H=>∀ (pins:List (Addr×Obj)) (s:Shared) (e:Addr) (h':Heap) (oe:Obj) (vs:Array Value) (a0:Value),Inv X pins σ H s->(∀ b u,s.heap.get? b=some u->h'.get? b=some u)->s.heap.get? e=none->h'.get? e=some oe->oe.cls=.ref C->oe.data=.fields vs->vs[1]?=some .none->vs[0]?=some a0->X.xe (.ref e) { s with heap:=h' }
section
variable{X:Cx}
theorem BM{m:Str}{j}(hc:X.calm=true)(hg:Gl X x)(hm:X.mg x=some (.ref C))(q:PySem.W.excIn X.K C [.type "ValueError",.type "Exception",.type "BaseException",.type "object"] "ValueError.__new__" = true)(hd:(x == ("__debug__" : Str))=false:=by decide):
  PS X (.Raise (some<|.Call (.Name x np) [.Constant (.str m) j cp] [] EO) none pos) (Nn X C):=by
 intro pins s σ H D I h;have hb:PE X (.Name x np) (tC<|.ref C):=lP (v:=.ref C) hg hm rfl hd;obtain⟨bm,N,nm,qn,bs,Mp,sn,sb,ab,cl,dd,k0,k1,k2,k3,k5,mN,c1,c2,c3,c4⟩:=BL I.mod.Lj q;have st:starEach [Expr.Constant (.str m) j cp] X.env=(false,eval (.Constant (.str m) j cp) X.env)::starEach [] X.env:=rfl;refine wpAny_Raise_call_subT (C:=C) (nm:=nm) (q:=qn) (bs:=bs) (hdct:=Mp) (sn:=sn) (sub:=sb) (ab:=ab) (col:=cl) (dd:=dd) (k0:=k0) (k1:=k1) (k2:=k2) (k3:=k3) (k5:=k5) (bm:=bm) (N:=N) (mN:=mN) Wd (c4.hasType Wd.hasBase) (I.ok.hd hc) (by rw[st];rfl) c3 (t_ (hb pins s σ H (fun v H1=>v=.ref C/\H1=H) I ⟨rfl,rfl⟩) fun u s1 ⟨v,H1,I1,r,e1,e2⟩=>?_);subst e1 e2;cases r;refine⟨rfl,?_⟩;have pa:PA X [Expr.Constant (.str m) j cp] _:=eQ pC iH;have sp:=pa EO pins s1 σ H1 (fun vs H2=>vs.length=1/\H2=H1) I1 ⟨rfl,rfl⟩;rw[st] at sp ⊢;refine Calls.evalArgs_plain (t_ sp fun us s2 ⟨vs,H2,I2,rv,l,e2⟩=>?_);subst e2;refine⟨rfl,?_,I2.bk _ _ c1,c2.keeps I2.bk,c4.keeps I2.bk,fun h' ex mk=>?_⟩
 ·show us.length<=sizeLine;rw[<- rv.length,l];decide
 ·obtain⟨t,m1,_,_⟩:=mk.there;exact h pins s2 ex h' _ _ _ I2 mk.keeps mk.new m1 rfl rfl rfl rfl
end
def tQ(fix:List Nat)(Z:St->Hp->Prop)(R:SD->SD->Prop)(σ:St)(H:Hp):Prop:=∃ D F D',ai H D σ F/\F.Nodup/\R D D'/\∀ σ' H' F',aB fix σ σ'->ai H' D' σ' F'->l_ H F H' F'->Z σ' H'
def GU(X:Cx)(fix:List Nat)(Z:St->Hp->Prop)(GT:List Stmt)(R:SD->SD->Prop):Prop:=GC X GT fun _ σ H=>tQ fix Z R σ H
def Lf(X:Cx)(fix:List Nat)(Z:St->Hp->Prop)(e:Expr)(R:SD->SD->Prop):Prop:=PE X e fun σ H _=>tQ fix Z R σ H
section
variable{X:Cx}{fix:List Nat}{Z:St->Hp->Prop}{R:SD->SD->Prop}
theorem lc(GT:List Stmt):GC X GT fun _ _ _=>False:=fun _ _ _ _ _ _ h=>h.elim
theorem BN{st:Stmt}{GT:List Stmt}{g:MS}(h1:VS X fix st g)(h2:GU X fix Z GT R):GU X fix Z (st::GT) fun D D'=>∃ D1,g D=some (.nx,D1)/\R D1 D':=
 fU (iG h1 h2) fun E σ H ⟨D,F,D',st,nd,⟨D1,hg,hr⟩,z⟩=>⟨D,F,.nx,D1,st,nd,hg,fun σ' H' F' fx f_ s=>⟨D1,F',D',f_,s.nd,hr,fun σ2 H2 F2 Kq m_ s2=>z σ2 H2 F2 (fx.trans Kq) m_<|s.seq s2⟩⟩
theorem BO{c:Expr}{a b rest:List Stmt}{gc:M Bool}(hc:VT X c gc)(ha:GU X fix Z a R):GU X fix Z (.If c a b pos::rest) fun D D'=>∃ D1,gc D=some (true,D1)/\R D1 D':=
 fU (iG (pG hc ha<|lc b)<|lc rest) fun E σ H ⟨D,F,D',st,nd,⟨D1,hg,hr⟩,z⟩=>⟨D,F,true,D1,st,nd,hg,fun H' F' f_ s=>⟨D1,F',D',f_,s.nd,hr,fun σ2 H2 F2 Kq m_ s2=>z σ2 H2 F2 Kq m_<|s.seq s2⟩⟩
theorem BP{m:Str}{j}{rest:List Stmt}(hc:X.calm=true)(hg:Gl X x)(hm:X.mg x=some (.ref C))(q:PySem.W.excIn X.K C [.type "ValueError",.type "Exception",.type "BaseException",.type "object"] "ValueError.__new__" = true)(hz:∀ D σ H,Z σ H->Nn X C D σ H)(hd:(x == ("__debug__" : Str))=false:=by decide):
  GU X fix Z (.Raise (some<|.Call (.Name x np) [.Constant (.str m) j cp] [] EO) none pos::rest) fun D D'=>D'=D:=
 fU (iG (BM hc hg hm q hd)<|lc rest) fun E σ H ⟨D,F,D',st,nd,e,z⟩=>hz _ σ H (z σ H F aB.refl (by rw[e];exact st)<|l_.perm nd<|ZF _)
variable{e:Expr}
theorem BQ{rest:List Stmt}{pos':Pos}(hN:X.N.Nodup)(hi:X.N[i]?=some x)(hx:Loc X.env.scope x)(he:Lf X fix Z e R)(hs:swapsWith e (some<|.Name x pos') pos.line X.env=pure false:=by rfl)(H_:X.fn x=true\/X.env.scope.names.lookup x=some .local:=by first | exact .inl rfl | exact .inr rfl | assumption):GU X fix Z (.Assign [.Name x pos'] e pos::rest) R:=
 fU (iG (pJ hN hi hx he hs H_)<|lc rest) fun _ _ _ w=>w
def No(n:Nat)(Rr:List Vl->Prop)(C:Addr):Sp:=fun vs H _ E=>vs.length=n/\∃ ds F,aE H ds vs F/\F.Nodup/\Rr ds/\∀ H' F',l_ H F H' F'->E (.ref C) none H'
def JP(X:Cx)(pins:List (Addr×Obj))(b:Addr):Prop:=X.s₀.heap.get? b=none/\b≠X.env.locals/\(∀ x c,X.env.cells.lookup x=some c->c≠b)/\∀ p∈X.pn++pins,p.1≠b
theorem lg{b:Addr}(I:Inv X pins σ H s)(n:s.heap.get? b=none)(hx:b∉X.ex):JP X pins b:=by
 refine⟨?_,fun e=>?_,fun x c h e=>?_,fun p hp e=>?_⟩
 ·cases q:X.s₀.heap.get? b with
  | none=>rfl
  | some o=>
   obtain⟨o',e1⟩:=I.base.there b o q hx;rw[n] at e1;cases e1
 ·obtain⟨m,⟨o,es,ep,ho,_⟩,_⟩:=I.loc;rw[<- e,n] at ho;cases ho
 ·obtain⟨v,o,ho,_⟩:=I.cell x c h;rw[e,n] at ho;cases ho
 ·have:=(I.pin p hp).1;rw[e,n] at this;cases this
def Exc(X:Cx)(pins:List (Addr×Obj))(H:Hp)(h:Heap)(e C:Addr)(a0:Value):Prop:=H e=none/\JP X pins e/\∃ oe vs T oT ts,h.get? e=some oe/\(oe.cls=.ref C/\vs[0]?=some a0)/\oe.data=.fields vs/\vs[1]?=some (.ref T)/\T≠e/\h.get? T=some oT/\oT.data=.fields ts/\ts[3]?=some .none/\H T=none/\JP X pins T
def Mq(X:Cx)(C:Addr)(σ:St)(H':Hp):Prop:=∀ (pins:List (Addr×Obj)) (s':Shared) (e:Addr) (a0:Value),Inv X pins σ H' s'->Exc X pins H' s'.heap e C a0->X.xe (.ref e) s'
theorem BR{Rr:List Vl->Prop}{fd:FuncData}(F:E2 X.prog X.w X.K X.mg X.base (JO X.prog X.w) k f fd ps (No n Rr C))(hr:Ez k X.A)(hg:Gl X x)(hm:X.mg x=some (.ref f))(hk:PySem.W.keepIn X.K (.ref f)=true)(hb:cN X.K fd ps [])(hx:X.ex=[])(hz:∀ σ H,Z σ H->Mq X C σ H)(ha:VA X (e::es) g)(GX:(x == ("__debug__" : Str))=false:=by decide)(he:starEach (e::es) X.env=(false,eval e X.env)::starEach es X.env:=by rfl)(FQ:(backTo pos<|starEach es X.env).any (·.1)=false:=by rfl):
  Lf X fix Z (.Call (.Name x p) (e::es) [] pos) fun D D'=>∃ os D1 ds,g D=some (os,D1)/\os.length=n/\aY os D1=some (ds,D')/\Rr ds:=by
 intro pins s σ H Q I ⟨D,F0,D',st,nd,⟨os,D1,ds,h1,hn,h3,hR⟩,z⟩;refine XD (jF I hg hm ?_ GX);refine PySem.W.callWith_K (h₀:=X.base) I.ok.mod.Lj hk (t_ (@ha pos pins s σ H (fun vs H1=>No n Rr C vs H1 (fun _ _=>False) fun c _ H'=>c=.ref C/\Mq X C σ H') I ⟨D,F0,os,D1,st,nd,h1,fun vs H1 F1 R1 p_ o1 s1=>?_⟩) fun us s1 ⟨vs,H1,I1,r,q⟩=>⟨I1.IO,?_⟩) he FQ
 ·obtain⟨F2,R2,m_,ow,pm⟩:=fc p_ o1 h3;have s2:=s1.EV (pm.symm.trans ZX);refine⟨by rw[<- o1.length];exact hn,ds,R2,ow,(ZK.mp s2.nd).1,hR,fun H3 F3 s3=>⟨rfl,hz σ H3<|z σ H3 F2 aB.refl ?_ ?_⟩⟩
  ·exact m_.mono s3.tup fun a ha o e=>s3.keep a o e fun hb=>(ZK.mp s2.nd).2.2 a hb a ha rfl
  ·exact (s2.trans s3 m_.chg).less (C:=F3) ZX
 ·have hl:(us++[]).length=ps.length:=by rw[ZT,<- r.length];exact F.len _ _ _ _ q
  have bd:=hb s1 us I1.IO hl;rw[ZT] at bd;refine wpAny_call (WU (F.run X.A X.stack s1 H1 ⟨us,[]⟩ us vs _ _ hr I1.Lr bd r q) fun rs s' hq=>?_);cases rs with
  | error ev=>
   obtain⟨ex,C',a0,H',rfl,NJ,bare,un,i_,Hs,hE,tr,⟨eC,cat⟩⟩:=hq;cases eC;have nx:∀ b:Addr,b∉X.ex:=fun b z=>by rw[hx] at z;cases z
   obtain⟨oe,Jr,T,oT,ts,t1,t2,t3,t4,t5,t6,t7,t8,t9,tH⟩:=tr;exact cat pins s' ex a0 (I1.Jv (ch:=[]) NJ un i_ bare fun b z=>by cases z) ⟨hE,lg I1 Hs<|nx _,oe,Jr,T,oT,ts,t1,t2,t3,t4,t6,t7,t8,t9,tH,lg I1 t5<|nx _⟩
  | ok fl=>
   cases fl with
   | ret u=>obtain⟨v,H',_,_,_,_,_,fs⟩:=hq;exact False.elim fs
   | next=>exact False.elim hq
   | brk=>exact False.elim hq
   | cont=>exact False.elim hq
end
section
variable{P:Program}{w:World}{K:PySem.W.Frag}{mg:Str->Option Value}{base:Heap}
theorem BS(D:Ends)(σ:St)(H:Hp)(h:E (.ref C) none H):Nn (cP (JO P w) P w K mg base N qual scope f cd A outer s0 H0 E) C D σ H:=
 fun pins s e h' oe vs a0 I k n he hc hd h1 h0=>BK (t':=s.toks) I k n he hc hd h1 h0 h
theorem So{st:Stmt}{fd:FuncData}(F:GZ K x qual st f fd)(S:j_ N ps (ay st))(hn:ps.length=n)(hb:∀ (s_:Value) (A:Around) (outer:List Env) (s:Shared) (H:Hp) (E:XK),Ez k (A.deeper<|envOfC qual (ay st) s.heap.objs.size f s_)->GU (cP (JO P w) P w K mg base N qual (ay st) f s_ A outer s H E) fix (fun _ H'=>E (.ref C) none H') (cg st) R):
  E2 P w K mg base (JO P w) (k+1) f fd ps (No n (fun ds=>∃ D',R (ds.map some++List.replicate (N.length - n) none) D') C):=by
 obtain⟨oc,od,kV,doc,pm,an,s_,ct,HE,rfl,lk,Hg⟩:=F.ex;refine pY lk Hg S (fun vs H Q E h=>h.1.trans hn.symm) fun A outer s H vs Q E hr h=>⟨_,hb s_ A outer s H E hr,?_⟩;obtain⟨hl,ds,F0,ow,nd,⟨D',hR⟩,z⟩:=h;have st:=mQ (m:=N.length - n) ow;have es:da N vs=vs.map some++List.replicate (N.length - n) none:=by unfold da;rw[hl]
 rw[es];exact⟨_,F0,D',st,nd,hR,fun _ H' F' _ _ s=>z H' F' s⟩
end
abbrev Cx.hold(X:Cx)(E:Value->Shared->Prop)(ps:List (Addr×Obj)):Cx:={ X with xe:=E,pn:=X.pn++ps }
section
variable{X:Cx}{pins q:List (Addr×Obj)}{σ:St}{H:Hp}{s:Shared}{E:Value->Shared->Prop}
theorem Inv.hold(I:Inv X pins σ H s)(E:Value->Shared->Prop):Inv (X.hold E pins) [] σ H s:=
 ⟨⟨I.ok.mod,I.ok.kind,I.ok.glob,I.ok.blt,I.ok.above,I.ok.inj,I.ok.has,I.ok.IN,I.ok.hd,I.ok.frames,I.ok.IX,I.ok.JY,I.ok.bs,I.ok.HD,I.ok.Gf,I.ok.Gh,I.ok.ET,I.ok.H9⟩,I.os,I.bare,I.base,I.loc,I.cell,I.free,I.B_,fun p hp=>I.pin p (by rw[ZT] at hp;exact hp),I.i_,I.len⟩
theorem Inv.EM(I:Inv (X.hold E pins) q σ H s):Inv X pins σ H s:=
 ⟨⟨I.ok.mod,I.ok.kind,I.ok.glob,I.ok.blt,I.ok.above,I.ok.inj,I.ok.has,I.ok.IN,I.ok.hd,I.ok.frames,I.ok.IX,I.ok.JY,I.ok.bs,I.ok.HD,I.ok.Gf,I.ok.Gh,I.ok.ET,I.ok.H9⟩,I.os,I.bare,I.base,I.loc,I.cell,I.free,I.B_,fun p hp=>I.pin p<|ZA _ hp,I.i_,I.len⟩
theorem SP.EM{f:Flow}{s':Shared}(h:SP (X.hold E pins) q D f s'):SP X pins D f s':=by
 cases f with
 | next=>obtain⟨σ',H',I,q⟩:=h;exact⟨σ',H',I.EM,q⟩
 | brk=>obtain⟨σ',H',I,q⟩:=h;exact⟨σ',H',I.EM,q⟩
 | cont=>obtain⟨σ',H',I,q⟩:=h;exact⟨σ',H',I.EM,q⟩
 | ret u=>obtain⟨v,σ',H',I,r,q⟩:=h;exact⟨v,σ',H',I.EM,r,q⟩
theorem BT(hb:∀ E p,GC (X.hold E p) body t):PS X (.Try body (h0::hs) [] [] pos) t:=by
 intro pins s σ H D I hw;refine wpAny_Try_except (YV (hb _ pins [] s σ H D (I.hold _) hw) (fun f s1 q=>?_) fun e s1 z=>z);have q:=SP.EM q;cases f with
 | next=>exact Xy q
 | brk=>exact q
 | cont=>exact q
 | ret u=>exact q
theorem BU{g:MS}(hb:∀ E p,Hc (X.hold E p) fix body g):VS X fix (.Try body (h0::hs) [] [] pos) g:=BT fun E p=>hb E p
theorem Inv.JQ{T:Addr}(I:Inv X pins σ H s)(u:Un (EW X.stack) [e,T] H H s.heap h')(i_:ES X.prog X.w H h')(n:∀ b∈[e,T],X.s₀.heap.get? b=none/\b≠X.env.locals/\(∀ x c,X.env.cells.lookup x=some c->c≠b)/\∀ p∈X.pn++pins,p.1≠b):
  Inv X pins σ H { s with heap:=h' }:=by
 have ok:({ X with ex:=[e,T]++X.ex }:Cx).Ok:=by
  refine⟨I.ok.mod,I.ok.kind,I.ok.glob,I.ok.blt,I.ok.above,I.ok.inj,I.ok.has,I.ok.IN,I.ok.hd,I.ok.frames,I.ok.IX,fun b hb=>?_,I.ok.bs,I.ok.HD,fun b o q hb=>?_,fun b hb hf=>?_,I.ok.ET,I.ok.H9⟩
  ·rcases Zx.mp hb with z | z
   ·exact⟨(n b z).2.1,(n b z).2.2.1⟩
   ·exact I.ok.JY b z
  ·rcases Zx.mp hb with z | z
   ·have:=(n b z).1;rw[(I.ok.bs b o q).1] at this;cases this
   ·exact I.ok.Gf b o q z
  ·rcases Zx.mp hb with z | z
   ·obtain⟨_,o,ho,_⟩:=I.ok.ET.mem hf;rw[(n b z).1] at ho;cases ho
   ·exact I.ok.Gh b z hf
 have J:Inv { X with ex:=[e,T]++X.ex } pins σ H s:=⟨ok,I.os,I.bare,I.base.mono (fun _ z=>z) fun b z=>ZG _ z,I.loc,I.cell,I.free,I.B_,I.pin,I.i_,I.len⟩;have J2:=J.call (g':=s.gens) (t':=s.toks) (d':=s.drawn) u i_ J.bare fun b hb=>⟨.inl<|ZA _ hb,(n b hb).2⟩;have nx:∀ b o,X.s₀.heap.get? b=some o->b∉X.ex->b∉[e,T]++X.ex:=fun b o q hx hb=>by
  rcases Zx.mp hb with z | z
  ·rw[(n b z).1] at q;cases q
  ·exact hx z
 have b2:=J2.base;exact⟨I.ok,J2.os,J2.bare,⟨fun b o q a c d=>b2.keep b o q a c<|nx b o q d,fun b o q a c d=>b2.slot b o q a c<|nx b o q d,fun b o q a d=>b2.free b o q a<|nx b o q d,fun b o q d=>b2.there b o q<|nx b o q d,b2.Fg,b2.Fb,b2.Ft⟩,J2.loc,J2.cell,J2.free,J2.B_,J2.pin,J2.i_,J2.len⟩
theorem BV{M:Model}{Q:Shared->Prop}(I:Inv X pins σ H s)(x:Exc X pins H s.heap e C a0)(hA:A.frames=some X.stack)(Fv:X.stack=X.env::outer)(hf:X.env.frame=some L)(hx:X.ex=[])(h:∀ h',Inv X pins σ H { s with heap:=h' }->Exc X pins H h' e C a0->Q { s with heap:=h' }):wpAny M A (noteFrame (.ref e) X.env) (fun _ s2=>wpAny M A (setFlight (.ref e) none) (fun _ s3=>Q s3) EE s2) EE s:=by
 obtain⟨hE,fE,oe,vs,T,oT,ts,t1,t2,t3,t4,t6,t7,t8,t9,tH,fT⟩:=x;have hl:s.heap.FunFrames X.base (X.env::outer):=Fv ▸ I.stack;have hF:∀ b∈EW (X.env::outer),H b=none:=fun b hb=>I.Fu b (Fv ▸ hb);have hS:∀ b∈e::T::EW (X.env::outer),b∈EW (X.env::outer)\/b∈[e,T]:=fun b hb=>by
  rcases ZU.mp hb with r | r
  ·rw[r];exact .inr (.head _)
  ·rcases ZU.mp r with r | r
   ·rw[r];exact .inr (.tail _<|.head _)
   ·exact .inl r
 have hH:∀ b∈e::T::EW (X.env::outer),H b=none:=fun b hb=>by
  rcases ZU.mp hb with r | r
  ·rw[r];exact hE
  ·rcases ZU.mp r with r | r
   ·rw[r];exact tH
   ·exact hF b r
 refine wpAny_noteFrame_onW (base:=PySem.W.hideAll s.heap (e::T::EW (X.env::outer))) (hA.trans (by rw[Fv])) (ou hl fun b hb=>.tail _<|.tail _ hb) hf ⟨oe,vs,T,oT,ts,t1,t2,t3,t4,Yg _<|.tail _<|.head _,t6,t7,t8,t9⟩ (fun b o q=>WX _ q) (Yg _<|.head _) fun h2 ⟨k1,k2,k3,k4⟩=>?_;refine wpAny_setFlight_noneW (s:={ s with heap:=h2 }) k1 k2 k3 fun h3 j1 _ j3 j4=>?_;have k5:∀ b o,s.heap.get? b=some o->(∀ vs,o.data≠.fields vs)->∃ sl,h3.get? b=some { o with slots:=sl }:=fun b o q d=>by
  obtain⟨sl,e1⟩:=k4 b o q d;exact⟨sl,j4 b _ e1 d⟩
 obtain⟨u,ho⟩:=oz (P:=X.prog) (w:=X.w) (xs:=[e,T]) hl hH hS I.i_ j1 k5;have J:Inv X pins σ H { s with heap:=h3 }:=I.JQ (Fv ▸ u) ho fun b hb=>by
  rcases ZU.mp hb with r | r
  ·rw[r];exact fE
  ·rw[Z1.mp r];exact fT
 obtain⟨JN,Jr,T',OP,Mr,q1,q2,q3,q4,q5,q6,q7,q8,q9⟩:=j3;have Ms:H T'=none/\JP X pins T':=by
  by_cases z:T'=T
  ·rw[z];exact⟨tH,fT⟩
  ·have n:s.heap.get? T'=none:=by
    cases q:s.heap.get? T' with
    | none=>rfl
    | some o=>
     by_cases hm:T'∈e::T::EW (X.env::outer)
     ·rcases ZU.mp hm with r | r
      ·exact absurd r q6
      ·rcases ZU.mp r with r | r
       ·exact absurd r z
       ·obtain⟨_,o',GB,Go⟩:=hl.mem r;obtain⟨sl,e1⟩:=k5 T' o' GB Go;rw[q7] at e1;cases e1;exact absurd q8 (Go Mr)
     ·rw[XQ _ q hm] at q5;cases q5
   exact⟨I.i_.gone n,lg I n (by rw[hx];exact Y9)⟩
 exact h h3 J ⟨hE,fE,JN,Jr,T',OP,Mr,q1,q2,q3,q4,q6,q7,q8,q9,Ms.1,Ms.2⟩
end
section
variable{X:Cx}{pins:List (Addr×Obj)}{σ:St}{H:Hp}{s:Shared}
variable{n:Str}
theorem lh{M:Model}(I:Inv X pins σ H s)(hN:X.N.Nodup)(hi:X.N[i]?=some n)(hk:X.env.kindOf n=some .local)(h:∀ s',Inv X pins (σ.set i none) H s'->Q () s'):wpAny M A (do bindName X.env n .none;unbindBehindTheSuite X.env n pos) Q EE s:=by
 obtain⟨m,hn,hl⟩:=id I.loc;have OQ:∀ b o,X.s₀.heap.get? b=some o->b≠X.env.locals:=fun b o e=>ZB (Zv (ZP e) I.ok.above);refine wpAny_nameGoes_keeps hk hn (by rw[I.ok.kind];rfl) fun h' v Hs hs=>h _ ?_;refine⟨I.ok,I.os,I.bare,⟨fun b o e a c d=>(hs.2 b<|OQ b o e).trans<|I.base.keep b o e a c d,fun b o e a c d=>?_,I.base.free,fun b o e d=>?_,I.base.Fg,I.base.Fb,I.base.Ft⟩,⟨_,Hs,fun j y v' e1 e2 e3=>?_⟩,fun y c e=>?_,I.free,I.B_,fun p hp=>?_,fun b ob e=>?_,by rw[W1];exact I.len⟩
 ·obtain⟨sl,e1⟩:=I.base.slot b o e a c d;exact⟨sl,(hs.2 b<|OQ b o e).trans e1⟩
 ·obtain⟨o',e1⟩:=I.base.there b o e d;exact⟨o',(hs.2 b<|OQ b o e).trans e1⟩
 ·by_cases hj:j=i
  ·rw[hj,WJ] at e2;rw[ZZ rfl] at e2;split at e2<;>cases e2
  ·rw[YO (Yd hj)] at e2;obtain⟨u',r',q⟩:=hl j y v' e1 e2 e3;refine⟨u',r',?_⟩;rcases q with ⟨k,e⟩ | ⟨k,c,e,z⟩
   ·have ny:y≠n:=fun z=>hj (lN hN e1<|z ▸ hi);exact .inl ⟨k,(ZY ny).trans e⟩
   ·exact .inr ⟨k,c,e,z.sameBut hs<|I.IY y c e⟩
 ·obtain⟨w',z⟩:=I.cell y c e;exact⟨w',z.sameBut hs<|I.IY y c e⟩
 ·obtain⟨e,n',ne,nf,d⟩:=I.pin p hp;exact⟨(hs.2 p.1 ne).trans e,n',ne,nf,d⟩
 ·refine (I.i_ b ob e).Ge (fun c u hc q=>(hs.2 c fun z=>?_).trans q) (fun _ q=>q) fun _ _ q=>q;rcases hc with r | r
  ·rw[<- r,z,I.free] at e;cases e
  ·rw[z,I.free] at r;cases r
theorem BW{M:Model}(I:Inv X pins σ H s)(x:Exc X pins H s.heap e C a0)(Fv:X.stack=X.env::outer)(hx:X.ex=[])(h:∀ h',Inv X pins σ H { s with heap:=h' }->Exc X pins H h' e C a0->Q () { s with heap:=h' }):wpAny M A (setFlight (.ref e) none) Q EE s:=by
 obtain⟨hE,fE,oe,vs,T,oT,ts,t1,t2,t3,t4,t6,t7,t8,t9,tH,fT⟩:=x;have hl:s.heap.FunFrames X.base (X.env::outer):=Fv ▸ I.stack;have hF:∀ b∈EW (X.env::outer),H b=none:=fun b hb=>I.Fu b (Fv ▸ hb);have hS:∀ b∈e::T::EW (X.env::outer),b∈EW (X.env::outer)\/b∈[e,T]:=fun b hb=>by
  rcases ZU.mp hb with r | r
  ·rw[r];exact .inr (.head _)
  ·rcases ZU.mp r with r | r
   ·rw[r];exact .inr (.tail _<|.head _)
   ·exact .inl r
 have hH:∀ b∈e::T::EW (X.env::outer),H b=none:=fun b hb=>by
  rcases ZU.mp hb with r | r
  ·rw[r];exact hE
  ·rcases ZU.mp r with r | r
   ·rw[r];exact tH
   ·exact hF b r
 refine wpAny_setFlight_noneW (base:=PySem.W.hideAll s.heap (e::T::EW (X.env::outer))) (fun b o q=>WX _ q) (ou hl fun b hb=>.tail _<|.tail _ hb) ⟨oe,vs,T,oT,ts,t1,t2,t3,t4,Yg _<|.tail _<|.head _,t6,t7,t8,t9⟩ fun h3 j1 _ j3 j4=>?_;have k5:∀ b o,s.heap.get? b=some o->(∀ vs,o.data≠.fields vs)->∃ sl,h3.get? b=some { o with slots:=sl }:=fun b o q d=>⟨o.slots,j4 b o q d⟩;obtain⟨u,ho⟩:=oz (P:=X.prog) (w:=X.w) (xs:=[e,T]) hl hH hS I.i_ j1 k5;have J:Inv X pins σ H { s with heap:=h3 }:=I.JQ (Fv ▸ u) ho fun b hb=>by
  rcases ZU.mp hb with r | r
  ·rw[r];exact fE
  ·rw[Z1.mp r];exact fT
 obtain⟨JN,Jr,T',OP,Mr,q1,q2,q3,q4,q5,q6,q7,q8,q9⟩:=j3;have Ms:H T'=none/\JP X pins T':=by
  by_cases z:T'=T
  ·rw[z];exact⟨tH,fT⟩
  ·have n:s.heap.get? T'=none:=by
    cases q:s.heap.get? T' with
    | none=>rfl
    | some o=>
     by_cases hm:T'∈e::T::EW (X.env::outer)
     ·rcases ZU.mp hm with r | r
      ·exact absurd r q6
      ·rcases ZU.mp r with r | r
       ·exact absurd r z
       ·obtain⟨_,o',GB,Go⟩:=hl.mem r;obtain⟨sl,e1⟩:=k5 T' o' GB Go;rw[q7] at e1;cases e1;exact absurd q8 (Go Mr)
     ·rw[XQ _ q hm] at q5;cases q5
   exact⟨I.i_.gone n,lg I n (by rw[hx];exact Y9)⟩
 exact h h3 J ⟨hE,fE,JN,Jr,T',OP,Mr,q1,q2,q3,q4,q6,q7,q8,q9,Ms.1,Ms.2⟩
abbrev Cx.GO(X:Cx)(ps:List (Addr×Obj))(e:Addr)(oe:Obj):Cx:={ X with A:=X.A.mark (some<|.ref e),calm:=false,xe:=fun _ _=>False,pn:=X.pn++(ps++[(e,oe)]) }
theorem Inv.GO(I:Inv X pins σ H s)(x:Exc X pins H s.heap e C a0)(he:s.heap.get? e=some oe):Inv (X.GO pins e oe) [] σ H s:=by
 obtain⟨hE,fE,JN,vs,T,oT,ts,t1,t2,t3,_⟩:=x;rw[he] at t1;cases t1;refine⟨⟨I.ok.mod,I.ok.kind,I.ok.glob,I.ok.blt,I.ok.above,I.ok.inj,I.ok.has,I.ok.IN,fun z=>(by cases z),I.ok.frames,I.ok.IX,I.ok.JY,I.ok.bs,I.ok.HD,I.ok.Gf,I.ok.Gh,I.ok.ET,I.ok.H9⟩,I.os,I.bare,I.base,I.loc,I.cell,I.free,I.B_,fun p hp=>?_,I.i_,I.len⟩;have hp:p∈X.pn++(pins++[(e,oe)]):=by rw[ZT] at hp;exact hp
 rw[<- Z7] at hp;rcases Zx.mp hp with z | z
 ·exact I.pin p z
 ·rw[Z1.mp z];refine⟨he,hE,fE.2.1,fun hf=>?_,fun v hv=>?_⟩
  ·obtain⟨_,o,ho,_⟩:=I.ok.ET.mem hf;rw[fE.1] at ho;cases ho
  ·rw[t3] at hv;cases hv
theorem Inv.GP(ok:X.Ok)(I:Inv (X.GO pins e oe) q σ H s):Inv X pins σ H s:=
 ⟨ok,I.os,I.bare,I.base,I.loc,I.cell,I.free,I.B_,fun p hp=>I.pin p (ZA _ (show p∈X.pn++(pins++[(e,oe)]) by rw[<- Z7];exact ZA _ hp)),I.i_,I.len⟩
theorem Exc.same(x:Exc X pins H h e C a0)(hs:Heap.SameBut a h h')(n:∀ b,JP X pins b->b≠a):Exc X pins H h' e C a0:=by
 obtain⟨hE,fE,oe,vs,T,oT,ts,t1,t2,t3,t4,t6,t7,t8,t9,tH,fT⟩:=x;exact⟨hE,fE,oe,vs,T,oT,ts,(hs.2 e<|n e fE).trans t1,t2,t3,t4,t6,(hs.2 T<|n T fT).trans t7,t8,t9,tH,fT⟩
theorem BX{rest:List ExceptHandler}(I:Inv X pins σ H s)(x:Exc X pins H s.heap e C a0)(Fv:X.stack=X.env::outer)(hx:X.ex=[])(hg:Gl X y)(hm:X.mg y=some (.ref CM))(hq:PySem.W.exmOne X.K (.ref C) (.ref CM)=some true)(hN:X.N.Nodup)(hi:X.N[i]?=some n)(hk:X.env.kindOf n=some .local)(hs:∀ oe:Obj,oe.cls=.ref C->GC (X.GO pins e oe) (b0::F7) t)(ht:t { nx:=fun σ' H'=>D.nx (σ'.set i none) H',rt:=D.rt,bk:=fun σ' H'=>D.bk (σ'.set i none) H',ct:=fun σ' H'=>D.ct (σ'.set i none) H' } (σ.set i<|some<|.ref e) H)(hd:(y == ("__debug__" : Str))=false:=by decide):
  wpAny (model X.prog X.w) X.A (handleBy (.ref e) X.env (.ExceptHandler (some<|.Name y np) (some n) (b0::F7) HL::rest)) (SP X pins D) EE s:=by
 refine wpAny_handleBy_cons (codeAny_handlers_test ?_) (by intro q;cases q);obtain⟨oe,he,hc⟩:∃ oe,s.heap.get? e=some oe/\oe.cls=.ref C:=by
  obtain⟨_,_,oe,_,_,_,_,t1,t2,_⟩:=x;exact⟨oe,t1,t2.1⟩
 have S:=I.GO x he;refine jF S hg hm ?_ hd;have LT:PySem.W.Looks (model X.prog X.w) s.heap (typeOf<|.ref e) (.ref C):=hc ▸ ((PySem.W.Looks.ld he).andThen .now);refine PySem.W.exm_one (M:=model X.prog X.w) I.IO LT hq _ _ _ s (fun b o q=>q) ?_;refine codeAny_handlers_suite_as (BW I x Fv hx fun h' J xj=>?_);refine lO (v:=.ref e) J hN hi (.inl hk) rfl (fun s2 J2 ⟨a,sm,ha⟩=>?_) (.inr hk);have x2:=xj.same sm fun b fb=>by
  rcases ha with z | z
  ·rw[z];exact fb.2.1
  ·exact fun w=>fb.2.2.1 n a z w.symm
 obtain⟨Sq,Ku,J7⟩:∃ oe,s2.heap.get? e=some oe/\oe.cls=.ref C:=by
  obtain⟨_,_,oe,_,_,_,_,t1,t2,_⟩:=x2;exact⟨oe,t1,t2.1⟩
 refine YV (hs Sq J7 [] s2 _ H _ (J2.GO x2 Ku) ht) (fun f s3 q=>?_) fun _ _ z=>False.elim z;cases f with
 | next=>obtain⟨σ',H',K,q⟩:=q;exact lh (K.GP I.ok) hN hi hk fun s4 K4=>⟨_,H',K4,q⟩
 | brk=>obtain⟨σ',H',K,q⟩:=q;exact lh (K.GP I.ok) hN hi hk fun s4 K4=>⟨_,H',K4,q⟩
 | cont=>obtain⟨σ',H',K,q⟩:=q;exact lh (K.GP I.ok) hN hi hk fun s4 K4=>⟨_,H',K4,q⟩
 | ret u=>obtain⟨v,σ',H',K,r,q⟩:=q;exact lh (K.GP I.ok) hN hi hk fun s4 K4=>⟨v,_,H',K4,r,q⟩
end
theorem ai.JR{H:Hp}:∀ {D:SD}{σ:St}{F:List Addr}{i:Nat},ai H D σ F->∃ F1 F2,ai H (D.set i none) (σ.set i none) F1/\(F1++F2).Perm F
 | [],σ,F,i,h=>by obtain⟨rfl,rfl⟩:=h;exact⟨[],[],⟨rfl,rfl⟩,.refl _⟩
 | o::D,σ,F,0,h=>by
  obtain⟨x,r,F1,F2,rfl,h1,h2,rfl⟩:=h;exact⟨F2,F1,⟨none,r,[],F2,rfl,rfl,h2,rfl⟩,ZX⟩
 | o::D,σ,F,i+1,h=>by
  obtain⟨x,r,F1,F2,rfl,h1,h2,rfl⟩:=h;obtain⟨G1,G2,k1,k2⟩:=ai.JR (i:=i) h2;refine⟨F1++G1,G2,⟨x,r.set i none,F1,G1,rfl,h1,k1,rfl⟩,?_⟩;rw[Z7];exact k2.append_left F1
def il(gb gc:MS):MS:=fun D=>match gb D with
 | some r=>some r
 | none=>gc D
section
variable{X:Cx}
theorem Exc.EM{E:Value->Shared->Prop}{ps:List (Addr×Obj)}(x:Exc (X.hold E ps) q H h e C a0):Exc X ps H h e C a0:=by
 have f:∀ b,JP (X.hold E ps) q b->JP X ps b:=fun b z=>⟨z.1,z.2.1,z.2.2.1,fun p hp=>z.2.2.2 p<|ZA _ hp⟩;obtain⟨hE,fE,oe,vs,T,oT,ts,t1,t2,t3,t4,t6,t7,t8,t9,tH,fT⟩:=x;exact⟨hE,f e fE,oe,vs,T,oT,ts,t1,t2,t3,t4,t6,t7,t8,t9,tH,f T fT⟩
theorem BY{n:Str}{gb gc:MS}{g:Addr->MS}(Fv:X.stack=X.env::outer)(hf:X.env.frame=some L)(hx:X.ex=[])(hg:Gl X y)(hm:X.mg y=some (.ref CM))(hq:PySem.W.exmOne X.K (.ref C) (.ref CM)=some true)(hN:X.N.Nodup)(hi:X.N[i]?=some n)(hk:X.env.kindOf n=some .local)(Np:i∉fix)(hb:∀ E p,Hc (X.hold E p) fix body gb)(hr:∀ E p Z,(∀ σ H,Z σ H->Mq (X.hold E p) C σ H)->GU (X.hold E p) fix Z body R)(hs:∀ p e oe,oe.cls=.ref C->Hc (X.GO p e oe) fix (b0::F7) (g e))(hc:∀ D fl D3,gb D=none->gc D=some (fl,D3)->fl=.nx/\∃ D',R D D'/\i<D'.length/\∀ e,∃ D4,g e (D'.set i<|some<|.im<|.fn e)=some (.nx,D4)/\D4.set i none=D3)(hd:(y == ("__debug__" : Str))=false:=by decide):
  VS X fix (.Try body [.ExceptHandler (some<|.Name y np) (some n) (b0::F7) HL] [] [] pos) (il gb gc):=by
 intro pins s σ H D I ⟨D0,F,fl,D1,st,nd,Mt,q⟩;unfold il at Mt;cases hv:gb D0 with
 | some r=>
  rw[hv] at Mt;exact (BU (pos:=pos) hb) s σ H D I ⟨D0,F,fl,D1,st,nd,by rw[hv];exact Mt,q⟩
 | none=>
  rw[hv] at Mt;obtain⟨rfl,D',hR,hl,Sr⟩:=hc D0 fl D1 hv Mt;refine wpAny_Try_except (YV ((hr _ pins (fun σ' H'=>∃ F',aB fix σ σ'/\ai H' D' σ' F'/\l_ H F H' F')<|fun σ' H' hZ q' s' e a0 J xj=>?_) [] s σ H D (I.hold _) ⟨D0,F,D',st,nd,hR,fun σ' H' F' fx f_ sp=>⟨F',fx,f_,sp⟩⟩) (fun f s1 w=>?_) fun e s1 z=>z)
  ·obtain⟨F',fx,f_,sp⟩:=hZ;have K:=J.EM;have xk:=xj.EM;refine BV K xk K.ok.frames Fv hf hx fun h' K2 x2=>?_;obtain⟨D4,e4,e5⟩:=Sr e;obtain⟨F1,F2,p1,p2⟩:=f_.put (d:=.im (.fn e)) (v:=.ref e) (G:=[]) ⟨rfl,rfl⟩ hl;rw[ZT] at p2;have Qs:l_ H F H' F1:=sp.less (C:=F2) p2;refine BX K2 x2 Fv hx hg hm hq hN hi hk (t:=tS fix (g e)) (fun oe ho=>hs pins e oe ho) ⟨_,F1,.nx,D4,p1,Qs.nd,e4,fun σ2 H2 G2 Kq m_ Ss=>?_⟩ hd;obtain⟨G3,G4,u1,u2⟩:=m_.JR (i:=i);rw[e5] at u1;refine q (σ2.set i none) H2 G3 ?_ u1 ((Qs.seq Ss).less (C:=G4) u2);exact (fx.trans<|aB.set Np).trans (Kq.trans<|aB.set Np)
  ·have w:=SP.EM w;cases f with
   | next=>exact Xy w
   | brk=>exact w
   | cont=>exact w
   | ret u=>exact w
end
end L2
namespace L2
open PySem PySem.Spec PySem.Calls PyProof.Rows
variable{pos p2 p:Pos}{ex:Expr}{y:Str}{Q:VK}{H:Hp}{σ:St}{g:M Opd}{c:Value}{oe:Obj}{C e:Addr}
theorem BZ{K:PySem.W.Frag}(hc:oe.cls=.ref C)(q:PySem.W.kitOne K (.ref C) c=some true):Answers (fun s=>K.In s.heap/\s.heap.get? e=some oe) (.ref e) c true:=by
 intro dep tk prog w A R s hs;obtain⟨h0,g,d,tt,os⟩:=s;obtain⟨⟨X,p⟩,hq⟩:=hs;have LT:PySem.W.Looks (model prog w) h0 (typeOf<|.ref e) (.ref C):=hc ▸ (PySem.W.Looks.ld p).andThen .now;unfold PySem.W.kitOne at q;unfold Builtin.«isinstance.nested»;refine Z9 (LT.at ?_);by_cases z:(Value.ref C == c)=true
 ·rw[ZZ z];exact Z9 (Yb<|Z4<|hq tt)
 ·rw[ZY z] at q;rw[ZY z];obtain⟨IR,Su,Jn⟩:=PySem.W.kit_cls (M:=model prog w) X q;have LI:PySem.W.Looks (model prog w) h0 (isInstance (.ref e) c) true:=LT.andThen Jn;refine Z9 (IR.at ?_);rw[ZZ (by decide)]
  k_delta "plainIsInstance"
  refine Z9 (Z9<|Su.at ?_);simp only[Xu,Zo,Yz];refine Z9 (LI.at ?_);simp only[Xh];exact Z4 (Z4<|hq tt)
section
variable{X:Cx}
theorem uo{v:V}(hp:(e,oe)∈X.pn)(hc:oe.cls=.ref C)(hv:∀ u,av v u->u=c)(q:PySem.W.kitOne X.K (.ref C) c=some true):aQ X (.builtin "isinstance") (fun xs H Q=>xs=[.ref e,v]/\Q (.bl true) H):=by
 intro pins s σ H xs us Q I r ⟨ex,hq⟩;subst ex;cases r with
 | cons r rr=>
  cases rr with
  | cons r' rr=>
   cases rr;cases (show _=Value.ref e from r);rw[hv _ r'];have he:=(I.pin (e,oe)<|ZA _ hp).1;exact call_isinstance (S:=fun _ R s=>(X.K.In s.heap/\s.heap.get? e=some oe)/\∀ tk,R (.ok<|.ret<|.bool true) { s with toks:=tk }) (fun prog w A R s hs=>isinstance_outer (BZ hc q 0 _ prog w A R s hs) (by intro z;cases z)) ⟨⟨I.IO,he⟩,fun tk=>⟨.bl true,H,I.tok _,rfl,hq⟩⟩
theorem uq{R:VK}(h:tO g σ H Q)(k:∀ v H1,Q v H1->R v H1):tO g σ H R:=by
 obtain⟨D,F,r,D',st,nd,e,q⟩:=h;exact⟨D,F,r,D',st,nd,e,fun v H1 F1 R1 a b c=>k _ _<|q v H1 F1 R1 a b c⟩
def oA(e:Addr):Vl->Bool
 | .im (.fn a)=>decide (a=e)
 | _=>false
theorem B1:∀ {d:Vl},oA e d=true->d=.im (.fn e)
 | .im (.fn a),h=>by rw[Zn h]
def io(e:Addr)(g:M Opd):M Vl:=fun D=>(g D).bind fun p=>(rsl p.2 p.1).bind fun d=>if oA e d=true then some (.im<|.bl true,p.2) else none
theorem ur(h:tV (io e g) σ H Q):tO g σ H fun x H1=>x=.ref e/\Q (.bl true) H1:=by
 obtain⟨D,F,r,D',st,nd,FL,q⟩:=h;obtain⟨⟨o,D1⟩,h1,h2⟩:=Z8.mp FL;obtain⟨d,h3,h4⟩:=Z8.mp h2;split at h4
 ·rename_i h5;rw[B1 h5] at h3;cases h4;exact⟨D,F,o,D1,st,nd,h1,fun v H1 F1 R p_ o1 s1=>⟨(o1.read p_ h3).i,q _ H1 F1 [] p_ ⟨rfl,rfl⟩ (by rw[ZT];exact s1.both)⟩⟩
 ·cases h4
theorem B2{CN:Addr}(hp:(e,oe)∈X.pn)(hc:oe.cls=.ref C)(q:PySem.W.kitOne X.K (.ref C) (.ref CN)=some true)(hg:Gl X "isinstance")(hm:X.mg "isinstance" = none)(hv:bootBuiltins "isinstance" = some (.builtin "isinstance"))(OR:Gl X y)(OS:X.mg y=some (.ref CN))(h:VO X ex g)(hd:(y == ("__debug__" : Str))=false:=by decide)(he:starEach [ex,.Name y p2] X.env=(false,eval ex X.env)::starEach [.Name y p2] X.env:=by rfl)(HJ:starEach [.Name y p2] X.env=(false,eval (.Name y p2) X.env)::starEach [] X.env:=by rfl)(FQ:(backTo pos<|starEach [.Name y p2] X.env).any (·.1)=false:=by rfl):VE X (.Call (.Name "isinstance" p) [ex,.Name y p2] [] pos) (io e g):=
 aW (jI (uo (v:=.ref CN) hp hc (fun _ r=>r) q) hg hm hv (eQ h (eQ (lP (v:=.ref CN) OR OS rfl hd) iH HJ) he) (by decide) (by decide) he FQ) fun σ H Q z=>uq (ur z) fun x H1 ⟨e1,q1⟩=>⟨by rw[e1],q1⟩
theorem B3{T:String}(hp:(e,oe)∈X.pn)(hc:oe.cls=.ref C)(q:PySem.W.kitOne X.K (.ref C) (.type T)=some true)(hg:Gl X "isinstance")(hm:X.mg "isinstance" = none)(hv:bootBuiltins "isinstance" = some (.builtin "isinstance"))(OR:Gl X y)(OS:X.mg y=none)(Sv:bootBuiltins y=some (.type T))(h:VO X ex g)(hn:y ≠ "__name__" := by decide)(hd:(y == ("__debug__" : Str))=false:=by decide)(he:starEach [ex,.Name y p2] X.env=(false,eval ex X.env)::starEach [.Name y p2] X.env:=by rfl)(HJ:starEach [.Name y p2] X.env=(false,eval (.Name y p2) X.env)::starEach [] X.env:=by rfl)(FQ:(backTo pos<|starEach [.Name y p2] X.env).any (·.1)=false:=by rfl):VE X (.Call (.Name "isinstance" p) [ex,.Name y p2] [] pos) (io e g):=
 aW (jI (uo (v:=.ty T) hp hc (fun _ r=>r) q) hg hm hv (eQ h (eQ (pD (v:=.ty T) OR OS Sv rfl hn hd) iH HJ) he) (by decide) (by decide) he FQ) fun σ H Q z=>uq (ur z) fun x H1 ⟨e1,q1⟩=>⟨by rw[e1],q1⟩
end
end L2
namespace L2
open PySem PySem.Spec PyProof.Rows
variable{i:Nat}{np pos:Pos}{C:Addr}{x:Str}{e:Expr}
abbrev RS:=SD->Option SD
variable{r:RS}
abbrev IF(r:RS):SD->SD->Prop:=fun D D'=>r D=some D'
def lj(g:MS)(r:RS):RS:=fun D=>match g D with
 | some (.nx,D1)=>r D1
 | _=>none
def Nq(c:M Bool)(r:RS):RS:=fun D=>match c D with
 | some (true,D1)=>r D1
 | _=>none
def ut(n:Nat)(Rr:List Vl->Bool)(g:M (List Opd)):RS:=fun D=>(g D).bind fun p=>if p.1.length=n then (aY p.1 p.2).bind fun q=>if Rr q.1=true then some q.2 else none else none
def JS(n m:Nat)(r:RS):List Vl->Bool:=fun ds=>(r<|ds.map some++List.replicate (m - n) none).isSome
section
variable{X:Cx}{fix:List Nat}{Z:St->Hp->Prop}{R R':SD->SD->Prop}{r:RS}
theorem oC{GT:List Stmt}(h:GU X fix Z GT R)(k:∀ D D',R' D D'->R D D'):GU X fix Z GT R':=fU h fun E σ H ⟨D,F,D',st,nd,e,z⟩=>⟨D,F,D',st,nd,k _ _ e,z⟩
theorem B4(h:Lf X fix Z e R)(k:∀ D D',R' D D'->R D D'):Lf X fix Z e R':=aW h fun σ H Q ⟨D,F,D',st,nd,e,z⟩=>⟨D,F,D',st,nd,k _ _ e,z⟩
theorem B5{st:Stmt}{GT:List Stmt}{g:MS}(h1:VS X fix st g)(h2:GU X fix Z GT (IF r)):GU X fix Z (st::GT) (IF<|lj g r):=oC (BN h1 h2) fun D D' e=>by
 change (match g D with | some (.nx,D1)=>r D1 | _=>none)=some D' at e;split at e
 ·rename_i D1 h;exact⟨D1,h,e⟩
 ·cases e
theorem B6{c:Expr}{a b rest:List Stmt}{gc:M Bool}(hc:VT X c gc)(ha:GU X fix Z a (IF r)):GU X fix Z (.If c a b pos::rest) (IF<|Nq gc r):=oC (BO hc ha) fun D D' e=>by
 change (match gc D with | some (true,D1)=>r D1 | _=>none)=some D' at e;split at e
 ·rename_i D1 h;exact⟨D1,h,e⟩
 ·cases e
theorem B7{m:Str}{j}{cp EO:Pos}{rest:List Stmt}(hc:X.calm=true)(hg:Gl X x)(hm:X.mg x=some (.ref C))(q:PySem.W.excIn X.K C [.type "ValueError",.type "Exception",.type "BaseException",.type "object"] "ValueError.__new__" = true)(hz:∀ D σ H,Z σ H->Nn X C D σ H)(hd:(x == ("__debug__" : Str))=false:=by decide):
  GU X fix Z (.Raise (some<|.Call (.Name x np) [.Constant (.str m) j cp] [] EO) none pos::rest) (IF some):=oC (BP hc hg hm q hz hd) fun D D' e=>(Zr e).symm
theorem B8{rest:List Stmt}{pos':Pos}(hN:X.N.Nodup)(hi:X.N[i]?=some x)(hx:Loc X.env.scope x)(he:Lf X fix Z e (IF r))(hs:swapsWith e (some<|.Name x pos') pos.line X.env=pure false:=by rfl)(H_:X.fn x=true\/X.env.scope.names.lookup x=some .local:=by first | exact .inl rfl | exact .inr rfl | assumption):GU X fix Z (.Assign [.Name x pos'] e pos::rest) (IF r):=BQ hN hi hx he hs H_
end
def lm(P:Program)(w:World)(K:PySem.W.Frag)(mg:Str->Option Value)(base:Heap)(k:Nat)(x:Str)(st:Stmt)(f:Addr)(ps:List Str)(n:Nat)(Rr:List Vl->Bool)(C:Addr):Prop:=
 ∃ fd,GZ K x x st f fd/\cN K fd ps []/\mg x=some (.ref f)/\E2 P w K mg base (JO P w) k f fd ps (No n (fun ds=>Rr ds=true) C)
section
variable{P:Program}{w:World}{K:PySem.W.Frag}{mg:Str->Option Value}{base h:Heap}{k n:Nat}{x:Str}{st:Stmt}{f C:Addr}{ps:List Str}
theorem B9{N:List Str}{fix:List Nat}(F:Gz K mg x st f ps)(S:j_ N ps (ay st))(hn:ps.length=n)(hb:N.Nodup->∀ (s_:Value) (A:Around) (outer:List Env) (s:Shared) (H:Hp) (E:XK),Ez k (A.deeper<|envOfC x (ay st) s.heap.objs.size f s_)->GU (cP (JO P w) P w K mg base N x (ay st) f s_ A outer s H E) fix (fun _ H'=>E (.ref C) none H') (cg st) (IF r)):
  lm P w K mg base (k+1) x st f ps n (JS n N.length r) C:=
 have ⟨_,U,b,m⟩:=F
 ⟨_,U,b,m,by
  have:=So U S hn (hb S.nd);have e:(fun ds:List Vl=>∃ D',IF r (ds.map some++List.replicate (N.length - n) none) D')=fun ds=>JS n N.length r ds=true:=by
   funext ds;exact propext (Xb.symm)
  rw[e] at this;exact this⟩
end
section
variable{X:Cx}{fix:List Nat}{Z:St->Hp->Prop}
theorem Ca{n k m:Nat}{Rr:List Vl->Bool}{f:Addr}{st:Stmt}{ps:List Str}{p:Pos}{es:List Expr}{g:M (List Opd)}(F:lm X.prog X.w X.K X.mg X.base k x st f ps n Rr C)(hr:Ez m X.A)(hg:Gl X x)(hx:X.ex=[])(hz:∀ σ H,Z σ H->Mq X C σ H)(ha:VA X (e::es) g)(hm:k<=m:=by decide)(GX:(x == ("__debug__" : Str))=false:=by decide)(he:starEach (e::es) X.env=(false,eval e X.env)::starEach es X.env:=by rfl)(FQ:(backTo pos<|starEach es X.env).any (·.1)=false:=by rfl):
  Lf X fix Z (.Call (.Name x p) (e::es) [] pos) (IF<|ut n Rr g):=by
 obtain⟨fd,U,b,m,F⟩:=F;refine B4 (BR F (hr.mono hm) hg m U.kp b hx hz ha GX he FQ) fun D D' e=>?_;obtain⟨⟨os,D1⟩,h1,h2⟩:=Z8.mp e;dsimp only at h2;split at h2
 ·rename_i hl;obtain⟨⟨ds,D2⟩,h3,h4⟩:=Z8.mp h2;dsimp only at h4;split at h4
  ·rename_i h5;cases h4;exact⟨os,D1,ds,h1,hl,h3,h5⟩
  ·cases h4
 ·cases h2
def lq(r:RS)(gs:SD->Option SD):MS:=fun D=>(r D).bind fun D'=>(gs D').map fun D3=>(.nx,D3)
theorem Cb{body:List Stmt}{y n:Str}{HL:Pos}{b0:Stmt}{F7:List Stmt}{CM L:Addr}{gb:MS}{g:Addr->MS}{gs:SD->Option SD}{outer:List Env}(Fv:X.stack=X.env::outer)(hf:X.env.frame=some L)(hx:X.ex=[])(hg:Gl X y)(hm:X.mg y=some (.ref CM))(hq:PySem.W.exmOne X.K (.ref C) (.ref CM)=some true)(hN:X.N.Nodup)(hi:X.N[i]?=some n)(hk:X.env.kindOf n=some .local)(Np:i∉fix)(hb:∀ E p,Hc (X.hold E p) fix body gb)(hr:∀ E p Z,(∀ σ H,Z σ H->Mq (X.hold E p) C σ H)->GU (X.hold E p) fix Z body (IF r))(hs:∀ p e oe,oe.cls=.ref C->(e,oe)∈(X.GO p e oe).pn->Hc (X.GO p e oe) fix (b0::F7) (g e))(hc:∀ D' D3,gs D'=some D3->i<D'.length/\∀ e,∃ D4,g e (D'.set i<|some<|.im<|.fn e)=some (.nx,D4)/\D4.set i none=D3)(hd:(y == ("__debug__" : Str))=false:=by decide):
  VS X fix (.Try body [.ExceptHandler (some<|.Name y np) (some n) (b0::F7) HL] [] [] pos) (il gb<|lq r gs):=by
 refine BY Fv hf hx hg hm hq hN hi hk Np hb hr (fun p e oe h=>hs p e oe h<|ZG _<|ZG _<|Z1.mpr rfl) (fun D fl D3 _ h=>?_) hd;obtain⟨D',h1,h2⟩:=Z8.mp h;obtain⟨D4,h3,h4⟩:=Z2.mp h2;cases h4;obtain⟨hl,k⟩:=hc D' D3 h3;exact⟨rfl,D',h1,hl,k⟩
theorem Cc{K:PySem.W.Frag}:PySem.W.kitOne K (.ref C) (.ref C)=some true:=ZZ (YH _)
def OT(K:PySem.W.Frag)(mg:Str->Option Value)(y:Str)(C:Addr):Prop:=mg y=some (.ref C)/\PySem.W.excIn K C [.type "ValueError",.type "Exception",.type "BaseException",.type "object"] "ValueError.__new__" = true
end
def ip(ga gb:M Vl):M Vl:=fun D=>(ga D).bind fun p=>match p.1 with
 | .im d=>(dw<|.im d).bind fun b=>if b=true then some (.im d,p.2) else gb p.2
 | _=>none
section
variable{X:Cx}
theorem Cd{a b:Expr}{ga gb:M Vl}(ha:VE X a ga)(hb:VE X b gb):VE X (.BoolOp .Or [a,b] pos) (ip ga gb):=by
 intro pins s σ H Q I ⟨D,F,r,D',st,nd,hg,q⟩;obtain⟨⟨o,D1⟩,h1,h2⟩:=Z8.mp hg;cases o with
 | im d=>
  obtain⟨k,h3,h4⟩:=Z8.mp h2;refine BoolOp_or (t_ (@ha pins s σ H (fun v H1=>∃ F1,ai H1 D1 σ F1/\Own H1 (.im d) v []/\l_ H F H1 F1) I ⟨D,F,_,D1,st,nd,h1,fun v H1 F1 R p_ o1 s1=>?_⟩) fun v s1 ⟨x,H1,I1,r1,F1,p_,o1,s1⟩=>?_)
  ·obtain⟨o2,rfl⟩:=o1;rw[ZT] at s1;exact⟨F1,p_,⟨o2,rfl⟩,s1⟩
  ·refine t_ (pQ pins _ σ H1 x v (fun c H2=>c=k/\H2=H1) I1 r1 ⟨k,rg (d:=.im d) ⟨[],o1⟩ h3,rfl,rfl⟩) fun c s2 ⟨H2,I2,e1,e2⟩=>?_;subst e1 e2;cases c with
   | true=>
    cases h4;exact⟨x,H2,I2,r1,q x H2 F1 [] p_ o1 (by rw[ZT];exact s1)⟩
   | false=>
    exact BoolOp_one (@hb pins s2 σ H2 Q I2 ⟨D1,F1,r,D',p_,s1.nd,h4,fun v2 H3 F3 R3 E1 o3 s3=>q v2 H3 F3 R3 E1 o3<|s1.seq s3⟩)
 | _=>cases h2
end
theorem uu(f:Nat->Int):∀ n,argBest (fun i j=>decide (f i<f j)) n<=n/\∀ j,j<=n->f (argBest (fun i j=>decide (f i<f j)) n)<=f j
 | 0=>⟨ZR _,fun j hj=>by rw[le_zero.mp hj];exact X4 _⟩
 | n+1=>by
  obtain⟨h1,h2⟩:=uu f n;unfold argBest;by_cases hb:f (n+1)<f (argBest (fun i j=>decide (f i<f j)) n)
  ·rw[ZZ (by simpa using hb)];refine⟨ZR _,fun j hj=>?_⟩;rcases Y6 j (n+1) with h | h
   ·have:=h2 j (by lia);lia
   ·rw[show j=n+1 by lia];exact X4 _
  ·rw[ZY (by simpa using hb)];refine⟨by lia,fun j hj=>?_⟩;rcases Y6 j (n+1) with h | h
   ·exact h2 j (by lia)
   ·rw[show j=n+1 by lia];lia
section
variable{X:Cx}
theorem Cf(hc:X.calm=true):aQ X (.builtin "min") (fun xs H Q=>∃ l ns,xs=[.ref l]/\H l=some (.lst<|List.map V.int ns)/\ns≠[]/\∀ M,M∈ns->(∀ a∈ns,M<=a)->Q (.int M) H):=by
 intro pins s σ H xs us Q I r h;obtain⟨l,ns,rfl,hl,hn,q⟩:=h;obtain⟨u,rfl,ru⟩:=bM r;cases ru;obtain⟨z,e_,n,rv,e⟩:=I.i_ l _ hl;have GG:s.heap.IsList l e_.toArray:=⟨_,e,rfl,n,rfl⟩;have hlen:e_.length=ns.length:=by rw[<- rv.length,Z3]
 have HL:0<ns.length:=YS.mpr hn;refine call_min_walk (Xp GG ⟨s.heap.objs.size,[s.heap.objs.size,l],[s.heap.objs.size],e_.toArray.size,_,_,_,rfl,Walks.list (A:=X.A.in1) (I.ok.hd hc) _ l (ZB<|ZP e) e_.toArray,
  ⟨⟨_,ZN _ rfl,rfl,rfl⟩,GG.push _⟩,?_,by rw[ZS];lia,CmpOf.ints_lt (fun i=>(ns[i]?).getD 0) (fun i v hv=>fw rv i v (by simpa using hv)),fun v h' tk hP hk=>?_⟩)
 ·intro b hb;show b<(s.heap.push _).objs.size;rw[YY];rcases ZU.mp hb with rfl | hb
  ·exact Yt _
  ·rw[Z1.mp hb];exact XU (ZP e)
 ·obtain⟨t,rfl⟩:=fw rv _ v (by simpa using hP);obtain⟨b1,b2⟩:=uu (fun i=>(ns[i]?).getD 0) (e_.toArray.size - 1);rw[ZS] at b1 b2;refine⟨.int _,H,I.kept<|W7 hk,⟨t,rfl⟩,q _ ?_ fun a ha=>?_⟩
  ·have hb:argBest (fun i j=>decide ((ns[i]?).getD 0<(ns[j]?).getD 0)) (e_.length - 1)<ns.length:=by lia
   have e2:(ns[argBest (fun i j=>decide ((ns[i]?).getD 0<(ns[j]?).getD 0)) (e_.length - 1)]?).getD 0=ns[argBest (fun i j=>decide ((ns[i]?).getD 0<(ns[j]?).getD 0)) (e_.length - 1)]:=by rw[ZV hb];rfl
   exact e2 ▸ XI _
  ·obtain⟨j,hj,rfl⟩:=YM.mp ha;have:=b2 j (by lia);rw[ZV hj] at this;exact this
def ls:List Int->Option Int
 | []=>none
 | x::r=>some (r.foldl min x)
theorem uw:∀ (r:List Int) (x:Int),r.foldl min x<=x/\(∀ a∈r,r.foldl min x<=a)/\(r.foldl min x=x\/r.foldl min x∈r)
 | [],x=>⟨X4 _,(fun a h=>nomatch h),.inl rfl⟩
 | y::r,x=>by
  obtain⟨h1,h2,h3⟩:=uw r (min x y);rw[Yk];refine⟨by lia,fun a ha=>?_,?_⟩
  ·rcases ZU.mp ha with rfl | ha
   ·lia
   ·exact h2 a ha
  ·rcases h3 with h3 | h3
   ·rw[h3];by_cases h:y<=x
    ·rw[show min x y=y by lia];exact .inr (.head _)
    ·rw[show min x y=x by lia];exact .inl rfl
   ·exact .inr (.tail _ h3)
theorem ux{ns:List Int}{m:Int}(h:ls ns=some m):ns≠[]/\m∈ns/\∀ a∈ns,m<=a:=by
 cases ns with
 | nil=>cases h
 | cons x r=>
  cases h;obtain⟨h1,h2,h3⟩:=uw r x;refine⟨by simp,?_,fun a ha=>?_⟩
  ·rcases h3 with h3 | h3
   ·rw[h3];exact .head _
   ·exact .tail _ h3
  ·rcases ZU.mp ha with rfl | ha
   ·exact h1
   ·exact h2 a ha
@[simp] def vMinI:OpN:=fun ds=>match ds with
 | [.lst x]=>(E4 x).bind fun ns=>(ls ns).map fun m=>.im (.int m)
 | _=>none
theorem Cg(hc:X.calm=true)(hu:X.A.units+20<cLine):bT X (.builtin "min") vMinI:=by
 refine (Cf hc).imp fun xs H Q ⟨ds,d,rd,e,q⟩=>?_;unfold vMinI at e;split at e
 ·rename_i x;obtain⟨ns,e1,e2⟩:=Z8.mp e;obtain⟨m,e3,e4⟩:=Z2.mp e2;cases e4;obtain⟨v,rfl,_,p,xs,rfl,h1,h2,_⟩:=bF rd;cases kj e1;cases gS h2;obtain⟨n0,n1,n2⟩:=ux e3;refine⟨p,ns,rfl,h1,n0,fun M hM FF=>?_⟩;have:=n2 M hM;have:=FF m n1;rw[show M=m by lia];exact Out.i q rfl
 ·cases e
end
end L2
namespace L2
open PySem PySem.Spec PySem.Calls PyProof.Rows
theorem Ch{prog:Program}{w:World}(d:Addr)(hd:(d == sysModules)=false)(o:Obj)(es:Array DictEntry)(ep:Nat)(OU:o.data=.dict es ep):
  MeetsIn prog w (Builtin.«dict.__len__» ⟨[.ref d],[]⟩) (fun _ R s=>s.heap.get? d=some o/\R (.ok<|.ret<|.int es.size s.toks) { s with toks:=s.toks+1 }):=
 .of_wp fun A R s ⟨ho,h⟩=>by
  show wpAny _ _ (dictSize d >>= _) _ _ s;unfold dictSize;refine Z9 (Z9<|WR ho OU<|Z4 ?_);show wpAny _ _ (Builtin.Dict.pendingCount d >>= _) _ _ s;refine Z9 (wpAny_pendingCount_other hd ?_);refine wpAny_ret_mkInt ?_;rw[VV];exact h
section
variable{X:Cx}
theorem Ci:aQ X (.builtin "len") (fun xs H Q=>∃ a kvs,xs=[V.ref a]/\H a=some (.dT kvs)/\Q (.int kvs.length) H):=by
 intro pins s σ H xs us Q I r h;obtain⟨a,kvs,rfl,ha,q⟩:=h;obtain⟨u,rfl,ru⟩:=bM r;cases ru;obtain⟨z,hd,xs,rel,o,es,ep,h1,h2,h3,h4,_⟩:=qj I.i_ ha;have IR:s.TypeIs (.ref a) "dict" := ⟨o,h1,h2.1⟩;have hsz:es.size=kvs.length:=by
  have l1:es.toList.length=xs.length:=by rw[h4,Z3]
  have l2:=Xc rel;rw[ZO] at l1;lia
 have Sw:(es.size:Int)<2 ^ 63:=by rw[hsz];rw[VC] at z;lia
 refine XY kind_len plain_len entry_len (args_len1 _) ?_;unfold Builtin.«len»;refine Z9 (m:=oneArg "len" _) (Z4 ?_);refine Z9 (m:=callSpecial? (.ref a) (Str.ofString "__len__")) (Zc (name:=Str.ofString "__len__") IR F.slot_dict_len
  (call_meetsIn F.slot_dict_len IR F.entry_dict_len (F.args_dict_len_1 _) (Ch a hd o es ep h3) ⟨h1,?_⟩));show wpAny _ _ _ _ _ { s with toks:=s.toks+1 };refine Z9 (Y1<|Z4 ?_);refine Z9 (Vy ?_);show wpAny _ _ (if ((es.size:Nat):Int)<0 then _ else _) _ _ _;rw[ZY (by omega)];show wpAny _ _ (if ((es.size:Nat):Int) >= 2 ^ 63 then _ else _) _ _ _;rw[ZY (by omega)];refine Z9 (wpAny_mkInt (Z4 ⟨_,rfl,.int kvs.length,H,I.tok _,⟨_,by rw[hsz]⟩,q⟩))
@[simp] def vLenD:OpN:=fun ds=>match ds with
 | [.dT x]=>some (.im<|.int x.length)
 | _=>none
theorem uy:bT X (.builtin "len") vLenD:=by
 refine Ci.imp fun xs H Q ⟨ds,d,rd,e,q⟩=>?_;unfold vLenD at e;split at e
 ·cases e;obtain⟨v,rfl,_,p,EX,rfl,h1,h2,_⟩:=bF rd;exact⟨p,EX,rfl,h1,by rw[<- h2.length];exact Out.i q rfl⟩
 ·cases e
end
end L2
namespace L2
open PySem PySem.Spec PyProof.Rows
section
variable{X:Cx}
variable{i j:Nat}{x y:Str}{a b:Expr}
theorem Cj{ta:TA}{px py pt pos:Pos}{kt k2 KG}(hc:X.calm=true)(hN:X.N.Nodup)(hi:X.N[i]?=some x)(hj:X.N[j]?=some y)(hx:Loc X.env.scope x)(hy:Loc X.env.scope y)(ha:PA X [a,b] ta)(hw:swappedStores [.Tuple [.Name x px,.Name y py] kt pt] (.Tuple [a,b] k2 KG) X.env=pure none)(hs:swapsWithSole [.Tuple [.Name x px,.Name y py] kt pt] (.Tuple [a,b] k2 KG) pos.line X.env=pure false)(hE:(assignEach [.Tuple [.Name x px,.Name y py] kt pt] X.env).map (·.2)=[assign (.Tuple [.Name x px,.Name y py] kt pt) X.env])(Ih:(assignEach [.Name x px,.Name y py] X.env).length=2)(Fv:(assignEach [.Name x px,.Name y py] X.env).findIdx? (·.1)=none)(fx:X.fn x=true\/X.env.scope.names.lookup x=some .local)(fy:X.fn y=true\/X.env.scope.names.lookup y=some .local):
  PS X (.Assign [.Tuple [.Name x px,.Name y py] kt pt] (.Tuple [a,b] k2 KG) pos) (wl i j ta):=by
 intro pins s σ H D I h;refine wpAny_Assign_stores (Tuple_<|t_ (ha _ pins s σ H _ I h) fun us s1 ⟨vs,H1,I1,r1,q1⟩=>?_) hs hw;obtain⟨v,w,e1,q1⟩:=q1;subst e1;obtain⟨u1,u2,rfl,rv,Id⟩:∃ u1 u2,us=[u1,u2]/\av v u1/\av w u2:=by
  cases r1 with
  | cons p q=>
   cases q with
   | cons p' q'=>
    cases q';exact⟨_,_,rfl,p,p'⟩
 refine Zj ?_ (by show 2<=sizeLine;decide);have I2:Inv X pins σ H1 { s1 with heap:=s1.heap.push { cls:=.type "tuple",data:=.seq [u1,u2].toArray } }:=I1.kept (t':=s1.toks) fun b o e=>Z5 _ e;rw[hE];show wpAny _ _ (assign (.Tuple [.Name x px,.Name y py] kt pt) X.env<|.ref s1.heap.objs.size) _ _ _;refine assign_Tuple_tuple (items:=#[u1,u2]) (I.ok.hd hc) (IsTup.new s1.heap _) (by rw[Ih];rfl) Fv fun h' Hr=>?_;have I3:=I2.kept (h':=h') (t':=s1.toks) fun b o e=>Hr b o (ZB<|ZP e) e;have hg:J0 X [.Name x px,.Name y py] _:=lT (lS hN hi hx fx) (lT (lS hN hj hy fy) pI);refine t_ (hg pins _ σ H1 [v,w] [u1,u2] (fun σ' H'=>σ'=(σ.set i<|some v).set j (some w)/\H'=H1) I3 (.cons rv<|.cons Id .nil) ⟨v,[w],rfl,w,[],rfl,rfl,rfl,rfl⟩) fun _ s2 ⟨σ',H',I4,e1,e2⟩=>?_;subst e1 e2;exact⟨_,_,I4,q1⟩
theorem uz{fix:List Nat}{g:M (List Opd)}{px py pt pos:Pos}{kt k2 KG}(hc:X.calm=true)(hN:X.N.Nodup)(hi:X.N[i]?=some x)(hj:X.N[j]?=some y)(hx:Loc X.env.scope x)(hy:Loc X.env.scope y)(ha:VA X [a,b] g)(Sx:i∉fix)(Sy:j∉fix)(hw:swappedStores [.Tuple [.Name x px,.Name y py] kt pt] (.Tuple [a,b] k2 KG) X.env=pure none:=by rfl)(hs:swapsWithSole [.Tuple [.Name x px,.Name y py] kt pt] (.Tuple [a,b] k2 KG) pos.line X.env=pure false:=by rfl)(hE:(assignEach [.Tuple [.Name x px,.Name y py] kt pt] X.env).map (·.2)=[assign (.Tuple [.Name x px,.Name y py] kt pt) X.env]:=by rfl)(Ih:(assignEach [.Name x px,.Name y py] X.env).length=2:=by rfl)(Fv:(assignEach [.Name x px,.Name y py] X.env).findIdx? (·.1)=none:=by rfl)(fx:X.fn x=true\/X.env.scope.names.lookup x=some .local:=by first | exact .inl rfl | exact .inr rfl | assumption)(fy:X.fn y=true\/X.env.scope.names.lookup y=some .local:=by first | exact .inl rfl | exact .inr rfl | assumption):
  VS X fix (.Assign [.Tuple [.Name x px,.Name y py] kt pt] (.Tuple [a,b] k2 KG) pos) (fV i j g):=by
 refine dN (Cj hc hN hi hj hx hy ha hw hs hE Ih Fv fx fy) fun E σ H ⟨D,F,fl,D',st,nd,hg,q⟩=>?_;obtain⟨⟨os,D1⟩,h1,h2⟩:=Z8.mp hg;obtain⟨⟨ds,D2⟩,h3,h4⟩:=Z8.mp h2;refine⟨D,F,os,D1,st,nd,h1,fun vs H1 F1 R1 p_ o1 s1=>?_⟩;obtain⟨F2,R2,m_,ow,pm⟩:=fc p_ o1 h3;dsimp only at h4;split at h4
 ·rename_i d1 d2 e;split at h4
  ·rename_i hl;cases h4;obtain⟨v,r,A,B,rfl,w1,w2,rfl⟩:=ow;obtain⟨u,r',A',B',rfl,w3,⟨rfl,rfl⟩,rfl⟩:=w2;obtain⟨F3,G3,E1,L'⟩:=m_.put (i:=i) w1 hl.1;obtain⟨F4,G4,E3,Kp⟩:=E1.put (i:=j) w3 (by rw[W1];exact hl.2);refine⟨v,u,rfl,q _ H1 F4 ((aB.set Sx).trans<|aB.set Sy) E3<|(s1.EV pm.symm).less (C:=G4++G3) ?_⟩;rw[<- Z7,ZT,<- Z7];refine (ZJ G3 Kp).trans ?_;rw[Z7];refine (ZL F3 ZX).trans ?_;rw[<- Z7];exact ZJ _ L'
  ·cases h4
 ·cases h4
end
end L2
namespace L2
open PySem PySem.Spec PyProof.Rows PySem.W
variable{caps:List Nat}{own:List Str}
def dD(own j : Nat)(xs : List Im)(tg : MG)(c : M Bool)(e : M Vl): List Im -> List Im -> SD -> Option (List Im × SD)
  | [], acc, C => if JJ C j xs = true then some (acc, C) else none
  | x :: r, acc, C => if JJ C j xs = true then (tg (.im x)<|List.replicate own none ++ C).bind fun D1 => (c D1).bind fun p => if p.1 = true then (e p.2).bind fun q => match q.1 with
      | .im d => if acc.length < 100000 then dD own j xs tg c e r (acc ++ [d]) (q.2.drop own) else none
      | _ => none
    else dD own j xs tg c e r acc (p.2.drop own) else none
def gj(own:Nat)(caps:List Nat)(i j:Nat)(tg:MG)(c:M Bool)(e:M Vl):M Vl:=fun D=>match D[i]? with
 | some (some<|.lst xs)=>(dD own j xs tg c e xs []<|cW caps D).map fun q=>(.lst q.1,cG caps q.2 D)
 | _=>none
section
variable{X:Cx}
theorem Ck{i0 j0:Nat}{gt:MG}{gc:M Bool}{ge:M Vl}{σ:St}{H:Hp}{Q:VK}(nd:caps.Nodup)(OV:caps[j0]?=some i0)(h:tV (gj own.length caps i0 j0 gt gc ge) σ H Q):
  iL own caps (PP X.K<|tO<|oSl i0) (fun _=>tG (ee own.length caps.length) gt) (fun _=>HK gc) (fun _=>tV ge) σ H Q:=by
 obtain⟨D,F,r,D',st,Oc,FL,q⟩:=h;unfold gj at FL;split at FL
 case h_2=>cases FL
 rename_i xs hD;obtain⟨⟨ds,C'⟩,h3,h4⟩:=Z2.mp FL;cases h4;refine⟨D,F,.sl i0,D,st,Oc,by unfold oSl;rw[hD],fun v H1 F1 R p_ o1 s1=>?_⟩;obtain⟨o1,rfl⟩:=o1;rw[ZT] at s1;have σj:(caps.map fun i=>σ.getD i none)[j0]?=some (some v):=by
  rw[Zy,OV];show some (σ.getD i0 none)=_;rw[Z6,o1];rfl
 have Ow:∃ a ys,v=.ref a/\H1 a=some (.lst ys):=by
  obtain⟨v',G1,G2,g1,g2,_⟩:=p_.out hD;rw[o1] at g1;cases g1;obtain⟨a,ys,e,h1,h2,_⟩:=g2;exact⟨a,ys,e,h1⟩
 obtain⟨a0,Sz,rfl,h1⟩:=Ow;have at_:∀ {H':Hp}{C:SD}{F':List Addr},ai H' C (caps.map fun i=>σ.getD i none) F'->C[j0]?=some (some<|.lst xs)->∃ ys,H' a0=some (.lst ys)/\aj H' xs ys:=fun f_ e2=>by
  obtain⟨v',G1,G2,g1,g2,_⟩:=f_.out e2;rw[σj] at g1;cases g1;obtain⟨a,ys,e,h1,h2,_⟩:=g2;cases e;exact⟨ys,h1,h2⟩
 refine⟨a0,rfl,.inl ⟨⟨Sz,EL.of h1⟩,fun Y=>?_⟩⟩;obtain⟨Fo,Fc,so,sc,pm⟩:=mM nd p_;have s2:l_ H F H1 (Fc++Fo):=s1.EV (pm.symm.trans ZX);have GH:=ZK.mp s2.nd;have cO:∀ x∈Fo,GS H1 x:=so.chg;have Gv:∀ {H2:Hp}{F2:List Addr},l_ H1 Fc H2 F2->∀ a∈Fo,∀ u,H1 a=some u->H2 a=some u:=fun s a ha u e=>s.keep a u e fun h=>GH.2.2 a h a ha rfl;refine⟨fun i m ys H'=>m+i=xs.length/\∃ acc C Hn,ai H' C (caps.map fun i=>σ.getD i none) Hn/\C.length=caps.length/\l_ H1 Fc H' Hn/\aj H' acc ys/\dD own.length j0 xs gt gc ge (xs.drop i) acc C=some (ds,C'),
  ⟨xs.length,rfl,[],cW caps D,Fc,sc,by rw[cW,Z3],l_.perm GH.1<|ZF _,rfl,h3⟩,?_⟩;rintro i m ys H' ⟨hm,acc,C,Hn,sC,lC,s',Ks,hw⟩;by_cases Fq:i<xs.length
 ·rw[Za Fq,dD] at hw;split at hw
  case isFalse=>cases hw
  rename_i hL;obtain⟨SA,k1,k2⟩:=at_ sC (sG hL);obtain⟨L3,hy⟩:=(mJ (K:=X.K) k1 k2).go H' (D_.of (fun _ _ e=>e)<|fun _ _ _ e=>e) (fun _ _ _ e=>e) i xs[i] (by simp[Fq]);obtain⟨D3,w1,w2⟩:=Z8.mp hw;obtain⟨⟨b,D4⟩,w3,w4⟩:=Z8.mp w2;refine .inr ⟨L3,fun L6 H2=>(m - 1)+(i+1)=xs.length/\∃ acc C Hn,ai H2 C (caps.map fun i=>σ.getD i none) Hn/\C.length=caps.length/\l_ H1 Fc H2 Hn/\aj H2 acc L6/\dD own.length j0 xs gt gc ge (xs.drop<|i+1) acc C=some (ds,C'),fun L6 H2 h=>⟨m - 1,by lia,h⟩,fun x H2 hx=>?_⟩;obtain⟨sm,L4⟩:=hy x H2 hx;have Od:=sC.mono sm.tupS fun a _ o e=>sm a o e;have L7:=s'.same sm;have GI:=Ks.mono sm.tupS.tup;refine⟨List.replicate own.length none++C,Hn,.im xs[i],[],D3,mP Od,⟨L4,rfl⟩,by rw[ZT];exact L7.nd,w1,fun σ3 H3 F3 Hx E1 sg=>⟨fun j v hj=>?_,?_⟩⟩
  ·
   have hlen:own.length<=j:=by
    by_cases Oe:j<own.length
    ·rw[b6,Zb (by simpa using Oe),Zy] at hj;cases e:own[j]? with
     | none=>rw[e] at hj;cases hj
     | some z=>rw[e] at hj;cases hj
    ·lia
   have Of:j<own.length+caps.length:=by
    have:=(ZE.mp hj).1
    rwa [b6,ZI,Z3,Z3] at this
   have hm:j∈ee own.length caps.length:=Ze.mpr ⟨j - own.length,Zh.mpr (by lia),by lia⟩;exact (Hx.2 j hm).trans hj
  ·have s3:l_ H1 Fc H3 F3:=L7.seq (by rw[ZT] at sg;exact sg);have GI:=GI.mono sg.tup.tup;have FZ:σ3.drop own.length=caps.map fun i=>σ.getD i none:=by
    have Ri:=E1.len;refine Yc fun j=>?_;by_cases hj:j<caps.length
    ·have hm:j+own.length∈ee own.length caps.length:=Ze.mpr ⟨j,Zh.mpr hj,rfl⟩;have:=Hx.2 _ hm;rw[YL,Vr,this,b6,Zf (by simp),Z3,Nat.add_sub_cancel]
    ·have l1:σ3.length<=own.length+caps.length:=by
      rw[Hx.1,b6,ZI,Z3,Z3];exact ZR _
     rw[YA (by rw[Zp];lia),YA (by rw[Z3];lia)]
   have lσ:σ3.length=own.length+caps.length:=by rw[Hx.1,b6,ZI,Z3,Z3]
   refine⟨D3,F3,b,D4,E1,s3.nd,w3,fun H4 F4 E3 s4=>?_⟩;have s5:=s3.seq s4;dsimp only at w4 ⊢;cases b with
   | false=>
    rw[ZY ZM] at w4 ⊢;obtain⟨F5,G5,Fp,Iv⟩:=i3 (n:=own.length) E3;rw[FZ] at Fp;exact⟨by lia,acc,D4.drop own.length,F5,Fp,by rw[Zp,E3.len,lσ];lia,s5.less Iv,GI.mono s4.tup.tup,w4⟩
   | true=>
    rw[ZZ rfl] at w4 ⊢;obtain⟨⟨v,D5⟩,w5,w6⟩:=Z8.mp w4;dsimp only at w6;split at w6
    ·rename_i d;split at w6
     ·rename_i hl;refine⟨D4,F4,.im d,D5,E3,s5.nd,w5,fun u H5 F5 R5 Fp ow s6=>?_⟩;obtain⟨iu,rfl⟩:=ow;rw[ZT] at s6;have Fy:=(GI.mono s4.tup.tup).mono s6.tup.tup;refine⟨XA (show ys.length<=100000 by rw[<- Fy.length];lia) (by decide),?_⟩;obtain⟨F6,G6,L8,Og⟩:=i3 (n:=own.length) Fp;rw[FZ] at L8;exact⟨by lia,acc++[d],D5.drop own.length,F6,L8,by rw[Zp,Fp.len,lσ];lia,(s5.seq s6).less Og,Fy.snoc iu,w6⟩
     ·cases w6
    ·cases w6
 ·have hi:i=xs.length:=by lia
  subst hi;rw[X5 (ZR _),dD] at hw;split at hw
  case isFalse=>cases hw
  rename_i hL;cases hw;obtain⟨SA,k1,k2⟩:=at_ sC (sG hL);refine .inl ⟨(mJ (K:=X.K) k1 k2).stop H' (D_.of (fun _ _ e=>e)<|fun _ _ _ e=>e)<|fun _ _ _ e=>e,fun Dn L9=>?_⟩;have Oh:ai H' (dr caps D) σ Fo:=so.mono s'.tup fun a ha=>Gv s' a ha;obtain⟨F4,G4,E3,Kp⟩:=mO Oh sC;rw[qU (by rw[lC]) nd] at E3;have sm:aA H' (upd H' Dn<|.lst ys):=(aA.refl H').upd L9;have s5:l_ H F H' F4:=(s2.trans s' cO).less (C:=G4) (Kp.trans ZX);exact q _ _ F4 [Dn] (E3.mono sm.tupS fun a _ o e=>sm a o e) ⟨Dn,ys,rfl,bI,Ks.mono sm.tupS.tup,rfl⟩ (s5.add L9 E3.chg)
theorem Cl{tg iter elt:Expr}{ifs:List Expr}{scope:Scope}{pos:Pos}(i0 j0:Nat){gt:MG}{gc:M Bool}{ge:M Vl}(hc:X.calm=true)(S:n_ X scope own caps)(nd:caps.Nodup)(OV:caps[j0]?=some i0)(hi:VO X iter (oSl i0))(hg:∀ Y,VG (X.Ga (bn X own caps) scope Y) (ee own.length caps.length) tg gt)(ht:∀ Y,L5 (X.Ga (bn X own caps) scope Y) ifs gc)(he:∀ Y,VE (X.Ga (bn X own caps) scope Y) elt ge)(hs:∀ x,foldedSetIterable iter X.env x=pure x:=by intro _;rfl):VE X (.ListComp elt [⟨tg,iter,ifs,0⟩] scope pos) (gj own.length caps i0 j0 gt gc ge):=
 aW (qu hc S (qS hi) hg ht he hs) fun σ H Q h=>Ck nd OV h
end
end L2
namespace G
open PySem L2
variable{n m:Nat}{o7 o6 o5 o4 o3:Option Vl}{h:Vl}{S fs cs:List Ce}{α:Type}{o:Ce}
def lu:SD->Option SD:=fun D=>if 2<D.length then some ((D.set 1<|some<|.im<|.tup [.str "refused",.int 2]).set 2 none) else none
noncomputable def lv:M Vl:=(ao 2 G.g9<|aa (oSl 1)<|aa (oSl 0) aNil)
noncomputable def js:MS:=(am (aw 1<|ao 1 G.fD<|aa (oV<|aP 1 [0] (ba<|oSl 0) (gN 0) kYes G.lv) aNil)<|am (sIf (kB<|ae vNe (oV<|ak vLen<|aa (oSl 0) aNil)<|oV<|ae vMul (oV<|ae vMul (oV<|ak vLenD<|aa (oSl 1) aNil)<|oV<|eC<|.int 2)<|oV<|eC<|.int 2) Is sNil)<|aI<|ak vTuple<|aa (oV<|ak z_<|aa (oSl 1) aNil) aNil)
noncomputable def dE:Fn:=bb 1 2 [0] js
noncomputable def iq:RS:=(lj (aw 1<|ao 1 G.fD<|aa (oV<|aP 1 [0] (ba<|oSl 0) (gN 0) kYes G.lv) aNil)<|Nq (kB<|ae vNe (oV<|ak vLen<|aa (oSl 0) aNil)<|oV<|ae vMul (oV<|ae vMul (oV<|ak vLenD<|aa (oSl 1) aNil)<|oV<|eC<|.int 2)<|oV<|eC<|.int 2) some)
noncomputable def oD:M Vl:=(ae vIn (oSl 0)<|oSl 1)
noncomputable def uA:M Vl:=(bD 0)
noncomputable def uB:M Bool:=(kB<|ae vNotIn (oSl 0)<|oSl 1)
noncomputable def eG:M Bool:=(kB<|ae vNe (oSl 1)<|oV<|bf aNil)
noncomputable def eI:MS:=(am (aw 3<|ao 1 G.fC<|aa (oV<|ae vIx (oSl 1)<|oV<|eC<|.int 0) aNil)<|am (sIf (cS<|bx<|oV<|ak vAll<|aa (oV<|aP 1 [1] (ba<|oSl 3) (gN 0) kYes G.oD) aNil) (aI<|eC .h_) sNil)<|am (dO<|dh fm 2 mAppend<|aa (oV<|ae vIx (oSl 1)<|oV<|eC<|.int 0) aNil)<|aw 1<|aP 1 [3] (ba<|oSl 1) (gN 0) G.uB G.uA)
noncomputable def gn:M Vl:=(eB<|kOr (kB<|ae vEq (oV<|ae vMod (oV<|ae vSub (oV<|ae vIx (oSl 0)<|oV<|eC<|.int 0)<|oV<|ae vIx (oV<|ae vIx (oSl 1)<|oV<|eC<|.int 0)<|oV<|eC<|.int 0)<|oV<|eC<|.int 2)<|oV<|eC<|.int 1)<|kB<|ae vEq (oV<|ae vMod (oV<|ae vSub (oV<|ae vIx (oSl 0)<|oV<|eC<|.int 1)<|oV<|ae vIx (oV<|ae vIx (oSl 1)<|oV<|eC<|.int 0)<|oV<|eC<|.int 1)<|oV<|eC<|.int 2)<|oV<|eC<|.int 1)
noncomputable def oE:MS:=(am (fV 1 2<|aa (oV<|ak vList<|aa (oSl 0) aNil)<|aa (oV<|bf aNil) aNil)<|am (bU G.eG G.eI 1000000)<|am (sIf (bx<|oV<|ak vAny<|aa (oV<|gj 1 [2] 2 0 (gN 0) kYes G.gn) aNil) (aI<|eC .h_) sNil)<|aI<|ak vTuple<|aa (oSl 2) aNil)
noncomputable def gp:Fn:=bb 1 4 [0] oE
noncomputable def uD:M Vl:=(bD 0)
noncomputable def oF:M Bool:=(aT (kB<|ae vIn (oSl 0)<|oSl 1)<|kB<|ae vNotIn (oSl 0)<|oSl 2)
noncomputable def lx:M Bool:=(kB<|ae vLt (oSl 2)<|oV<|ak vLen<|aa (oSl 1) aNil)
noncomputable def ly:MS:=(am (bv (ae vIx (oSl 1)<|oSl 2)<|gT 2<|aJ (gN 3)<|aJ (gN 4) gNil')<|am (aw 2<|ae vAdd (oSl 2)<|oV<|eC<|.int 1)<|am (aw 5<|bf<|aa (oV<|aC<|aa (oSl 3)<|aa (oV<|ae vAdd (oSl 4)<|oV<|eC<|.int 1) aNil)<|aa (oV<|aC<|aa (oV<|ae vAdd (oSl 3)<|oV<|eC<|.int 1)<|aa (oSl 4) aNil)<|aa (oV<|aC<|aa (oSl 3)<|aa (oV<|ae vSub (oSl 4)<|oV<|eC<|.int 1) aNil)<|aa (oV<|aC<|aa (oV<|ae vSub (oSl 3)<|oV<|eC<|.int 1)<|aa (oSl 4) aNil) aNil)<|aw 1<|ae vAdd (oSl 1)<|oV<|aP 1 [0,1] (ba<|oSl 5) (gN 0) G.oF G.uD)
noncomputable def uE:MS:=(am (fV 1 2<|aa (oV<|eSl (oSl 0) pNone<|i5<|eC<|.int 1)<|aa (oV<|eC<|.int 0) aNil)<|am (bU G.lx G.ly 1000000)<|aI<|ae vEq (oV<|ak vLen<|aa (oSl 1) aNil)<|oV<|ak vLen<|aa (oSl 0) aNil)
noncomputable def dF:Fn:=bb 1 6 [0] uE
noncomputable def oG:M Vl:=(bD 0)
noncomputable def oH:M Bool:=(kB<|ae vNe (oSl 0)<|oSl 1)
noncomputable def lD:MS:=(am (bv (ae vIx (oSl 2)<|oV<|ao 2 G.aX<|aa (oSl 0)<|aa (oV<|ak vLen<|aa (oSl 2) aNil) aNil)<|gT 2<|aJ (gN 4)<|aJ (gN 5) gNil')<|am (aw 6<|bf<|aa (oV<|aC<|aa (oSl 4)<|aa (oV<|ae vAdd (oSl 5)<|oV<|eC<|.int 1) aNil)<|aa (oV<|aC<|aa (oV<|ae vAdd (oSl 4)<|oV<|eC<|.int 1)<|aa (oSl 5) aNil)<|aa (oV<|aC<|aa (oSl 4)<|aa (oV<|ae vSub (oSl 5)<|oV<|eC<|.int 1) aNil)<|aa (oV<|aC<|aa (oV<|ae vSub (oSl 4)<|oV<|eC<|.int 1)<|aa (oSl 5) aNil) aNil)<|am (aw 7<|ae vIx (oV<|ae vAdd (oV<|bf<|aa (oV<|aC<|aa (oSl 4)<|aa (oSl 5) aNil) aNil)<|oSl 6)<|oV<|ao 2 G.aX<|aa (oSl 0)<|aa (oV<|eC<|.int 5) aNil)<|am (aw 8<|aP 1 [7] (ba<|oSl 2) (gN 0) G.oH G.oG)<|am (sIf (aT (kB<|ae vNotIn (oSl 7)<|oSl 2)<|aT (kB<|ae vLe (oV<|eC<|.int 0)<|oV<|ak vMinP<|aa (oSl 7) aNil)<|kB<|ae vLe (oV<|ak vMaxP<|aa (oSl 7) aNil)<|oV<|eC<|.int 30) (aw 8<|ae vAdd (oSl 2)<|oV<|bf<|aa (oSl 7) aNil) sNil)<|sIf (aT (kB<|ae vNe (oSl 8)<|oV<|bf aNil)<|bx<|oV<|ao 1 G.dF<|aa (oV<|ak z_<|aa (oSl 8) aNil) aNil) (aw 2<|bD 8) sNil)
noncomputable def uF:MS:=(am (aw 2<|ak vList<|aa (oSl 1) aNil)<|am (cV (iR1<|aa (oV<|ae vAdd (oV<|eC<|.int 1)<|oV<|ao 2 G.aX<|aa (oSl 0)<|aa (oV<|eC<|.int 3) aNil) aNil) (gN 3) G.lD)<|aI<|ak vTuple<|aa (oV<|ak z_<|aa (oSl 2) aNil) aNil)
noncomputable def jt:Fn:=bb 2 9 [0,1] uF
noncomputable def oI:RS:=(ut 1 (JS 1 2 G.iq)<|aa (oSl 0) aNil)
noncomputable def oJ:Addr->MS:=fun e=>(aw 1<|aC<|aa (oV<|eC<|.str "refused")<|aa (oV<|ae vAdd (oV<|ak vInt<|aa (oV<|io e<|oSl 2) aNil)<|oV<|ak vInt<|aa (oV<|io e<|oSl 2) aNil) aNil)
noncomputable def oK:MS:=(am (aw 1<|aC<|aa (oV<|eC<|.str "refused") aNil)<|am (il (aw 1<|ao 1 G.dE<|aa (oSl 0) aNil)<|lq G.oI G.lu)<|aI<|bD 1)
noncomputable def dk:Fn:=bb 1 3 [0] oK
noncomputable def oM:M Vl:=(ae vIx (oSl 0)<|oV<|eC<|.int 1)
noncomputable def oN:M Vl:=(ae vIx (oSl 0)<|oV<|eC<|.int 1)
noncomputable def oO:M Vl:=(aC<|aa (oSl 0)<|aa (oV<|ae vAdd (oV<|ae vAdd (oSl 1)<|oSl 2)<|oSl 3) aNil)
noncomputable def oP:M Bool:=(kB<|ae vLe (oV<|ae vAdd (oV<|ae vAdd (oSl 1)<|oSl 2)<|oSl 3)<|oV<|eC<|.int 29)
noncomputable def uG:MS:=(am (aw 2<|ae vAdd (oV<|ae vSub (oV<|ak vMaxL<|aa (oV<|aP 1 [] (ba<|oSl 0) (gN 0) kYes G.oM) aNil)<|oV<|ak vMinI<|aa (oV<|aP 1 [] (ba<|oSl 0) (gN 0) kYes G.oN) aNil)<|oV<|eC<|.int 2)<|aI<|ak z_<|aa (oV<|ae vAdd (oSl 0)<|oV<|aP 2 [2,1] (ba<|oSl 0) (gT 2<|aJ (gN 0)<|aJ (gN 1) gNil') G.oP G.oO) aNil)
noncomputable def ir:Fn:=bb 2 3 [0,1] uG
noncomputable def uH:M Vl:=(ao 2 G.jt<|aa (oSl 1)<|aa (oV<|ao 1 G.dS<|aa (oSl 2) aNil) aNil)
noncomputable def ju:MS:=(am (aw 6<|ip (ao 1 G.gp<|aa (oSl 5) aNil)<|aC<|aa (oV<|eC<|.str "refused")<|aa (oV<|eC<|.int 2) aNil)<|sIf (aT (kB<|ae vLe (oV<|ak vLen<|aa (oSl 5) aNil)<|oV<|eC<|.int 200)<|aT (bx<|oV<|ao 1 G.dF<|aa (oV<|ak vList<|aa (oSl 5) aNil) aNil)<|cS<|bx<|oV<|ao 2 (G.bz 6)<|aa (oV<|ao 1 G.dk<|aa (oSl 5) aNil)<|aa (oSl 6) aNil) (aI<|eC<|.bl false) sNil)
noncomputable def lE:MS:=(am (aw 2<|ao 2 G.je<|aa (oSl 0)<|aa (oSl 1) aNil)<|am (aw 3<|ao 1 G.jf<|aa (oSl 2) aNil)<|am (sIf (cS<|bx<|oV<|ao 2 (G.bz 6)<|aa (oV<|ao 1 G.dk<|aa (oV<|ao 1 G.dS<|aa (oSl 3) aNil) aNil)<|aa (oV<|ak vTuple<|aa (oSl 3) aNil) aNil) (aI<|eC<|.bl false) sNil)<|am (aw 4<|aP 1 [2,3] (iR1<|aa (oV<|eC<|.int 3) aNil) (gN 0) kYes G.uH)<|am (dO<|dh fm 4 mAppend<|aa (oV<|ak vTuple<|aa (oV<|k7<|aa (oV<|ao 1 G.dS<|aa (oV<|ao 2 G.ir<|aa (oV<|eSl (oSl 3) pNone<|i5<|eC<|.int 20)<|aa (oV<|ao 2 G.aX<|aa (oSl 2)<|aa (oV<|eC<|.int 2) aNil) aNil) aNil) aNil) aNil) aNil)<|cV (ba<|oSl 4) (gN 5) G.ju)
noncomputable def oQ:MS:=(am (cV (iR1<|aa (oV<|ak vMax2<|aa (oV<|eC<|.int 1)<|aa (oV<|ak vMin2<|aa (oV<|eC<|.int 8)<|aa (oV<|ak vLen<|aa (oSl 0) aNil) aNil) aNil) aNil) (gN 1) G.lE)<|aI<|ao 2 (G.bz 6)<|aa (oV<|ao 1 G.dk<|aa (oV<|aC<|aa (oV<|aC<|aa (oV<|eC<|.int 5)<|aa (oV<|eC<|.int 5) aNil) aNil) aNil)<|aa (oV<|aC<|aa (oV<|eC<|.str "refused")<|aa (oV<|eC<|.int 2) aNil) aNil)
noncomputable def jv:Fn:=bb 1 7 [0] oQ
theorem Cm(D' D3:SD)(h:lu D'=some D3):2<D'.length/\∀ e,∃ D4,oJ e (D'.set 2<|some<|.im<|.fn e)=some (.nx,D4)/\D4.set 2 none=D3:=by
 unfold lu at h;split at h
 ·rename_i hl;cases h;refine⟨hl,fun e=>?_⟩;have hg:(D'.set 2<|some<|.im<|.fn e)[2]?=some (some<|.im<|.fn e):=by rw[WJ,ZZ rfl,ZZ hl]
  refine⟨(D'.set 2<|some<|.im<|.fn e).set 1<|some<|.im<|.tup [.str "refused",.int 2],?_,?_⟩
  ·simp[oJ,io,hg,oA];omega
  ·rw[Vw _ _ (by decide:(2:Nat)≠1),VU]
 ·cases h
theorem Cn(hl:cs.length<10000):fD [cL cs]=some (.dT<|mt<|cs.foldl ce [],[cL cs]):=by
 obtain⟨o,lp⟩:=uj (some .jk) cs [] none (by show 0+_ < _;lia);unfold fD ui;refine cK (D:=[some (cL cs),some .jk,o]) rfl (EJ (D1:=[some (cL cs),some<|.dT [],none]) rfl<|EJ (ie (o:=some (0,cL cs)) (D1:=[some .jk,some<|.dT [],none]) rfl lp rfl) rfl) rfl
theorem Co(ks:List Ce):vLenD [.dT (mt ks)]=some (iI (ks.length:Int)):=by
 show some (iI (((mt ks).length:Nat):Int))=_;rw[mt,Z3]
theorem lF(o:Ce)(fs:List Ce):(bk o fs).length<=fs.length:=by
 have s:∀ b∈bk o fs,b∈fs.map (bl o):=fun b hb=>by
  obtain⟨c,hc,e⟩:=k9.mp hb;exact Ze.mpr ⟨c,hc,e⟩
 have:=(k8 o fs).length_le_of_subset s
 rwa [Z3] at this
theorem oR(ho:fs[0]?=some o)(hl:fs.length<=1000):
  aw 1 (ao 1 G.fD<|aa (oV<|aP 1 [0] (ba<|oSl 0) (gN 0) kYes G.lv) aNil) [some (cT fs),none]=some (.nx,[some (cT fs),some<|.dT<|mt<|bk o fs]):=by
 have c1:aP 1 [0] (ba<|oSl 0) (gN 0) kYes G.lv [some (cT fs),none]=some (cL<|fs.map<|bl o,[some (cT fs),none]):=by
  refine (ft (xs:=fs.map cM) (o:=none) (D1:=[some (cT fs),none]) rfl (i6 _ (fun c=>cM<|bl o c) fs (fun c hc=>?_) (by lia))).trans ?_
  ·exact⟨[some (.im<|cM c),some<|cT fs],_,[some (.im<|cM c),some<|cT fs],rfl,rfl,d_ (os:=[.sl 1,.sl 0]) rfl rfl rfl (BE ho) rfl,rfl⟩
  ·show some (Vl.lst _,_)=some (Vl.lst _,_);rw[Yw];rfl
 have e2:=Cn (cs:=fs.map (bl o)) (by rw[Z3];lia);exact bj (d_ (os:=[.vl (cL<|fs.map<|bl o)]) (a_ (v_ c1) rfl) rfl rfl e2 rfl) (Gd rfl) rfl
theorem uI{ks:List Ce}(h1:fs.length<=1000)(h2:ks.length<=1000):
  kB (ae vNe (oV<|ak vLen<|aa (oSl 0) aNil)<|oV<|ae vMul (oV<|ae vMul (oV<|ak vLenD<|aa (oSl 1) aNil)<|oV<|eC<|.int 2)<|oV<|eC<|.int 2) [some (cT fs),some<|.dT<|mt ks]=some (!decide (fs.length=4 * ks.length),[some (cT fs),some<|.dT<|mt ks]):=by
 have e:decide ((fs.length:Int)=(ks.length:Int) * 2 * 2)=decide (fs.length=4 * ks.length):=by
  rw[decide_eq_decide];lia
 rw[<- e];exact FN (b_ (v_<|E9 (a_ rfl rfl) rfl<|Nh fs) (v_ (b_ (v_ (b_ (v_<|E9 (a_ rfl rfl) rfl<|Co ks) rfl rfl rfl (dj (fX (by decide) (by decide))))) rfl rfl rfl (dj (fX (by decide) (by decide))))) rfl rfl<|nM _ _)
theorem Cp(ho:fs[0]?=some o)(hl:fs.length<=1000)(h:fs.length=4 * (bk o fs).length):∃ ms,dE [cT fs]=some (cT ms,[cT fs])/\ms.Perm (bk o fs)/\be ms:=by
 have h2:=lF o fs;obtain⟨ms,pm,es,rs⟩:=f9 (k8 o fs) (by lia);refine⟨ms,?_,pm,rs⟩;have ht:=uI (fs:=fs) (ks:=bk o fs) hl (by lia);rw[Zu h] at ht;have hs:z_ [.dT (mt<|bk o fs)]=some (cL ms):=by
  show dR ((mt<|bk o fs).map fun p=>.tup p.1)=_;rw[mt,Yw];exact es
 unfold dE js;exact cK (D:=[some (cT fs),some<|.dT<|mt<|bk o fs]) rfl (EJ (oR ho hl)<|EJ (cq ht rfl)<|bR<|jh<|E9 (a_ rfl rfl) rfl hs) rfl
theorem Cq(ho:fs[0]?=some o)(hl:fs.length<=1000)(h:fs.length≠4 * (bk o fs).length):dE [cT fs]=none/\JS 1 2 iq [cT fs]=true:=by
 have h2:=lF o fs;have ht:=uI (fs:=fs) (ks:=bk o fs) hl (by lia);rw[Zl h] at ht;have e1:js [some (cT fs),none]=none:=by
  unfold js;exact EJ (oR ho hl) (by unfold am;rw[ic ht rfl];rfl)
 constructor
 ·unfold dE bb;rw[ZZ (show [cT fs].length=1 from rfl),show js ([cT fs].map some++List.replicate (2 - 1) none)=none from e1]
 ·unfold JS iq;show (lj _ _ [some (cT fs),none]).isSome=true;unfold lj;rw[oR ho hl];show (Nq _ _ _).isSome=true;unfold Nq;rw[show kB _ _=_ from ht];rfl
abbrev dX:Vl:=.im (.tup [.str "refused",.int 2])
theorem uJ(ho:fs[0]?=some o)(hl:fs.length<=1000)(h:fs.length=4 * (bk o fs).length):∃ ms,dk [cT fs]=some (cT ms,[cT fs])/\ms.Perm (bk o fs)/\be ms:=by
 obtain⟨ms,e,p,r⟩:=Cp ho hl h;refine⟨ms,?_,p,r⟩;unfold dk oK;have t:aw 1 (ao 1 G.dE<|aa (oSl 0) aNil) [some (cT fs),some<|.im<|.tup [.str "refused"],none]=some (.nx,[some (cT fs),some<|cT ms,none]):=bj (d_ (os:=[.sl 0]) rfl rfl rfl e rfl) (Gd rfl) rfl;refine cK (D:=[some (cT fs),some<|cT ms,none]) rfl (EJ (D1:=[some (cT fs),some<|.im<|.tup [.str "refused"],none]) (bj (K8 (a_ rfl rfl) rfl (Zs rfl) rfl) (Gd rfl) rfl)<|EJ (D1:=[some (cT fs),some<|cT ms,none]) ?_<|bR rfl) rfl;unfold il;rw[t]
theorem uK(ho:fs[0]?=some o)(hl:fs.length<=1000)(h:fs.length≠4 * (bk o fs).length):dk [cT fs]=some (dX,[cT fs]):=by
 obtain⟨e1,e2⟩:=Cq ho hl h;unfold dk oK;have t:aw 1 (ao 1 G.dE<|aa (oSl 0) aNil) [some (cT fs),some<|.im<|.tup [.str "refused"],none]=none:=by
  have:ao 1 G.dE (aa (oSl 0) aNil) [some (cT fs),some<|.im<|.tup [.str "refused"],none]=none:=by
   show ((dE [cT fs]).map _)=none;rw[e1];rfl
  unfold aw;rw[this];rfl
 refine cK (D:=[some (cT fs),some dX,none]) rfl (EJ (D1:=[some (cT fs),some<|.im<|.tup [.str "refused"],none]) (bj (K8 (a_ rfl rfl) rfl (Zs rfl) rfl) (Gd rfl) rfl)<|EJ (D1:=[some (cT fs),some dX,none]) ?_<|bR rfl) rfl;unfold il;rw[t];have u:oI [some (cT fs),some<|.im<|.tup [.str "refused"],none]=some [some (cT fs),some<|.im<|.tup [.str "refused"],none]:=by
  show (if JS 1 2 iq [cT fs]=true then some _ else none)=_;rw[ZZ e2]
 show lq _ _ _=_;unfold lq;rw[u];rfl
theorem oU(n:Nat)(i:Int):bz (n+1) [iI i,iI i]=some (.im<|.bl true,[iI i,iI i]):=by
 rw[bz];unfold kL;have q:=hV i i;rw[Zu rfl] at q;exact dy [some (iI i),some<|iI i] rfl (EJ (cq rfl rfl)<|EJ (cq rfl rfl)<|bR<|P3<|cZ rfl<|cZ rfl<|FN<|b_ rfl rfl rfl rfl q) rfl
theorem Cr(n:Nat)(c:Ce):bz (n+2) [.im (cM c),.im<|cM c]=some (.im<|.bl true,[.im (cM c),.im<|cM c]):=by
 have s0:=oU n c.1;have s1:=oU n c.2;have cc:aP 2 [] (iZ<|aa (oSl 0)<|aa (oSl 1) aNil) (gT 2<|aJ (gN 0)<|aJ (gN 1) gNil') kYes (G.kK<|bz<|n+1) [some (.im<|cM c),some<|.im<|cM c]=some (.lst [.bl true,.bl true],[some (.im<|cM c),some<|.im<|cM c]):=by
  refine (ft (xs:=[.tup [.int c.1,.int c.1],.tup [.int c.2,.int c.2]]) (o:=none) (C':=[]) (D1:=[some (.im<|cM c),some<|.im<|cM c]) rfl ?_).trans rfl;have g:∀ i:Int,bz (n+1) [iI i,iI i]=some (.im<|.bl true,[iI i,iI i])->G.kK (bz<|n+1) [some (iI i),some<|iI i]=some (.im<|.bl true,[some (iI i),some<|iI i]):=fun i s=>d_ rfl rfl rfl s rfl;exact i6 (fun (i:Int)=>Im.tup [.int i,.int i]) (fun _=>.bl true) [c.1,c.2] (fun i _=>⟨[some (iI i),some<|iI i],_,[some (iI i),some<|iI i],rfl,rfl,g i<|oU n i,rfl⟩) (Zs rfl)
 rw[bz];unfold kL;refine dy [some (.im<|cM c),some<|.im<|cM c] rfl ?_ rfl;refine kl ?_;refine (gU (D1:=[some (.im<|cM c),some<|.im<|cM c]) rfl).trans ?_;refine (bG (D1:=[some (.im<|cM c),some<|.im<|cM c]) ?_).trans ?_
 ·have q:vNe (iI 2) (iI 2)=some (.im<|.bl false):=nM 2 2;exact cq (nN rfl<|FN<|b_ (v_<|E9 rfl rfl rfl) (v_<|E9 rfl rfl rfl) rfl rfl q) rfl
 ·exact bR (E9 (a_ (v_ cc) rfl) rfl rfl)
theorem oW(l:List Ce)(c:Ce):vNotIn (.im<|cM c) (cL l)=some (bV<|!decide (c∈l)):=by
 show (inB (cM c)<|cL l).map _=_;rw[nH];rfl
theorem uL(l:List Ce)(c:Ce):vIn (.im<|cM c) (cL l)=some (bV<|decide (c∈l)):=by
 show (inB (cM c)<|cL l).map _=_;rw[nH];rfl
theorem uM(bs:List Ce):vNe (cL bs) (.lst [])=some (bV<|!decide (bs=[])):=by
 show (if (Im.pls 8 (bs.map cM) && Im.pls 8 [])=true then some (Vl.im<|.bl<|!br (bs.map cM) []) else none)=_;rw[kG,ZZ<|show (true && Im.pls 8 [])=true from rfl];cases bs with
 | nil=>rfl
 | cons b r=>rfl
theorem oX{α:Type}(f:α->Bool):∀ xs:List α,bls (xs.map fun r=>.bl<|f r)=some (xs.map f)
 | []=>rfl
 | x::r=>by
  show (bls<|r.map fun r=>.bl<|f r).map _=_;rw[oX f r];rfl
theorem Cs(f:α->Bool)(xs:List α):vAll [.lst (xs.map fun r=>.bl<|f r)]=some (bV<|xs.all f):=by
 show (bls<|xs.map fun r=>.bl<|f r).map _=_;rw[oX];simp[bV,List.all_map]
theorem Ct(f:α->Bool)(xs:List α):vAny [.lst (xs.map fun r=>.bl<|f r)]=some (bV<|xs.any f):=by
 show (bls<|xs.map fun r=>.bl<|f r).map _=_;rw[oX];simp[bV,Vq]
abbrev Fs(o0:Option Vl)(rest S:List Ce)(o3:Option Vl):SD:=[o0,some<|cL rest,some<|cL S,o3]
theorem uN(o0:Option Vl)(rest S:List Ce)(o3:Option Vl):eG (Fs o0 rest S o3)=some (!decide (rest=[]),Fs o0 rest S o3):=by
 unfold eG;exact FN (b_ rfl (v_<|JK rfl rfl (Zs rfl) rfl) rfl rfl<|uM rest)
theorem Cu(o0:Option Vl)(a:Ce)(r S:List Ce)(o3:Option Vl)(hl:(a::r).length<=1000)(hS:S.length<=1000):
  eI (Fs o0 (a::r) S o3)=if (ar a).all (fun c=>decide (c∈a::r))=true then some (.nx,Fs o0 ((a::r).filter fun c=>!decide (c∈ar a)) (S++[a])<|some<|cL<|ar a) else some (.rt<|.im .h_,Fs o0 (a::r) S<|some<|cL<|ar a):=by
 have ix:vIx (cL (a::r)) (iI 0)=some (.im<|cM a):=by
  have t:Fw ((a::r).map cM) 0=some (cM a):=atC (by decide) (by simp);show (Fw ((a::r).map cM) 0).map Vl.im=_;rw[t];rfl
 have s1:aw 3 (ao 1 G.fC<|aa (oV<|ae vIx (oSl 1)<|oV<|eC<|.int 0) aNil) (Fs o0 (a::r) S o3)=some (.nx,Fs o0 (a::r) S<|some<|cL<|ar a):=bj (d_ (os:=[.vl (.im<|cM a)]) (a_ (v_<|b_ rfl rfl rfl rfl ix) rfl) rfl rfl (sS a) rfl) (Gd rfl) rfl;have c1:aP 1 [1] (ba<|oSl 3) (gN 0) kYes G.oD (Fs o0 (a::r) S<|some<|cL<|ar a)=some (.lst<|(ar a).map fun c=>.bl<|decide (c∈a::r),Fs o0 (a::r) S<|some<|cL<|ar a):=by
  refine (ft (xs:=(ar a).map cM) (o:=some (3,cL<|ar a)) (D1:=[o0,some<|cL (a::r),some<|cL S,some .jk]) rfl<|i6 _ (fun c=>.bl<|decide (c∈a::r)) (ar a) (fun c hc=>?_)<|Zs rfl).trans rfl;exact⟨[some (.im<|cM c),some<|cL (a::r)],_,[some (.im<|cM c),some<|cL (a::r)],rfl,rfl,b_ rfl rfl rfl rfl<|uL _ c,rfl⟩
 have t1:cS (bx<|oV<|ak vAll<|aa (oV<|aP 1 [1] (ba<|oSl 3) (gN 0) kYes G.oD) aNil) (Fs o0 (a::r) S<|some<|cL<|ar a)=some (!(ar a).all (fun c=>decide (c∈a::r)),Fs o0 (a::r) S<|some<|cL<|ar a):=P1 (K7 (v_<|E9 (a_ (v_ c1) rfl) rfl<|Cs _ _) rfl rfl);unfold eI;refine (bG s1).trans ?_;cases hb:(ar a).all (fun c=>decide (c∈a::r)) with
 | false=>
  rw[hb] at t1;rw[ZY (by decide)];unfold am;rw[ic t1 rfl];rfl
 | true=>
  rw[hb] at t1;rw[ZZ rfl];refine EJ (cq t1 rfl) ?_;have s2:dO (dh fm 2 mAppend<|aa (oV<|ae vIx (oSl 1)<|oV<|eC<|.int 0) aNil) (Fs o0 (a::r) S<|some<|cL<|ar a)=some (.nx,Fs o0 (a::r) (S++[a])<|some<|cL<|ar a):=Nf (Ng rfl rfl (a_ (v_<|b_ rfl rfl rfl rfl ix) rfl) rfl rfl (P6 (by lia)) rfl);have c2:aP 1 [3] (ba<|oSl 1) (gN 0) G.uB G.uA (Fs o0 (a::r) (S++[a])<|some<|cL<|ar a)=some (cL<|(a::r).filter fun c=>!decide (c∈ar a),Fs o0 (a::r) (S++[a])<|some<|cL<|ar a):=by
   refine (ft (xs:=(a::r).map cM) (o:=some (1,cL (a::r))) (D1:=[o0,some .jk,some<|cL<|S++[a],some<|cL<|ar a]) rfl (fY cM (fun c=>!decide (c∈ar a)) cM (a::r) [] (fun c hc=>?_) (by show 0+_<=_;lia))).trans rfl;exact⟨[some (.im<|cM c),some<|cL<|ar a],[some (.im<|cM c),some<|cL<|ar a],rfl,FN<|b_ rfl rfl rfl rfl<|oW _ c,fun _=>rfl,fun _=>⟨[some (.im<|cM c),some<|cL<|ar a],rfl,rfl⟩⟩
  exact EJ s2 (bj c2 (Gd rfl) rfl)
theorem uO(o0:Option Vl):∀ (n:Nat) (rest S:List Ce) (o3:Option Vl) (m:Nat),rest.length<=n->rest.length<=1000->S.length+rest.length<=1000->n<m->
  (∀ S',c7 n rest S=some S'->∃ SB,bU eG eI m (Fs o0 rest S o3)=some (.nx,Fs o0 [] S' SB))/\
  (c7 n rest S=none->∃ D',bU eG eI m (Fs o0 rest S o3)=some (.rt<|.im .h_,o0::D'))
 | n,[],S,o3,m+1,_,_,_,_=>by
  have e:c7 n [] S=some S:=by cases n<;>rfl
  rw[e];refine⟨fun S' h=>⟨o3,?_⟩,fun h=>by cases h⟩;cases h;unfold bU;rw[uN];rfl
 | 0,_::_,_,_,_,h,_,_,_=>by simp at h
 | n+1,a::r,S,o3,m+1,h,hl,hS,hm=>by
  have st:=Cu o0 a r S o3 hl (by lia);have w:bU eG eI (m+1) (Fs o0 (a::r) S o3)=(eI<|Fs o0 (a::r) S o3).bind fun q=>match q.1 with
   | .nx=>bU eG eI m q.2
   | .ct=>bU eG eI m q.2
   | .bk=>some (.nx,q.2)
   | .rt d=>some (.rt d,q.2):=by
   rw[bU];show (eG<|Fs o0 (a::r) S o3).bind _=_;rw[uN];rfl
  unfold c7;by_cases hb:(ar a).all (fun c=>decide (c∈a::r))=true
  ·rw[ZZ hb] at st;rw[ZZ hb,w,st];have FF:∀ c∈ar a,c∈a::r:=fun c hc=>Zn (YG.mp hb c hc);have f1:((a::r).filter fun c=>!decide (c∈ar a))=r.filter fun c=>!decide (c∈ar a):=by
    rw[V0,ZY (by rw[Zu (jj a)];decide)]
   have f2:((a::r).filter fun c=>!decide (c∈ar a)).length<=r.length:=by rw[f1];exact Xs _ _
   have l1:(S++[a]).length=S.length+1:=by simp
   have l2:(a::r).length=r.length+1:=rfl;exact uO o0 n _ (S++[a]) (some<|cL<|ar a) m (by lia) (by lia) (by lia) (by lia)
  ·rw[ZY hb] at st;rw[ZY hb,w,st];exact⟨(fun S' h=>by cases h),(fun _=>⟨_,rfl⟩)⟩
theorem uP:(S.any fun b=>decide ((b.1 - o.1) % 2=1) || decide ((b.2 - o.2) % 2=1))=false↔dC o S:=by
 rw[List.any_eq_false];unfold dC;constructor
 ·intro h b hb;have:=h b hb;simp at this;lia
 ·intro h b hb;have:=h b hb;simp;lia
theorem uQ{α:Type}{own j:Nat}{X:List Im}{tg:MG}{c:M Bool}{e:M Vl}{C:SD}(φ:α->Im)(f:α->Im)(hX:JJ C j X=true):∀ (xs:List α) (acc:List Im),(∀ x∈xs,∃ D1 D2 D3,tg (.im<|φ x) (List.replicate own none++C)=some D1/\c D1=some (true,D2)/\e D2=some (.im<|f x,D3)/\D3.drop own=C)->
  acc.length+xs.length<=100000->dD own j X tg c e (xs.map φ) acc C=some (acc++xs.map f,C)
 | [],acc,_,_=>by
  rw[Vt,Vt,ZT,dD,ZZ hX]
 | x::r,acc,h,hl=>by
  obtain⟨D1,D2,D3,h1,h2,h3,h4⟩:=h x (.head _);rw[ZD] at hl;have ih:=uQ φ f hX r (acc++[f x]) (fun y hy=>h y<|.tail _ hy) (by rw[ZI];show acc.length+1+r.length<=_;lia);rw[ZH,dD,ZZ hX,h1,YF,h2,YF,ZZ rfl,h3,YF];dsimp only;rw[ZZ (by lia),h4,ih,Z7];rfl
theorem Cv(l:List Im)(r:SD):JJ (some (.lst l)::r) 0 l=true:=by
 unfold JJ;show decide (l=l)=true;exact Zu rfl
theorem Cw(fs:List Ce)(o:Ce)(S:List Ce)(o3:Option Vl)(ho:S.head?=some o)(hl:S.length<=1000):
  gj 1 [2] 2 0 (gN 0) kYes G.gn (Fs (some<|cT fs) [] S o3)=some (.lst<|S.map fun b=>.bl (decide ((b.1 - o.1) % 2=1) || decide ((b.2 - o.2) % 2=1)),Fs (some<|cT fs) [] S o3):=by
 have ix:vIx (cL S) (iI 0)=some (.im<|cM o):=by
  have t:Fw (S.map cM) 0=some (cM o):=atC (by decide) (by rw[VN] at ho;simpa using ho);show (Fw (S.map cM) 0).map Vl.im=_;rw[t];rfl
 have k:=uQ (own:=1) (j:=0) (X:=S.map cM) (tg:=gN 0) (c:=kYes) (e:=G.gn) (C:=[some (cL S)]) cM (fun b=>.bl (decide ((b.1 - o.1) % 2=1) || decide ((b.2 - o.2) % 2=1))) (Cv _ _) S [] (fun b hb=>?_) (by show 0+_<=_;lia)
 ·show (dD 1 0 (S.map cM) (gN 0) kYes G.gn (S.map cM) [] [some (cL S)]).map _=_;rw[k];rfl
 ·have a0:∀ c:Ce,vIx (.im<|cM c) (iI 0)=some (iI c.1):=fun _=>rfl;have a1:∀ c:Ce,vIx (.im<|cM c) (iI 1)=some (iI c.2):=fun _=>rfl;refine⟨[some (.im<|cM b),some<|cL S],_,[some (.im<|cM b),some<|cL S],rfl,rfl,?_,rfl⟩;have t1:kB (ae vEq (oV<|ae vMod (oV<|ae vSub (oV<|ae vIx (oSl 0)<|oV<|eC<|.int 0)<|oV<|ae vIx (oV<|ae vIx (oSl 1)<|oV<|eC<|.int 0)<|oV<|eC<|.int 0)<|oV<|eC<|.int 2)<|oV<|eC<|.int 1) [some (.im<|cM b),some<|cL S]=some (decide ((b.1 - o.1) % 2=1),[some (.im<|cM b),some<|cL S]):=
   FN (b_ (v_ (b_ (v_<|b_ (v_<|b_ rfl rfl rfl rfl<|a0 b) (v_<|b_ (v_<|b_ rfl rfl rfl rfl ix) rfl rfl rfl<|a0 o) rfl rfl rfl) rfl rfl rfl (dz (by decide)))) rfl rfl rfl<|hV _ _);have t2:kB (ae vEq (oV<|ae vMod (oV<|ae vSub (oV<|ae vIx (oSl 0)<|oV<|eC<|.int 1)<|oV<|ae vIx (oV<|ae vIx (oSl 1)<|oV<|eC<|.int 0)<|oV<|eC<|.int 1)<|oV<|eC<|.int 2)<|oV<|eC<|.int 1) [some (.im<|cM b),some<|cL S]=some (decide ((b.2 - o.2) % 2=1),[some (.im<|cM b),some<|cL S]):=
   FN (b_ (v_ (b_ (v_<|b_ (v_<|b_ rfl rfl rfl rfl<|a1 b) (v_<|b_ (v_<|b_ rfl rfl rfl rfl ix) rfl rfl rfl<|a1 o) rfl rfl rfl) rfl rfl rfl (dz (by decide)))) rfl rfl rfl<|hV _ _);unfold gn;refine P3 ?_;cases JM:decide ((b.1 - o.1) % 2=1) with
  | true=>rw[JM] at t1;exact Ap t1
  | false=>rw[JM] at t1;exact nN t1 t2
theorem uR(ho:S.head?=some o)(hl:S.length<=1000):
  (am (sIf (bx<|oV<|ak vAny<|aa (oV<|gj 1 [2] 2 0 (gN 0) kYes G.gn) aNil) (aI<|eC .h_) sNil)<|aI<|ak vTuple<|aa (oSl 2) aNil) (Fs (some<|cT fs) [] S o3)=
   some (.rt<|if (S.any fun b=>decide ((b.1 - o.1) % 2=1) || decide ((b.2 - o.2) % 2=1))=true then .im .h_ else cT S,Fs (some<|cT fs) [] S o3):=by
 have t:bx (oV<|ak vAny<|aa (oV<|gj 1 [2] 2 0 (gN 0) kYes G.gn) aNil) (Fs (some<|cT fs) [] S o3)=some ((S.any fun b=>decide ((b.1 - o.1) % 2=1) || decide ((b.2 - o.2) % 2=1)),Fs (some<|cT fs) [] S o3):=
  K7 (v_<|E9 (a_ (v_<|Cw fs o S o3 ho hl) rfl) rfl<|Ct (fun b:Ce=>decide ((b.1 - o.1) % 2=1) || decide ((b.2 - o.2) % 2=1)) S) rfl rfl;cases hb:(S.any fun b=>decide ((b.1 - o.1) % 2=1) || decide ((b.2 - o.2) % 2=1)) with
 | true=>
  rw[hb] at t;rw[ZZ rfl];unfold am;rw[ic t rfl];rfl
 | false=>
  rw[hb] at t;rw[ZY (by decide)];exact EJ (cq t rfl) (bR<|E9 (a_ rfl rfl) rfl rfl)
theorem Cy(hp:fs.Pairwise Lc)(ho:fs[0]?=some o)(hl:fs.length<=1000):
  (fs.length=4 * (bk o fs).length/\∃ S,gp [cT fs]=some (cT S,[cT fs])/\(bk o fs).Perm S/\S.Pairwise Lc/\S≠[])\/(fs.length≠4 * (bk o fs).length/\gp [cT fs]=some (.im .h_,[cT fs])):=by
 have GB:fs.head?=some o:=by rw[VN];exact ho
 obtain⟨l1,l2⟩:=uO (some<|cT fs) fs.length fs [] none 1000000 (ZR _) hl (by simpa using hl) (by lia);have s0:fV 1 2 (aa (oV<|ak vList<|aa (oSl 0) aNil)<|aa (oV<|bf aNil) aNil) [some (cT fs),none,none,none]=some (.nx,Fs (some<|cT fs) fs [] none):=sN (a_ (v_<|E9 (a_ rfl rfl) rfl rfl)<|a_ (v_<|JK rfl rfl (Zs rfl) rfl) rfl) rfl (Gd rfl) (Gd rfl) rfl;rcases BD hp (ZR _) GB with ⟨S,c1,c2,c3,c4,c5,c6⟩ | ⟨c1,c2⟩
 ·refine .inl ⟨c4,S,?_,c5,c6,fun e=>by rw[e] at c2;cases c2⟩;obtain⟨o3,w⟩:=l1 S c1;have e:=uR (fs:=fs) (o3:=o3) c2 (by have:=c5.length_eq;have:=lF o fs;lia);rw[ZY (by rw[uP.mpr c3];decide)] at e;unfold gp oE;exact cK (D:=Fs (some<|cT fs) [] S o3) rfl (EJ s0<|EJ w e) rfl
 ·refine .inr ⟨c1,?_⟩;unfold gp oE;rcases c2 with c2 | ⟨S,c2,c3,c4,c5⟩
  ·obtain⟨D',w⟩:=l2 c2;refine cK (D:=some (cT fs)::D') rfl (EJ s0 ?_) rfl;unfold am;rw[w];rfl
  ·obtain⟨o3,w⟩:=l1 S c2;have e:=uR (fs:=fs) (o3:=o3) c3 (by lia);have:(S.any fun b=>decide ((b.1 - o.1) % 2=1) || decide ((b.2 - o.2) % 2=1))=true:=by
    cases z:(S.any fun b=>decide ((b.1 - o.1) % 2=1) || decide ((b.2 - o.2) % 2=1)) with
    | true=>rfl
    | false=>exact absurd (uP.mp z) c4
   rw[ZZ this] at e;exact cK (D:=Fs (some<|cT fs) [] S o3) rfl (EJ s0<|EJ w e) rfl
def Ff(c:Ce):List Ce:=[(c.1,c.2+1),(c.1+1,c.2),(c.1,c.2 - 1),(c.1 - 1,c.2)]
theorem Cz(c:Ce):(Ff c).Nodup:=by
 unfold Ff;simp only[Y7,ZU,Y9,Prod.mk.injEq,W8,not_or,Yy,and_true,not_false_eq_true];lia
abbrev He(cs met:List Ce)(at':Int)(o3 o4 o5:Option Vl):SD:=[some (cL cs),some<|cL met,some<|iI at',o3,o4,o5]
theorem CA(cs met:List Ce)(a:Int)(o3 o4 o5:Option Vl):lx (He cs met a o3 o4 o5)=some (decide (a<(met.length:Int)),He cs met a o3 o4 o5):=by
 unfold lx;exact FN (b_ rfl (v_<|E9 (a_ rfl rfl) rfl<|K9 met) rfl rfl rfl)
theorem CB{met:List Ce}{k:Nat}{c:Ce}(hc:met[k]?=some c)(hl:met.length<=1000)(o3 o4 o5:Option Vl):
  ly (He cs met (k:Int) o3 o4 o5)=some (.nx,He cs (met++(Ff c).filter fun x=>decide (x∈cs) && !decide (x∈met)) ((k:Int)+1) (some<|iI c.1) (some<|iI c.2)<|some<|cL<|Ff c):=by
 have ix:vIx (cL met) (iI (k:Int))=some (.im<|cM c):=by
  have t:Fw (met.map cM) (k:Int)=some (cM c):=atC (by lia) (by simpa using hc);show (Fw (met.map cM) (k:Int)).map Vl.im=_;rw[t];rfl
 have cp:aP 1 [0,1] (ba<|oSl 5) (gN 0) G.oF G.uD (He cs met ((k:Int)+1) (some<|iI c.1) (some<|iI c.2)<|some<|cL<|Ff c)=some (cL<|(Ff c).filter fun x=>decide (x∈cs) && !decide (x∈met),He cs met ((k:Int)+1) (some<|iI c.1) (some<|iI c.2)<|some<|cL<|Ff c):=by
  refine (ft (xs:=(Ff c).map cM) (o:=some (5,cL<|Ff c)) (D1:=[some (cL cs),some<|cL met,some<|iI<|(k:Int)+1,some<|iI c.1,some<|iI c.2,some .jk]) rfl<|fY cM (fun x=>decide (x∈cs) && !decide (x∈met)) cM (Ff c) [] (fun x hx=>?_)<|Zs rfl).trans rfl;refine⟨[some (.im<|cM x),some<|cL cs,some<|cL met],[some (.im<|cM x),some<|cL cs,some<|cL met],rfl,?_,fun _=>rfl,fun _=>⟨[some (.im<|cM x),some<|cL cs,some<|cL met],rfl,rfl⟩⟩;have t1:kB (ae vIn (oSl 0)<|oSl 1) [some (.im<|cM x),some<|cL cs,some<|cL met]=some (decide (x∈cs),[some (.im<|cM x),some<|cL cs,some<|cL met]):=FN (b_ rfl rfl rfl rfl<|uL cs x);have t2:kB (ae vNotIn (oSl 0)<|oSl 2) [some (.im<|cM x),some<|cL cs,some<|cL met]=some (!decide (x∈met),[some (.im<|cM x),some<|cL cs,some<|cL met]):=FN (b_ rfl rfl rfl rfl<|oW met x);unfold oF;cases hb:decide (x∈cs) with
  | true=>rw[hb] at t1;exact cZ t1 t2
  | false=>rw[hb] at t1;exact ig t1
 have fl:((Ff c).filter fun x=>decide (x∈cs) && !decide (x∈met)).length<=4:=Xs _ _;have ad:vAdd (cL met) (cL<|(Ff c).filter fun x=>decide (x∈cs) && !decide (x∈met))=some (cL<|met++(Ff c).filter fun x=>decide (x∈cs) && !decide (x∈met)):=by
  rw[show cL (met++(Ff c).filter fun x=>decide (x∈cs) && !decide (x∈met))=.lst (met.map cM++((Ff c).filter fun x=>decide (x∈cs) && !decide (x∈met)).map cM) by rw[cL,YI]];exact ZZ (by rw[Z3,Z3];lia)
 have s1:bv (ae vIx (oSl 1)<|oSl 2) (gT 2<|aJ (gN 3)<|aJ (gN 4) gNil') (He cs met (k:Int) o3 o4 o5)=some (.nx,He cs met (k:Int) (some<|iI c.1) (some<|iI c.2) o5):=Jp (b_ rfl rfl rfl rfl ix) rfl;have s2:aw 2 (ae vAdd (oSl 2)<|oV<|eC<|.int 1) (He cs met (k:Int) (some<|iI c.1) (some<|iI c.2) o5)=some (.nx,He cs met ((k:Int)+1) (some<|iI c.1) (some<|iI c.2) o5):=bj (b_ rfl rfl rfl rfl rfl) (Gd rfl) rfl;unfold ly;refine EJ s1 (EJ s2<|EJ (D1:=He cs met ((k:Int)+1) (some<|iI c.1) (some<|iI c.2) (some<|cL<|Ff c)) rfl<|bj (b_ rfl (v_ cp) rfl rfl ad) (Gd rfl) rfl)
theorem uS(hl:cs.length<=900):∃ b,dF [cL cs]=some (bV b,[cL cs]):=by
 have hs:vSl (cL cs) none (some 1)=some (cL<|cs.take 1):=by
  show some (Vl.lst<|dv (cs.map cM) none<|some ((1:Nat):Int))=_;rw[rG,<- YJ]
 have Oj:(cs.take 1).Nodup:=by
  cases cs with
  | nil=>exact .nil
  | cons c r=>simp
 have s0:fV 1 2 (aa (oV<|eSl (oSl 0) pNone<|i5<|eC<|.int 1)<|aa (oV<|eC<|.int 0) aNil) [some (cL cs),none,none,none,none,none]=some (.nx,He cs (cs.take 1) 0 none none none):=sN (a_ (v_<|P5 rfl rfl rfl rfl hs)<|a_ rfl rfl) rfl (Gd rfl) (Gd rfl) rfl;obtain⟨D',w,met,a,o3,o4,o5,rfl⟩:=zI (c:=lx) (b:=ly) (fun m D=>∃ (k:Nat) (met:List Ce) (o3 o4 o5:Option Vl),D=He cs met (k:Int) o3 o4 o5/\met.Nodup/\(∀ x∈met,x∈cs)/\m=cs.length - k)
  (fun D=>∃ (met:List Ce) (a:Int) (o3 o4 o5:Option Vl),D=He cs met a o3 o4 o5) (fun m D ⟨k,met,o3,o4,o5,hD,nd,sub,hm⟩=>by
   subst hD;have ml:met.length<=cs.length:=nd.length_le_of_subset sub;refine⟨_,_,CA cs met k o3 o4 o5,fun ht=>?_,fun _=>⟨met,_,o3,o4,o5,rfl⟩⟩;have hk:k<met.length:=by have:=Zn ht;lia
   refine⟨_,_,CB (ZV hk) (by lia) o3 o4 o5,.inl rfl,cs.length - (k+1),by lia,k+1,_,_,_,_,rfl,?_,?_,rfl⟩
   ·refine ZK.mpr ⟨nd,(Cz _).sublist Yn,fun x hx y hy e=>?_⟩;subst e;have:=(Ya.mp hy).2;rw[Zu hx] at this;simp at this
   ·intro x hx;rcases Zx.mp hx with h | h
    ·exact sub x h
    ·have:=(Ya.mp h).2;simp at this;exact this.1) 1000000 cs.length (He cs (cs.take 1) 0 none none none) ⟨0,cs.take 1,none,none,none,rfl,Oj,fun x hx=>YN hx,rfl⟩ (by lia)
 refine⟨decide ((met.length:Int)=(cs.length:Int)),?_⟩;unfold dF uE;exact cK (D:=He cs met a o3 o4 o5) rfl (EJ s0<|EJ w<|bR<|b_ (v_<|E9 (a_ rfl rfl) rfl<|K9 met) (v_<|E9 (a_ rfl rfl) rfl<|K9 cs) rfl rfl<|hV _ _) rfl
theorem CC(a b:Ce):vNe (.im<|cM a) (.im<|cM b)=some (bV<|!decide (a=b)):=by
 show (if (Im.pl 8 (cM a) && Im.pl 8 (cM b))=true then some (Vl.im<|.bl<|!az (cM a) (cM b)) else none)=_;rw[ZZ (show (Im.pl 8 (cM a) && Im.pl 8 (cM b))=true from rfl),nG]
structure JT(n:Nat)(l:List Ce):Prop where
 nd:l.Nodup
 ne:l≠[]
 len:l.length<=n
abbrev F8(h:Vl)(fs made:List Ce)(o3 o4 o5 o6 o7 o8:Option Vl):SD:=[some h,some<|cT fs,some<|cL made,o3,o4,o5,o6,o7,o8]
theorem CD{fs made ot:List Ce}(nd:ot.Nodup)(hl:ot.length<=m+1)(g:JT m made)(hm:m<=300):
  ∃ FC p8,sIf (aT (kB<|ae vNe (oSl 8)<|oV<|bf aNil)<|bx<|oV<|ao 1 G.dF<|aa (oV<|ak z_<|aa (oSl 8) aNil) aNil) (aw 2<|bD 8) sNil (F8 h fs made o3 o4 o5 o6 o7<|some<|cL ot)=some (.nx,F8 h fs FC o3 o4 o5 o6 o7 p8)/\JT (m+1) FC:=by
 obtain⟨D,hD⟩:∃ D,D=F8 h fs made o3 o4 o5 o6 o7 (some<|cL ot):=⟨_,rfl⟩;have t1:kB (ae vNe (oSl 8)<|oV<|bf aNil) D=some (!decide (ot=[]),D):=by
  rw[hD];exact FN (b_ rfl (v_<|JK rfl rfl (Zs rfl) rfl) rfl rfl<|uM ot)
 obtain⟨ms,pm,es,rs⟩:=f9 nd (by lia);obtain⟨b,e⟩:=uS (cs:=ms) (by rw[pm.length_eq];lia);have t2:bx (oV<|ao 1 G.dF<|aa (oV<|ak z_<|aa (oSl 8) aNil) aNil) D=some (b,D):=by
  rw[hD];exact K7 (v_<|d_ (os:=[.vl (cL ms)]) (a_ (v_<|jg rfl es) rfl) rfl rfl e rfl) rfl rfl
 rw[<- hD];have no:JT (m+1) made:=⟨g.nd,g.ne,Nat.le_succ_of_le g.len⟩;cases hn:decide (ot=[]) with
 | true=>
  rw[hn] at t1;exact⟨made,_,cq (ig t1) (by rw[hD];rfl),no⟩
 | false=>
  rw[hn] at t1;cases b with
  | false=>exact⟨made,_,cq (cZ t1 t2) (by rw[hD];rfl),no⟩
  | true=>
   refine⟨ot,some .jk,ic (cZ t1 t2) (by rw[hD];rfl),nd,of_decide_eq_false hn,hl⟩
theorem CF{made:List Ce}{o8:Option Vl}(H:Gw (n+2) h)(g:JT m made)(hm:m<=300):
  ∃ h' FC p4 p5 p6 p7 p8,lD (F8 h fs made o3 o4 o5 o6 o7 o8)=some (.nx,F8 h' fs FC o3 p4 p5 p6 p7 p8)/\Gw n h'/\JT (m+1) FC:=by
 have hp:=YS.mpr g.ne;have hl:=g.len;obtain⟨v1,h1,e1,a1,a2,H1⟩:=dB (n:=n+1) (m:=(made.length:Int)) H (by lia) (by lia);obtain⟨c,hc⟩:∃ c,made[v1.toNat]?=some c:=⟨made[v1.toNat]'(by lia),by simp⟩;obtain⟨v2,h2,e2,b1,b2,H2⟩:=dB (n:=n) (m:=5) H1 (by lia) (by lia);obtain⟨x,hx⟩:∃ x,(c::Ff c)[v2.toNat]?=some x:=⟨(c::Ff c)[v2.toNat]'(by show v2.toNat<5;lia),by simp⟩;have t1:=atC a1 hc;have t2:=atC b1 hx;obtain⟨q0,rfl⟩:=H.lst;obtain⟨q1,rfl⟩:=H1.lst;obtain⟨q2,rfl⟩:=H2.lst;have s1:bv (ae vIx (oSl 2)<|oV<|ao 2 G.aX<|aa (oSl 0)<|aa (oV<|ak vLen<|aa (oSl 2) aNil) aNil) (gT 2<|aJ (gN 4)<|aJ (gN 5) gNil') (F8 (.lst q0) fs made o3 o4 o5 o6 o7 o8)=some (.nx,F8 (.lst q1) fs made o3 (some<|iI c.1) (some<|iI c.2) o6 o7 o8):=
  Jp (b_ rfl (v_<|c_ (a_ rfl<|a_ (v_<|E9 rfl rfl<|K9 made) rfl) rfl rfl e1) rfl rfl<|congrArg (Option.map Vl.im) t1) rfl;have ad:vAdd (.lst [.tup [.int c.1,.int c.2]]) (cL<|Ff c)=some (cL (c::Ff c)):=rfl;have s3:aw 7 (ae vIx (oV<|ae vAdd (oV<|bf<|aa (oV<|aC<|aa (oSl 4)<|aa (oSl 5) aNil) aNil)<|oSl 6)<|oV<|ao 2 G.aX<|aa (oSl 0)<|aa (oV<|eC<|.int 5) aNil) (F8 (.lst q1) fs made o3 (some<|iI c.1) (some<|iI c.2) (some<|cL<|Ff c) o7 o8)=some (.nx,F8 (.lst q2) fs made o3 (some<|iI c.1) (some<|iI c.2) (some<|cL<|Ff c) (some<|.im<|cM x) o8):=
  bj (b_ (v_<|b_ (v_<|JK rfl rfl (Zs rfl) rfl) rfl rfl rfl ad) (v_<|d_ (os:=[.sl 0,.vl<|iI 5]) rfl rfl rfl e2 rfl) rfl rfl<|congrArg (Option.map Vl.im) t2) (Gd rfl) rfl;have c4:aP 1 [7] (ba<|oSl 2) (gN 0) G.oH G.oG (F8 (.lst q2) fs made o3 (some<|iI c.1) (some<|iI c.2) (some<|cL<|Ff c) (some<|.im<|cM x) o8)=some (cL<|made.filter fun y=>!decide (y=x),F8 (.lst q2) fs made o3 (some<|iI c.1) (some<|iI c.2) (some<|cL<|Ff c) (some<|.im<|cM x) o8):=by
  refine (ft (xs:=made.map cM) (o:=some (2,cL made)) (D1:=[some (.lst q2),some<|cT fs,some .jk,o3,some<|iI c.1,some<|iI c.2,some<|cL<|Ff c,some<|.im<|cM x,o8]) rfl (fY cM (fun y=>!decide (y=x)) cM made [] (fun y hy=>?_) (by show 0+_<=_;lia))).trans rfl;exact⟨[some (.im<|cM y),some<|.im<|cM x],[some (.im<|cM y),some<|.im<|cM x],rfl,FN<|b_ rfl rfl rfl rfl<|CC y x,fun _=>rfl,fun _=>⟨[some (.im<|cM y),some<|.im<|cM x],rfl,rfl⟩⟩
 obtain⟨D,hD⟩:∃ D:SD,D=F8 (.lst q2) fs made o3 (some<|iI c.1) (some<|iI c.2) (some<|cL<|Ff c) (some<|.im<|cM x) (some<|cL<|made.filter fun y=>!decide (y=x)):=⟨_,rfl⟩;have s4:aw 8 (aP 1 [7] (ba<|oSl 2) (gN 0) G.oH G.oG) (F8 (.lst q2) fs made o3 (some<|iI c.1) (some<|iI c.2) (some<|cL<|Ff c) (some<|.im<|cM x) o8)=some (.nx,D):=by
  rw[hD];exact bj c4 (Gd rfl) rfl
 obtain⟨ot,nd,ol,s5⟩:∃ ot:List Ce,ot.Nodup/\ot.length<=m+1/\sIf (aT (kB<|ae vNotIn (oSl 7)<|oSl 2)<|aT (kB<|ae vLe (oV<|eC<|.int 0)<|oV<|ak vMinP<|aa (oSl 7) aNil)<|kB<|ae vLe (oV<|ak vMaxP<|aa (oSl 7) aNil)<|oV<|eC<|.int 30) (aw 8<|ae vAdd (oSl 2)<|oV<|bf<|aa (oSl 7) aNil) sNil D=some (.nx,F8 (.lst q2) fs made o3 (some<|iI c.1) (some<|iI c.2) (some<|cL<|Ff c) (some<|.im<|cM x)<|some<|cL ot):=by
  have n1:kB (ae vNotIn (oSl 7)<|oSl 2) D=some (!decide (x∈made),D):=by
   rw[hD];exact FN (b_ rfl rfl rfl rfl<|oW made x)
  obtain⟨y1,n2⟩:∃ y,kB (ae vLe (oV<|eC<|.int 0)<|oV<|ak vMinP<|aa (oSl 7) aNil) D=some (y,D):=by
   rw[hD];exact⟨_,FN<|b_ rfl (v_<|E9 (a_ rfl rfl) rfl rfl) rfl rfl rfl⟩
  obtain⟨y2,n3⟩:∃ y,kB (ae vLe (oV<|ak vMaxP<|aa (oSl 7) aNil)<|oV<|eC<|.int 30) D=some (y,D):=by
   rw[hD];exact⟨_,FN<|b_ (v_<|E9 (a_ rfl rfl) rfl rfl) rfl rfl rfl rfl⟩
  have no:∀ {t:M Bool}{a:MS},t D=some (false,D)->∃ ot:List Ce,ot.Nodup/\ot.length<=m+1/\sIf t a sNil D=some (.nx,F8 (.lst q2) fs made o3 (some<|iI c.1) (some<|iI c.2) (some<|cL<|Ff c) (some<|.im<|cM x)<|some<|cL ot):=fun e=>
   ⟨_,g.nd.sublist Yn,Zg (Xs _ _) (by lia),cq e (by rw[hD];rfl)⟩;cases Kx:decide (x∈made) with
  | true=>
   rw[Kx] at n1;exact no (ig n1)
  | false=>
   rw[Kx] at n1;cases y1 with
   | false=>exact no (cZ n1<|ig n2)
   | true=>
    cases y2 with
    | false=>exact no (cZ n1<|cZ n2 n3)
    | true=>
     have Hr:x∉made:=of_decide_eq_false Kx;refine⟨made++[x],ZK.mpr ⟨g.nd,by simp,fun a ha b hb e=>?_⟩,by simp;lia,ic (cZ n1<|cZ n2 n3) ?_⟩
     ·rw[Z1.mp hb] at e;exact Hr (e ▸ ha)
     ·have SC:vAdd (cL made) (.lst [cM x])=some (cL<|made++[x]):=by
       rw[show cL (made++[x])=.lst (made.map cM++[cM x]) by rw[cL,YI];rfl];exact ZZ (by rw[Z3];show _+1<=_;lia)
      rw[hD];exact bj (b_ rfl (v_<|JK rfl rfl (Zs rfl) rfl) rfl rfl SC) (Gd rfl) rfl
 obtain⟨FC,p8,s6,g'⟩:=CD (h:=.lst q2) (fs:=fs) (o3:=o3) (o4:=some (iI c.1)) (o5:=some (iI c.2)) (o6:=some (cL<|Ff c)) (o7:=some (.im<|cM x)) nd ol g hm;refine⟨.lst q2,FC,some<|iI c.1,some<|iI c.2,some<|cL<|Ff c,some<|.im<|cM x,p8,?_,H2,g'⟩;unfold lD;exact EJ s1 (EJ (D1:=F8 (.lst q1) fs made o3 (some<|iI c.1) (some<|iI c.2) (some<|cL<|Ff c) o7 o8) rfl<|EJ s3<|EJ s4<|EJ s5 s6)
theorem CG(H:Gw (n+10) h)(g:JT 160 fs):
  ∃ h' gs,jt [h,cT fs]=some (cT gs,[h',cT fs])/\Gw n h'/\gs.Pairwise Lc/\gs≠[]/\gs.length<=163:=by
 obtain⟨v,h1,e1,a1,a2,H1⟩:=dB (n:=n+9) (m:=3) H (by lia) (by lia);obtain⟨m,hm⟩:∃ m:Int,m=1+v:=⟨_,rfl⟩;obtain⟨D',lp,h4,made,o3,o4,o5,o6,o7,o8,rfl,H4,g4⟩:=nj (tg:=gN 3) (b:=lD) (xs:=bw 0 m.toNat) (fun i D=>∃ h made o3 o4 o5 o6 o7 o8,D=F8 h fs made o3 o4 o5 o6 o7 o8/\Gw (n+9 - 2 * i) h/\JT (160+i) made) (D:=F8 h1 fs fs none none none none none none) ⟨h1,fs,none,none,none,none,none,none,rfl,H1,g⟩
  (fun i x D hx hI=>by
   obtain⟨h,made,o3,o4,o5,o6,o7,o8,rfl,HH,g⟩:=hI;have hi:i<m.toNat:=by
    have:=(ZE.mp hx).1
    rwa [bw,Z3,Y2] at this
   obtain⟨h',FC,p4,p5,p6,p7,p8,e,H',g'⟩:=CF (n:=n+9 - 2 * (i+1)) (fs:=fs) (o3:=some (.im x)) (o4:=o4) (o5:=o5) (o6:=o6) (o7:=o7) (o8:=o8) (HH.mono (by lia)) g (by lia);exact⟨F8 h fs made (some<|.im x) o4 o5 o6 o7 o8,.nx,_,rfl,e,.inl rfl,h',FC,_,_,_,_,_,_,rfl,H',g'⟩)
 have lr:(bw 0 m.toNat).length=m.toNat:=by rw[bw,Z3,Y2]
 rw[lr] at H4 g4;have gl:=g4.len;obtain⟨gs,pm,es,rs⟩:=f9 g4.nd (by lia);refine⟨h4,gs,?_,H4.mono (by lia),ji.mp rs,fun z=>?_,by rw[pm.length_eq];lia⟩
 ·obtain⟨q,rfl⟩:=H.lst;obtain⟨q1,rfl⟩:=H1.lst;obtain⟨q4,rfl⟩:=H4.lst;have sm:gH m:=⟨by lia,by lia⟩;have r1:iR1 (aa (oV<|ae vAdd (oV<|eC<|.int 1)<|oV<|ao 2 G.aX<|aa (oSl 0)<|aa (oV<|eC<|.int 3) aNil) aNil) (F8 (.lst q) fs fs none none none none none none)=some ((bw 0 m.toNat,none),F8 (.lst q1) fs fs none none none none none none):=by
   rw[hm] at sm ⊢;exact Oy (a_ (v_<|b_ rfl (v_<|d_ (os:=[.sl 0,.vl<|iI 3]) rfl rfl rfl e1 rfl) rfl rfl rfl) rfl) rfl sm
  unfold jt uF;exact cK (D:=F8 (.lst q4) fs made o3 o4 o5 o6 o7 o8) rfl (EJ (D1:=F8 (.lst q) fs fs none none none none none none) (bj (E9 (a_ rfl rfl) rfl rfl) (Gd rfl) rfl)<|EJ (ie r1 lp rfl)<|bR<|jh<|jg rfl es) rfl
 ·subst z;have:=pm.length_eq;have h1:=YS.mpr g4.ne;simp at this;lia
theorem CH{bs:List Ce}(B:Kw bs)(pm:fs.Perm (cells bs))(rs:be fs):∃ o,fs[0]?=some o/\o∈bs:=by
 cases fs with
 | nil=>
  have h1:=pm.length_eq;rw[eu] at h1;have:=YS.mpr B.ne;simp at h1;lia
 | cons o r=>
  refine⟨o,rfl,?_⟩;obtain⟨b,hb,k,hk,e⟩:=sQ.mp (pm.mem_iff.mp<|.head _);have HZ:b∈o::r:=pm.mem_iff.mpr (sQ.mpr ⟨b,hb,0,by decide,rfl⟩);by_cases z:b=o
  ·rw[<- z];exact hb
  ·have hr:b∈r:=(ZU.mp HZ).resolve_left z;unfold be at rs;rw[ZH,Zq] at rs;have lt:=Oz.mp (rs.1 _<|X8 hr);have f:=dA.mp (sO b hk);rw[<- e] at f;lia
end G
namespace G
section
variable{α:Type}[DecidableEq α]
def Qt(f:α->α)(s:α):Nat->α
 | 0=>s
 | n+1=>f (Qt f s n)
variable{f g:α->α}{X:List α}
end
def GT(bs:List Ce):List (Ce×Nat):=bs.flatMap fun b=>[(b,0),(b,1),(b,2),(b,3)]
end G
namespace G
open PySem L2
variable{cs:List (Int×Int)}
def wk(T:List Ed)(o:Ce)(n:Nat):List Ce:=(range n).map fun i=>pc (Qt (nx T) (o,0) i)
theorem CI(l:List Ce):ck (l.map cM) (l.map cM)=l.map fun c=>.tup [cM c,cM c]:=by
 induction l with
 | nil=>rfl
 | cons d r ih=>rw[ZH,ck,ih];rfl
theorem CJ(l:List Ce):bls (l.map fun _=>Im.bl true)=some (l.map fun _=>true):=by
 induction l with
 | nil=>rfl
 | cons d r ih=>rw[ZH,bls,ih];rfl
theorem CK(l:List Ce):((l.map fun _=>true).all id)=true:=by
 induction l with
 | nil=>rfl
 | cons d r ih=>rw[ZH,List.all_cons,ih];rfl
theorem uT(n:Nat){l:List Ce}(hl:l.length<=1000):bz (n+3) [cT l,cT l]=some (.im<|.bl true,[cT l,cT l]):=by
 have cc:aP 2 [] (iZ<|aa (oSl 0)<|aa (oSl 1) aNil) (gT 2<|aJ (gN 0)<|aJ (gN 1) gNil') kYes (G.kK<|bz<|n+2) [some (cT l),some<|cT l]=some (.lst<|l.map fun _=>.bl true,[some (cT l),some<|cT l]):=by
  refine (ft (xs:=l.map fun c=>.tup [cM c,cM c]) (o:=none) (D1:=[some (cT l),some<|cT l]) ?_ (i6 _ (fun _=>.bl true) l (fun c hc=>?_) (by lia))).trans rfl
  ·show some ((ck (l.map cM)<|l.map cM,none),_)=_;rw[CI]
  ·have s:=Cr n c;refine⟨[some (.im<|cM c),some<|.im<|cM c],_,[some (.im<|cM c),some<|.im<|cM c],rfl,rfl,?_,rfl⟩;exact d_ rfl rfl rfl s rfl
 have b:=CJ l;have a:=CK l;rw[bz];unfold kL;refine dy [some (cT l),some<|cT l] rfl ?_ rfl;refine kl ?_;refine (gU (D1:=[some (cT l),some<|cT l]) rfl).trans ?_;refine (bG (D1:=[some (cT l),some<|cT l]) ?_).trans ?_
 ·have q:=nM (l.length:Int) (l.length:Int);rw[Zu rfl] at q;exact cq (nN rfl<|FN<|b_ (v_<|E9 rfl rfl<|Nh l) (v_<|E9 rfl rfl<|Nh l) rfl rfl q) rfl
 ·refine bR ?_;have hv:vAll [.lst (l.map fun _=>.bl true)]=some (.im<|.bl true):=by
   show (bls<|l.map fun _=>.bl true).map (fun bs=>Vl.im<|.bl<|bs.all id)=_;rw[b];show some (Vl.im<|.bl<|(l.map fun _=>true).all id)=_;rw[a]
  exact E9 (a_ (v_ cc) rfl) rfl hv
def ab(i:Int):Int:=if i<0 then -i else i
def iw(ds:List Im):Bool:=(ds.zip<|ds.drop 1).all fun p=>u_ p.1 p.2
theorem uU(a b:Int×Int):bY 6 (cM a) (cM b)=true:=rfl
def JJ:Im->Bool
 | .int i=>decide (0<=i) && decide (i<31)
 | _=>false
theorem CL{a b c:Int×Int}(h1:u_ (cM a) (cM b)=true)(h2:u_ (cM b) (cM c)=true):u_ (cM a) (cM c)=true:=kw (uU a b) (uU b c) h1 h2
theorem uV:∀ {cs:List (Int×Int)},iw (cs.map cM)=true->Up cs
 | [],_=>List.Pairwise.nil
 | [a],_=>Zw _ _
 | a::b::r,h=>by
  have h':(u_ (cM a) (cM b) && iw ((b::r).map cM))=true:=h;rw[ZQ] at h';have ih:=uV h'.2;refine Zq.mpr ⟨fun c hc=>?_,ih⟩;rcases ZU.mp hc with rfl | hc
  ·exact h'.1
  ·exact CL h'.1 ((Zq.mp ih).1 c hc)
theorem uW:∀ {cs:List (Int×Int)},Up cs->iw (cs.map cM)=true
 | [],_=>rfl
 | [a],_=>rfl
 | a::b::r,h=>by
  have h':=Zq.mp h;show (u_ (cM a) (cM b) && iw ((b::r).map cM))=true;rw[h'.1 b (.head _),uW h'.2];rfl
theorem CO(h:Up cs):cs.Nodup:=h.imp fun {a b} e z=>by rw[z,nq] at e;cases e
theorem uX(cs:List (Int×Int)):∃ dc:List (Int×Int),bA (cs.map kM)=dc.map kM/\dc.Nodup/\∀ c,c∈dc↔c∈cs:=by
 have hm:=fun x=>Bl (ks:=cs.map kM) (x:=x);have nd:=Bn (cs.map kM);have key:∀ l:List (List Im),(∀ x∈l,x∈cs.map kM)->l=(l.map fun x=>uC<|.tup x).map kM:=fun l=>by
  induction l with
  | nil=>intro _;rfl
  | cons x l ih=>
   intro h;obtain⟨c,_,rfl⟩:=Ze.mp (h x<|.head _);rw[ZH,ZH,<- ih fun y hy=>h y<|.tail _ hy];rfl
 have e:=key _ fun x hx=>(hm x).mp hx;refine⟨_,e,?_,fun c=>?_⟩
 ·rw[e] at nd;exact (XS.mp nd).imp fun {a b} h z=>h (by rw[z])
 ·have h1:kM c∈bA (cs.map kM)↔kM c∈cs.map kM:=hm (kM c);rw[e] at h1;have h2:∀ l:List (Int×Int),kM c∈l.map kM↔c∈l:=fun l=>by
   constructor
   ·intro h;obtain⟨d,hd,hh⟩:=Ze.mp h;rw[<- nF hh];exact hd
   ·exact fun h=>X8 h
  rw[h2,h2] at h1;exact h1
theorem oY:∀ cs:List (Int×Int),Im.keys 8 (cs.map cM)=true
 | []=>rfl
 | c::r=>by rw[ZH,Im.keys,oY r];rfl
theorem CP(hl:cs.length<=290):kZ (cs.map kM)=true/\jb ((bA<|cs.map kM).map .tup)=true/\br (cs.map cM) (bL u_<|(bA<|cs.map kM).map .tup)=iw (cs.map cM)/\Im.pls 8 (bL u_<|(bA<|cs.map kM).map .tup)=true:=by
 obtain⟨dc,e,nd,hm⟩:=uX cs;have hlen:dc.length<=cs.length:=kS nd fun x hx=>(hm x).mp hx;have e2:(dc.map kM).map Im.tup=dc.map cM:=by rw[Yw];rfl
 obtain⟨es,s1,s2,s3⟩:=uh nd (by lia);rw[e,e2,s1];refine⟨ug.mpr ⟨fun k hk=>?_,by rw[e,Z3];lia⟩,kF.mpr (kJ nd (by lia)),?_,kG es⟩
 ·obtain⟨c,_,rfl⟩:=Ze.mp hk;exact Al c
 ·rw[lM (oY cs) (oY es)];cases ha:iw (cs.map cM) with
  | true=>
   have up:=uV ha;have pm:cs.Perm dc:=(Yp (CO up) nd).mpr fun c=>(hm c).symm;have o:=kJ nd (by lia);have:=kD o.ord (pm.map cM) (XS.mpr up);rw[s1] at this;exact Zu this
  | false=>
   refine Zl fun z=>?_;have:=uW s3;rw[<- z,ha] at this;cases this
end G
namespace HT
def ev{α:Type}:List α->List α
 | []=>[]
 | [a]=>[a]
 | a::_::r=>a::ev r
open PySem PySem.Spec PyProof.Rows
section
variable{prog:Program}{w:World}{A:Around}{E:Value->Shared->Prop}{s:Shared}
end
end HT
namespace L2
open PySem PySem.Spec PyProof.Rows
section
variable{X:Cx}
end
end L2
namespace G
open PySem L2
variable{gb ga:M Vl}{d:Im}{bs:List Ce}{D1 D:SD}
theorem uY{α:Type}[DecidableEq α]:∀ {l m:List α},l.Nodup->(∀ x∈l,x∈m)->l.length<=m.length
 | [],_,_,_=>Yl _
 | x::l,m,nd,h=>by
  have nx:=Y7.mp nd;have:=uY (m:=m.erase x) nx.2 fun y hy=>(Wt (fun e=>nx.1 (by rw[<- e];exact hy))).mpr (h y<|.tail _ hy);have e:=V6 (h x<|.head _);have p:=VR (h x<|.head _);rw[ZD];lia
theorem SE{g:M (List Opd)}{os:List Opd}{cs:List ON}(hl:cs.length<=290)(e1:g D=some (os,D1))(e2:cj D1 os=some [cT cs]):∃ es:List ON,k7 g D=some (cL es,D1)/\es.length<=cs.length/\Up es/\∀ x,x∈es↔x∈cs:=by
 obtain⟨dc,e,nd,hm⟩:=uX cs;have hlen:dc.length<=cs.length:=uY nd fun x hx=>(hm x).mp hx;have e3:(dc.map kM).map Im.tup=dc.map cM:=by rw[Yw];rfl
 obtain⟨es,s1,s2,s3⟩:=uh nd (by lia);obtain⟨q1,q2,_,_⟩:=CP hl;refine⟨es,?_,by rw[s2.length_eq];exact hlen,s3,fun x=>s2.mem_iff.trans<|hm x⟩;unfold k7;rw[e1];show (cj D1 os).bind _=_;rw[e2];show (Gy<|cs.map cM).bind _=_;rw[show cs.map cM=(cs.map kM).map .tup by rw[Yw];rfl,uf];refine (ZZ ⟨q1,q2⟩).trans ?_;rw[e,e3,s1]
theorem jw{g h:MS}{R:SD->Prop}(e:g D=some (.nx,D1))(k:∃ D2,h D1=some (.nx,D2)/\R D2):∃ D2,am g h D=some (.nx,D2)/\R D2:=
 have ⟨D2,e2,r⟩:=k
 ⟨D2,EJ e e2,r⟩
section
variable{f:Addr}{o0 o1 o2 o3 o4 o5 o6 o7 o8 o9 S6:Option Vl}
end
theorem CQ(hl:bs.length<=200)(nd:(cells bs).Nodup):∃ fs,dS [cL bs]=some (cT fs,[cL bs])/\fs.Perm (cells bs)/\be fs:=by
 have cl:=eu bs;obtain⟨o2,lp⟩:=nO bs [] (some<|.jk) none (by simp;lia);obtain⟨fs,pm,es,rs⟩:=f9 nd (by lia);refine⟨fs,?_,pm,rs⟩;unfold dS nL;refine cK (D:=[some (cL bs),some<|cL<|cells bs,o2]) rfl (EJ (D1:=[some (cL bs),some<|cL<|cells [],none]) rfl<|EJ (ie (o:=some (0,cL bs)) (D1:=[some .jk,some<|cL<|cells [],none]) rfl lp rfl)<|bR<|jh<|jg rfl es) rfl
def Nr(bs:List Ce):Prop:=∀ a∈bs,∀ b∈bs,(a.1 - b.1) % 2=0/\(a.2 - b.2) % 2=0
def IV(t:Int)(bs:List Ce):List Ce:=bs++(bs.filter fun c=>decide (c.2+t<=29)).map fun c=>(c.1,c.2+t)
theorem CS{t:Int}(nd:bs.Nodup)(pr:Nr bs)(ht:∀ a∈bs,∀ b∈bs,a.2+2<=b.2+t):(IV t bs).Nodup/\(cells<|IV t bs).Nodup:=by
 have sub:∀ x∈(bs.filter fun c=>decide (c.2+t<=29)).map (fun c:Ce=>(c.1,c.2+t)),∃ c∈bs,x=(c.1,c.2+t):=fun x hx=>by
  obtain⟨c,hc,rfl⟩:=Ze.mp hx;exact⟨c,(Ya.mp hc).1,rfl⟩
 have GH:((bs.filter fun c=>decide (c.2+t<=29)).map (fun c:Ce=>(c.1,c.2+t))).Nodup:=by
  refine XS.mpr ((nd.sublist Yn).imp fun {a b} h e=>h ?_);have e1:=congrArg Prod.fst e;have e2:=congrArg Prod.snd e;simp only at e1 e2;exact Xn e1 (by lia)
 have OW:Nr ((bs.filter fun c=>decide (c.2+t<=29)).map (fun c:Ce=>(c.1,c.2+t))):=fun a ha b hb=>by
  obtain⟨c,hc,rfl⟩:=sub a ha;obtain⟨d,hd,rfl⟩:=sub b hb;have:=pr c hc d hd;exact⟨this.1,by show (c.2+t - (d.2+t)) % 2=0;lia⟩
 have cn:∀ {l:List Ce},l.Nodup->Nr l->(cells l).Nodup:=fun nd p=>kQ nd (fun b _=>kP b) fun a ha b hb x h1 h2=>by
  have:=p a ha b hb;have:=dA.mp h1;have:=dA.mp h2;exact Xn (by lia) (by lia)
 constructor
 ·refine ZK.mpr ⟨nd,GH,fun a ha b hb e=>?_⟩;obtain⟨c,hc,rfl⟩:=sub b hb;have h1:=ht a ha c hc;have h2:=congrArg Prod.snd e;simp only at h2;lia
 ·unfold IV cells;rw[List.flatMap_append];refine ZK.mpr ⟨cn nd pr,cn GH OW,fun x hx y hy e=>?_⟩;subst e;obtain⟨a,ha,h1⟩:=Y8.mp hx;obtain⟨b,hb,h2⟩:=Y8.mp hy;obtain⟨c,hc,rfl⟩:=sub b hb;have h3:=ht a ha c hc;have h4:=dA.mp h1;have h5:=dA.mp h2;simp only at h5;lia
theorem CT(ne:bs≠[]):∃ M,vMaxL [.lst (bs.map fun c=>.int c.2)]=some (iI M)/\∀ c∈bs,c.2<=M:=by
 obtain⟨M,e⟩:∃ M,kn (bs.map Prod.snd)=some M:=by
  cases bs with
  | nil=>exact absurd rfl ne
  | cons b r=>exact⟨_,rfl⟩
 refine⟨M,?_,fun c hc=>(rO e).2.2 _ (X8 hc)⟩;show (E4<|bs.map fun c=>Im.int c.2).bind _=_;rw[show (bs.map fun c=>Im.int c.2)=(bs.map Prod.snd).map .int by rw[Yw];rfl,rn];show (kn<|bs.map Prod.snd).map _=_;rw[e];rfl
theorem CU(ne:bs≠[]):∃ M,vMinI [.lst (bs.map fun c=>.int c.2)]=some (iI M)/\∀ c∈bs,M<=c.2:=by
 obtain⟨M,e⟩:∃ M,ls (bs.map Prod.snd)=some M:=by
  cases bs with
  | nil=>exact absurd rfl ne
  | cons b r=>exact⟨_,rfl⟩
 refine⟨M,?_,fun c hc=>(ux e).2.2 _ (X8 hc)⟩;show (E4<|bs.map fun c=>Im.int c.2).bind _=_;rw[show (bs.map fun c=>Im.int c.2)=(bs.map Prod.snd).map .int by rw[Yw];rfl,rn];show (ls<|bs.map Prod.snd).map _=_;rw[e];rfl
theorem CV{y:Int}(hy:0<=y)(ne:bs≠[])(nd:bs.Nodup)(pr:Nr bs)(hl:bs.length<=20):
  ∃ ms,ir [cL bs,iI y]=some (cL ms,[cL bs,iI y])/\ms.length<=40/\ms≠[]/\(cells ms).Nodup:=by
 obtain⟨mx,e1,hM⟩:=CT ne;obtain⟨m,e2,hm⟩:=CU ne;obtain⟨t,et⟩:∃ t:Int,t=mx - m+2:=⟨_,rfl⟩;obtain⟨n1,n2⟩:=CS (t:=t+y) nd pr fun a ha b hb=>by have:=hM a ha;have:=hm b hb;lia
 have fl:(bs.filter fun c=>decide (c.2+(t+y)<=29)).length<=bs.length:=Xs _ _;have ml:(IV (t+y) bs).length<=40:=by unfold IV;rw[ZI,Z3];lia
 obtain⟨ms,pm,es,rs⟩:=f9 n1 (by lia);have cp:∀ e:M Vl,(∀ c:Ce,e [some (.im<|cM c)]=some (iI c.2,[some (.im<|cM c)]))->aP 1 [] (ba<|oSl 0) (gN 0) kYes e [some (cL bs),some<|iI y,none]=some (.lst<|bs.map fun c=>.int c.2,[some (cL bs),some<|iI y,none]):=fun e he=>by
  refine Ox (xs:=bs.map cM) (o:=some (0,cL bs)) (D1:=[some .jk,some<|iI y,none]) rfl (i6 _ (fun c:Ce=>.int c.2) bs (fun c hc=>?_) (by lia)) rfl;exact⟨[some (.im<|cM c)],_,[some (.im<|cM c)],rfl,rfl,he c,rfl⟩
 have a1:∀ c:Ce,vIx (.im<|cM c) (iI 1)=some (iI c.2):=fun _=>rfl;have c1:=cp G.oM fun c=>b_ rfl rfl rfl rfl (a1 c);have c2:=cp G.oN fun c=>b_ rfl rfl rfl rfl (a1 c);have s1:aw 2 (ae vAdd (oV<|ae vSub (oV<|ak vMaxL<|aa (oV<|aP 1 [] (ba<|oSl 0) (gN 0) kYes G.oM) aNil)<|oV<|ak vMinI<|aa (oV<|aP 1 [] (ba<|oSl 0) (gN 0) kYes G.oN) aNil)<|oV<|eC<|.int 2) [some (cL bs),some<|iI y,none]=some (.nx,[some (cL bs),some<|iI y,some<|iI t]):=by
  rw[et];exact bj (b_ (v_<|b_ (v_<|E9 (a_ (v_ c1) rfl) rfl e1) (v_<|E9 (a_ (v_ c2) rfl) rfl e2) rfl rfl rfl) rfl rfl rfl rfl) (Gd rfl) rfl
 have c3:aP 2 [2,1] (ba<|oSl 0) (gT 2<|aJ (gN 0)<|aJ (gN 1) gNil') G.oP G.oO [some (cL bs),some<|iI y,some<|iI t]=some (cL<|(bs.filter fun c=>decide (c.2+(t+y)<=29)).map fun c=>(c.1,c.2+(t+y)),[some (cL bs),some<|iI y,some<|iI t]):=by
  have k:=fY (own:=2) (tg:=gT 2 (aJ (gN 0)<|aJ (gN 1) gNil')) (c:=G.oP) (e:=G.oO) (C:=[some (iI t),some<|iI y]) cM (fun c=>decide (c.2+(t+y)<=29)) (fun c=>cM (c.1,c.2+(t+y))) bs [] (fun c hc=>?_) (by show 0+_<=_;lia)
  ·rw[Wr,show ((bs.filter fun c=>decide (c.2+(t+y)<=29)).map fun c:Ce=>cM (c.1,c.2+(t+y)))=((bs.filter fun c=>decide (c.2+(t+y)<=29)).map fun c=>(c.1,c.2+(t+y))).map cM by rw[Yw];rfl] at k;exact Ox (xs:=bs.map cM) (o:=some (0,cL bs)) (D1:=[some .jk,some<|iI y,some<|iI t]) rfl k rfl
  ·refine⟨[some (iI c.1),some<|iI c.2,some<|iI t,some<|iI y],[some (iI c.1),some<|iI c.2,some<|iI t,some<|iI y],rfl,?_,fun _=>rfl,fun _=>⟨[some (iI c.1),some<|iI c.2,some<|iI t,some<|iI y],?_,rfl⟩⟩
   ·rw[<- Int.add_assoc];exact FN (b_ (v_<|b_ (v_<|b_ rfl rfl rfl rfl rfl) rfl rfl rfl rfl) rfl rfl rfl rfl)
   ·rw[<- Int.add_assoc];exact K8 (a_ rfl<|a_ (v_<|b_ (v_<|b_ rfl rfl rfl rfl rfl) rfl rfl rfl rfl) rfl) rfl (Zs rfl) rfl
 have ad:vAdd (cL bs) (cL<|(bs.filter fun c=>decide (c.2+(t+y)<=29)).map fun c=>(c.1,c.2+(t+y)))=some (cL<|IV (t+y) bs):=by
  rw[show cL (IV (t+y) bs)=.lst (bs.map cM++((bs.filter fun c=>decide (c.2+(t+y)<=29)).map fun c=>(c.1,c.2+(t+y))).map cM) by rw[cL,IV,YI]];exact ZZ (by rw[Z3,Z3,Z3];lia)
 have hv:z_ [cL (IV (t+y) bs)]=some (cL ms):=by
  rw[sR,es];intro d hd;obtain⟨c,_,rfl⟩:=Ze.mp hd;exact⟨_,rfl⟩
 refine⟨ms,?_,by rw[pm.length_eq];exact ml,fun z=>?_,(pm.flatMap_right ar).nodup_iff.mpr n2⟩
 ·unfold ir uG;exact cK (D:=[some (cL bs),some<|iI y,some<|iI t]) rfl (EJ s1<|bR<|E9 (a_ (v_<|b_ rfl (v_ c3) rfl rfl ad) rfl) rfl hv) rfl
 ·subst z;have h1:=pm.length_eq;have:=YS.mpr ne;unfold IV at h1;simp at h1;lia
def FG(d:Im):Prop:=∃ gs:List Ce,d=.tup (gs.map cM)/\gs.Pairwise Lc/\gs≠[]/\gs.length<=200
theorem uZ{l1 l2:List Ce}(h1:l1.Pairwise Lc)(h2:l2.Pairwise Lc)(p:l1.Perm l2):l1=l2:=List.Perm.eq_of_pairwise (le:=Lc) (fun a b _ _ x y=>by unfold Lc at x y;exact Xn (by lia) (by lia)) h1 h2 p
theorem u0:bz 6 [dX,dX]=some (bV true,[dX,dX]):=by rfl
abbrev wD(o0 o1 o2 o3 o4 o5 o6:Option Vl):SD:=[o0,o1,o2,o3,o4,o5,o6]
section
variable{o0 o1 o2 o3 o4 o5 o6:Option Vl}
theorem u5{gs:List Ce}(hl:gs.length<=900)(e1:dk [cT gs]=some (.im d,[cT gs]))(e2:bz 6 [.im d,.im d]=some (bV true,[.im d,.im d])):
  sIf (aT (kB<|ae vLe (oV<|ak vLen<|aa (oSl 5) aNil)<|oV<|eC<|.int 200)<|aT (bx<|oV<|ao 1 G.dF<|aa (oV<|ak vList<|aa (oSl 5) aNil) aNil)<|cS<|bx<|oV<|ao 2 (G.bz 6)<|aa (oV<|ao 1 G.dk<|aa (oSl 5) aNil)<|aa (oSl 6) aNil) (aI<|eC<|.bl false) sNil (wD o0 o1 o2 o3 o4 (some<|cT gs)<|some<|.im d)=some (.nx,wD o0 o1 o2 o3 o4 (some<|cT gs)<|some<|.im d):=by
 obtain⟨D,hD⟩:∃ D,D=wD o0 o1 o2 o3 o4 (some<|cT gs) (some<|.im d):=⟨_,rfl⟩;obtain⟨y1,n1⟩:∃ y,kB (ae vLe (oV<|ak vLen<|aa (oSl 5) aNil)<|oV<|eC<|.int 200) D=some (y,D):=by
  rw[hD];exact⟨_,FN<|b_ (v_<|E9 (a_ rfl rfl) rfl<|Nh gs) rfl rfl rfl rfl⟩
 obtain⟨b,e⟩:=uS hl;have n2:bx (oV<|ao 1 G.dF<|aa (oV<|ak vList<|aa (oSl 5) aNil) aNil) D=some (b,D):=by
  rw[hD];exact K7 (v_<|d_ (os:=[.vl (cL gs)]) (a_ (v_<|E9 (a_ rfl rfl) rfl rfl) rfl) rfl rfl e rfl) rfl rfl
 have n3:cS (bx<|oV<|ao 2 (G.bz 6)<|aa (oV<|ao 1 G.dk<|aa (oSl 5) aNil)<|aa (oSl 6) aNil) D=some (false,D):=by
  rw[hD];exact P4 (K7 (v_<|d_ (os:=[.vl (.im d),.sl 6]) (a_ (v_<|d_ (os:=[.sl 5]) rfl rfl rfl e1 rfl)<|a_ rfl rfl) rfl rfl e2 rfl) rfl rfl)
 rw[<- hD];cases y1 with
 | false=>exact cq (ig n1) rfl
 | true=>
  cases b with
  | false=>exact cq (cZ n1<|ig n2) rfl
  | true=>exact cq (cZ n1<|cZ n2 n3) rfl
theorem CW(e:ga D=some (.im d,D1))(t:dw (.im d)=some true):ip ga gb D=some (.im d,D1):=by
 unfold ip;rw[e];show (dw<|.im d).bind _=_;rw[t];rfl
theorem CY{r:Option (Vl×SD)}(e:ga D=some (.im d,D1))(t:dw (.im d)=some false)(h:gb D1=r):ip ga gb D=r:=by
 unfold ip;rw[e];show (dw<|.im d).bind _=_;rw[t];exact h
theorem CZ(h:FG d):∃ p6,ju (wD o0 o1 o2 o3 o4 (some<|.im d) o6)=some (.nx,wD o0 o1 o2 o3 o4 (some<|.im d) p6):=by
 obtain⟨gs,rfl,hp,ne,hl⟩:=h;obtain⟨o,ho⟩:∃ o,gs[0]?=some o:=by
  cases gs with
  | nil=>exact absurd rfl ne
  | cons b r=>exact⟨b,rfl⟩
 unfold ju;rcases Cy hp ho (by lia) with ⟨c1,S,c2,c3,c4,c5⟩ | ⟨c1,c2⟩
 ·obtain⟨ms,e,p,r⟩:=uJ ho (by lia) c1;cases uZ (ji.mp r) c4 (p.trans c3);have hs:S.length<=1000:=by have:=p.length_eq;have:=lF o gs;lia
  have tr:dw (cT S)=some true:=by
   cases S with
   | nil=>exact absurd rfl c5
   | cons b r=>rfl
  exact⟨_,EJ (D1:=wD o0 o1 o2 o3 o4 (some<|cT gs) (some<|cT S)) (bj (CW (d_ (os:=[.sl 5]) rfl rfl rfl c2 rfl) tr) (Gd rfl) rfl) (u5 (by lia) e<|uT 3 hs)⟩
 ·exact⟨_,EJ (D1:=wD o0 o1 o2 o3 o4 (some<|cT gs) (some dX)) (bj (CY (d_ (os:=[.sl 5]) rfl rfl rfl c2 rfl) rfl<|K8 (a_ rfl<|a_ rfl rfl) rfl (Zs rfl) rfl) (Gd rfl) rfl) (u5 (by lia) (uK ho (by lia) c1) u0)⟩
theorem u6:∀ (xs:List Im) (o5 o6:Option Vl),(∀ x∈xs,FG x)->∃ p5 p6,bo (gN 5) ju xs (wD o0 o1 o2 o3 o4 o5 o6)=some (.nx,wD o0 o1 o2 o3 o4 p5 p6)
 | [],o5,o6,_=>⟨o5,o6,rfl⟩
 | d::xs,o5,o6,h=>by
  obtain⟨p6,e⟩:=CZ (o0:=o0) (o1:=o1) (o2:=o2) (o3:=o3) (o4:=o4) (o6:=o6) (h d<|.head _);obtain⟨a,b,ih⟩:=u6 xs (some<|.im d) p6 fun x hx=>h x (.tail _ hx);refine⟨a,b,?_⟩;rw[bo];show (ju<|wD o0 o1 o2 o3 o4 (some<|.im d) o6).bind _=_;rw[e];exact ih
end
theorem u7{own:Nat}{tg:MG}{c:M Bool}{e:M Vl}(I:Nat->SD->Prop)(R:Im->Prop)(h:∀ n C x,I (n+1) C->∃ D1 D2 d D3,tg (.im x) (List.replicate own none++C)=some D1/\c D1=some (true,D2)/\e D2=some (.im d,D3)/\R d/\I n (D3.drop own)):
  ∀ (xs acc:List Im) (C:SD),I xs.length C->acc.length+xs.length<=100000->∃ ds C',bP own tg c e xs acc C=some (acc++ds,C')/\ds.length=xs.length/\(∀ d∈ds,R d)/\I 0 C'
 | [],acc,C,hI,_=>⟨[],C,by rw[ZT];rfl,rfl,(fun _ z=>nomatch z),hI⟩
 | x::r,acc,C,hI,hl=>by
  obtain⟨D1,D2,d,D3,h1,h2,h3,h4,h5⟩:=h r.length C x hI;rw[ZD] at hl;obtain⟨ds,C',e1,e2,e3,e4⟩:=u7 I R h r (acc++[d]) (D3.drop own) h5 (by rw[ZI];show acc.length+1+r.length<=_;lia);refine⟨d::ds,C',?_,by rw[ZD,ZD,e2],fun y hy=>?_,e4⟩
  ·rw[bP,h1,YF,h2,YF,ZZ rfl,h3,YF];dsimp only;rw[ZZ (by lia),e1,Z7];rfl
  ·rcases ZU.mp hy with z | z
   ·rw[z];exact h4
   ·exact e3 y z
theorem Da{ns:List Int}{k:Int}{o2 o3 o4 o5 o6:Option Vl}(hk:0<=k)(G7:k<1000):
  ∃ D2,lE (wD (some<|.fz<|ns.map .int) (some<|iI k) o2 o3 o4 o5 o6)=some (.nx,D2)/\∃ p2 p3 p4 p5 p6,D2=wD (some<|.fz<|ns.map .int) (some<|iI k) p2 p3 p4 p5 p6:=by
 obtain⟨h,e1,H⟩:=As (ns:=ns) hk G7;obtain⟨h1,bs,e2,H1,B,rb⟩:=Au (n:=999000) H;obtain⟨fs,e3,pm,rs⟩:=Av B;obtain⟨o,ho,SF⟩:=CH B pm rs;have bl:=B.len;have cl:=eu bs;have fl:=pm.length_eq;have pb:=oo pm B.nd (fun b hb=>B.par b hb o SF);obtain⟨ms,e4,p4,r4⟩:=uJ ho (by lia) (by rw[fl,cl,pb.length_eq]);cases uZ (ji.mp r4) (ji.mp rb) (p4.trans pb);have mf:JT 160 fs:=⟨pm.nodup_iff.mpr B.G',(fun z=>by rw[z] at ho;cases ho),by lia⟩;obtain⟨q,rfl⟩:=H.lst;obtain⟨q1,rfl⟩:=H1.lst;unfold lE;refine jw (D1:=wD (some<|.fz<|ns.map .int) (some<|iI k) (some<|.lst q) o3 o4 o5 o6) (bj (d_ (os:=[.sl 0,.sl 1]) rfl rfl rfl e1 rfl) (Gd rfl) rfl) ?_;generalize some (Vl.fz<|ns.map .int)=o0;generalize some (iI k)=o1;refine jw (D1:=wD o0 o1 (some<|.lst q1) (some<|cL bs) o4 o5 o6) (bj (d_ (os:=[.sl 2]) rfl rfl rfl e2 rfl) (Gd rfl) rfl) ?_;refine jw (D1:=wD o0 o1 (some<|.lst q1) (some<|cL bs) o4 o5 o6) (cq (P4 (K7 (v_ (d_ (os:=[.vl (cT bs),.vl<|cT bs]) (a_ (v_<|d_ (os:=[.vl (cT fs)]) (a_ (v_<|d_ (os:=[.sl 3]) rfl rfl rfl e3 rfl) rfl) rfl rfl e4 rfl)<|a_ (v_<|E9 (a_ rfl rfl) rfl rfl) rfl) rfl rfl (uT 3 (by lia)) rfl)) rfl rfl)) rfl) ?_;obtain⟨ds,C',d1,d2,d3,h2,rfl,H2⟩:=u7 (own:=1) (tg:=gN 0) (c:=kYes) (e:=G.uH) (fun n C=>∃ h,C=[some h,some<|cL bs]/\Gw (998000+10 * n) h) FG (fun n C x hI=>by
  obtain⟨h,rfl,HH⟩:=hI;obtain⟨h',gs,eo,H',g1,g2,g3⟩:=CG (n:=998000+10 * n) (fs:=fs) HH mf;obtain⟨u,rfl⟩:=HH.lst;obtain⟨u',rfl⟩:=H'.lst;exact⟨[some (.im x),some<|.lst u,some<|cL bs],_,.tup<|gs.map cM,[some (.im x),some<|.lst u',some<|cL bs],rfl,rfl,d_ (os:=[.sl 1,.vl<|cT fs]) (a_ rfl<|a_ (v_<|d_ (os:=[.sl 2]) rfl rfl rfl e3 rfl) rfl) rfl rfl eo rfl,⟨gs,rfl,g1,g2,by lia⟩,.lst u',rfl,H'⟩) (bw 0 3) [] [some (.lst q1),some<|cL bs] ⟨.lst q1,rfl,H1.mono (by decide)⟩ (by decide)
 obtain⟨q2,rfl⟩:=H2.lst;refine jw (D1:=wD o0 o1 (some<|.lst q2) (some<|cL bs) (some<|.lst ds) o5 o6) (bj (Ox (xs:=bw 0 3) (o:=none) (D1:=wD o0 o1 (some<|.lst q1) (some<|cL bs) o4 o5 o6) rfl d1 rfl) (Gd rfl) rfl) ?_;have hs:vSl (cL bs) none (some 20)=some (cL<|bs.take 20):=by
  show some (Vl.lst<|dv (bs.map cM) none<|some ((20:Nat):Int))=_;rw[rG,<- YJ]
 obtain⟨v,h3,e5,v0,v1,H3⟩:=dB (n:=997999) (m:=2) (H2.mono (by decide)) (by decide) (by decide);obtain⟨q3,rfl⟩:=H3.lst;have ts:(bs.take 20).Sublist bs:=XV _ _;obtain⟨mv,e6,l6,n6,c6⟩:=CV (bs:=bs.take 20) (y:=v) v0 (fun z=>by
  rcases List.take_eq_nil_iff.mp z with z | z
  ·cases z
  ·exact B.ne z) (B.nd.sublist ts) (fun a ha b hb=>B.par a (ts.subset ha) b<|ts.subset hb) (by rw[Zm];lia)
 obtain⟨gf,e7,p7,r7⟩:=CQ (by lia) c6;have gl:=p7.length_eq;rw[eu] at gl;have g5:ao 1 G.dS (aa (oV<|ao 2 G.ir<|aa (oV<|eSl (oSl 3) pNone<|i5<|eC<|.int 20)<|aa (oV<|ao 2 G.aX<|aa (oSl 2)<|aa (oV<|eC<|.int 2) aNil) aNil) aNil) (wD o0 o1 (some<|.lst q2) (some<|cL bs) (some<|.lst ds) o5 o6)=some (cT gf,wD o0 o1 (some<|.lst q3) (some<|cL bs) (some<|.lst ds) o5 o6):=
  d_ (os:=[.vl (cL mv)]) (a_ (v_<|d_ (os:=[.vl (cL<|bs.take 20),.vl<|iI v]) (a_ (v_<|P5 rfl rfl rfl rfl hs)<|a_ (v_<|d_ (os:=[.sl 2,.vl<|iI 2]) rfl rfl rfl e5 rfl) rfl) rfl rfl e6 rfl) rfl) rfl rfl e7 rfl;obtain⟨es,e8,l8,u8,m8⟩:=SE (cs:=gf) (os:=[.vl (cT gf)]) (by lia) (a_ (h:=aNil) (v_ g5) rfl) rfl;have fe:FG (.tup<|es.map cM):=by
  refine⟨es,rfl,ji.mp<|XS.mpr u8,fun z=>?_,by lia⟩;have hp:=YS.mpr n6;have hg:gf≠[]:=fun z=>by rw[z] at gl;simp at gl;lia
  obtain⟨x,hx⟩:=List.exists_mem_of_ne_nil _ hg;have:=(m8 x).mpr hx;rw[z] at this;cases this
 have J8:ds.length=3:=d2;refine jw (D1:=wD o0 o1 (some<|.lst q3) (some<|cL bs) (some<|.lst<|ds++[.tup (es.map cM)]) o5 o6) (Nf (Ng rfl rfl (a_ (v_<|jh e8) rfl) rfl rfl (P2 (by lia)) rfl)) ?_;obtain⟨p5,p6,lp⟩:=u6 (o0:=o0) (o1:=o1) (o2:=some (.lst q3)) (o3:=some (cL bs)) (o4:=some .jk) (ds++[.tup (es.map cM)]) o5 o6 (fun x hx=>by
  rcases Zx.mp hx with z | z
  ·exact d3 x z
  ·rw[Z1.mp z];exact fe)
 exact⟨_,ie (o:=some (4,.lst<|ds++[.tup (es.map cM)])) rfl lp rfl,_,_,_,_,_,rfl⟩
theorem Db(ns:List Int)(NP:ns.length<100000):∃ outs,jv [.fz (ns.map .int)]=some (.im<|.bl true,outs):=by
 obtain⟨n,hn,n0,n1⟩:∃ n:Int,ak vMax2 (aa (oV<|eC<|.int 1)<|aa (oV<|ak vMin2<|aa (oV<|eC<|.int 8)<|aa (oV<|ak vLen<|aa (oSl 0) aNil) aNil) aNil) (wD (some<|.fz<|ns.map .int) none none none none none none)=some (iI n,wD (some<|.fz<|ns.map .int) none none none none none none)/\0<=n/\n<=8:=by
  refine⟨_,E9 (a_ rfl<|a_ (v_<|E9 (a_ rfl<|a_ (v_<|E9 (a_ rfl rfl) rfl rfl) rfl) rfl rfl) rfl) rfl rfl,?_,?_⟩
  ·split<;>split<;>lia
  ·split<;>split<;>lia
 obtain⟨D',l1,k',o2,o3,o4,o5,o6,rfl⟩:=nj (tg:=gN 1) (b:=lE) (xs:=bw 0 n.toNat) (fun i D=>∃ o1 o2 o3 o4 o5 o6,D=wD (some<|.fz<|ns.map .int) o1 o2 o3 o4 o5 o6) (D:=wD (some<|.fz<|ns.map .int) none none none none none none)
  ⟨_,_,_,_,_,_,rfl⟩ (fun i x D hx hI=>by
   obtain⟨o1,o2,o3,o4,o5,o6,rfl⟩:=hI;obtain⟨hi,rfl⟩:=Bw hx;obtain⟨D2,e,p2,p3,p4,p5,p6,rfl⟩:=Da (ns:=ns) (k:=0+(i:Int)) (o2:=o2) (o3:=o3) (o4:=o4) (o5:=o5) (o6:=o6) (by lia) (by lia);exact⟨_,_,_,rfl,e,.inl rfl,_,p2,p3,p4,p5,p6,rfl⟩)
 have e5:=uK (fs:=[(5,5)]) (o:=(5,5)) rfl (by decide) (by decide);refine⟨_,cK (D:=wD (some<|.fz<|ns.map .int) k' o2 o3 o4 o5 o6) rfl ?_ rfl⟩;show oQ (wD (some<|.fz<|ns.map .int) none none none none none none)=_;unfold oQ;refine EJ (ie (o:=none) (Oy (a_ (v_ hn) rfl) rfl ⟨by lia,by lia⟩) l1 rfl) ?_;exact bR (d_ (os:=[.vl dX,.vl dX]) (a_ (v_<|d_ (os:=[.vl (cT [(5,5)])]) rfl rfl rfl e5 rfl)<|a_ rfl rfl) rfl rfl u0 rfl)
end G
namespace L2
open PySem
end L2
set_option maxHeartbeats 4000000
namespace K37
open PySem L2 PyProof.Rows
variable{l:PySem.W.OpenLaw}{f:Addr}{k:Nat}{A:Around}
def top(i:Nat):Stmt:=PySem.Challenge.pw_mowfloor_k37_blocks_cut.main.body.getD i (.Pass ⟨0,0,0,0⟩)
structure Txt(mg:Str->Option Value):Prop where
 GQ:mg "ValueError" = none
 JU:mg "all" = none
 Mu:mg "any" = none
 KH:mg "bool" = none
 HB:mg "int" = none
 q_:mg "isinstance" = none
 EC:mg "len" = none
 Ho:mg "list" = none
 IG:mg "max" = none
 IH:mg "min" = none
 FT:mg "range" = none
 Mv:mg "set" = none
 ED:mg "sorted" = none
 JV:mg "str" = none
 EK:mg "tuple" = none
 Mw:mg "zip" = none
 FI:∃ t,mg "SIDE" = some (.int 2 t)
theorem Dc:bootBuiltins "ValueError" = some (.type "ValueError"):=by decide +kernel
theorem u9:bootBuiltins "all" = some (.builtin "all"):=by decide +kernel
theorem De:bootBuiltins "any" = some (.builtin "any"):=by decide +kernel
theorem Df:bootBuiltins "bool" = some (.type "bool"):=by decide +kernel
theorem lG:bootBuiltins "int" = some (.type "int"):=by decide +kernel
theorem fF:bootBuiltins "isinstance" = some (.builtin "isinstance"):=by decide +kernel
theorem cw:bootBuiltins "len" = some (.builtin "len"):=by decide +kernel
theorem oZ:bootBuiltins "list" = some (.type "list"):=by decide +kernel
theorem pd:bootBuiltins "max" = some (.builtin "max"):=by decide +kernel
theorem pf:bootBuiltins "min" = some (.builtin "min"):=by decide +kernel
theorem iy:bootBuiltins "sorted" = some (.builtin "sorted"):=by decide +kernel
theorem va:bootBuiltins "str" = some (.type "str"):=by decide +kernel
theorem fG:bootBuiltins "tuple" = some (.type "tuple"):=by decide +kernel
theorem aV(hr:Ez k A):A.units+20<cLine:=by have:=hr.un;omega
theorem Dg(hr:Ez k A):A.units+30<cLine:=by have:=hr.un;omega
abbrev iz:Stmt:=top 1
abbrev Dh:List Str:=["things","found","thing"]
abbrev iA:Stmt:=top 7
abbrev Di:List Str:=["field","cell"]
abbrev dY:Stmt:=top 8
abbrev pg:List Str:=["field","found"]
abbrev jx:Stmt:=top 10
abbrev Dj:List Str:=["_law_script","_law_k"]
abbrev jy:Stmt:=top 11
abbrev Dk:List Str:=["_law_script","_law_k","_law_cell","_law_bound","_law_seed"]
abbrev gq:Stmt:=top 12
abbrev Dl:List Str:=["_law_hand_here","_law_many","_law_digit"]
abbrev iB:Stmt:=top 13
abbrev vb:List Str:=["_law_got","_law_due"]
abbrev jz:Stmt:=top 14
abbrev Dm:List Str:=["_law_hand_here","_law_many","_law_some","_law_turn","_law_row","_law_column","_law_down","_law_right","_law_one"]
abbrev iC:Stmt:=top 15
abbrev Do:List Str:=["_law_block","_law_row","_law_column"]
abbrev jA:Stmt:=top 16
abbrev Dp:List Str:=["_law_some","_law_cells","_law_block"]
abbrev fH:Stmt:=top 17
abbrev lH:List Str:=["_law_field_here","_law_rest","_law_some","_law_four_here"]
abbrev gr:Stmt:=top 18
abbrev vc:List Str:=["_law_cells","_law_met","_law_at","_law_row","_law_column","_law_near"]
abbrev iD:Stmt:=top 19
abbrev vd:List Str:=["_law_hand_here","_law_field_here","_law_made","_law_turn","_law_row","_law_column","_law_near","_law_cell","_law_other"]
abbrev jB:Stmt:=top 20
abbrev Dq:List Str:=["_law_field_here","_law_told_here","error"]
abbrev fI:Stmt:=top 21
abbrev lI:List Str:=["_law_some","_law_by","_law_far"]
abbrev jC:Stmt:=top 22
abbrev ve:List Str:=["_law_script","_law_k","_law_hand_here","_law_some","_law_fields","_law_field_here","_law_due"]
section
variable{P:Program}{w:World}{K:PySem.W.Frag}{mg:Str->Option Value}{base:Heap}
theorem Dr:j_ Dh ["things"] (ay iz):=⟨rfl,rfl,rfl,by decide +kernel,rfl,by decide +kernel,by decide +kernel⟩
theorem Ds(F:Gz K mg "lookup" iz f ["things"])(T:Txt mg):
  EN P w K mg base 1 "lookup" iz f ["things"] 1 G.fD:=by
 refine cv F Dr rfl (by decide) fun nd s_ A outer s H E hr=>?_;exact (ax (aZ (i:=1) nd rfl (Or.inl rfl) zN (by decide)) (ax (gG (fx:=[0]) X9 rfl (df<|vv 0) (aO (i:=2) nd rfl (Or.inl rfl) (by decide)) (aD<|dP jQ<|ke (pv 1) (d8<|pv 2)<|zO<|aV hr) (by decide) (mK (by decide)))<|aD<|bh<|d8<|pv 1))
theorem Dt:j_ Di ["field","cell"] (ay iA):=⟨rfl,rfl,rfl,by decide +kernel,rfl,by decide +kernel,by decide +kernel⟩
theorem Du(F:Gz K mg "block_of" iA f ["field","cell"])(T:Txt mg):
  EN P w K mg base 1 "block_of" iA f ["field","cell"] 2 G.g9:=by
 refine cv F Dt rfl (by decide) fun nd s_ A outer s H E hr=>?_;exact (aD (bh (a9 (by exact (aq (af<|ap dt (af<|aH hr (vv 1) ah)<|af<|ap du (af<|ap dt (af<|aH hr (vv 1) ah)<|af<|aH hr (af<|aH hr (vv 0) ah) ah)<|af<|gP rfl T.FI.choose_spec) (by exact (ag<|af<|ap dt (af<|aH hr (vv 1) ah)<|af<|ap du (af<|ap dt (af<|aH hr (vv 1) ah)<|af<|aH hr (af<|aH hr (vv 0) ah) ah)<|af<|gP rfl T.FI.choose_spec)))))))
theorem vf:j_ pg ["field"] (ay dY):=⟨rfl,rfl,rfl,by decide +kernel,rfl,by decide +kernel,by decide +kernel⟩
theorem Dv(F:Gz K mg "blocks" dY f ["field"])(T:Txt mg){F9:Addr}(C0:EN P w K mg base 1 "lookup" iz F9 ["things"] 1 G.fD){Fj:Addr}(C1:EN P w K mg base 1 "block_of" iA Fj ["field","cell"] 2 G.g9):
  EN P w K mg base 2 "blocks" dY f ["field"] 1 G.dE:=by
 refine cv F vf rfl (by decide) fun nd s_ A outer s H E hr=>?_;exact (ax (aZ (i:=1) nd rfl (Or.inl rfl) (aK C0 hr rfl (ag (af (eg (own:=["cell"]) (caps:=[0]) rfl (db (ay dY) pg (by decide +kernel)) (by decide) (df<|vv 0) (fun Y=>(aO (i:=0) (show (["cell","field"]:List Str).Nodup by decide +kernel) rfl (Or.inl rfl) (by decide))) (fun Y=>fi) (fun Y=>(aK C1 hr rfl (aq (vv 1) (by exact (ag<|vv 0))))))))) (by decide)) (ax (cF (bE (gK<|aV hr) (af (aU cY (by rfl) T.EC cw<|ag<|vv 0)) (af (ap cH (af (ap cH (af (aU uy (by rfl) T.EC cw<|ag<|vv 1))<|af<|gP rfl T.FI.choose_spec))<|af<|gP rfl T.FI.choose_spec))<|bu _) (aD y4) cE) (aD (bh (de gM rfl T.EK fG (ag (af (aU (gZ rfl<|aV hr) (by rfl) T.ED iy<|ag<|vv 1))))))))
theorem Dw(F:Gz K mg "blocks" dY f ["field"])(T:Txt mg){F9:Addr}(C0:EN P w K mg base 1 "lookup" iz F9 ["things"] 1 G.fD){Fj:Addr}(C1:EN P w K mg base 1 "block_of" iA Fj ["field","cell"] 2 G.g9){k_:Addr}(A_:OT K mg "NoBlocks" k_):
  lm P w K mg base 2 "blocks" dY f ["field"] 1 (JS 1 2 G.iq) k_:=by
 refine B9 (fix:=[]) F vf rfl fun nd s_ A outer s H E hr=>?_;exact (B5 (aZ (i:=1) nd rfl (Or.inl rfl) (aK C0 hr rfl (ag (af (eg (own:=["cell"]) (caps:=[0]) rfl (db (ay dY) pg (by decide +kernel)) (by decide) (df<|vv 0) (fun Y=>(aO (i:=0) (show (["cell","field"]:List Str).Nodup by decide +kernel) rfl (Or.inl rfl) (by decide))) (fun Y=>fi) (fun Y=>(aK C1 hr rfl (aq (vv 1) (by exact (ag<|vv 0))))))))) (by decide)) (B6 (bE (gK<|aV hr) (af (aU cY (by rfl) T.EC cw<|ag<|vv 0)) (af (ap cH (af (ap cH (af (aU uy (by rfl) T.EC cw<|ag<|vv 1))<|af<|gP rfl T.FI.choose_spec))<|af<|gP rfl T.FI.choose_spec))<|bu _)<|B7 rfl rfl A_.1 A_.2<|fun D σ H z=>BS D σ H z))
theorem Dx:j_ Dj ["_law_script","_law_k"] (ay jx):=⟨rfl,rfl,rfl,by decide +kernel,rfl,by decide +kernel,by decide +kernel⟩
theorem Dy(F:Gz K mg "_law_cell_at" jx f ["_law_script","_law_k"])(T:Txt mg):
  EN P w K mg base 1 "_law_cell_at" jx f ["_law_script","_law_k"] 2 G.hU:=by
 refine cv F Dx rfl (by decide) fun nd s_ A outer s H E hr=>?_;exact (ax (cF (bE mS (vv 1) (af (aU cY (by rfl) T.EC cw<|ag<|vv 0))<|bu _) (aD<|bh<|aH hr (vv 0)<|vv 1) cE)<|aD<|bh dJ)
theorem Dz:j_ Dk ["_law_script","_law_k"] (ay jy):=⟨rfl,rfl,rfl,by decide +kernel,rfl,by decide +kernel,by decide +kernel⟩
theorem DA(F:Gz K mg "_law_hand" jy f ["_law_script","_law_k"])(T:Txt mg){G_:Addr}(C3:EN P w K mg base 1 "_law_cell_at" jx G_ ["_law_script","_law_k"] 2 G.hU):
  EN P w K mg base 2 "_law_hand" jy f ["_law_script","_law_k"] 2 G.je:=by
 refine cv F Dz rfl (by decide) fun nd s_ A outer s H E hr=>?_;exact (ax (aZ (i:=2) nd rfl (Or.inl rfl) (aK C3 hr rfl (aq (vv 0) (by exact (ag<|vv 1)))) (by decide)) (ax (aZ (i:=3) nd rfl (Or.inl rfl) (ap cH (af<|ap cH (af<|ap jZ ah ah)<|af<|ap jZ ah ah)<|af<|ap jZ ah ah) (by decide)) (ax (aZ (i:=4) nd rfl (Or.inl rfl) (ap du (af<|ap cH (af<|ap a5 (af<|ap a5 (af<|ap du (vv 2) ah)<|af<|ap cH (af<|ap cH ah<|vv 1)<|vv 1) ah) ah) ah) (by decide)) (aD (bh (cU (by exact (aq (af<|ap cH (af<|ap du (vv 2)<|vv 3)<|af<|de mX rfl T.HB lG<|ag<|af<|fS zf (vv 2) (af<|ap jZ ah ah)<|bu _) (by exact (aq (vv 4) (by exact (ag ah))))))))))))
theorem DB:j_ Dl ["_law_hand_here","_law_many"] (ay gq):=⟨rfl,rfl,rfl,by decide +kernel,rfl,by decide +kernel,by decide +kernel⟩
theorem DC(F:Gz K mg "_law_pick" gq f ["_law_hand_here","_law_many"])(T:Txt mg):
  EN P w K mg base 1 "_law_pick" gq f ["_law_hand_here","_law_many"] 2 G.aX:=by
 refine cv F DB rfl (by decide) fun nd s_ A outer s H E hr=>?_;exact (ax (cF (bE ze (af<|aH hr (vv 0) ah) ah<|bu _) (ax (aZ (i:=2) nd rfl (Or.inl rfl) (ap du (af<|aH hr (vv 0) ah)<|vv 1) (by decide))<|ax (dP (ap qX (af<|aH hr (vv 0) ah)<|vv 1)<|ke (pv 0) dJ<|nh<|aV hr)<|aD<|bh<|d8<|pv 2) cE)<|ax (dP (ap a5 (af<|aH hr (vv 0) ah) ah)<|ke (pv 0) dJ<|nh<|aV hr)<|ax (dP (ap du (af<|ap a5 (af<|ap a5 (af<|ap cH (af<|aH hr (vv 0) ah) ah) ah)<|af<|ap cH ah<|af<|aH hr (vv 0) ah) ah)<|ke (pv 0) dJ<|nh<|aV hr)<|aD<|bh<|ap du (af<|ap qX (af<|ap du (af<|ap cH (af<|aH hr (vv 0) ah)<|af<|aH hr (vv 0) ah) ah) ah)<|vv 1)
theorem vg:j_ vb ["_law_got","_law_due"] (ay iB):=⟨rfl,rfl,rfl,by decide +kernel,rfl,by decide +kernel,by decide +kernel⟩
theorem DD{E5:Addr}{FJ:FuncData}(Ha:GZ K "_law_same" "_law_same" iB E5 FJ)(T:Txt mg)(II:cN K FJ ["_law_got","_law_due"] [])(IJ:mg "_law_same" = some (.ref E5)):
  ∀ k,E2 P w K mg base Hw (1+k) E5 FJ ["_law_got","_law_due"] (Ir 2<|G.bz k):=by
 intro k;induction k with
 | zero=>exact⟨fun vs H Q E h=>h.1,fun A outer s H args us vs Q E hr he hb hv h=>absurd h.2 (by rintro⟨_,_,_,_,_,_,e,_⟩;cases e)⟩
 | succ k OX=>
  have nd:=vg.nd;refine PQ (k:=1+k) Ha vg rfl (by decide) (fun s_ A outer s H E hr=>?_);exact (ax (cF (er<|af<|gO rfl T.q_ fF rfl T.EK fG<|vv 1) (ax (cF (VW.vt (yV (jT<|er<|af<|gO rfl T.q_ fF rfl T.EK fG<|vv 0) (yU (bE (gK<|aV hr) (af (aU cY (by rfl) T.EC cw<|ag<|vv 0)) (af (aU cY (by rfl) T.EC cw<|ag<|vv 1))<|bu _)))) (aD<|bh jQ) cE) (aD (bh (aU (rf rfl) (by rfl) T.JU u9 (ag (af (eg (own:=["_law_one","_law_other"]) (caps:=[]) rfl (db (ay iB) vb (by decide +kernel)) (by decide) (zA rfl T.Mw (aq (vv 0) (by exact (ag<|vv 1)))) (fun Y=>(fh rfl (ca (aO (i:=0) (show (["_law_one","_law_other"]:List Str).Nodup by decide +kernel) rfl (Or.inl rfl) (by decide)) (ca (aO (i:=1) (show (["_law_one","_law_other"]:List Str).Nodup by decide +kernel) rfl (Or.inl rfl) (by decide)) fg)))) (fun Y=>fi) (fun Y=>(qO OX (hr.mono<|ZR _) rfl IJ Ha.kp II (aq (vv 0) (by exact (ag<|vv 1)))))))))))) cE)<|ax (cF (er<|af<|gO rfl T.q_ fF rfl T.JV va<|vv 1) (aD<|bh<|mE (eV<|gO rfl T.q_ fF rfl T.JV va<|vv 0)<|eV<|mD<|fS (gJ<|aV hr) (vv 0) (vv 1)<|bu _) cE)<|aD<|bh<|mE (eV<|gO rfl T.q_ fF rfl T.HB lG<|vv 0)<|mE (eV<|yW<|eV<|gO rfl T.q_ fF rfl T.KH Df<|vv 0)<|eV<|mD<|fS (gJ<|aV hr) (vv 0) (vv 1)<|bu _)
theorem DE:j_ Dm ["_law_hand_here"] (ay jz):=⟨rfl,rfl,rfl,by decide +kernel,rfl,by decide +kernel,by decide +kernel⟩
theorem DF(F:Gz K mg "_law_some_blocks" jz f ["_law_hand_here"])(T:Txt mg){E6:Addr}(C5:EN P w K mg base 1 "_law_pick" gq E6 ["_law_hand_here","_law_many"] 2 G.aX):
  EN P w K mg base 2 "_law_some_blocks" jz f ["_law_hand_here"] 1 G.jf:=by
 refine cv F DE rfl (by decide) fun nd s_ A outer s H E hr=>?_;exact (ax (aZ (i:=1) nd rfl (Or.inl rfl) (ap a5 ah (af (aK C5 hr rfl (aq (vv 0) (by exact (ag (af (aH hr (af (cU (by exact (aq ah (by exact (aq ah (by exact (aq ah (by exact (ag ah)))))))))) (af (aK C5 hr rfl (aq (vv 0) (by exact (ag ah))))))))))))) (by decide)) (ax (aZ (i:=2) nd rfl (Or.inl rfl) (cU (by exact (ag (af (a9 (by exact (aq (af (aK C5 hr rfl (aq (vv 0) (by exact (ag ah))))) (by exact (ag (af (aK C5 hr rfl (aq (vv 0) (by exact (ag ah)))))))))))))) (by decide)) (ax (gG (fx:=[0]) X9 rfl (jW rfl T.FT<|ag<|af<|ap cH ah<|vv 1) (aO (i:=3) nd rfl (Or.inl rfl) (by decide)) (ax (dP (aH hr (vv 2) (af (aK C5 hr rfl (aq (vv 0) (by exact (ag (af (aU cY (by rfl) T.EC cw<|ag<|vv 2)))))))) (fh rfl (ca (aO (i:=4) nd rfl (Or.inl rfl) (by decide)) (ca (aO (i:=5) nd rfl (Or.inl rfl) (by decide)) fg)))) (ax (cF (bE (gJ<|aV hr) (af (aK C5 hr rfl (aq (vv 0) (by exact (ag ah))))) ah<|bu _) (aD (dP (aH hr (vv 2)<|af<|mV dJ) (fh rfl (ca (aO (i:=4) nd rfl (Or.inl rfl) (by decide)) (ca (aO (i:=5) nd rfl (Or.inl rfl) (by decide)) fg))))) cE) (ax (dP (aH hr (af (cU (by exact (aq (af (a9 (by exact (aq ah (by exact (ag ah)))))) (by exact (aq (af (a9 (by exact (aq ah (by exact (ag ah)))))) (by exact (aq (af (a9 (by exact (aq ah (by exact (ag<|af<|mV dJ)))))) (by exact (ag (af (a9 (by exact (aq (af<|mV dJ) (by exact (ag ah)))))))))))))))) (af (aK C5 hr rfl (aq (vv 0) (by exact (ag ah)))))) (fh rfl (ca (aO (i:=6) nd rfl (Or.inl rfl) (by decide)) (ca (aO (i:=7) nd rfl (Or.inl rfl) (by decide)) fg)))) (ax (aZ (i:=8) nd rfl (Or.inl rfl) (a9 (by exact (aq (af<|ap a5 (vv 4)<|vv 6) (by exact (ag<|af<|ap a5 (vv 5)<|vv 7))))) (by decide)) (aD (cF (VW.vt (d9 (bE (ko<|aV hr) (vv 8) (vv 2) rfl) (d9 (bE mS (af (aU cY (by rfl) T.EC cw<|ag<|vv 2)) (vv 1)<|bu _)<|d9 (rT fj fj ah (af<|aH hr (vv 8) ah) ah)<|iU<|rT fj fj ah (af<|aH hr (vv 8) ah) ah))) (aD<|jV<|kb j9 XF W4 W3 m6 (pv 2)<|ag<|vv 8) cE)))))) (by decide) mL) (aD (bh (aU (gZ rfl<|aV hr) (by rfl) T.ED iy<|ag<|vv 2))))))
theorem DG:j_ Do ["_law_block"] (ay iC):=⟨rfl,rfl,rfl,by decide +kernel,rfl,by decide +kernel,by decide +kernel⟩
theorem DH(F:Gz K mg "_law_four" iC f ["_law_block"])(T:Txt mg):
  EN P w K mg base 1 "_law_four" iC f ["_law_block"] 1 G.fC:=by
 refine cv F DG rfl (by decide) fun nd s_ A outer s H E hr=>?_;exact (ax (dP (d8<|pv 0) (fh rfl (ca (aO (i:=1) nd rfl (Or.inl rfl) (by decide)) (ca (aO (i:=2) nd rfl (Or.inl rfl) (by decide)) fg)))) (aD (bh (cU (by exact (aq (af (a9 (by exact (aq (vv 1) (by exact (ag<|vv 2)))))) (by exact (aq (af (a9 (by exact (aq (vv 1) (by exact (ag<|af<|ap a5 (vv 2) ah)))))) (by exact (aq (af (a9 (by exact (aq (af<|ap a5 (vv 1) ah) (by exact (ag<|af<|ap a5 (vv 2) ah)))))) (by exact (ag (af (a9 (by exact (aq (af<|ap a5 (vv 1) ah) (by exact (ag<|vv 2))))))))))))))))))
theorem DI:j_ Dp ["_law_some"] (ay jA):=⟨rfl,rfl,rfl,by decide +kernel,rfl,by decide +kernel,by decide +kernel⟩
theorem DJ(F:Gz K mg "_law_field" jA f ["_law_some"])(T:Txt mg){F_:Addr}(C8:EN P w K mg base 1 "_law_four" iC F_ ["_law_block"] 1 G.fC):
  EN P w K mg base 2 "_law_field" jA f ["_law_some"] 1 G.dS:=by
 refine cv F DI rfl (by decide) fun nd s_ A outer s H E hr=>?_;exact (ax (aZ (i:=1) nd rfl (Or.inl rfl) (cU (by exact iW)) (by decide)) (ax (gG (fx:=[0]) X9 rfl (df<|vv 0) (aO (i:=2) nd rfl (Or.inl rfl) (by decide)) (aD<|jV<|kb j9 XF PySem.F.slot_list_extend PySem.F.type_list_extend zw (pv 1)<|ag<|af<|aK C8 hr rfl<|ag<|vv 2) (by decide) (mK (by decide))) (aD (bh (de gM rfl T.EK fG (ag (af (aU (gZ rfl<|aV hr) (by rfl) T.ED iy<|ag<|vv 1))))))))
theorem DK:j_ lH ["_law_field_here"] (ay fH):=⟨rfl,rfl,rfl,by decide +kernel,rfl,by decide +kernel,by decide +kernel⟩
theorem DL(F:Gz K mg "_law_cut" fH f ["_law_field_here"])(T:Txt mg){F_:Addr}(C8:EN P w K mg base 1 "_law_four" iC F_ ["_law_block"] 1 G.fC):
  EN P w K mg base 2 "_law_cut" fH f ["_law_field_here"] 1 G.gp:=by
 refine cv F DK rfl (by decide) fun nd s_ A outer s H E hr=>?_;exact (ax (uz (i:=1) (j:=2) rfl nd rfl rfl (Or.inr rfl) (Or.inr rfl) (aq (af<|de mW rfl T.Ho oZ<|ag<|vv 0) (by exact (ag (af (cU (by exact iW)))))) (by decide) (by decide)) (ax (qR 1000000 X9 (bE (gK<|aV hr) (vv 1) (af (cU (by exact iW)))<|bu _) (ax (aZ (i:=3) nd rfl (Or.inr rfl) (aK C8 hr rfl<|ag<|af<|aH hr (vv 1) ah) (by decide)) (ax (cF (jT (er (af (aU (rf rfl) (by rfl) T.JU u9 (ag (af (eg (own:=["_law_cell"]) (caps:=[1]) rfl (db (ay fH) lH (by decide +kernel)) (by decide) (df<|vv 3) (fun Y=>(aO (i:=0) (show (["_law_cell","_law_rest"]:List Str).Nodup by decide +kernel) rfl (Or.inl rfl) (by decide))) (fun Y=>fi)<|fun Y=>(fS (rS<|aV hr) (vv 0) (vv 1) rfl)))))))) (aD<|bh qH) cE) (ax (jV<|kb j9 XF W4 W3 m6 (pv 2)<|ag<|af<|aH hr (vv 1) ah) (aD (aZ (i:=1) nd rfl (Or.inr rfl) (eg (own:=["_law_cell"]) (caps:=[3]) rfl (db (ay fH) lH (by decide +kernel)) (by decide) (df<|vv 1) (fun Y=>(aO (i:=0) (show (["_law_cell","_law_four_here"]:List Str).Nodup by decide +kernel) rfl (Or.inl rfl) (by decide))) (fun Y=>(jX<|bE (ko<|aV hr) (vv 0) (vv 1) rfl))<|fun Y=>(d8<|pv 0)) (by decide))))))) (ax (cF (er (af (aU (zr rfl) (by rfl) T.Mu De (ag (af (Cl (own:=["_law_one"]) (caps:=[2]) 2 0 rfl (db (ay fH) lH (by decide +kernel)) (by decide) rfl (vv 2) (fun Y=>(aO (i:=0) (show (["_law_one","_law_some"]:List Str).Nodup by decide +kernel) rfl (Or.inl rfl) (by decide))) (fun Y=>fi)<|fun Y=>(yX (eV<|fS (gJ<|aV hr) (af<|ap du (af<|ap dt (af<|aH hr (vv 0) ah)<|af<|aH hr (af<|aH hr (vv 1) ah) ah) ah) ah<|bu _)<|eV<|mD<|fS (gJ<|aV hr) (af<|ap du (af<|ap dt (af<|aH hr (vv 0) ah)<|af<|aH hr (af<|aH hr (vv 1) ah) ah) ah) ah<|bu _))))))) (aD<|bh qH) cE)<|aD<|bh<|de gM rfl T.EK fG<|ag<|vv 2)))
theorem DM:j_ vc ["_law_cells"] (ay gr):=⟨rfl,rfl,rfl,by decide +kernel,rfl,by decide +kernel,by decide +kernel⟩
theorem DN(F:Gz K mg "_law_is_one" gr f ["_law_cells"])(T:Txt mg):
  EN P w K mg base 1 "_law_is_one" gr f ["_law_cells"] 1 G.dF:=by
 refine cv F DM rfl (by decide) fun nd s_ A outer s H E hr=>?_;exact (ax (uz (i:=1) (j:=2) rfl nd rfl rfl (Or.inr rfl) (Or.inl rfl) (aq (af<|rc (vv 0) qZ<|ra dJ) (by exact (ag ah))) (by decide) (by decide)) (ax (qR 1000000 X9 (bE mS (vv 2) (af (aU cY (by rfl) T.EC cw<|ag<|vv 1))<|bu _) (ax (dP (aH hr (vv 1)<|vv 2) (fh rfl (ca (aO (i:=3) nd rfl (Or.inl rfl) (by decide)) (ca (aO (i:=4) nd rfl (Or.inl rfl) (by decide)) fg)))) (ax (aZ (i:=2) nd rfl (Or.inl rfl) (ap a5 (vv 2) ah) (by decide)) (ax (aZ (i:=5) nd rfl (Or.inl rfl) (cU (by exact (aq (af (a9 (by exact (aq (vv 3) (by exact (ag<|af<|ap a5 (vv 4) ah)))))) (by exact (aq (af (a9 (by exact (aq (af<|ap a5 (vv 3) ah) (by exact (ag<|vv 4)))))) (by exact (aq (af (a9 (by exact (aq (vv 3) (by exact (ag<|af<|ap dt (vv 4) ah)))))) (by exact (ag (af (a9 (by exact (aq (af<|ap dt (vv 3) ah) (by exact (ag<|vv 4))))))))))))))) (by decide)) (aD (aZ (i:=1) nd rfl (Or.inr rfl) (ap a5 (vv 1) (af (eg (own:=["_law_cell"]) (caps:=[0,1]) rfl (db (ay gr) vc (by decide +kernel)) (by decide) (df<|vv 5) (fun Y=>(aO (i:=0) (show (["_law_cell","_law_cells","_law_met"]:List Str).Nodup by decide +kernel) rfl (Or.inl rfl) (by decide))) (fun Y=>(jX<|VW.vt<|d9 (bE (rS<|aV hr) (vv 0) (vv 1) rfl)<|iU<|bE (ko<|aV hr) (vv 0) (vv 2) rfl))<|fun Y=>(d8<|pv 0)))) (by decide))))))) (aD (bh (fS (gJ<|aV hr) (af (aU cY (by rfl) T.EC cw<|ag<|vv 1)) (af (aU cY (by rfl) T.EC cw<|ag<|vv 0))<|bu _)))))
theorem DO:j_ vd ["_law_hand_here","_law_field_here"] (ay iD):=⟨rfl,rfl,rfl,by decide +kernel,rfl,by decide +kernel,by decide +kernel⟩
theorem DP(F:Gz K mg "_law_otherwise" iD f ["_law_hand_here","_law_field_here"])(T:Txt mg){E6:Addr}(C5:EN P w K mg base 1 "_law_pick" gq E6 ["_law_hand_here","_law_many"] 2 G.aX){Fk:Addr}(OY:EN P w K mg base 1 "_law_is_one" gr Fk ["_law_cells"] 1 G.dF):
  EN P w K mg base 2 "_law_otherwise" iD f ["_law_hand_here","_law_field_here"] 2 G.jt:=by
 refine cv F DO rfl (by decide) fun nd s_ A outer s H E hr=>?_;exact (ax (aZ (i:=2) nd rfl (Or.inl rfl) (de mW rfl T.Ho oZ<|ag<|vv 1) (by decide)) (ax (gG (fx:=[0,1]) X9 rfl (jW rfl T.FT (ag (af (ap a5 ah (af (aK C5 hr rfl (aq (vv 0) (by exact (ag ah))))))))) (aO (i:=3) nd rfl (Or.inl rfl) (by decide)) (ax (dP (aH hr (vv 2) (af (aK C5 hr rfl (aq (vv 0) (by exact (ag (af (aU cY (by rfl) T.EC cw<|ag<|vv 2)))))))) (fh rfl (ca (aO (i:=4) nd rfl (Or.inl rfl) (by decide)) (ca (aO (i:=5) nd rfl (Or.inl rfl) (by decide)) fg)))) (ax (aZ (i:=6) nd rfl (Or.inl rfl) (cU (by exact (aq (af (a9 (by exact (aq (vv 4) (by exact (ag<|af<|ap a5 (vv 5) ah)))))) (by exact (aq (af (a9 (by exact (aq (af<|ap a5 (vv 4) ah) (by exact (ag<|vv 5)))))) (by exact (aq (af (a9 (by exact (aq (vv 4) (by exact (ag<|af<|ap dt (vv 5) ah)))))) (by exact (ag (af (a9 (by exact (aq (af<|ap dt (vv 4) ah) (by exact (ag<|vv 5))))))))))))))) (by decide)) (ax (aZ (i:=7) nd rfl (Or.inr rfl) (aH hr (af (ap a5 (af (cU (by exact (ag (af (a9 (by exact (aq (vv 4) (by exact (ag<|vv 5))))))))))<|vv 6)) (af (aK C5 hr rfl (aq (vv 0) (by exact (ag ah)))))) (by decide)) (ax (rP (i:=8) (own:=["_law_one"]) (caps:=[7]) nd rfl (Or.inl rfl) rfl (db (ay iD) vd (by decide +kernel)) (by decide) (df<|vv 2) (fun Y=>(aO (i:=0) (show (["_law_one","_law_cell"]:List Str).Nodup by decide +kernel) rfl (Or.inl rfl) (by decide))) (fun Y=>(jX<|bE (gK<|aV hr) (vv 0) (vv 1)<|bu _)) (fun Y=>(d8<|pv 0)) (by decide)) (ax (cF (VW.vt (d9 (bE (ko<|aV hr) (vv 7) (vv 2) rfl) (d9 (bE fj ah (af (aU (BA rfl) (by rfl) T.IH pf<|ag<|vv 7))<|bu _) (iU (bE fj (af (aU (Bz rfl) (by rfl) T.IG pd<|ag<|vv 7)) ah<|bu _))))) (aD (aZ (i:=8) nd rfl (Or.inl rfl) (ap a5 (vv 2) (af (cU (by exact (ag<|vv 7))))) (by decide))) cE) (aD (cF (VW.vt (d9 (bE (gK<|aV hr) (vv 8) (af (cU (by exact iW)))<|bu _) (iU (er (af (aK OY hr rfl (ag (af (aU (gZ rfl<|aV hr) (by rfl) T.ED iy<|ag<|vv 8))))))))) (aD (aZ (i:=2) nd rfl (Or.inl rfl) (d8<|pv 8) (by decide))) cE))))))) (by decide) mL) (aD (bh (de gM rfl T.EK fG (ag (af (aU (gZ rfl<|aV hr) (by rfl) T.ED iy<|ag<|vv 2))))))))
theorem DQ:j_ Dq ["_law_field_here"] (ay jB):=⟨rfl,rfl,rfl,by decide +kernel,rfl,by decide +kernel,by decide +kernel⟩
theorem DR(F:Gz K mg "_law_told" jB f ["_law_field_here"])(T:Txt mg){Hb:Addr}(C2:EN P w K mg base 2 "blocks" dY Hb ["field"] 1 G.dE){k_:Addr}(A_:OT K mg "NoBlocks" k_)(HS:lm P w K mg base 2 "blocks" dY Hb ["field"] 1 (JS 1 2 G.iq) k_){EF:Addr}(Fm:mg "MowError" = some (.ref EF))(Q_MowError:PySem.W.exmOne K (.ref k_) (.ref EF)=some true)(V_ValueError:PySem.W.kitOne K (.ref k_) (.type "ValueError")=some true):
  EN P w K mg base 3 "_law_told" jB f ["_law_field_here"] 1 G.dk:=by
 refine cv F DQ rfl (by decide) fun nd s_ A outer s H E hr=>?_;exact (ax (aZ (i:=1) nd rfl (Or.inl rfl) (a9 (by exact (ag<|af jR))) (by decide)) (ax (Cb (i:=2) (r:=G.oI) (g:=G.oJ) (gs:=G.lu) rfl rfl rfl rfl Fm Q_MowError nd rfl rfl (by decide) (fun E p=>(aD (aZ (i:=1) nd rfl (Or.inl rfl) (aK C2 hr rfl<|ag<|vv 0) (by decide)))) (fun E p Z hz=>(B8 (i:=1) nd rfl (Or.inl rfl)<|Ca HS hr rfl rfl hz<|ag<|vv 0)) (fun p e oe hc hp=>(aD (aZ (i:=1) nd rfl (Or.inl rfl) (a9 (by exact (aq (af jR) (by exact (ag<|af<|ap a5 (af<|de mX rfl T.HB lG<|ag<|af<|B2 hp hc Cc rfl T.q_ fF rfl A_.1<|vv 2)<|af<|de mX rfl T.HB lG<|ag<|af<|B3 hp hc V_ValueError rfl T.q_ fF rfl T.GQ Dc<|vv 2))))) (by decide)))) G.Cm)<|aD<|bh<|d8<|pv 1))
theorem DS:j_ lI ["_law_some","_law_by"] (ay fI):=⟨rfl,rfl,rfl,by decide +kernel,rfl,by decide +kernel,by decide +kernel⟩
theorem DT(F:Gz K mg "_law_moved" fI f ["_law_some","_law_by"])(T:Txt mg):
  EN P w K mg base 1 "_law_moved" fI f ["_law_some","_law_by"] 2 G.ir:=by
 refine cv F DS rfl (by decide) fun nd s_ A outer s H E hr=>?_;exact (ax (aZ (i:=2) nd rfl (Or.inr rfl) (ap a5 (af (ap dt (af (aU (zQ rfl<|aV hr) (by rfl) T.IG pd (ag (af (eg (own:=["_law_block"]) (caps:=[]) rfl (db (ay fI) lI (by decide +kernel)) (by decide) (df<|vv 0) (fun Y=>(aO (i:=0) (show (["_law_block"]:List Str).Nodup by decide +kernel) rfl (Or.inl rfl) (by decide))) (fun Y=>fi)<|fun Y=>(aH hr (vv 0) ah)))))) (af (aU (Cg rfl<|aV hr) (by rfl) T.IH pf (ag (af (eg (own:=["_law_block"]) (caps:=[]) rfl (db (ay fI) lI (by decide +kernel)) (by decide) (df<|vv 0) (fun Y=>(aO (i:=0) (show (["_law_block"]:List Str).Nodup by decide +kernel) rfl (Or.inl rfl) (by decide))) (fun Y=>fi)<|fun Y=>(aH hr (vv 0) ah)))))))) ah) (by decide)) (aD (bh (aU (gZ rfl<|aV hr) (by rfl) T.ED iy (ag (af (ap a5 (vv 0) (af (eg (own:=["_law_row","_law_column"]) (caps:=[2,1]) rfl (db (ay fI) lI (by decide +kernel)) (by decide) (df<|vv 0) (fun Y=>(fh rfl (ca (aO (i:=0) (show (["_law_row","_law_column","_law_far","_law_by"]:List Str).Nodup by decide +kernel) rfl (Or.inl rfl) (by decide)) (ca (aO (i:=1) (show (["_law_row","_law_column","_law_far","_law_by"]:List Str).Nodup by decide +kernel) rfl (Or.inl rfl) (by decide)) fg)))) (fun Y=>(jX<|bE fj (af<|ap a5 (af<|ap a5 (vv 1)<|vv 2)<|vv 3) ah<|bu _)) (fun Y=>(a9 (by exact (aq (vv 0) (by exact (ag<|af<|ap a5 (af<|ap a5 (vv 1)<|vv 2)<|vv 3)))))))))))))))
theorem DU:j_ ve ["_law_script"] (ay jC):=⟨rfl,rfl,rfl,by decide +kernel,rfl,by decide +kernel,by decide +kernel⟩
theorem DV(F:Gz K mg "law" jC f ["_law_script"])(T:Txt mg){IK:Addr}(C4:EN P w K mg base 2 "_law_hand" jy IK ["_law_script","_law_k"] 2 G.je){FO:Addr}(C7:EN P w K mg base 2 "_law_some_blocks" jz FO ["_law_hand_here"] 1 G.jf){E5:Addr}(C6:EN P w K mg base 7 "_law_same" iB E5 ["_law_got","_law_due"] 2 (G.bz 6)){IL:Addr}(OZ:EN P w K mg base 3 "_law_told" jB IL ["_law_field_here"] 1 G.dk){HU:Addr}(C9:EN P w K mg base 2 "_law_field" jA HU ["_law_some"] 1 G.dS){Gn:Addr}(SG:EN P w K mg base 2 "_law_otherwise" iD Gn ["_law_hand_here","_law_field_here"] 2 G.jt){HV:Addr}(SH:EN P w K mg base 1 "_law_moved" fI HV ["_law_some","_law_by"] 2 G.ir){E6:Addr}(C5:EN P w K mg base 1 "_law_pick" gq E6 ["_law_hand_here","_law_many"] 2 G.aX){Js:Addr}(SI:EN P w K mg base 2 "_law_cut" fH Js ["_law_field_here"] 1 G.gp){Fk:Addr}(OY:EN P w K mg base 1 "_law_is_one" gr Fk ["_law_cells"] 1 G.dF):
  EN P w K mg base 8 "law" jC f ["_law_script"] 1 G.jv:=by
 refine cv F DU rfl (by decide) fun nd s_ A outer s H E hr=>?_;exact (ax (gG (fx:=[0]) X9 rfl (jW rfl T.FT (ag (af (aU (zo rfl) (by rfl) T.IG pd (aq ah (by exact (ag (af (aU (zp rfl) (by rfl) T.IH pf (aq ah (by exact (ag (af (aU cY (by rfl) T.EC cw<|ag<|vv 0)))))))))))))) (aO (i:=1) nd rfl (Or.inl rfl) (by decide)) (ax (aZ (i:=2) nd rfl (Or.inr rfl) (aK C4 hr rfl (aq (vv 0) (by exact (ag<|vv 1)))) (by decide)) (ax (aZ (i:=3) nd rfl (Or.inr rfl) (aK C7 hr rfl<|ag<|vv 2) (by decide)) (ax (cF (jT (er (af (aK C6 hr rfl (aq (af<|aK OZ hr rfl<|ag<|af<|aK C9 hr rfl<|ag<|vv 3) (by exact (ag<|af<|de gM rfl T.EK fG<|ag<|vv 3))))))) (aD<|bh jQ) cE) (ax (rP (i:=4) (own:=["_law_turn"]) (caps:=[2,3]) nd rfl (Or.inl rfl) rfl (db (ay jC) ve (by decide +kernel)) (by decide) (jW rfl T.FT<|ag ah) (fun Y=>(aO (i:=0) (show (["_law_turn","_law_hand_here","_law_some"]:List Str).Nodup by decide +kernel) rfl (Or.inl rfl) (by decide))) (fun Y=>fi) (fun Y=>(aK SG hr rfl (aq (vv 1) (by exact (ag<|af<|aK C9 hr rfl<|ag<|vv 2))))) (by decide)) (ax (jV (kb j9 XF W4 W3 m6 (pv 4) (ag (af (de gM rfl T.EK fG (ag (af (Bu (Dg hr) rfl T.ED rfl T.Mv (ag (af (aK C9 hr rfl (ag (af (aK SH hr rfl (aq (af<|rc (vv 3) qZ<|ra dJ) (by exact (ag (af (aK C5 hr rfl (aq (vv 2) (by exact (ag ah)))))))))))))))))))))) (aD (gG (fx:=[4,0]) X9 rfl (df<|vv 4) (aO (i:=5) nd rfl (Or.inl rfl) (by decide)) (ax (aZ (i:=6) nd rfl (Or.inl rfl) (Cd (aK SI hr rfl<|ag<|vv 5) (a9 (by exact (aq (af jR) (by exact (ag ah)))))) (by decide)) (aD (cF (VW.vt (d9 (bE fj (af (aU cY (by rfl) T.EC cw<|ag<|vv 5)) ah<|bu _) (d9 (er<|af<|aK OY hr rfl<|ag<|af<|de mW rfl T.Ho oZ<|ag<|vv 5) (iU (jT (er (af (aK C6 hr rfl (aq (af<|aK OZ hr rfl<|ag<|vv 5) (by exact (ag<|vv 6))))))))))) (aD<|bh jQ) cE))) (by decide) (mK (by decide))))))))) (by decide) mL) (aD (bh (aK C6 hr rfl (aq (af (aK OZ hr rfl (ag (af (a9 (by exact (ag (af (a9 (by exact (aq ah (by exact (ag ah))))))))))))) (by exact (ag (af (a9 (by exact (aq (af jR) (by exact (ag ah)))))))))))))
end
theorem all_mk{w:World}{K:PySem.W.Frag}{h:Heap}{mg:Str->Option Value}{fa O0 O1 O2 O3 O4 O5 Mx O6 O7 O8 My Mz MA MB MC MD:Addr}(X:K.In h)(Gg:h.Ns mainGlobals mg)(OO:mg "law" = some (.ref fa)){IM:Tok}(r_w0:Raw K "lookup" iz O0)(r_w1:Raw K "block_of" iA O1)(r_w2:Raw K "blocks" dY O2)(r_w3:Raw K "_law_cell_at" jx O3)(r_w4:Raw K "_law_hand" jy O4)(r_w5:Raw K "_law_pick" gq O5)(r_w6:Raw K "_law_same" iB Mx)(r_w7:Raw K "_law_some_blocks" jz O6)(r_w8:Raw K "_law_four" iC O7)(r_w9:Raw K "_law_field" jA O8)(r_w10:Raw K "_law_cut" fH My)(r_w11:Raw K "_law_is_one" gr Mz)(r_w12:Raw K "_law_otherwise" iD MA)(r_w13:Raw K "_law_told" jB MB)(r_w14:Raw K "_law_moved" fI MC)(r_law:Raw K "law" jC MD)(g_SIDE:PySem.W.nsIn K mainGlobals "SIDE" = some (some<|.int 2 IM)){k_:Addr}(g_NoBlocks:PySem.W.nsIn K mainGlobals "NoBlocks" = some (some<|.ref k_))(x_NoBlocks:PySem.W.excIn K k_ [.type "ValueError",.type "Exception",.type "BaseException",.type "object"] "ValueError.__new__" = true){EF:Addr}(g_MowError:PySem.W.nsIn K mainGlobals "MowError" = some (some<|.ref EF))(Q_MowError:PySem.W.exmOne K (.ref k_) (.ref EF)=some true)(V_ValueError:PySem.W.kitOne K (.ref k_) (.type "ValueError")=some true)(z_ValueError:PySem.W.nsIn K mainGlobals "ValueError" = some none)(z_all:PySem.W.nsIn K mainGlobals "all" = some none)(z_any:PySem.W.nsIn K mainGlobals "any" = some none)(z_bool:PySem.W.nsIn K mainGlobals "bool" = some none)(z_int:PySem.W.nsIn K mainGlobals "int" = some none)(z_isinstance:PySem.W.nsIn K mainGlobals "isinstance" = some none)(z_len:PySem.W.nsIn K mainGlobals "len" = some none)(z_list:PySem.W.nsIn K mainGlobals "list" = some none)(z_max:PySem.W.nsIn K mainGlobals "max" = some none)(z_min:PySem.W.nsIn K mainGlobals "min" = some none)(z_range:PySem.W.nsIn K mainGlobals "range" = some none)(z_set:PySem.W.nsIn K mainGlobals "set" = some none)(z_sorted:PySem.W.nsIn K mainGlobals "sorted" = some none)(z_str:PySem.W.nsIn K mainGlobals "str" = some none)(z_tuple:PySem.W.nsIn K mainGlobals "tuple" = some none)(z_zip:PySem.W.nsIn K mainGlobals "zip" = some none):
  ∃ fd:FuncData,(∀ (s:Shared) (v:Value),BindsTo s fd ⟨[v],[]⟩ [("_law_script",v)])/\∀ base:Heap,K.In base->base.Ns mainGlobals mg->E2 l.prog w K mg base Hw 8 fa fd ["_law_script"] (Ir 1 G.jv):=by
 have T:Txt mg:=⟨Zk X Gg z_ValueError,Zk X Gg z_all,Zk X Gg z_any,Zk X Gg z_bool,Zk X Gg z_int,Zk X Gg z_isinstance,Zk X Gg z_len,Zk X Gg z_list,Zk X Gg z_max,Zk X Gg z_min,Zk X Gg z_range,Zk X Gg z_set,Zk X Gg z_sorted,Zk X Gg z_str,Zk X Gg z_tuple,Zk X Gg z_zip,⟨IM,W5 X Gg g_SIDE⟩⟩;have h_w0:=r_w0.b1 (ps:=["things"]) X Gg fun _ _ _ _ _ _ _=>rfl;have h_w1:=r_w1.b2 (ps:=["field","cell"]) X Gg fun _ _ _ _ _ _ _ _=>rfl;have h_w2:=r_w2.b1 (ps:=["field"]) X Gg fun _ _ _ _ _ _ _=>rfl;have h_w3:=r_w3.b2 (ps:=["_law_script","_law_k"]) X Gg fun _ _ _ _ _ _ _ _=>rfl;have h_w4:=r_w4.b2 (ps:=["_law_script","_law_k"]) X Gg fun _ _ _ _ _ _ _ _=>rfl;have h_w5:=r_w5.b2 (ps:=["_law_hand_here","_law_many"]) X Gg fun _ _ _ _ _ _ _ _=>rfl;have h_w6:=r_w6.b2 (ps:=["_law_got","_law_due"]) X Gg fun _ _ _ _ _ _ _ _=>rfl;have h_w7:=r_w7.b1 (ps:=["_law_hand_here"]) X Gg fun _ _ _ _ _ _ _=>rfl;have h_w8:=r_w8.b1 (ps:=["_law_block"]) X Gg fun _ _ _ _ _ _ _=>rfl;have h_w9:=r_w9.b1 (ps:=["_law_some"]) X Gg fun _ _ _ _ _ _ _=>rfl;have h_w10:=r_w10.b1 (ps:=["_law_field_here"]) X Gg fun _ _ _ _ _ _ _=>rfl;have h_w11:=r_w11.b1 (ps:=["_law_cells"]) X Gg fun _ _ _ _ _ _ _=>rfl;have h_w12:=r_w12.b2 (ps:=["_law_hand_here","_law_field_here"]) X Gg fun _ _ _ _ _ _ _ _=>rfl;have h_w13:=r_w13.b1 (ps:=["_law_field_here"]) X Gg fun _ _ _ _ _ _ _=>rfl;have h_w14:=r_w14.b2 (ps:=["_law_some","_law_by"]) X Gg fun _ _ _ _ _ _ _ _=>rfl;have h_law:=r_law.b1 (ps:=["_law_script"]) X Gg fun _ _ _ _ _ _ _=>rfl;have A_:OT K mg "NoBlocks" k_:=⟨W5 X Gg g_NoBlocks,x_NoBlocks⟩;have Fm:=W5 X Gg g_MowError;refine BI r_law X Gg OO (fun _ _ _ _ _ _ _ _=>.of_eq rfl) fun base=>?_;have ME:=Ds (P:=l.prog) (w:=w) (base:=base) h_w0 T;have MF:=Du (P:=l.prog) (w:=w) (base:=base) h_w1 T;have MH:=Dw (P:=l.prog) (w:=w) (base:=base) h_w2 T ME MF A_;have O9:=Dv (P:=l.prog) (w:=w) (base:=base) h_w2 T ME MF;have O':=Dy (P:=l.prog) (w:=w) (base:=base) h_w3 T;have O_:=DA (P:=l.prog) (w:=w) (base:=base) h_w4 T O';have KI:=DC (P:=l.prog) (w:=w) (base:=base) h_w5 T;have Pa:EN l.prog w K mg base 7 "_law_same" iB Mx ["_law_got","_law_due"] 2 (G.bz 6):=have ⟨_,U,b,m⟩:=h_w6;⟨_,U,b,m,DD U T b m 6⟩;have Pb:=DF (P:=l.prog) (w:=w) (base:=base) h_w7 T KI;have MJ:=DH (P:=l.prog) (w:=w) (base:=base) h_w8 T;have Pc:=DJ (P:=l.prog) (w:=w) (base:=base) h_w9 T MJ;have MK:=DL (P:=l.prog) (w:=w) (base:=base) h_w10 T MJ;have JW:=DN (P:=l.prog) (w:=w) (base:=base) h_w11 T;have ML:=DP (P:=l.prog) (w:=w) (base:=base) h_w12 T KI JW;have MM:=DR (P:=l.prog) (w:=w) (base:=base) h_w13 T O9 A_ MH Fm Q_MowError V_ValueError;have MN:=DT (P:=l.prog) (w:=w) (base:=base) h_w14 T;exact DV h_law T O_ Pb Pa MM Pc ML MN KI MK JW
theorem walk{q:Program}{loose:List Str}{XP:(Str->Option Value)->Heap->Prop}{YP:World->Heap->Prop}{d:DefRec}{K:Params->PySem.W.Frag}(hn:l.most=some 63)(Lz:d.params.defaults=[])(hY:∀ (w:World) (h:Heap),YP w h->(K w.params).In h)(hK:∀ p,jr (K p)=true)(F:∀ (w:World) (mg:Str->Option Value) (fa:Addr) (h:Heap),(K w.params).In h->h.Ns mainGlobals mg->mg d.name=some (.ref fa)->
   ∃ fd:FuncData,(∀ (s:Shared) (u:Value),BindsTo s fd ⟨[u],[]⟩ [("_law_script",u)])/\∀ base:Heap,(K w.params).In base->base.Ns mainGlobals mg->E2 l.prog w (K w.params) mg base Hw 8 fa fd ["_law_script"] (Ir 1 G.jv)):
  PySem.W.WalkO q loose XP YP l.row.toRowW d [] (fun f vs=>PySem.call f vs):=
 L2.yd (n:=63) (k:=8) (x := "_law_script") (CX:=fun _=>Hw) (sp:=fun w=>Ir 1 G.jv) hn (by decide) Lz ⟨rfl,by decide,by decide,rfl⟩ hY F (fun w H a ns hl hO hS=>BG (hK w.params) H a ns hO hS (G.Db ns (XA hl (by decide)))) fun _ _ _ _ _ z=>z
end K37
def PySem.W.Fast.tw16272929595802870487:=0
def PySem.W.Fast.tw6714555809495787616:=0
def PySem.W.Fast.tw5176544760576543136:=0
def PySem.W.Fast.tw3513047131295652416:=0
def PySem.W.Fast.tw14357648670711022886:=0
def PySem.W.Fast.tw13050084288742069798:=0
def PySem.W.Fast.tw17069112947238925832:=0
def PySem.W.Fast.tw12686956402042798920:=0
def PySem.W.Fast.tw11839788571307892552:=0
def PySem.W.Fast.tw7886973022513193771:=0
def PySem.W.Fast.tw4928047154291318413:=0
def PySem.W.Fast.tw17620218364526767951:=0
def PySem.W.Fast.tw16465546445988536816:=0
def PySem.W.Fast.tw8650634917444142608:=0
def PySem.W.Fast.tw12384655351062967636:=0
def PySem.W.Fast.tw15279954147133358420:=0
def PySem.W.Fast.tw5016097610204684469:=0
def PySem.W.Fast.tw17904854113986102101:=0
def PySem.W.Fast.tw12665833140278047990:=0
def PySem.W.Fast.tw9117888023671649110:=0
def PySem.W.Fast.tw12016565372881204056:=0
def PySem.W.Fast.tw15701012872024503288:=0
def PySem.W.Fast.tw3252800605538974329:=0
def PySem.W.Fast.tw15395666509882552057:=0
def PySem.W.Fast.tw3918999132912939068:=0
def PySem.W.Fast.tw17426467121803337277:=0
def PySem.W.Fast.tw3569469467806811262:=0
def PySem.W.Fast.tw5580018483246659486:=0
def PySem.W.Fast.tw10603239149557564703:=0
open PySem PySem.W PyProof.Rows
set_option maxRecDepth 100000 in
set_option maxHeartbeats 0 in
theorem PySem.Challenge.cw_mowfloor_k37_blocks_cut_holds : PySem.Challenge.rw_mowfloor_k37_blocks_cut.Holds := by
  w_on; o_law; k_head; (case hw => w_witness2)
  k_fill
  refine K37.walk (l := PySem.Challenge.rw_mowfloor_k37_blocks_cut) rfl rfl (fun w h Y => PySem.W.kIn_of Y) ?hK ?F
  case hK => intro p; rfl
  case F =>
    intro w mg fa h KX G hmg
    refine' K37.all_mk KX G hmg ?r_w0 ?r_w1 ?r_w2 ?r_w3 ?r_w4 ?r_w5 ?r_w6 ?r_w7 ?r_w8 ?r_w9 ?r_w10 ?r_w11 ?r_w12 ?r_w13 ?r_w14 ?r_law ?g_SIDE ?g_NoBlocks ?x_NoBlocks ?g_MowError ?Q_MowError ?V_ValueError ?z_ValueError ?z_all ?z_any ?z_bool ?z_int ?z_isinstance ?z_len ?z_list ?z_max ?z_min ?z_range ?z_set ?z_sorted ?z_str ?z_tuple ?z_zip
    case r_w0 | r_w1 | r_w2 | r_w3 | r_w4 | r_w5 | r_w6 | r_w7 | r_w8 | r_w9 | r_w10 | r_w11 | r_w12 | r_w13 | r_w14 | r_law => refine' L2.BH ?a ?l ?c ?k; (case a => k_is); (case l => k_is); (case c => k_is); (case k => k_is)
    case g_SIDE | g_NoBlocks | g_MowError | z_ValueError | z_all | z_any | z_bool | z_int | z_isinstance | z_len | z_list | z_max | z_min | z_range | z_set | z_sorted | z_str | z_tuple | z_zip => k_is
    case x_NoBlocks => k_exc
    case Q_MowError => kts_exm
    case V_ValueError => kit_is
