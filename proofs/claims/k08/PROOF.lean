import PyProof.Rows.All
import Wide.All
import OpenK.AllK
import Wide.FinOn
import Lean
import PyProof.EqAt
import PyProof.EqKinds
import PyProof.TupleCall
import PyProof.IsiNone
import PyProof.NeKinds
import PyProof.MaxThree
import PyProof.NsDelKeeps
import KE.KTryMore
import KE.KIsAll
import PyProof.ExcAttrAll.ValueError
import PyProof.Rows.SetFrom
import PyProof.WalksMore
import PyProof.CallStr
import PySem.Challenge.RW_mowfloor_k08_mown_or_never
set_option maxHeartbeats 4000000
set_option Elab.async false
set_option linter.all false
set_option maxRecDepth 100000
open List (range range' replicate)
abbrev Z9:=@PySem.wpAny_bind
abbrev Z8:=@Option.bind_eq_some_iff
abbrev Z7:=@List.append_assoc
abbrev Z6:=@List.getD_eq_getElem?_getD
abbrev Z5:=@Option.map_eq_some_iff
abbrev Z4:=@List.length_map
abbrev Z3:=@PySem.W.kasC_pure
abbrev Z2:=@PySem.Heap.get?_push_of_some
abbrev Z1:=@PySem.W.kasC_bind
abbrev Z0:=@List.perm_append_comm
abbrev ZZ:=@if_pos
abbrev ZY:=@List.append_nil
abbrev ZX:=@List.mem_singleton
abbrev ZW:=@if_neg
abbrev ZV:=@Bool.and_eq_true
abbrev ZU:=@PySem.wpAny_pure
abbrev ZT:=@List.mem_cons
abbrev ZS:=@List.size_toArray
abbrev ZR:=@Nat.le_refl
abbrev ZQ:=@List.Perm.append_left
abbrev ZP:=@List.nodup_append
abbrev ZO:=@PySem.Heap.lt_size
abbrev ZN:=@List.mem_append_right
abbrev ZM:=@Nat.le_of_ble_eq_true
abbrev ZL:=@List.getElem?_eq_getElem
abbrev ZK:=@Bool.false_ne_true
abbrev ZJ:=@List.mem_append_left
abbrev ZI:=@List.Perm.append_right
abbrev ZH:=@List.length_append
abbrev ZG:=@List.Perm.refl
abbrev ZF:=@List.map_cons
abbrev ZE:=@PySem.Heap.get?_push_size
abbrev ZD:=@List.mem_append
abbrev ZC:=@List.length_cons
abbrev ZB:=@List.pairwise_singleton
abbrev ZA:=@List.take_append_drop
abbrev Zz:=@List.getElem?_eq_some_iff
abbrev Zy:=@Nat.lt_of_lt_of_le
abbrev Zx:=@Nat.ne_of_lt
abbrev Zw:=@Array.length_toList
abbrev Zv:=@Option.some.inj
abbrev Zu:=@PySem.W.mg_none_of
abbrev Zt:=@Array.getElem?_toList
abbrev Zs:=@decide_eq_false
abbrev Zr:=@decide_eq_true
abbrev Zq:=@List.getElem?_map
abbrev Zp:=@List.mem_range
abbrev Zo:=@Nat.le_trans
abbrev Zn:=@List.all_eq_true
abbrev Zm:=@List.mem_cons_of_mem
abbrev Zl:=@List.nodup_cons
abbrev Zk:=@of_decide_eq_true
abbrev Zj:=@List.pairwise_cons
abbrev Zi:=@List.mem_map
abbrev Zh:=@PySem.Heap.SameBut.update
abbrev Zg:=@List.drop_eq_getElem_cons
abbrev Zf:=@List.length_take
abbrev Ze:=@List.lookup_cons
abbrev Zd:=@List.length_drop
abbrev Zc:=@Bool.false_eq_true
abbrev Zb:=@List.mem_cons_self
abbrev Za:=@PySem.W.kasC_range
abbrev Y9:=@List.length_singleton
abbrev Y8:=@List.length_filter_le
abbrev Y7:=@List.map_append
abbrev Y6:=@PySem.PassesOwn.never
abbrev Y5:=@List.length_range
abbrev Y4:=@List.getElem?_append_left
abbrev Y3:=@PySem.wpAny_mono
abbrev Y2:=@PySem.wpAny_call_entry
abbrev Y1:=@PySem.W.mg_of
abbrev Y0:=@PySem.W.hideAll_none
abbrev YZ:=@List.getElem?_set_ne
abbrev YY:=@List.getElem?_append_right
abbrev YX:=@List.mem_of_getElem?
abbrev YW:=@List.mem_filter
abbrev YV:=@List.map_map
abbrev YU:=@List.pairwise_iff_getElem
abbrev YT:=@List.eq_nil_of_length_eq_zero
abbrev YS:=@PySem.F.slot_dict_keyiterator_next
abbrev YR:=@List.getElem?_drop
abbrev YQ:=@PySem.wpAny_callSpecial?_slot
abbrev YO:=@List.mem_of_mem_drop
abbrev YN:=@PySem.W.kasC_modify
abbrev YM:=@PySem.wpAny_holding
abbrev YL:=@PySem.wpAny_rule
abbrev YK:=@PySem.wpAny_seqItems
abbrev YJ:=@PySem.wpAny_dictEntries
abbrev YI:=@List.find?_cons
abbrev YH:=@List.foldl_cons
abbrev YG:=@PySem.Heap.get?_update_self
abbrev YF:=@List.getElem?_take
abbrev YE:=@PySem.wpAny_typeNameOfWhole_keyiter
abbrev YD:=@List.mem_of_mem_take
abbrev YC:=@PySem.wpAny_field
abbrev YB:=@PySem.wpAny_truthy_bool
abbrev YA:=@PySem.wpAny_newObj_type
abbrev Yz:=@PySem.F.plainAttrs_list
abbrev Yy:=@List.length_nil
abbrev Yx:=@PySem.W.hideAll_get
abbrev Yw:=@List.filterMap_cons
abbrev Yv:=@Ne.symm
abbrev Yu:=@PySem.Heap.get?_update_other
abbrev Yt:=@Nat.lt_irrefl
abbrev Ys:=@Nat.zero_le
abbrev Yr:=@beq_self_eq_true
abbrev Yq:=@PySem.F.slot_tuple_iterator_next
abbrev Yp:=@PySem.wpAny_setField_rec
abbrev Yo:=@decide_eq_true_iff
abbrev Yn:=@PySem.wpAny_passesOwn
abbrev Ym:=@List.mem_iff_getElem
abbrev Yl:=@Bool.not_eq_true'
abbrev Yk:=@List.ext_getElem?
abbrev Yj:=@PySem.Paired.length
abbrev Yi:=@List.map_drop
abbrev Yh:=@List.map_take
abbrev Yg:=@PySem.mem_of_lookup
abbrev Yf:=@List.drop_drop
abbrev Ye:=@decide_eq_false_iff_not
abbrev Yd:=@List.drop_zero
abbrev Yc:=@PySem.W.of_hideAll
abbrev Yb:=@List.getElem?_set_self
abbrev Ya:=@PySem.wpAny_Call_Name_kw
abbrev X9:=@Array.ext'
abbrev X8:=@List.drop_of_length_le
abbrev X7:=@Int.emod_lt_of_pos
abbrev X6:=@if_false
abbrev X5:=@PySem.wpAny_execs_nil
abbrev X4:=@PySem.W.kasC_get
abbrev X3:=@Int.emod_nonneg
abbrev X2:=@List.any_cons
abbrev X1:=@PyProof.Rows.callWith_type1
abbrev X0:=@PySem.Obj.data_mapDictKeys
abbrev XZ:=@PySem.wpAny_forIn_list
abbrev XY:=@List.mem_nil_iff
abbrev XX:=@PySem.W.Looks.ld
abbrev XW:=@List.map_congr_left
abbrev XV:=@PySem.F.args_tuple_add_2
abbrev XU:=@PySem.F.slot_list_getattribute
abbrev XT:=@PySem.F.slot_dict_update
abbrev XS:=@PySem.F.slot_list_append
abbrev XR:=@PySem.F.type_list_append
abbrev XQ:=@PySem.wpAny_specialOf
abbrev XO:=@Bool.eq_iff_iff
abbrev XN:=@List.length_set
abbrev XM:=@PySem.wpAny_dictEpoch
abbrev XL:=@PySem.Obj.data_mapFields
abbrev XJ:=@PySem.F.entry_tuple_add
abbrev XI:=@Int.le_refl
abbrev XH:=@List.length_eq_zero_iff
abbrev XG:=@PySem.F.slot_tuple_hash
abbrev XF:=@List.all_map
abbrev XE:=@PySem.W.cellsFrom_some
abbrev XD:=@List.take_sublist
abbrev XC:=@PySem.F.slot_tuple_add
abbrev XB:=@Option.isSome_map
abbrev XA:=@List.nodup_nil
abbrev Xz:=@PySem.Heap.size_push
abbrev Xy:=@Int.toNat_natCast
abbrev Xx:=@List.getElem_drop
abbrev Xw:=@List.take_of_length_le
abbrev Xv:=@decide_eq_true_eq
abbrev Xu:=@List.drop_take
abbrev Xt:=@List.getElem?_set
abbrev Xs:=@Array.toList_push
abbrev Xr:=@PySem.wpAny_pyIter_list
abbrev Xq:=@PySem.wpAny_loadPart_at
abbrev Xp:=@PySem.atKey_none_of_get
abbrev Xo:=@List.pairwise_map
abbrev Xn:=@List.eraseIdxIfInBounds_toArray
abbrev Xm:=@PySem.wpAny_notOrdered_dict
abbrev Xl:=@List.getElem?_eq_none
abbrev Xk:=@PySem.F.typeOf_object_class
abbrev Xj:=@Int.emod_add_mul_ediv
abbrev Xi:=@List.cons_append
abbrev Xh:=@PySem.wpAny_isInstance
abbrev Xg:=@List.getElem_inj
abbrev Xf:=@PySem.call_meets
abbrev Xe:=@PySem.F.args_dict_keyiterator_next_1
abbrev Xd:=@List.take_length
abbrev Xc:=@Nat.le_add_right
abbrev Xb:=@Option.getD_some
abbrev Xa:=@List.getElem_map
abbrev W9:=@List.not_mem_nil
abbrev W8:=@List.any_toArray
abbrev W7:=@List.countP_cons
abbrev W6:=@List.any_eq_true
abbrev W5:=@Nat.add_assoc
abbrev W4:=@Bool.not_true
abbrev W3:=@PySem.wpAny_attempt
abbrev W2:=@PySem.Heap.get?_none_of_le
abbrev W1:=@PySem.F.entry_dict_keyiterator_next
abbrev W0:=@PySem.wpAny_updateSeq_pair
abbrev WZ:=@PySem.W.looks_findIn
abbrev WY:=@List.mem_erase_of_ne
abbrev WX:=@List.of_mem_zip
abbrev WW:=@List.forIn_cons
abbrev WV:=@Nat.min_eq_left
abbrev WU:=@List.nil_append
abbrev WT:=@PySem.F.args_tuple_iterator_next_1
abbrev WS:=@PySem.F.slot_zip_next
abbrev WR:=@Option.map_some
abbrev WQ:=@beq_eq_false_iff_ne
abbrev WP:=@PySem.Obj.isFreed_of_dict
abbrev WO:=@List.length_pos_iff
abbrev WN:=@Nat.ne_of_gt
abbrev WM:=@PySem.codeAny_mono
abbrev WL:=@Array.getD_eq_getD_getElem?
abbrev WK:=@PySem.W.kasC_lift
abbrev WJ:=@Array.forIn_toList
abbrev WI:=@Array.append_assoc
abbrev WH:=@PySem.W.callWith_K
abbrev WG:=@beq_iff_eq
abbrev WF:=@PySem.wpAny_setField
abbrev WE:=@Array.perm_iff_toList_perm
abbrev WD:=@List.take_take
abbrev WC:=@List.setIfInBounds_toArray
abbrev WA:=@Nat.lt_of_le_of_lt
abbrev Wz:=@PySem.F.excBase_ValueError
abbrev Wy:=@Array.getElem?_eq_getElem
abbrev Wx:=@if_true
abbrev Ww:=@List.getElem_take
abbrev Wv:=@List.drop_sublist
abbrev Wu:=@PySem.wpAny_standAt
abbrev Wt:=@List.set_comm
abbrev Ws:=@Option.isSome_iff_exists
abbrev Wr:=@PySem.wpAny_onRaise
abbrev Wq:=@List.length_erase_of_mem
abbrev Wp:=@PySem.F.type_dict_update
abbrev Wo:=@PySem.noFill_tuple_add
abbrev Wn:=@List.drop_length
abbrev Wm:=@List.zipIdx_cons
abbrev Wl:=@PySem.F.attr_ValueError
abbrev Wk:=@Option.bind_some
abbrev Wj:=@List.filter_cons
abbrev Wi:=@List.filter_append_perm
abbrev Wh:=@PySem.F.plainAttrs_dict
abbrev Wg:=@Nat.le_of_lt
abbrev Wf:=@List.set_set
abbrev We:=@List.length_pos_of_mem
abbrev Wd:=@Nat.lt_or_ge
abbrev Wc:=@PySem.codeAny_builtin
abbrev Wb:=@PySem.size_of_entries
abbrev Wa:=@or_false
abbrev V9:=@PySem.storedH_new
abbrev V8:=@Int.mul_nonneg
abbrev V7:=@Int.le_trans
abbrev V6:=@Nat.add_comm
abbrev V5:=@Nat.zero_add
abbrev V4:=@Prod.ext
abbrev V3:=@List.any_map
namespace L2
open PySem PySem.Spec PyProof.Rows
variable{scope:Scope}{qual x:Str}{base h:Heap}{mg:Str->Option Value}{ps N:List Str}{us:List Value}{op:CmpOp}{f:Value->Value->Sem Value}{fp ch:List Addr}{body:List Stmt}{j n k i t':Nat}{g:Int->Int->Int}{tg c e:Expr}{es:List Expr}{K:PySem.W.Frag}{pins:List (Addr×Obj)}{pos:Pos}{s s':Shared}{Q E:Value->Shared->Prop}{A:Around}{it b a:Addr}{d':Drawn}{g':Array GenState}{w:World}{P:Program}{u:Value}
inductive Im where
 | i_ | bl (b:Bool) | int (i:Int) | str (x:Str) | tup (ds:List Im) | fn (a:Addr) | fl (ds:List Im) | fd
mutual
def Im.beq:Im->Im->Bool
 | .i_,.i_=>true
 | .bl a,.bl b=>a == b
 | .int i,.int j=>decide (i=j)
 | .str x,.str y=>decide (x=y)
 | .tup a,.tup b=>Im.FM a b
 | .fn a,.fn b=>decide (a=b)
 | .fl a,.fl b=>Im.FM a b
 | .fd,.fd=>true
 | _,_=>false
def Im.FM:List Im->List Im->Bool
 | [],[]=>true
 | a::r,b::t=>Im.beq a b && Im.FM r t
 | _,_=>false
end
mutual
theorem Im.beq_iff:∀ a b:Im,Im.beq a b=true↔a=b
 | .i_,b=>by cases b<;>simp[Im.beq]
 | .bl a,b=>by cases b<;>simp[Im.beq]
 | .int i,b=>by cases b<;>simp[Im.beq]
 | .str x,b=>by cases b<;>simp[Im.beq]
 | .tup x,b=>by
  cases b with
  | tup y=>rw[Im.beq,Im.Fb x y];simp
  | _=>simp[Im.beq]
 | .fn a,b=>by cases b<;>simp[Im.beq]
 | .fl x,b=>by
  cases b with
  | fl y=>rw[Im.beq,Im.Fb x y];simp
  | _=>simp[Im.beq]
 | .fd,b=>by cases b<;>simp[Im.beq]
theorem Im.Fb:∀ a b:List Im,Im.FM a b=true↔a=b
 | [],b=>by cases b<;>simp[Im.FM]
 | x::r,b=>by
  cases b with
  | nil=>simp[Im.FM]
  | cons y t=>rw[Im.FM,ZV,Im.beq_iff x y,Im.Fb r t];simp
end
instance:DecidableEq Im:=fun a b=>decidable_of_iff (Im.beq a b=true) (Im.beq_iff a b)
mutual
def Ew(h:Heap):Im->Value->Prop
 | .i_,v=>v=.none
 | .bl b,v=>v=.bool b
 | .int i,v=>∃ t,v=.int i t
 | .str x,v=>∃ t,v=.str x t
 | .fn a,v=>v=.ref a
 | .fl _,v=>∃ a,v=.ref a
 | .fd,v=>∃ a,v=.ref a
 | .tup ds,v=>∃ a o items n,v=.ref a/\h.get? a=some o/\o.cls=.type "tuple" /\ o.data=.seq items n/\aO h ds items.toList
def aO(h:Heap):List Im->List Value->Prop
 | [],vs=>vs=[]
 | d::ds,vs=>∃ v r,vs=v::r/\Ew h d v/\aO h ds r
end
mutual
def Im.key:Nat->Im->Bool
 | _,.int _=>true
 | _,.str _=>true
 | n+1,.tup ds=>Im.keys n ds
 | _,_=>false
def Im.keys:Nat->List Im->Bool
 | _,[]=>true
 | n,d::ds=>Im.key n d && Im.keys n ds
end
mutual
def Mw(w:World):Im->Int
 | .int i=>hashInt i
 | .str x=>hashStr w x
 | .tup ds=>reduceHash (Builtin.Tuple.tupleHashOf<|cH w ds)
 | _=>0
def cH(w:World):List Im->List Int
 | []=>[]
 | d::ds=>Mw w d::cH w ds
end
mutual
def Mx:Im->Nat
 | .tup ds=>dv ds+1
 | _=>1
def dv:List Im->Nat
 | []=>0
 | d::ds=>Mx d+dv ds
end
theorem kS(w:World):∀ a b:List Im,cH w (a++b)=cH w a++cH w b
 | [],b=>rfl
 | d::a,b=>by rw[Xi,cH,cH,kS w a b,Xi]
theorem kT:∀ a b:List Im,dv (a++b)=dv a+dv b
 | [],b=>by simp[dv]
 | d::a,b=>by rw[Xi,dv,dv,kT a b];lia
theorem nK{n:Nat}:∀ {a b:List Im},Im.keys n (a++b)=true->Im.keys n b=true
 | [],b,h=>h
 | d::a,b,h=>by rw[Xi,Im.keys,ZV] at h;exact nK h.2
theorem aO.length{h:Heap}:∀ {ds:List Im}{vs:List Value},aO h ds vs->ds.length=vs.length
 | [],vs,e=>by rw[show vs=[] from e];rfl
 | d::ds,vs,e=>by
  obtain⟨v,r,rfl,_,e⟩:=e;rw[ZC,ZC,aO.length e]
def nL(h h':Heap):Prop:=∀ a o items n,h.get? a=some o->o.cls=.type "tuple" -> o.data=.seq items n->h'.get? a=some o
mutual
theorem Ew.keep{h h':Heap}(k:nL h h'):∀ {d:Im}{v:Value},Ew h d v->Ew h' d v
 | .i_,_,e=>e
 | .bl _,_,e=>e
 | .int _,_,e=>e
 | .str _,_,e=>e
 | .fn _,_,e=>e
 | .fl _,_,e=>e
 | .fd,_,e=>e
 | .tup ds,_,e=>by
  obtain⟨a,o,items,n,rfl,h1,h2,h3,h4⟩:=e;exact⟨a,o,items,n,rfl,k a o items n h1 h2 h3,h2,h3,aO.keep k h4⟩
theorem aO.keep{h h':Heap}(k:nL h h'):∀ {ds:List Im}{vs:List Value},aO h ds vs->aO h' ds vs
 | [],_,e=>e
 | d::ds,_,e=>by
  obtain⟨v,r,rfl,h1,h2⟩:=e;exact⟨v,r,rfl,Ew.keep k h1,aO.keep k h2⟩
end
theorem nM{h:Heap}:∀ (n:Nat) {x y:Im}{v:Value},Im.key n x=true->Im.key n y=true->Ew h x v->Ew h y v->x=y
 | n,.int i,y,v,_,ky,hx,hy=>by
  obtain⟨t,rfl⟩:=hx;cases y with
  | int j=>obtain⟨u,e⟩:=hy;injection e with e;rw[e]
  | str z=>obtain⟨u,e⟩:=hy;cases e
  | tup ds=>obtain⟨_,_,_,_,e,_⟩:=hy;cases e
  | _=>cases n<;>cases ky
 | n,.str z,y,v,_,ky,hx,hy=>by
  obtain⟨t,rfl⟩:=hx;cases y with
  | int j=>obtain⟨u,e⟩:=hy;cases e
  | str z=>obtain⟨u,e⟩:=hy;injection e with e;rw[e]
  | tup ds=>obtain⟨_,_,_,_,e,_⟩:=hy;cases e
  | _=>cases n<;>cases ky
 | n+1,.tup ds,y,v,kx,ky,hx,hy=>by
  obtain⟨a,o,items,m,rfl,h1,h2,h3,h4⟩:=hx;cases y with
  | int j=>obtain⟨u,e⟩:=hy;cases e
  | str z=>obtain⟨u,e⟩:=hy;cases e
  | tup es=>
   obtain⟨a',o',y_,m',e,g1,g2,g3,g4⟩:=hy;cases e;rw[h1] at g1;cases g1;rw[h3] at g3;injection g3 with g3 _;subst g3;have all:∀ (ds es:List Im) (vs:List Value),Im.keys n ds=true->Im.keys n es=true->aO h ds vs->aO h es vs->ds=es:=by
    intro ds;induction ds with
    | nil=>
     intro es vs _ _ a b;cases es with
     | nil=>rfl
     | cons e es=>obtain⟨_,_,q,_⟩:=b;rw[show vs=[] from a] at q;cases q
    | cons d ds ih=>
     intro es vs k1 k2 a b;obtain⟨v,r,rfl,a1,a2⟩:=a;cases es with
     | nil=>cases (show v::r=[] from b)
     | cons e es=>
      obtain⟨v',r',q,b1,b2⟩:=b;cases q;rw[Im.keys,ZV] at k1 k2;rw[nM n k1.1 k2.1 a1 b1,ih es r k1.2 k2.2 a2 b2]
   rw[all ds es _ kx ky h4 g4]
  | _=>cases ky
 | _,.i_,_,_,k,_,_,_=>by cases ‹Nat›<;>cases k
 | _,.bl _,_,_,k,_,_,_=>by cases ‹Nat›<;>cases k
 | _,.fn _,_,_,k,_,_,_=>by cases ‹Nat›<;>cases k
 | _,.fl _,_,_,k,_,_,_=>by cases ‹Nat›<;>cases k
 | _,.fd,_,_,k,_,_,_=>by cases ‹Nat›<;>cases k
 | 0,.tup _,_,_,k,_,_,_=>by cases k
section
variable{prog:Program}{w:World}
theorem nN:∀ (n:Nat) {A:Around}{E:Value->Shared->Prop}{s:Shared}{d:Im}{v:Value}{Q:Int->Shared->Prop},Im.key n d=true->A.units+n<cLine->Ew s.heap d v->Q (Mw w d) { s with toks:=s.toks+Mx d }->
  wpAny (model prog w) A (pyHash v) Q E s
 | n,A,E,s,.int i,v,Q,_,_,hv,h=>by
  obtain⟨t,rfl⟩:=hv;exact wpAny_pyHash_int h
 | n,A,E,s,.str i,v,Q,_,_,hv,h=>by
  obtain⟨t,rfl⟩:=hv;exact wpAny_pyHash_str h
 | n+1,A,E,s,.tup ds,v,Q,k,hu,hv,h=>by
  obtain⟨a,o,items,m,rfl,ho,hc,hd,hi⟩:=hv;have hT:s.TypeIs (.ref a) "tuple" := ⟨o,ho,hc⟩;unfold pyHash;first | unfold pyHashByItsType | skip
  first | refine Z9 (wpAny_cRoomFor_or (.inr (by lia)) ?_) | skip
  refine Z9 (XQ hT XG.lookup ?_);show wpAny _ _ (if (some (Value.builtin "tuple.__hash__") == some Value.none)=true then _ else _) Q E s;rw[ZW (by rw[beq_builtin_none];exact ZK)];refine Z9 (XQ hT XG.lookup ?_);show wpAny _ _ (callSpecialIfBoundUnlessNone? (.ref a) "__hash__" _ >>= _) Q E s;refine Z9 (wpAny_callSpecialIfBoundUnlessNone?_slot hT XG<|Y2 XG hT F.entry_tuple_hash ?_<|F.args_tuple_hash_1 _);show wpAny _ _ (Builtin.Tuple.tupleItemsOf (.ref a) >>= _) _ _ s;refine Z9 (wpAny_tupleItemsOf ho hd ?_);refine Z9 ?_;rw[<- WJ];refine XZ _
   (fun rest (b:Array Int) s'=>∃ done left,ds=done++left/\aO s.heap left rest/\b.toList=cH w done/\s'={ s with toks:=s.toks+dv done })
   _ ?_ ?_ _ _ ⟨[],ds,rfl,hi,rfl,rfl⟩
  ·rintro x rest b s' ⟨done,left,rfl,hl,hb,rfl⟩;cases left with
   | nil=>cases (show x::rest=[] from hl)
   | cons d left=>
    obtain⟨v,r,e,h1,Gq⟩:=hl;cases e;have k2:=nK (a:=done) (show Im.keys n (done++d::left)=true from k);rw[Im.keys,ZV] at k2;refine Z9 (nN n k2.1 (by show A.units+1+n<cLine;lia) h1 ?_);first
     | exact ZU ⟨done++[d],left,by simp,Gq,by simp[hb,kS,cH],by simp[kT,dv,W5]⟩
     | exact Z9 (ZU (ZU ⟨done++[d],left,by simp,Gq,by simp[hb,kS,cH],by simp[kT,dv,W5]⟩))
  ·rintro b s' ⟨done,left,rfl,hl,hb,rfl⟩;cases left with
   | cons d left=>obtain⟨_,_,e,_⟩:=hl;cases e
   | nil=>
   rw[ZY] at h;show wpAny _ _ (retInt<|Builtin.Tuple.tupleHashOf b.toList) _ _ _;rw[hb];refine wpAny_ret_mkInt ?_;show wpAny _ _ (if (decide (-(2:Int) ^ 63<=Builtin.Tuple.tupleHashOf (cH w done)) && decide (Builtin.Tuple.tupleHashOf (cH w done)<2 ^ 63))=true then _ else _) Q E _;rw[Mw,Mx] at h;unfold reduceHash at h;by_cases hr:(decide (-(2:Int) ^ 63<=Builtin.Tuple.tupleHashOf (cH w done)) && decide (Builtin.Tuple.tupleHashOf (cH w done)<2 ^ 63))=true
   ·rw[ZZ hr];rw[ZZ hr] at h;exact ZU (by simpa [W5] using h)
   ·rw[ZW hr];rw[ZW hr] at h;exact Z9 (YL (ZU (by simpa [W5] using h)))
 | _,_,_,_,.i_,_,_,k,_,_,_=>by cases ‹Nat›<;>cases k
 | _,_,_,_,.bl _,_,_,k,_,_,_=>by cases ‹Nat›<;>cases k
 | _,_,_,_,.fn _,_,_,k,_,_,_=>by cases ‹Nat›<;>cases k
 | _,_,_,_,.fl _,_,_,k,_,_,_=>by cases ‹Nat›<;>cases k
 | _,_,_,_,.fd,_,_,k,_,_,_=>by cases ‹Nat›<;>cases k
 | 0,_,_,_,.tup _,_,_,k,_,_,_=>by cases k
mutual
def aB:Im->Im->Bool
 | .i_,.i_=>true
 | .bl a,.bl b=>a == b
 | .bl a,.int j=>(if a then 1 else 0) == j
 | .int i,.bl b=>i == (if b then 1 else 0)
 | .int i,.int j=>i == j
 | .str x,.str y=>x == y
 | .tup a,.tup b=>bE a b
 | _,_=>false
def bE:List Im->List Im->Bool
 | [],[]=>true
 | a::r,b::t=>aB a b && bE r t
 | _,_=>false
end
mutual
def Im.pl:Nat->Im->Bool
 | _,.i_=>true
 | _,.bl _=>true
 | _,.int _=>true
 | _,.str _=>true
 | n+1,.tup ds=>Im.pls n ds
 | _,_=>false
def Im.pls:Nat->List Im->Bool
 | _,[]=>true
 | n,d::ds=>Im.pl n d && Im.pls n ds
end
theorem dw{n:Nat}:∀ {ds:List Im}{j:Nat}{d:Im},Im.pls n ds=true->ds[j]?=some d->Im.pl n d=true
 | [],j,d,_,h=>by simp at h
 | e::ds,0,d,k,h=>by
  rw[Im.pls,ZV] at k;simp at h;subst h;exact k.1
 | e::ds,j+1,d,k,h=>by
  rw[Im.pls,ZV] at k;exact dw k.2 (by simpa using h)
theorem aO.get{h:Heap}:∀ {ds:List Im}{vs:List Value}{j:Nat}{v:Value},aO h ds vs->vs[j]?=some v->∃ d,ds[j]?=some d/\Ew h d v
 | [],vs,j,v,a,e=>by rw[show vs=[] from a] at e;simp at e
 | d::ds,vs,0,v,a,e=>by
  obtain⟨u,r,rfl,a1,a2⟩:=a;simp at e;subst e;exact⟨d,rfl,a1⟩
 | d::ds,vs,j+1,v,a,e=>by
  obtain⟨u,r,rfl,a1,a2⟩:=a;obtain⟨d',h1,h2⟩:=aO.get (j:=j) a2 (by simpa using e);exact⟨d',by simpa using h1,h2⟩
theorem nO{h:Heap}:∀ (n:Nat) {x y:Im}{v:Value},Im.pl n x=true->Im.pl n y=true->Ew h x v->Ew h y v->aB x y=true
 | n,.i_,y,v,_,ky,hx,hy=>by
  cases (show v=.none from hx);cases y with
  | i_=>rfl
  | bl b=>cases hy
  | int j=>obtain⟨u,e⟩:=hy;cases e
  | str z=>obtain⟨u,e⟩:=hy;cases e
  | tup ds=>obtain⟨_,_,_,_,e,_⟩:=hy;cases e
  | fn a=>cases n<;>cases ky
  | fl a=>cases n<;>cases ky
  | fd=>cases n<;>cases ky
 | n,.bl b,y,v,_,ky,hx,hy=>by
  cases (show v=.bool b from hx);cases y with
  | i_=>cases hy
  | bl c=>cases hy;simp[aB]
  | int j=>obtain⟨u,e⟩:=hy;cases e
  | str z=>obtain⟨u,e⟩:=hy;cases e
  | tup ds=>obtain⟨_,_,_,_,e,_⟩:=hy;cases e
  | fn a=>cases n<;>cases ky
  | fl a=>cases n<;>cases ky
  | fd=>cases n<;>cases ky
 | n,.int i,y,v,_,ky,hx,hy=>by
  obtain⟨t,rfl⟩:=hx;cases y with
  | i_=>cases hy
  | bl c=>cases hy
  | int j=>obtain⟨u,e⟩:=hy;cases e;simp[aB]
  | str z=>obtain⟨u,e⟩:=hy;cases e
  | tup ds=>obtain⟨_,_,_,_,e,_⟩:=hy;cases e
  | fn a=>cases n<;>cases ky
  | fl a=>cases n<;>cases ky
  | fd=>cases n<;>cases ky
 | n,.str i,y,v,_,ky,hx,hy=>by
  obtain⟨t,rfl⟩:=hx;cases y with
  | i_=>cases hy
  | bl c=>cases hy
  | int j=>obtain⟨u,e⟩:=hy;cases e
  | str z=>obtain⟨u,e⟩:=hy;cases e;simp[aB]
  | tup ds=>obtain⟨_,_,_,_,e,_⟩:=hy;cases e
  | fn a=>cases n<;>cases ky
  | fl a=>cases n<;>cases ky
  | fd=>cases n<;>cases ky
 | n+1,.tup ds,y,v,kx,ky,hx,hy=>by
  obtain⟨a,o,items,m,rfl,h1,h2,h3,h4⟩:=hx;cases y with
  | i_=>cases hy
  | bl c=>cases hy
  | int j=>obtain⟨u,e⟩:=hy;cases e
  | str z=>obtain⟨u,e⟩:=hy;cases e
  | fn a=>cases ky
  | fl a=>cases ky
  | fd=>cases ky
  | tup es=>
   obtain⟨a',o',y_,m',e,g1,g2,g3,g4⟩:=hy;cases e;rw[h1] at g1;cases g1;rw[h3] at g3;injection g3 with g3 _;subst g3;have all:∀ (ds es:List Im) (vs:List Value),Im.pls n ds=true->Im.pls n es=true->aO h ds vs->aO h es vs->bE ds es=true:=by
    intro ds;induction ds with
    | nil=>
     intro es vs _ _ a b;cases es with
     | nil=>rfl
     | cons e es=>obtain⟨_,_,q,_⟩:=b;rw[show vs=[] from a] at q;cases q
    | cons d ds ih=>
     intro es vs k1 k2 a b;obtain⟨v,r,rfl,a1,a2⟩:=a;cases es with
     | nil=>cases (show v::r=[] from b)
     | cons e es=>
      obtain⟨v',r',q,b1,b2⟩:=b;cases q;rw[Im.pls,ZV] at k1 k2;rw[bE,nO n k1.1 k2.1 a1 b1,ih es r k1.2 k2.2 a2 b2];rfl
   rw[aB];exact all ds es _ kx ky h4 g4
 | n,.fn _,_,_,k,_,_,_=>by cases n<;>cases k
 | n,.fl _,_,_,k,_,_,_=>by cases n<;>cases k
 | n,.fd,_,_,k,_,_,_=>by cases n<;>cases k
 | 0,.tup _,_,_,k,_,_,_=>by cases k
theorem hX{e:Nat->Bool}:∀ {ds es:List Im},(∀ (j:Nat) (x y:Im),ds[j]?=some x->es[j]?=some y->e j=aB x y)->((range<|min ds.length es.length).all e && ds.length == es.length)=bE ds es:=by
 have key:∀ (ds es:List Im) (f:Nat->Bool),(∀ (j:Nat) (x y:Im),ds[j]?=some x->es[j]?=some y->f j=aB x y)->((range<|min ds.length es.length).all f && ds.length == es.length)=bE ds es:=by
  intro ds;induction ds with
  | nil=>intro es f _;cases es<;>simp[bE]
  | cons d ds ih=>
   intro es f h;cases es with
   | nil=>simp[bE]
   | cons c es=>
    have:=ih es (fun j=>f<|j+1) fun j x y a b=>h (j+1) x y (by simpa using a) (by simpa using b);rw[bE,<- this,<- h 0 d c rfl rfl];rw[ZC,ZC,show min (ds.length+1) (es.length+1)=min ds.length es.length+1 by lia,List.range_succ_eq_map,List.all_cons,XF,Bool.and_assoc];congr 2;rw[XO];simp
 exact fun {ds es} h=>key ds es e h
theorem cJ{s:Shared}:∀ (n:Nat) {A:Around}{x y:Im}{u v:Value},Im.pl n x=true->Im.pl n y=true->A.units+n+1<cLine->Ew s.heap x u->Ew s.heap y v->SeqAt.EqAt A s u v (aB x y)
 | n,A,.i_,y,u,v,_,ky,hu,hx,hy=>by
  cases (show u=.none from hx);cases y with
  | i_=>cases (show v=.none from hy);exact SeqAt.EqAt.same _
  | bl b=>cases (show v=.bool b from hy);exact SeqAt.EqAt.none_bool b
  | int j=>obtain⟨t,rfl⟩:=hy;exact SeqAt.EqAt.none_int j t
  | str z=>obtain⟨t,rfl⟩:=hy;exact SeqAt.EqAt.none_str z t
  | tup ds=>obtain⟨a,o,items,m,rfl,h1,h2,h3,_⟩:=hy;exact SeqAt.EqAt.none_tuple ⟨o,h1,h2,m,h3⟩ (by lia)
  | fn a=>cases n<;>cases ky
  | fl a=>cases n<;>cases ky
  | fd=>cases n<;>cases ky
 | n,A,.bl b,y,u,v,_,ky,hu,hx,hy=>by
  cases (show u=.bool b from hx);cases y with
  | i_=>cases (show v=.none from hy);exact SeqAt.EqAt.bool_none b
  | bl c=>cases (show v=.bool c from hy);exact SeqAt.EqAt.bool_bool b c
  | int j=>obtain⟨t,rfl⟩:=hy;exact SeqAt.EqAt.bool_int b j t
  | str z=>obtain⟨t,rfl⟩:=hy;exact SeqAt.EqAt.bool_str b z t
  | tup ds=>obtain⟨a,o,items,m,rfl,h1,h2,h3,_⟩:=hy;exact SeqAt.EqAt.bool_tuple b ⟨o,h1,h2,m,h3⟩ (by lia)
  | fn a=>cases n<;>cases ky
  | fl a=>cases n<;>cases ky
  | fd=>cases n<;>cases ky
 | n,A,.int i,y,u,v,_,ky,hu,hx,hy=>by
  obtain⟨t0,rfl⟩:=hx;cases y with
  | i_=>cases (show v=.none from hy);exact SeqAt.EqAt.int_none i t0
  | bl c=>cases (show v=.bool c from hy);exact SeqAt.EqAt.int_bool i t0 c
  | int j=>obtain⟨t,rfl⟩:=hy;exact SeqAt.EqAt.int_int i t0 j t
  | str z=>obtain⟨t,rfl⟩:=hy;exact SeqAt.EqAt.int_str i t0 z t
  | tup ds=>obtain⟨a,o,items,m,rfl,h1,h2,h3,_⟩:=hy;exact SeqAt.EqAt.int_tuple i t0 ⟨o,h1,h2,m,h3⟩ (by lia)
  | fn a=>cases n<;>cases ky
  | fl a=>cases n<;>cases ky
  | fd=>cases n<;>cases ky
 | n,A,.str i,y,u,v,_,ky,hu,hx,hy=>by
  obtain⟨t0,rfl⟩:=hx;cases y with
  | i_=>cases (show v=.none from hy);exact SeqAt.EqAt.str_none i t0
  | bl c=>cases (show v=.bool c from hy);exact SeqAt.EqAt.str_bool i t0 c
  | int j=>obtain⟨t,rfl⟩:=hy;exact SeqAt.EqAt.str_int i t0 j t
  | str z=>obtain⟨t,rfl⟩:=hy;exact SeqAt.EqAt.str_str i t0 z t
  | tup ds=>obtain⟨a,o,items,m,rfl,h1,h2,h3,_⟩:=hy;exact SeqAt.EqAt.str_tuple i t0 ⟨o,h1,h2,m,h3⟩ (by lia)
  | fn a=>cases n<;>cases ky
  | fl a=>cases n<;>cases ky
  | fd=>cases n<;>cases ky
 | n+1,A,.tup ds,y,u,v,kx,ky,hu,hx,hy=>by
  have Gw:=hx;obtain⟨a,o,items,m,rfl,h1,h2,h3,h4⟩:=hx;have ta:s.heap.IsTuple a items:=⟨o,h1,h2,m,h3⟩;cases y with
  | i_=>cases (show v=.none from hy);exact SeqAt.EqAt.tuple_none ta (by lia)
  | bl c=>cases (show v=.bool c from hy);exact SeqAt.EqAt.tuple_bool c ta (by lia)
  | int j=>obtain⟨t,rfl⟩:=hy;exact SeqAt.EqAt.tuple_int j t ta (by lia)
  | str z=>obtain⟨t,rfl⟩:=hy;exact SeqAt.EqAt.tuple_str z t ta (by lia)
  | fn a=>cases ky
  | fl a=>cases ky
  | fd=>cases ky
  | tup es=>
   have Nd:=hy;obtain⟨b,o',y_,m',rfl,g1,g2,g3,g4⟩:=hy;by_cases e:a=b
   ·subst e;rw[nO (n+1) kx ky Gw Nd];exact SeqAt.EqAt.same _
   ·have tb:s.heap.IsTuple b y_:=⟨o',g1,g2,m',g3⟩;have l1:=h4.length;have l2:=g4.length;have l3:items.toList.length=items.size:=by simp
    have l4:y_.toList.length=y_.size:=by simp
    rw[l3] at l1;rw[l4] at l2;have q:=SeqAt.EqAt.of_refs (A:=A) e (SeqAt.RcAt.tuples (e:=fun j=>aB (ds.getD j .i_)<|es.getD j .i_) ta tb (by lia) fun j j1 j2=>by
     obtain⟨d1,e1,r1⟩:=h4.get (j:=j) (v:=items[j]) (by rw[Zt];simp[j1]);obtain⟨d2,e2,r2⟩:=g4.get (j:=j) (v:=y_[j]) (by rw[Zt];simp[j2]);rw[Z6,e1,Z6,e2];exact cJ n (dw kx e1) (dw ky e2) (by show A.units+1+n+1<cLine;lia) r1 r2)
    rw[<- l1,<- l2,hX (ds:=ds) (es:=es) (fun j x y a b=>by rw[Z6,a,Z6,b];rfl)] at q;rw[aB];exact q
 | n,A,.fn _,_,_,_,k,_,_,_,_=>by cases n<;>cases k
 | n,A,.fl _,_,_,_,k,_,_,_,_=>by cases n<;>cases k
 | n,A,.fd,_,_,_,k,_,_,_,_=>by cases n<;>cases k
 | 0,A,.tup _,_,_,_,k,_,_,_,_=>by cases k
mutual
theorem kU:∀ {n:Nat}{d:Im},Im.key n d=true->Im.pl n d=true
 | n,.int _,_=>by cases n<;>rfl
 | n,.str _,_=>by cases n<;>rfl
 | n+1,.tup ds,h=>by rw[Im.key] at h;rw[Im.pl];exact nP h
 | 0,.tup _,h=>by cases h
 | n,.i_,h=>by cases n<;>cases h
 | n,.bl _,h=>by cases n<;>cases h
 | n,.fn _,h=>by cases n<;>cases h
 | n,.fl _,h=>by cases n<;>cases h
 | n,.fd,h=>by cases n<;>cases h
theorem nP:∀ {n:Nat}{ds:List Im},Im.keys n ds=true->Im.pls n ds=true
 | n,[],_=>by rw[Im.pls]
 | n,d::ds,h=>by rw[Im.keys,ZV] at h;rw[Im.pls,kU h.1,nP h.2];rfl
end
mutual
theorem nQ:∀ {n:Nat}{x y:Im},Im.key n x=true->Im.key n y=true->aB x y=decide (x=y)
 | n,.int i,y,_,hy=>by
  cases y with
  | int j=>rw[aB];by_cases e:i=j<;>simp[e]
  | str z=>simp[aB]
  | tup z=>simp[aB]
  | _=>cases n<;>cases hy
 | n,.str i,y,_,hy=>by
  cases y with
  | int j=>simp[aB]
  | str z=>rw[aB];by_cases e:i=z<;>simp[e]
  | tup z=>simp[aB]
  | _=>cases n<;>cases hy
 | n+1,.tup ds,y,hx,hy=>by
  cases y with
  | int j=>simp[aB]
  | str z=>simp[aB]
  | tup es=>
   rw[Im.key] at hx hy;rw[aB,nR hx hy];simp
  | _=>cases hy
 | 0,.tup _,_,h,_=>by cases h
 | n,.i_,_,h,_=>by cases n<;>cases h
 | n,.bl _,_,h,_=>by cases n<;>cases h
 | n,.fn _,_,h,_=>by cases n<;>cases h
 | n,.fl _,_,h,_=>by cases n<;>cases h
 | n,.fd,_,h,_=>by cases n<;>cases h
theorem nR:∀ {n:Nat}{x y:List Im},Im.keys n x=true->Im.keys n y=true->bE x y=decide (x=y)
 | n,[],y,_,_=>by cases y<;>simp[bE]
 | n,d::ds,[],_,_=>by simp[bE]
 | n,d::ds,e::es,hx,hy=>by
  rw[Im.keys,ZV] at hx hy;rw[bE,nQ hx.1 hy.1,nR hx.2 hy.2];by_cases h1:d=e<;>by_cases h2:ds=es<;>simp[h1,h2]
end
theorem nS:∀ (n:Nat) {A:Around}{E:Value->Shared->Prop}{s:Shared}{d:Im}{v:Value}{Q:Bool->Shared->Prop},Im.key n d=true->Ew s.heap d v->Q true s->wpAny (model prog w) A (eqIsQuiet n v) Q E s
 | n,A,E,s,.int i,v,Q,_,hv,h=>by
  obtain⟨t,rfl⟩:=hv;rw[eqIsQuiet_byValue n rfl];exact ZU h
 | n,A,E,s,.str i,v,Q,_,hv,h=>by
  obtain⟨t,rfl⟩:=hv;rw[eqIsQuiet_byValue n rfl];exact ZU h
 | n+1,A,E,s,.tup ds,v,Q,k,hv,h=>by
  obtain⟨a,o,items,m,rfl,ho,hc,hd,hi⟩:=hv;have hT:s.TypeIs (.ref a) "tuple" := ⟨o,ho,hc⟩;unfold eqIsQuiet;refine Z9 (XQ hT F.slot_tuple_eq.lookup ?_);show wpAny _ _ (isInstance (.ref a) (.type "tuple") >>= _) _ _ s;refine Z9 (Xh hT isSubtype_tuple_tuple ?_);simp only[W4,Zc,X6];refine Z9 (YK ho hd ?_);refine Z9 ?_;show wpAny _ _ (forIn items _ _) _ _ s;rw[<- WJ];rw[Im.key] at k;refine XZ _ (fun rest r s'=>r.1=none/\s'=s/\∃ left,Im.keys n left=true/\aO s.heap left rest) _ ?_ ?_ _ _ ⟨rfl,rfl,ds,k,hi⟩
  ·rintro v rest r s' ⟨hr,rfl,left,hk,hl⟩;cases left with
   | nil=>cases (show v::rest=[] from hl)
   | cons d left=>
    obtain⟨v',r',e,h1,Gq⟩:=hl;cases e;rw[Im.keys,ZV] at hk;refine Z9 (nS n hk.1 h1 ?_);simp only[W4,Zc,X6];exact ZU ⟨rfl,rfl,left,hk.2,Gq⟩
  ·rintro⟨r1,r2⟩ s' ⟨hr,rfl,_⟩;simp only at hr;subst hr;exact ZU h
 | _,_,_,_,.i_,_,_,k,_,_=>by cases ‹Nat›<;>cases k
 | _,_,_,_,.bl _,_,_,k,_,_=>by cases ‹Nat›<;>cases k
 | _,_,_,_,.fn _,_,_,k,_,_=>by cases ‹Nat›<;>cases k
 | _,_,_,_,.fl _,_,_,k,_,_=>by cases ‹Nat›<;>cases k
 | _,_,_,_,.fd,_,_,k,_,_=>by cases ‹Nat›<;>cases k
 | 0,_,_,_,.tup _,_,_,k,_,_=>by cases k
def bK(prog:Program)(w:World):HeapKind prog w (List Im) where
 is:=fun h ds a=>Im.keys 7 ds=true/\Ew h (.tup ds) (.ref a)
 hash:=fun ds=>Mw w (.tup ds)
 draws:=fun ds=>Mx (.tup ds)
 room:=fun A=>A.units+10<cLine
 inj:=fun hx hy=>by
  have:=nM 8 (x:=.tup _) (y:=.tup _) hx.1 hy.1 hx.2 hy.2;injection this
 keeps:=fun {h h' k a d o es ep} x ho hd hs=>⟨x.1,x.2.keep fun b u items n hb hc E6=>by
  have Hu:b≠d:=by
   rintro rfl;rw[ho] at hb;cases hb;rw[hd] at E6;cases E6
  exact (hs.2 b Hu).trans hb⟩
 pyHash:=fun hu hk h=>nN 8 (d:=.tup _) hk.1 (show _ < _ by have:_+10<cLine:=hu;lia) hk.2 h
 eqBool:=fun {A E s x y a b Q} hu hx hy h=>by
  have q:=cJ (s:=s) 8 (A:=A) (x:=.tup x) (y:=.tup y) (kU (n:=8) (d:=.tup x) hx.1) (kU (n:=8) (d:=.tup y) hy.1) (show _ < _ by have:A.units+10<cLine:=hu;lia) hx.2 hy.2;rw[nQ (n:=8) (x:=.tup x) (y:=.tup y) hx.1 hy.1] at q;exact q _ _ E Q (by simpa using h)
 quiet:=fun hk h=>nS 8 (d:=.tup _) hk.1 hk.2 h
end
abbrev Key:=Sum Int Str
def gl:Key->Value->Bool
 | .inl k,v=>Value.isInt k v
 | .inr x,v=>Value.isStrOf x v
def uG(w:World):Key->Int
 | .inl k=>hashInt k
 | .inr x=>hashStr w x
theorem d7:∀ {k:Key}{v:Value},gl k v=true->(∃ i t,k=Sum.inl i/\v=Value.int i t)\/(∃ x t,k=Sum.inr x/\v=Value.str x t)
 | .inl i,v,h=>by
  obtain⟨t,e⟩:=Value.isInt_shape (k:=i) (v:=v) h;exact .inl ⟨i,t,rfl,e⟩
 | .inr x,v,h=>by
  obtain⟨t,e⟩:=Value.isStrOf_shape (x:=x) (v:=v) h;exact .inr ⟨x,t,rfl,e⟩
theorem uH(i:Int)(t:Tok):gl (.inl i) (.int i t)=true:=by simp[gl,Value.isInt]
theorem uI(x:Str)(t:Tok):gl (.inr x) (.str x t)=true:=by simp[gl,Value.isStrOf]
theorem uJ(a b:Int):decide ((Sum.inl a:Key)=Sum.inl b)=(a == b):=by
 by_cases e:a=b
 ·subst e;simp
 ·have h:¬ (Sum.inl a:Key)=Sum.inl b:=fun q=>e (Sum.inl.inj q);rw[Zs h];exact (WQ.mpr e).symm
theorem uK(a b:Str):decide ((Sum.inr a:Key)=Sum.inr b)=decide (a=b):=by
 by_cases e:a=b
 ·subst e;simp
 ·have h:¬ (Sum.inr a:Key)=Sum.inr b:=fun q=>e (Sum.inr.inj q);rw[Zs h,Zs e]
theorem uL(a:Int)(b:Str):decide ((Sum.inl a:Key)=Sum.inr b)=false:=Zs (fun q=>nomatch q)
theorem uM(a:Str)(b:Int):decide ((Sum.inr a:Key)=Sum.inl b)=false:=Zs (fun q=>nomatch q)
def et(prog:Program)(w:World):PySem.KeyKind prog w Key where
 is:=gl
 hash:=uG w
 inj:=fun v a b ha hb=>by
  rcases d7 ha with ⟨i,t,rfl,rfl⟩ | ⟨x,t,rfl,rfl⟩
  ·rcases d7 hb with ⟨j,u,rfl,e⟩ | ⟨y,u,rfl,e⟩
   ·injection e with e1 _;rw[e1]
   ·exact nomatch e
  ·rcases d7 hb with ⟨j,u,rfl,e⟩ | ⟨y,u,rfl,e⟩
   ·exact nomatch e
   ·injection e with e1 _;rw[e1]
 byValue:=fun k v h=>by
  rcases d7 h with ⟨i,t,rfl,rfl⟩ | ⟨x,t,rfl,rfl⟩<;>rfl
 pyHash:=fun hv h=>by
  rcases d7 hv with ⟨i,t,rfl,rfl⟩ | ⟨x,t,rfl,rfl⟩
  ·exact wpAny_pyHash_int h
  ·exact wpAny_pyHash_str h
 eqBool:=fun hu hv h=>by
  rcases d7 hu with ⟨i,t,rfl,rfl⟩ | ⟨x,t,rfl,rfl⟩
  ·rcases d7 hv with ⟨j,u,rfl,rfl⟩ | ⟨y,u,rfl,rfl⟩
   ·rw[uJ] at h;exact wpAny_eqBool_int h
   ·rw[uL] at h;exact SeqAt.EqAt.int_str i t y u _ _ _ _ h
  ·rcases d7 hv with ⟨j,u,rfl,rfl⟩ | ⟨y,u,rfl,rfl⟩
   ·rw[uM] at h;exact SeqAt.EqAt.str_int x t j u _ _ _ _ h
   ·rw[uK] at h;exact wpAny_eqBool_str h
 «strs»:=fun k x t v h=>by
  rcases d7 h with ⟨i,u,rfl,e⟩ | ⟨y,u,rfl,e⟩
  ·exact nomatch e
  ·injection e with e1 _;subst e1;cases v<;>rfl
theorem uN(prog:Program)(w:World)(i:Int)(t:Tok):(et prog w).is (.inl i) (.int i t)=true:=uH i t
theorem uO(prog:Program)(w:World)(x:Str)(t:Tok):(et prog w).is (.inr x) (.str x t)=true:=uI x t
inductive V where
 | i_ | bl (b:Bool) | int (i:Int) | str (x:Str) | KL (b:Array UInt8) | Nf (b:UInt64) | ref (a:Addr) | ty (n:String)
 deriving DecidableEq
variable{vs:List V}{v:V}
def aw:V->Value->Prop
 | .i_,u=>u=Value.none
 | .bl b,u=>u=Value.bool b
 | .int i,u=>∃ t,u=Value.int i t
 | .str x,u=>∃ t,u=Value.str x t
 | .KL b,u=>∃ t,u=Value.bytes b t
 | .Nf b,u=>∃ t,u=Value.float b t
 | .ref a,u=>u=Value.ref a
 | .ty n,u=>u=Value.type n
abbrev az:List V->List Value->Prop:=Paired aw
theorem az.length{xs:List V}{us:List Value}(r:az xs us):xs.length=us.length:=Yj r
theorem az.get:∀ {xs:List V}{us:List Value}{i:Nat}{x:V},az xs us->xs[i]?=some x->∃ u,us[i]?=some u/\aw x u
 | _,_,_,_,.nil,e=>by simp at e
 | _,_,0,_,.cons r _,e=>by simp at e;subst e;exact⟨_,rfl,r⟩
 | _,_,i+1,x,.cons _ t,e=>by
  obtain⟨u,h1,h2⟩:=az.get (i:=i) (x:=x) t (by simpa using e);exact⟨u,by simpa using h1,h2⟩
theorem az.set{x:V}{u:Value}(r:aw x u):∀ {xs:List V}{us:List Value} (i:Nat),az xs us->az (xs.set i x) (us.set i u)
 | _,_,_,.nil=>.nil
 | _,_,0,.cons _ t=>.cons r t
 | _,_,i+1,.cons q t=>.cons q (az.set r i t)
theorem az.append:∀ {xs ys:List V}{us ws:List Value},az xs us->az ys ws->az (xs++ys) (us++ws)
 | _,_,_,_,.nil,s=>s
 | _,_,_,_,.cons r t,s=>.cons r (az.append t s)
def dH:Option V->Option Value->Prop
 | some v,some u=>aw v u
 | none,none=>True
 | _,_=>False
def KV{κ:Type}:List (κ×V)->List (κ×Value)->Prop:=Paired fun (p:κ×V) (q:κ×Value)=>p.1=q.1/\aw p.2 q.2
def kV:Key->V
 | .inl i=>.int i
 | .inr x=>.str x
inductive HO where
 | lst (xs:List V)
 | tup (xs:List V)
 | dK (kvs:List (Key×V)) | dT (kvs:List (List Im×V))
 | set (S:Int->Bool) (n:Nat)
 | ins (C dx:Addr) (fs:List (Str×V))
 | own (x:Addr)
 | xd (fs:List (Str×V))
 | met (f x:Addr)
 | My (lo hi:Int)
 | Es (o:Obj) (u:HO)
 | IZ (ps:Array Value)
 | ext (φ:Heap->Prop)
variable{o:HO}
abbrev Hp:=Addr->Option HO
variable{H' H:Hp}
def upd(H:Hp)(a:Addr)(o:HO):Hp:=fun b=>if b=a then some o else H b
theorem bp:upd H a o a=some o:=by unfold upd;rw[ZZ rfl]
theorem aE(h:b≠a):upd H a o b=H b:=by unfold upd;rw[ZW h]
theorem kW{u:HO}(h:H a=some o)(h':H b=some u)(d:o≠u):a≠b:=by
 intro e;subst e;rw[h] at h';exact d (Zv h')
theorem ce(h:H a=some o)(h':H b=none):a≠b:=by
 intro e;subst e;rw[h] at h';cases h'
mutual
def DK(H:Hp):Im->V->Prop
 | .i_,v=>v=.i_
 | .bl b,v=>v=.bl b
 | .int i,v=>v=.int i
 | .str x,v=>v=.str x
 | .fn a,v=>v=.ref a
 | .fl ds,v=>∃ a xs o,v=.ref a/\H a=some (.Es o<|.lst xs)/\ar H ds xs
 | .fd,v=>∃ a o,v=.ref a/\H a=some (.Es o<|.dT [])
 | .tup ds,v=>∃ a xs,v=.ref a/\H a=some (.tup xs)/\ar H ds xs
def ar(H:Hp):List Im->List V->Prop
 | [],vs=>vs=[]
 | d::ds,vs=>∃ v r,vs=v::r/\DK H d v/\ar H ds r
end
def ic(H H':Hp):Prop:=∀ a xs,H a=some (.tup xs)->H' a=some (.tup xs)
structure GX(H H':Hp):Prop where
 t:ic H H'
 z:∀ a o u,H a=some (.Es o u)->H' a=some (.Es o u)
instance {H H':Hp}:CoeFun (GX H H') (fun _=>∀ a xs,H a=some (.tup xs)->H' a=some (.tup xs)):=⟨fun t=>t.t⟩
mutual
theorem DK.mono{H H':Hp}(k:GX H H'):∀ {d:Im}{v:V},DK H d v->DK H' d v
 | .i_,_,e=>e
 | .bl _,_,e=>e
 | .int _,_,e=>e
 | .str _,_,e=>e
 | .fn _,_,e=>e
 | .tup ds,_,e=>by
  obtain⟨a,xs,rfl,h1,h2⟩:=e;exact⟨a,xs,rfl,k.t a xs h1,ar.mono k h2⟩
 | .fl ds,_,e=>by
  obtain⟨a,xs,o,rfl,h1,h2⟩:=e;exact⟨a,xs,o,rfl,k.z a _ _ h1,ar.mono k h2⟩
 | .fd,_,e=>by
  obtain⟨a,o,rfl,h1⟩:=e;exact⟨a,o,rfl,k.z a _ _ h1⟩
theorem ar.mono{H H':Hp}(k:GX H H'):∀ {ds:List Im}{vs:List V},ar H ds vs->ar H' ds vs
 | [],_,e=>e
 | d::ds,_,e=>by
  obtain⟨v,r,rfl,h1,h2⟩:=e;exact⟨v,r,rfl,DK.mono k h1,ar.mono k h2⟩
end
def Gx(H:Hp)(k:List Im)(b:Addr):Prop:=Im.keys 7 k=true/\DK H (.tup k) (.ref b)
mutual
theorem DK.Gb{H H':Hp}(k:ic H H'):∀ {d:Im}{n:Nat}{v:V},Im.key n d=true->DK H d v->DK H' d v
 | .i_,_,_,_,e=>e
 | .bl _,_,_,_,e=>e
 | .int _,_,_,_,e=>e
 | .str _,_,_,_,e=>e
 | .fn _,_,_,_,e=>e
 | .tup ds,n+1,_,q,e=>by
  obtain⟨a,xs,rfl,h1,h2⟩:=e;exact⟨a,xs,rfl,k a xs h1,ar.Gb k q h2⟩
 | .tup ds,0,_,q,e=>nomatch q
 | .fl ds,0,_,q,e=>nomatch q
 | .fl ds,n+1,_,q,e=>nomatch q
 | .fd,0,_,q,e=>nomatch q
 | .fd,n+1,_,q,e=>nomatch q
theorem ar.Gb{H H':Hp}(k:ic H H'):∀ {ds:List Im}{n:Nat}{vs:List V},Im.keys n ds=true->ar H ds vs->ar H' ds vs
 | [],_,_,_,e=>e
 | d::ds,n,_,q,e=>by
  obtain⟨v,r,rfl,h1,h2⟩:=e;rw[Im.keys,ZV] at q;exact⟨v,r,rfl,DK.Gb k q.1 h1,ar.Gb k q.2 h2⟩
end
theorem Gx.mono{k:List Im}(h:Gx H k b)(t:ic H H'):Gx H' k b:=by
 obtain⟨h0,a,xs,e,h1,h2⟩:=h;exact⟨h0,a,xs,e,t a xs h1,h2.Gb t h0⟩
section
variable(P:Program)(w:World)
def bo(H:Hp)(h:Heap)(a:Addr):HO->Prop
 | .lst xs=>xs.length<=sizeLine/\∃ (f_:List Value) (n:Nat),az xs f_/\h.get? a=some { cls:=.type "list",data:=.seq f_.toArray n }
 | .tup xs=>xs.length<=sizeLine/\∃ f_:List Value,az xs f_/\IsTup h a f_.toArray
 | .dK kvs=>kvs.length<=sizeLine/\(a == sysModules)=false/\∃ vs,KV kvs vs/\h.DictOf (et P w) a vs
 | .dT kvs=>kvs.length<=sizeLine/\(a == sysModules)=false/\∃ xs:List (List Im×Addr×Value),
   Paired (fun (p:List Im×V) (q:List Im×Addr×Value)=>p.1=q.1/\Gx H p.1 q.2.1/\aw p.2 q.2.2) kvs xs/\
   ∃ o es ep,h.get? a=some o/\o.ExactDict/\o.data=.dict es ep/\es.toList=xs.map (entryOfKey<|bK P w)/\(xs.map (·.1)).Nodup
 | .set S n=>h.SetOf (intKind P w) a S n
 | .ins C dx fs=>H dx=some (.own a)/\fs.length<=1000/\dx≠a/\h.get? a=some (PySem.W.instObj C dx)/\
   ∃ mA,h.Ns1 dx mA/\(∀ f,dH (fs.lookup f)<|mA f)/\PySem.Within mA (fs.map (·.1))
 | .own _=>∃ o,h.get? a=some o
 | .xd fs=>∃ mA,h.Ns1 a mA/\∀ f,dH (fs.lookup f) (mA f)
 | .My lo hi=>∃ t u v,h.get? a=some { cls:=.type "range",data:=.fields #[.int lo t,.int hi u,.int 1 v] }
 | .Es o u=>h.get? a=some o/\bo H h a u
 | .IZ ps=>h.get? a=some { cls:=.none,data:=.fields ps }
 | .met f x=>h.get? a=some (PySem.W.methodObj (.ref f)<|.ref x)
 | .ext φ=>φ h/\(∃ o,h.get? a=some o)/\∀ h1 h2:Heap,φ h1->(∀ o,h1.get? a=some o->h2.get? a=some o)->φ h2
def DV(H:Hp)(h:Heap):Prop:=∀ a o,H a=some o->bo P w H h a o
end
section
variable{P:Program}{w:World}{H H':Hp}{h h':Heap}{a:Addr}{o:HO}
theorem bo.lt(x:bo P w H h a o):a<h.objs.size:=by
 cases o with
 | lst xs=>obtain⟨_,_,_,_,e⟩:=x;exact ZO e
 | tup xs=>obtain⟨_,_,_,p⟩:=x;exact p.lt
 | dK kvs=>obtain⟨_,_,_,_,o,_,_,e,_⟩:=x;exact ZO e
 | dT kvs=>obtain⟨_,_,_,_,o,_,_,e,_⟩:=x;exact ZO e
 | set S n=>obtain⟨o,_,_,_,e,_⟩:=x;exact ZO e
 | ins C dx fs=>obtain⟨_,_,_,e,_⟩:=x;exact ZO e
 | own y=>obtain⟨_,e⟩:=x;exact ZO e
 | xd fs=>obtain⟨_,⟨_,_,_,e,_⟩,_⟩:=x;exact ZO e
 | My lo hi=>obtain⟨_,_,_,e⟩:=x;exact ZO e
 | Es ob u=>obtain⟨e,_⟩:=x;exact ZO e
 | IZ ps=>exact ZO (show h.get? a=some _ from x)
 | met f y=>exact ZO (show h.get? a=some _ from x)
 | ext φ=>obtain⟨_,⟨_,e⟩,_⟩:=x;exact ZO e
theorem Paired.Iy{α β:Type}{F G:α->β->Prop}:∀ {l₁:List α}{l₂:List β},Paired F l₁ l₂->(∀ a b,F a b->G a b)->Paired G l₁ l₂
 | _,_,.nil,_=>.nil
 | _,_,.cons r t,f=>.cons (f _ _ r) (Paired.Iy t f)
theorem bo.EI(x:bo P w H h a o)(k:∀ b u,(b=a\/H b=some (.own a))->h.get? b=some u->h'.get? b=some u)(ho:∀ b,H b=some (.own a)->H' b=some (.own a))(ht:∀ b xs,H b=some (.tup xs)->H' b=some (.tup xs)):bo P w H' h' a o:=by
 induction o with
 | lst xs=>obtain⟨z,f_,n,r,e⟩:=x;exact⟨z,f_,n,r,k _ _ (.inl rfl) e⟩
 | tup xs=>obtain⟨z,f_,r,ob,e,c⟩:=x;exact⟨z,f_,r,ob,k _ _ (.inl rfl) e,c⟩
 | dK kvs=>obtain⟨z,y,vs,r,ob,es,ep,e,c⟩:=x;exact⟨z,y,vs,r,ob,es,ep,k _ _ (.inl rfl) e,c⟩
 | dT kvs=>
  obtain⟨z,y,xs,r,ob,es,ep,e,c⟩:=x;exact⟨z,y,xs,Paired.Iy r fun p q z=>⟨z.1,z.2.1.mono ht,z.2.2⟩,ob,es,ep,k _ _ (.inl rfl) e,c⟩
 | set S n=>obtain⟨ob,es,ep,t,e,c⟩:=x;exact⟨ob,es,ep,t,k _ _ (.inl rfl) e,c⟩
 | ins C dx fs=>
  obtain⟨d,z,ne,e,mA,⟨od,es,ep,e2,c⟩,r⟩:=x;exact⟨ho _ d,z,ne,k _ _ (.inl rfl) e,mA,⟨od,es,ep,k _ _ (.inr d) e2,c⟩,r⟩
 | own y=>obtain⟨ob,e⟩:=x;exact⟨ob,k _ _ (.inl rfl) e⟩
 | xd fs=>obtain⟨mA,⟨od,es,ep,e,c⟩,r⟩:=x;exact⟨mA,⟨od,es,ep,k _ _ (.inl rfl) e,c⟩,r⟩
 | My lo hi=>obtain⟨t,u,v,e⟩:=x;exact⟨t,u,v,k _ _ (.inl rfl) e⟩
 | Es ob u ih=>obtain⟨e,q⟩:=x;exact⟨k _ _ (.inl rfl) e,ih q⟩
 | IZ ps=>
  have e:h.get? a=some { cls:=.none,data:=.fields ps }:=x;show h'.get? a=some { cls:=.none,data:=.fields ps };exact k a _ (.inl rfl) e
 | met f y=>
  have e:h.get? a=some (PySem.W.methodObj (.ref f)<|.ref y):=x;show h'.get? a=some (PySem.W.methodObj (.ref f)<|.ref y);exact k a _ (.inl rfl) e
 | ext φ=>obtain⟨p,⟨o,e⟩,st⟩:=x;exact⟨st _ _ p fun o q=>k _ _ (.inl rfl) q,⟨o,k _ _ (.inl rfl) e⟩,st⟩
theorem DV.lt(x:DV P w H h)(e:H a=some o):a<h.objs.size:=(x a o e).lt
theorem DV.fresh(x:DV P w H h)(e:h.objs.size<=a):H a=none:=by
 cases q:H a with
 | none=>rfl
 | some u=>exact absurd (Zy (x.lt q) e) (Yt _)
theorem DV.kept(x:DV P w H h)(k:∀ b u,h.get? b=some u->h'.get? b=some u):DV P w H h':=fun a o e=>
 (x a o e).EI (fun b u _ q=>k b u q) (fun _ q=>q) fun _ _ q=>q
theorem DV.laid(x:DV P w H h)(k:∀ b u,h.get? b=some u->h'.get? b=some u)(hp:h.objs.size<=a)(new:bo P w (upd H a o) h' a o):DV P w (upd H a o) h':=fun b u e=>by
 have hn:=x.fresh hp;by_cases hb:b=a
 ·subst hb;rw[bp] at e;cases e;exact new
 ·rw[aE hb] at e;exact (x b u e).EI (fun c v _ q=>k c v q) (fun c q=>by rw[aE (ce q hn)];exact q) fun c xs q=>by rw[aE (ce q hn)];exact q
end
def Rd(H:Hp)(a:Addr)(u:HO):Prop:=H a=some u\/∃ o,H a=some (.Es o u)
theorem Rd.ok{u:HO}(r:Rd H a u)(x:DV P w H h):bo P w H h a u:=by
 rcases r with r | ⟨o,r⟩
 ·exact x a u r
 ·obtain⟨_,q⟩:=x a _ r;exact q
def KM:Option HO->Prop
 | some (.lst _)=>True
 | some (.dK _)=>True
 | some (.dT _)=>True
 | some (.set _ _)=>True
 | some (.ins _ _ _)=>True
 | some (.ext _)=>True
 | _=>False
section
variable{P:Program}{w:World}{H:Hp}{h h':Heap}{x e:Addr}{o':HO}
theorem DV.write(ok:DV P w H h)(mu:KM (H x))(he:e=x\/H e=some (.own x))(k:∀ b u,b≠e->h.get? b=some u->h'.get? b=some u)(Hk:∃ u,h'.get? e=some u)(new:bo P w (upd H x o') h' x o'):DV P w (upd H x o') h':=fun b u q=>by
 have KN:∀ c y,H c=some (.own y)->c≠x:=fun c y r z=>by subst z;rw[r] at mu;exact mu
 have Ng:∀ c xs,H c=some (.tup xs)->c≠x:=fun c xs r z=>by subst z;rw[r] at mu;exact mu
 by_cases hb:b=x
 ·subst hb;rw[bp] at q;cases q;exact new
 ·rw[aE hb] at q;by_cases JD:b=e
  ·have q':H b=some (.own x):=by
    rcases he with z | z
    ·exact absurd (JD.trans z) hb
    ·rw[JD];exact z
   rw[q] at q';cases q';obtain⟨v,hv⟩:=Hk;exact⟨v,by rw[JD];exact hv⟩
  ·refine (ok b u q).EI (fun c v hc r=>k c v ?_ r) (fun c r=>by rw[aE (KN c b r)];exact r) fun c xs r=>by rw[aE (Ng c xs r)];exact r
   rcases hc with rfl | hc
   ·exact JD
   ·rintro rfl;rcases he with z | z
    ·exact KN c b hc z
    ·rw[hc] at z;cases z;exact hb rfl
end
structure Un(fs ex:List Addr)(H H':Hp)(h h':Heap):Prop where
 keep:∀ b o,h.get? b=some o->H b=none->b∉fs->b∉ex->h'.get? b=some o
 slot:∀ b o,h.get? b=some o->H b=none->b∈fs->b∉ex->∃ sl,h'.get? b=some { o with slots:=sl }
 free:∀ b o,h.get? b=some o->H b=none->b∉ex->H' b=none
 there:∀ b o,h.get? b=some o->b∉ex->∃ o',h'.get? b=some o'
 Ee:∀ b xs,H b=some (.tup xs)->H' b=some (.tup xs)
 D_:∀ b o u,H b=some (.Es o u)->H' b=some (.Es o u)
 Et:∀ b ps,H b=some (.IZ ps)->∃ more,H' b=some (.IZ<|ps++more)
section
variable{fs Nh ex OX:List Addr}{H H1 H2:Hp}{h h1 h2 h':Heap}{a x e:Addr}{o:HO}
theorem Un.any(u:Un fs ex H H1 h h1){b:Addr}{ob:Obj}(q:h.get? b=some ob)(n:H b=none)(hx:b∉ex):∃ sl,h1.get? b=some { ob with slots:=sl }:=by
 by_cases hb:b∈fs
 ·exact u.slot b ob q n hb hx
 ·exact⟨ob.slots,u.keep b ob q n hb hx⟩
theorem Un.kept(k:∀ b u,h.get? b=some u->h'.get? b=some u):Un fs ex H H h h':=
 ⟨fun b ob q _ _ _=>k b ob q,fun b ob q _ _ _=>⟨ob.slots,k b ob q⟩,fun _ _ _ n _=>n,fun b ob q _=>⟨ob,k b ob q⟩,fun _ _ q=>q,fun _ _ _ q=>q,fun _ ps q=>⟨#[],by rw[q];simp⟩⟩
theorem Un.refl:Un fs ex H H h h:=Un.kept fun _ _ q=>q
theorem Un.laid(k:∀ b u,h.get? b=some u->h'.get? b=some u)(hp:h.objs.size<=a)(hn:H a=none):Un fs ex H (upd H a o) h h' where
 keep:=fun b u q _ _ _=>k b u q
 slot:=fun b u q _ _ _=>⟨u.slots,k b u q⟩
 free:=fun b u q n _=>by rw[aE (Zx<|Zy (ZO q) hp)];exact n
 there:=fun b u q _=>⟨u,k b u q⟩
 Ee:=fun b xs q=>by rw[aE (ce q hn)];exact q
 D_:=fun b u xs q=>by rw[aE (ce q hn)];exact q
 Et:=fun b ps q=>⟨#[],by rw[aE (ce q hn),q];simp⟩
theorem Un.write(mu:KM (H x))(he:e=x\/H e=some (.own x))(k:∀ b u,b≠e->h.get? b=some u->h'.get? b=some u)(Hk:∃ u,h'.get? e=some u):Un fs ex H (upd H x o) h h':=by
 have hx:∀ b,H b=none->b≠x:=fun b n z=>by subst z;rw[n] at mu;exact mu
 have hb:∀ b,H b=none->b≠e:=fun b n z=>by
  subst z;rcases he with r | r
  ·exact hx b n r
  ·rw[n] at r;cases r
 have hm:∀ b u,H b=some u->¬ KM (some u)->b≠x:=fun b u q nm z=>by subst z;rw[q] at mu;exact nm mu
 refine⟨fun b u q n _ _=>k b u (hb b n) q,fun b u q n _ _=>⟨u.slots,k b u (hb b n) q⟩,fun b u q n _=>by rw[aE (hx b n)];exact n,fun b u q _=>?_,
  fun b xs q=>by rw[aE (hm b _ q fun z=>z)];exact q,fun b u xs q=>by rw[aE (hm b _ q fun z=>z)];exact q,fun b ps q=>⟨#[],by rw[aE (hm b _ q fun z=>z),q];simp⟩⟩;by_cases JD:b=e
 ·subst JD;exact Hk
 ·exact⟨u,k b u JD q⟩
theorem Un.mono(u:Un fs ex H H1 h h1)(hs:∀ b∈fs,b∈Nh)(hx:∀ b∈ex,b∈OX):Un Nh OX H H1 h h1:=
 ⟨fun b ob q n hb he=>u.keep b ob q n (fun z=>hb<|hs b z) fun z=>he<|hx b z,fun _ _ q n _ he=>u.any q n fun z=>he<|hx _ z,fun b ob q n he=>u.free b ob q n fun z=>he<|hx b z,fun b ob q he=>u.there b ob q fun z=>he<|hx b z,u.Ee,u.D_,u.Et⟩
end
def Mz(h:Heap)(H:Hp):List Addr:=(range h.objs.size).filter fun a=>(H a).isSome
def d8(h:Heap)(H:Hp):Heap:=PySem.W.hideAll h (Mz h H)
theorem uP(h:Heap)(H:Hp):(d8 h H).objs.size=h.objs.size:=PySem.W.hideAll_size _ _
theorem uQ{o:Obj}(e:h.get? b=some o)(n:H b=none):(d8 h H).get? b=some o:=
 Yx _ e fun hm=>by
  have q:(H b).isSome=true:=(YW.mp hm).2;rw[n] at q;simp at q
theorem uR{o:Obj}(e:(d8 h H).get? b=some o):h.get? b=some o/\H b=none:=by
 have e':h.get? b=some o:=Yc (Mz h H) e;refine⟨e',?_⟩;cases q:H b with
 | none=>rfl
 | some x=>
  have hm:b∈Mz h H:=YW.mpr ⟨Zp.mpr<|ZO e',by simp[q]⟩;have z:(d8 h H).get? b=none:=Y0 (Mz h H) hm;rw[z] at e;cases e
def uS(g h:Heap)(L:Addr):List (Addr×Obj):=(range h.objs.size).filterMap fun a=>if a=L\/(g.get? a).isSome=true then none else (h.get? a).map fun o=>(a,o)
def rest(g h:Heap)(L d:Addr):List (Addr×Obj):=(uS g h L).filter fun p=>decide (p.1≠d)
structure Mod(K:PySem.W.Frag)(mg:Str->Option Value)(base:Heap):Prop where
 JE:K.In base
 glob:base.Ns mainGlobals mg
 blt:∃ mb,base.Ns builtinsNs mb/\∀ x:Str,x ≠ "__name__" -> mb x=bootBuiltins x
 nolimit:base.NoLimit
structure Cx where
 prog:Program
 w:World
 K:PySem.W.Frag
 mg:Str->Option Value
 base:Heap
 A:Around
 N:List Str
 s₀:Shared
 H₀:Hp
 env:Env
 outer:List Env
 stack:List Env
 ex:List Addr
 fn:Str->Bool
 calm:Bool
 pn:List (Addr×Obj)
 xe:Value->Shared->Prop
variable{X:Cx}
def DL(l:List Env):List Addr:=l.filterMap (·.frame)
abbrev Cx.fs(X:Cx):List Addr:=DL X.outer
def MA(sc:Scope)(x:Str):Prop:=sc.names.lookup x=some .local\/sc.names.lookup x=some .cell\/sc.names.lookup x=some .free
def Loc(sc:Scope)(x:Str):Prop:=sc.names.lookup x=some .local\/sc.names.lookup x=some .cell
def uT(env:Env)(h:Heap)(m:Str->Option Value)(x:Str)(u:Value):Prop:=
 (env.kindOf x=some .local/\m x=some u)\/((env.kindOf x=some .cell\/env.kindOf x=some .free)/\∃ c,env.cells.lookup x=some c/\h.IsCell c (some u))
structure Cx.Ok(X:Cx):Prop where
 mod:Mod X.K X.mg X.base
 kind:X.env.scope.kind=.function
 glob:X.env.globals=mainGlobals
 blt:X.env.builtins=builtinsNs
 above:X.s₀.heap.objs.size<=X.env.locals
 inj:∀ x y c,X.env.cells.lookup x=some c->X.env.cells.lookup y=some c->x=y
 has:∀ x,(X.env.kindOf x=some .cell\/X.env.kindOf x=some .free)->∃ c,X.env.cells.lookup x=some c
 Hv:∀ x c,X.fn x=true->X.env.cells.lookup x=some c->X.s₀.heap.objs.size<=c
 hd:X.calm=true->X.A.handled=none
 frames:X.A.frames=some X.stack
 Hw:X.stack=X.outer\/(X.stack=X.env::X.outer/\X.env.frame=some X.env.locals)
 I_:∀ b∈X.ex,b≠X.env.locals/\∀ x c,X.env.cells.lookup x=some c->c≠b
 bs:∀ b o,X.base.get? b=some o->X.s₀.heap.get? b=some o/\X.H₀ b=none
 Gy:X.base.objs.size<=X.s₀.heap.objs.size
 Fd:∀ b o,X.base.get? b=some o->b∉X.ex
 Fe:∀ b∈X.ex,b∉X.fs
 DT:X.s₀.heap.FunFrames X.base X.outer
 GY:∀ b∈X.fs,X.H₀ b=none
structure Inv(X:Cx)(pins:List (Addr×Obj))(σ:List (Option V))(H:Hp)(s:Shared):Prop where
 ok:X.Ok
 os:s.os=X.s₀.os
 bare:AllBare s.gens
 base:Un X.fs X.ex X.H₀ H X.s₀.heap s.heap
 loc:∃ m,s.heap.Ns X.env.locals m/\∀ (i:Nat) (x:Str) (v:V),X.N[i]?=some x->σ[i]?=some (some v)->MA X.env.scope x->∃ u,aw v u/\uT X.env s.heap m x u
 cell:∀ x c,X.env.cells.lookup x=some c->∃ v,s.heap.IsCell c v
 free:H X.env.locals=none
 DB:∀ x c,X.env.cells.lookup x=some c->H c=none
 pin:∀ p∈X.pn++pins,s.heap.get? p.1=some p.2/\H p.1=none/\p.1≠X.env.locals/\p.1∉X.fs/\∀ v,p.2.data≠.cell v
 m_:DV X.prog X.w H s.heap
 len:σ.length=X.N.length
section
variable{X:Cx}{pins:List (Addr×Obj)}{σ:List (Option V)}{H H':Hp}{s:Shared}{h':Heap}
theorem Cx.Ok.Ni(ok:X.Ok){b:Addr}{o:Obj}(e:X.base.get? b=some o):b∉X.fs:=fun hb=>by
 have:=(ok.DT.mem hb).1;rw[e] at this;cases this
theorem Inv.bs(I:Inv X pins σ H s):∀ b o,X.base.get? b=some o->s.heap.get? b=some o/\H b=none:=fun b o e=>
 ⟨I.base.keep b o (I.ok.bs b o e).1 (I.ok.bs b o e).2 (I.ok.Ni e) (I.ok.Fd b o e),I.base.free b o (I.ok.bs b o e).1 (I.ok.bs b o e).2 (I.ok.Fd b o e)⟩
theorem Inv.bk(I:Inv X pins σ H s):∀ b o,X.base.get? b=some o->s.heap.get? b=some o:=fun b o e=>(I.bs b o e).1
theorem Inv.mod(I:Inv X pins σ H s):Mod X.K X.mg X.base:=I.ok.mod
theorem Inv.GZ(I:Inv X pins σ H s):X.K.In s.heap:=I.ok.mod.JE.keeps I.bk
theorem Inv.lt(I:Inv X pins σ H s):X.env.locals<s.heap.objs.size:=let ⟨_,hn,_⟩:=I.loc;hn.lt
theorem Inv.sz(I:Inv X pins σ H s):X.s₀.heap.objs.size<=s.heap.objs.size:=Zo I.ok.above (Wg I.lt)
theorem Inv.Nj(I:Inv X pins σ H s){a:Addr}(h:s.heap.objs.size<=a):a∉X.fs:=fun hb=>by
 obtain⟨_,o,ho,_⟩:=I.ok.DT.mem hb;exact absurd (Zy (ZO ho)<|Zo I.sz h) (Yt _)
theorem Inv.Iz(I:Inv X pins σ H s):∀ x c,X.env.cells.lookup x=some c->c≠X.env.locals:=fun x c e z=>by
 obtain⟨v,o,ho,hd⟩:=I.cell x c e;obtain⟨m,⟨o',es,ep,Gz,E6,_⟩,_⟩:=I.loc;rw[z,Gz] at ho;cases ho;rw[E6] at hd;cases hd
theorem Inv.DT(I:Inv X pins σ H s):s.heap.FunFrames X.base X.outer:=by
 have all:∀ (l:List Env),(∀ b∈DL l,b∈X.fs)->X.s₀.heap.FunFrames X.base l->s.heap.FunFrames X.base l:=by
  intro l;induction l with
  | nil=>intro _ _;trivial
  | cons env r ih=>
   intro hs hl;obtain⟨hk,⟨L,o,hf,hn,ho,hd⟩,hr⟩:=hl;have hL:L∈X.fs:=hs L (by unfold DL;rw[Yw,hf];exact Zb);obtain⟨sl,e⟩:=I.base.slot L o ho (I.ok.GY L hL) hL fun z=>I.ok.Fe L z hL;exact⟨hk,⟨L,_,hf,hn,e,hd⟩,ih (fun b hb=>hs b (by unfold DL;rw[Yw,hf];exact Zm _ hb)) hr⟩
 exact all X.outer (fun _ hb=>hb) I.ok.DT
theorem Inv.stack(I:Inv X pins σ H s):s.heap.FunFrames X.base X.stack:=by
 rcases I.ok.Hw with e | ⟨e,hf⟩
 ·rw[e];exact I.DT
 ·rw[e];obtain⟨m,hn,_⟩:=I.loc;refine .cons (by rw[I.ok.kind];decide) hf hn ?_ I.DT;exact W2 (Zo I.ok.Gy I.ok.above)
theorem Inv.GA(I:Inv X pins σ H s):∀ b∈DL X.stack,b∈X.env.locals::X.fs:=fun b hb=>by
 rcases I.ok.Hw with e | ⟨e,hf⟩
 ·rw[e] at hb;exact Zm _ hb
 ·rw[e] at hb;unfold DL at hb;rw[Yw,hf] at hb;exact hb
theorem Inv.Eo(I:Inv X pins σ H s):∀ b∈DL X.stack,H b=none:=fun b hb=>by
 rcases ZT.mp (I.GA b hb) with e | hb
 ·rw[e];exact I.free
 ·obtain⟨_,o,ho,_⟩:=I.ok.DT.mem hb;exact I.base.free b o ho (I.ok.GY b hb) fun z=>I.ok.Fe b z hb
theorem Inv.step(I:Inv X pins σ H s)(E7:∀ b∈ch,(b∈X.ex\/X.s₀.heap.objs.size<=b)/\b≠X.env.locals/\(∀ x c,X.env.cells.lookup x=some c->c≠b)/\∀ p∈X.pn++pins,p.1≠b)(keep:∀ b o,b≠X.env.locals->b∉X.fs->b∉ch->s.heap.get? b=some o->H b=none->h'.get? b=some o)(slot:∀ b o,b≠X.env.locals->b∈X.fs->b∉ch->s.heap.get? b=some o->H b=none->∃ sl,h'.get? b=some { o with slots:=sl })(free:∀ b o,b∉ch->s.heap.get? b=some o->H b=none->H' b=none)(there:∀ b o,b∉ch->s.heap.get? b=some o->∃ o',h'.get? b=some o')(Ee:∀ b xs,H b=some (.tup xs)->H' b=some (.tup xs))(D_:∀ b o u,H b=some (.Es o u)->H' b=some (.Es o u))(Et:∀ b ps,H b=some (.IZ ps)->∃ more,H' b=some (.IZ<|ps++more))(ns:∀ m,s.heap.Ns X.env.locals m->h'.Ns X.env.locals m)(m_:DV X.prog X.w H' h')(hg:AllBare g'):
  Inv X pins σ H' { s with heap:=h',gens:=g',drawn:=d',toks:=t' }:=by
 have OY:∀ b o,X.s₀.heap.get? b=some o->b≠X.env.locals:=fun b o e=>Zx (Zy (ZO e) I.ok.above);have MB:∀ b o,X.s₀.heap.get? b=some o->b∉X.ex->b∉ch:=fun b o e hx hb=>by
  rcases (E7 b hb).1 with z | z
  ·exact hx z
  ·exact absurd (Zy (ZO e) z) (Yt _)
 have cellK:∀ x c,X.env.cells.lookup x=some c->∀ v,s.heap.IsCell c v->h'.IsCell c v:=fun x c e v ⟨o,ho,hd⟩=>by
  have KO:c∉ch:=fun z=>(E7 c z).2.2.1 x c e rfl;by_cases hc:c∈X.fs
  ·obtain⟨sl,q⟩:=slot c o (I.Iz x c e) hc KO ho (I.DB x c e);exact⟨_,q,hd⟩
  ·exact⟨o,keep c o (I.Iz x c e) hc KO ho<|I.DB x c e,hd⟩
 refine⟨I.ok,I.os,hg,⟨fun b o e n hb hx=>?_,fun b o e n hb hx=>?_,fun b o e n hx=>?_,fun b o e hx=>?_,fun b xs e=>Ee b xs<|I.base.Ee b xs e,fun b o xs e=>D_ b o xs<|I.base.D_ b o xs e,fun b ps e=>?_⟩,?_,fun x c e=>?_,?_,fun x c e=>?_,fun p hp=>?_,m_,I.len⟩
 ·exact keep b o (OY b o e) hb (MB b o e hx) (I.base.keep b o e n hb hx) (I.base.free b o e n hx)
 ·obtain⟨sl,e1⟩:=I.base.slot b o e n hb hx;obtain⟨JF,e2⟩:=slot b _ (OY b o e) hb (MB b o e hx) e1 (I.base.free b o e n hx);exact⟨JF,e2⟩
 ·obtain⟨o',e1⟩:=I.base.there b o e hx;exact free b o' (MB b o e hx) e1 (I.base.free b o e n hx)
 ·obtain⟨o',e1⟩:=I.base.there b o e hx;exact there b o' (MB b o e hx) e1
 ·obtain⟨m1,e1⟩:=I.base.Et b ps e;obtain⟨m2,e2⟩:=Et b _ e1;exact⟨m1++m2,by rw[e2,WI]⟩
 ·obtain⟨m,hn,hl⟩:=I.loc;refine⟨m,ns m hn,fun i x v e1 e2 e3=>?_⟩;obtain⟨u,r,l⟩:=hl i x v e1 e2 e3;refine⟨u,r,?_⟩;rcases l with l | ⟨k,c,e,z⟩
  ·exact .inl l
  ·exact .inr ⟨k,c,e,cellK x c e _ z⟩
 ·obtain⟨v,z⟩:=I.cell x c e;exact⟨v,cellK x c e v z⟩
 ·obtain⟨m,⟨o,_,_,ho,_⟩,_⟩:=I.loc;exact free _ o (fun z=>(E7 _ z).2.1 rfl) ho I.free
 ·obtain⟨v,o,ho,hd⟩:=I.cell x c e;exact free c o (fun z=>(E7 c z).2.2.1 x c e rfl) ho (I.DB x c e)
 ·obtain⟨e,n,ne,nf,d⟩:=I.pin p hp;have KO:p.1∉ch:=fun z=>(E7 p.1 z).2.2.2 p hp rfl;exact⟨keep p.1 p.2 ne nf KO e n,free p.1 p.2 KO e n,ne,nf,d⟩
theorem Inv.un(I:Inv X pins σ H s)(u:Un X.fs [] H H' s.heap h')(m_:DV X.prog X.w H' h'):Inv X pins σ H' { s with heap:=h',toks:=t' }:=by
 obtain⟨m,⟨o,es,ep,ho,r⟩,_⟩:=id I.loc;obtain⟨sl,hL⟩:=u.any ho I.free (by simp);exact I.step (g':=s.gens) (d':=s.drawn) (ch:=[]) (fun _ z=>nomatch z) (fun b o _ hb _ e n=>u.keep b o e n hb (by simp)) (fun b o _ hb _ e n=>u.slot b o e n hb (by simp)) (fun b o _ e n=>u.free b o e n (by simp)) (fun b o _ e=>u.there b o e (by simp)) u.Ee u.D_ u.Et (fun m' hm=>by
  obtain⟨o',Nk,KP,Gz,r'⟩:=hm;rw[ho] at Gz;cases Gz;exact⟨_,Nk,KP,hL,r'⟩) m_ I.bare
theorem Inv.call(I:Inv X pins σ H s)(u:Un (DL X.stack) ch H H' s.heap h')(m_:DV X.prog X.w H' h')(hg:AllBare g')(E7:∀ b∈ch,(b∈X.ex\/X.s₀.heap.objs.size<=b)/\b≠X.env.locals/\(∀ x c,X.env.cells.lookup x=some c->c≠b)/\∀ p∈X.pn++pins,p.1≠b):
  Inv X pins σ H' { s with heap:=h',gens:=g',drawn:=d',toks:=t' }:=by
 obtain⟨m,⟨o,es,ep,ho,r⟩,_⟩:=id I.loc;obtain⟨sl,hL⟩:=u.any ho I.free fun z=>(E7 _ z).2.1 rfl;exact I.step (ch:=ch) E7 (fun b o hL hb hc e n=>u.keep b o e n (fun z=>(ZT.mp<|I.GA b z).elim hL hb) hc) (fun b o _ _ hc e n=>u.any e n hc) (fun b o hc e n=>u.free b o e n hc) (fun b o hc e=>u.there b o e hc) u.Ee u.D_ u.Et (fun m' hm=>by
  obtain⟨o',Nk,KP,Gz,r'⟩:=hm;rw[ho] at Gz;cases Gz;exact⟨_,Nk,KP,hL,r'⟩) m_ hg
theorem Inv.turned(I:Inv X pins σ H s)(k:∀ b o,b≠it->s.heap.get? b=some o->h'.get? b=some o)(hn:H it=none)(hL:it≠X.env.locals)(h1:it∈X.ex\/X.s₀.heap.objs.size<=it)(h2:∀ x c,X.env.cells.lookup x=some c->c≠it)(h3:∀ p∈X.pn++pins,p.1≠it):Inv X pins σ H { s with heap:=h',toks:=t' }:=by
 have OZ:∀ b u,H b=some u->b≠it:=fun b u e z=>by rw[z,hn] at e;cases e
 refine I.step (g':=s.gens) (d':=s.drawn) (ch:=[it]) (fun b hb=>?_) (fun b o _ _ hc e _=>k b o (fun z=>hc (by simp[z])) e) (fun b o _ _ hc e _=>⟨o.slots,k b o (fun z=>hc (by simp[z])) e⟩) (fun _ _ _ _ n=>n)
  (fun b o hc e=>⟨o,k b o (fun z=>hc (by simp[z])) e⟩) (fun _ _ e=>e) (fun _ _ _ e=>e) (fun b ps e=>⟨#[],by rw[e];simp⟩) (fun m hm=>?_) (fun b u e=>?_) I.bare
 ·have e:b=it:=by simpa using hb
  subst e;exact⟨h1,hL,h2,h3⟩
 ·obtain⟨o,es,ep,ho,r⟩:=hm;exact⟨o,es,ep,k _ o (Yv hL) ho,r⟩
 ·refine (I.m_ b u e).EI (fun c v hc q=>k c v ?_ q) (fun _ q=>q) fun _ _ q=>q;rcases hc with z | z
  ·rw[z];exact OZ b u e
  ·exact OZ c _ z
theorem Inv.tok(I:Inv X pins σ H s)(t:Nat):Inv X pins σ H { s with toks:=t }:=I.un (h':=s.heap) (t':=t) Un.refl I.m_
theorem Inv.kept(I:Inv X pins σ H s)(k:∀ b u,s.heap.get? b=some u->h'.get? b=some u):Inv X pins σ H { s with heap:=h',toks:=t' }:=I.un (Un.kept k) (I.m_.kept k)
theorem Inv.laid(I:Inv X pins σ H s)(k:∀ b u,s.heap.get? b=some u->h'.get? b=some u)(hp:s.heap.objs.size<=a)(new:bo X.prog X.w (upd H a o) h' a o):
  Inv X pins σ (upd H a o) { s with heap:=h',toks:=t' }:=I.un (Un.laid k hp<|I.m_.fresh hp) (I.m_.laid k hp new)
theorem Inv.write{x e:Addr}(I:Inv X pins σ H s)(mu:KM (H x))(he:e=x\/H e=some (.own x))(k:∀ b u,b≠e->s.heap.get? b=some u->h'.get? b=some u)(Hk:∃ u,h'.get? e=some u)(new:bo X.prog X.w (upd H x o) h' x o):Inv X pins σ (upd H x o) { s with heap:=h',toks:=t' }:=I.un (Un.write mu he k Hk) (I.m_.write mu he k Hk new)
theorem Inv.weak{σ':List (Option V)}(I:Inv X pins σ H s)(hl:σ'.length=σ.length)(w:∀ (i:Nat) v,σ'[i]?=some (some v)->σ[i]?=some (some v)):Inv X pins σ' H s:=
 ⟨I.ok,I.os,I.bare,I.base,let ⟨m,hn,Gq⟩:=I.loc;⟨m,hn,fun i x v e1 e2 e3=>Gq i x v e1 (w i v e2) e3⟩,I.cell,I.free,I.DB,I.pin,I.m_,hl.trans I.len⟩
theorem Inv.Ep{FH:List (Addr×Obj)}(I:Inv X pins σ H s)(h:∀ p∈FH,s.heap.get? p.1=some p.2/\H p.1=none/\p.1≠X.env.locals/\p.1∉X.fs/\∀ v,p.2.data≠.cell v):Inv X FH σ H s:=
 ⟨I.ok,I.os,I.bare,I.base,I.loc,I.cell,I.free,I.DB,fun p hp=>(ZD.mp hp).elim (fun z=>I.pin p<|ZJ _ z)<|h p,I.m_,I.len⟩
theorem kX(hN:N.Nodup){i j:Nat}{x:Str}(a:N[i]?=some x)(b:N[j]?=some x):i=j:=by
 obtain⟨h1,e1⟩:=Zz.mp a;obtain⟨h2,e2⟩:=Zz.mp b;exact (Xg hN).mp (e1.trans e2.symm)
variable{Q:Unit->Shared->Prop}
theorem kY{M:Model}(I:Inv X pins σ H s)(hN:X.N.Nodup)(hi:X.N[i]?=some x)(hx:Loc X.env.scope x)(r:aw v u)(h:∀ s',Inv X pins (σ.set i<|some v) H s'->(∃ a,Heap.SameBut a s.heap s'.heap/\(a=X.env.locals\/X.env.cells.lookup x=some a))->Q () s')(hf:X.fn x=true\/X.env.scope.names.lookup x=some .local:=by first | exact .inl rfl | exact .inr rfl | assumption):wpAny M A (storeName X.env x u) Q E s:=by
 obtain⟨m,hn,hl⟩:=id I.loc;have Nl:(X.env.scope.kind == .class || (X.env.scope.kind == .module && X.env.locals != X.env.globals))=false:=by rw[I.ok.kind];rfl
 have KQ:i < σ.length:=by rw[I.len];exact (Zz.mp hi).1
 have Iz:=I.Iz;have tracked:∀ {a:Addr}{h':Heap},(∃ o,s.heap.get? a=some o/\H a=none)->Heap.SameBut a s.heap h'->DV X.prog X.w H h':=fun {a h'} ha hs b ob e=>by
  obtain⟨_,_,Ja⟩:=ha;refine (I.m_ b ob e).EI (fun c w' hc q=>(hs.2 c ?_).trans q) (fun _ q=>q) fun _ _ q=>q;rintro rfl;rcases hc with rfl | hc
  ·rw[Ja] at e;cases e
  ·rw[Ja] at hc;cases hc
 rcases hx with hk | hk
 ·refine wpAny_storeName_local hk hn (fun h' KR hs=>?_) Nl;obtain⟨oL,_,_,P4,_⟩:=id hn;refine h _ ⟨I.ok,I.os,I.bare,⟨fun b o e n hb hx=>?_,fun b o e n hb hx=>?_,I.base.free,fun b o e hx=>?_,I.base.Ee,I.base.D_,I.base.Et⟩,⟨_,KR,fun j y v' e1 e2 e3=>?_⟩,fun y c e=>?_,I.free,I.DB,fun p hp=>?_,tracked ⟨oL,P4,I.free⟩ hs,by simpa using I.len⟩ ⟨_,hs,.inl rfl⟩
  ·exact (hs.2 b<|Zx<|Zy (ZO e) I.ok.above).trans (I.base.keep b o e n hb hx)
  ·obtain⟨sl,e1⟩:=I.base.slot b o e n hb hx;exact⟨sl,(hs.2 b<|Zx<|Zy (ZO e) I.ok.above).trans e1⟩
  ·obtain⟨o',e1⟩:=I.base.there b o e hx;exact⟨o',(hs.2 b<|Zx<|Zy (ZO e) I.ok.above).trans e1⟩
  ·by_cases hj:j=i
   ·subst hj;rw[hi] at e1;cases e1;rw[Yb KQ] at e2;cases e2;exact⟨u,r,.inl ⟨hk,by simp⟩⟩
   ·rw[YZ (Yv hj)] at e2;obtain⟨u',r',q⟩:=hl j y v' e1 e2 e3;refine⟨u',r',?_⟩;rcases q with ⟨k,e⟩ | ⟨k,c,e,z⟩
    ·refine .inl ⟨k,?_⟩;have:y≠x:=fun e=>hj (kX hN e1<|e ▸ hi);simp[this,e]
    ·exact .inr ⟨k,c,e,z.sameBut hs<|Iz y c e⟩
  ·obtain⟨w',z⟩:=I.cell y c e;exact⟨w',z.sameBut hs<|Iz y c e⟩
  ·obtain⟨e,n,ne,nf,d⟩:=I.pin p hp;exact⟨(hs.2 p.1 ne).trans e,n,ne,nf,d⟩
 ·have Hx:X.fn x=true:=by
   rcases hf with z | z
   ·exact z
   ·rw[z] at hk;cases hk
  obtain⟨c,hc⟩:=I.ok.has x (.inl hk);obtain⟨w',z⟩:=I.cell x c hc;refine wpAny_storeName_cell I.ok.kind hk hc z (fun h' KS hs=>?_);obtain⟨oc,MC,Nm⟩:=id z;refine h { s with heap:=h' } ⟨I.ok,I.os,I.bare,⟨fun b o e n hb hx=>?_,fun b o e n hb hx=>?_,I.base.free,fun b o e hx=>?_,I.base.Ee,I.base.D_,I.base.Et⟩,⟨m,hn.sameBut hs<|Yv<|Iz x c hc,fun j y v' e1 e2 e3=>?_⟩,fun y c' e=>?_,I.free,I.DB,fun p hp=>?_,tracked ⟨oc,MC,I.DB x c hc⟩ hs,by simpa using I.len⟩ ⟨c,hs,.inr hc⟩
  ·exact (hs.2 b<|Zx<|Zy (ZO e)<|I.ok.Hv x c Hx hc).trans (I.base.keep b o e n hb hx)
  ·obtain⟨sl,e1⟩:=I.base.slot b o e n hb hx;exact⟨sl,(hs.2 b<|Zx<|Zy (ZO e)<|I.ok.Hv x c Hx hc).trans e1⟩
  ·obtain⟨o',e1⟩:=I.base.there b o e hx;exact⟨o',(hs.2 b<|Zx<|Zy (ZO e)<|I.ok.Hv x c Hx hc).trans e1⟩
  ·by_cases hj:j=i
   ·subst hj;rw[hi] at e1;cases e1;rw[Yb KQ] at e2;cases e2;exact⟨u,r,.inr ⟨.inl hk,c,hc,KS⟩⟩
   ·rw[YZ (Yv hj)] at e2;obtain⟨u',r',q⟩:=hl j y v' e1 e2 e3;refine⟨u',r',?_⟩;rcases q with q | ⟨k,c',e,z'⟩
    ·exact .inl q
    ·refine .inr ⟨k,c',e,z'.sameBut hs ?_⟩;rintro rfl;exact hj (kX hN e1<|I.ok.inj _ _ _ e hc ▸ hi)
  ·by_cases O0:c'=c
   ·subst O0;exact⟨_,KS⟩
   ·obtain⟨w2,z2⟩:=I.cell y c' e;exact⟨w2,z2.sameBut hs O0⟩
  ·obtain⟨e,n,ne,nf,d⟩:=I.pin p hp;refine⟨(hs.2 p.1 ?_).trans e,n,ne,nf,d⟩;intro q;rw[q,MC] at e;have q':oc=p.2:=Zv e;exact d w' (by rw[<- q'];exact Nm)
theorem js{M:Model}(I:Inv X pins σ H s)(hN:X.N.Nodup)(hi:X.N[i]?=some x)(hx:Loc X.env.scope x)(r:aw v u)(h:∀ s',Inv X pins (σ.set i<|some v) H s'->Q () s')(hf:X.fn x=true\/X.env.scope.names.lookup x=some .local:=by first | exact .inl rfl | exact .inr rfl | assumption):wpAny M A (storeName X.env x u) Q E s:=
 kY I hN hi hx r (fun s' I' _=>h s' I') hf
theorem Inv.Jb(I:Inv X pins σ H s)(ho:s'.os=s.os)(u:Un (DL X.stack) ch H H' s.heap s'.heap)(m_:DV X.prog X.w H' s'.heap)(hg:AllBare s'.gens)(E7:∀ b∈ch,(b∈X.ex\/X.s₀.heap.objs.size<=b)/\b≠X.env.locals/\(∀ x c,X.env.cells.lookup x=some c->c≠b)/\∀ p∈X.pn++pins,p.1≠b):Inv X pins σ H' s':=by
 obtain⟨h',g',d',t',o'⟩:=s';have e:o'=s.os:=ho;subst e;exact I.call (g':=g') (t':=t') (d':=d') u m_ hg E7
end
abbrev XK:=Value->Option Addr->Hp->Prop
abbrev St:=List (Option V)
variable{σ:St}
abbrev VK:=V->Hp->Prop
abbrev TE:=St->Hp->VK->Prop
variable{te:TE}
abbrev TT:=St->Hp->(Bool->Hp->Prop)->Prop
variable{tc:TT}
abbrev TA:=St->Hp->(List V->Hp->Prop)->Prop
variable{ta:TA}
structure Ends where
 nx:St->Hp->Prop
 rt:VK
 bk:St->Hp->Prop:=fun _ _=>False
 ct:St->Hp->Prop:=fun _ _=>False
abbrev TS:=Ends->St->Hp->Prop
variable{tb:TS}
def EP(X:Cx)(pins:List (Addr×Obj))(σ:St)(Q:VK)(u:Value)(s':Shared):Prop:=∃ v H',Inv X pins σ H' s'/\aw v u/\Q v H'
def TP(X:Cx)(pins:List (Addr×Obj))(σ:St)(Q:Bool->Hp->Prop)(b:Bool)(s':Shared):Prop:=∃ H',Inv X pins σ H' s'/\Q b H'
def AP(X:Cx)(pins:List (Addr×Obj))(σ:St)(Q:List V->Hp->Prop)(us:List Value)(s':Shared):Prop:=∃ vs H',Inv X pins σ H' s'/\az vs us/\Q vs H'
def SP(X:Cx)(pins:List (Addr×Obj))(D:Ends)(f:Flow)(s':Shared):Prop:=
 match f with
 | .next=>∃ σ' H',Inv X pins σ' H' s'/\D.nx σ' H'
 | .brk=>∃ σ' H',Inv X pins σ' H' s'/\D.bk σ' H'
 | .cont=>∃ σ' H',Inv X pins σ' H' s'/\D.ct σ' H'
 | .ret u=>∃ v σ' H',Inv X pins σ' H' s'/\aw v u/\D.rt v H'
def Nn(X:Cx)(e:Expr)(t:TE)(pins:List (Addr×Obj)):Prop:=
 ∀ (s:Shared) (σ:St) (H:Hp) (Q:VK),Inv X pins σ H s->t σ H Q->wpAny (model X.prog X.w) X.A (eval e X.env) (EP X pins σ Q) X.xe s
def PE(X:Cx)(e:Expr)(t:TE):Prop:=∀ pins,Nn X e t pins
def O1(X:Cx)(e:Expr)(t:TT)(pins:List (Addr×Obj)):Prop:=
 ∀ (s:Shared) (σ:St) (H:Hp) (Q:Bool->Hp->Prop),Inv X pins σ H s->t σ H Q->wpAny (model X.prog X.w) X.A (isTrue e X.env<|eval e X.env) (TP X pins σ Q) X.xe s
def PT(X:Cx)(e:Expr)(t:TT):Prop:=∀ pins,O1 X e t pins
def O2(X:Cx)(e:Expr)(t:TT)(whole:Sem Value):Prop:=
 ∀ (pins:List (Addr×Obj)) (s:Shared) (σ:St) (H:Hp) (Q:Bool->Hp->Prop),Inv X pins σ H s->t σ H Q->wpAny (model X.prog X.w) X.A (isTrue e X.env whole) (TP X pins σ Q) X.xe s
def PW(X:Cx)(e:Expr)(t:TT):Prop:=∀ whole,O2 X e t whole
theorem PW.pt{t:TT}(h:PW X e t):PT X e t:=h _
def O3(X:Cx)(es:List Expr)(t:TA)(pos:Pos):Prop:=
 ∀ (pins:List (Addr×Obj)) (s:Shared) (σ:St) (H:Hp) (Q:List V->Hp->Prop),Inv X pins σ H s->t σ H Q->wpAny (model X.prog X.w) X.A (spliced<|backTo pos<|starEach es X.env) (AP X pins σ Q) X.xe s
def PA(X:Cx)(es:List Expr)(t:TA):Prop:=∀ pos,O3 X es t pos
def O4(X:Cx)(st:Stmt)(t:TS)(pins:List (Addr×Obj)):Prop:=
 ∀ (s:Shared) (σ:St) (H:Hp) (D:Ends),Inv X pins σ H s->t D σ H->wpAny (model X.prog X.w) X.A (exec st X.env) (SP X pins D) X.xe s
def PS(X:Cx)(st:Stmt)(t:TS):Prop:=∀ pins,O4 X st t pins
def nU(X:Cx)(st:List Stmt)(t:TS)(pins:List (Addr×Obj)):Prop:=
 ∀ (s:Shared) (σ:St) (H:Hp) (D:Ends),Inv X pins σ H s->t D σ H->wpAny (model X.prog X.w) X.A (execs st X.env) (SP X pins D) X.xe s
def FN(X:Cx)(st:List Stmt)(t:TS):Prop:=∀ pins,nU X st t pins
theorem B_{α:Type}{t:Sem α}{Q Q':α->Shared->Prop}{M:Model}(h:wpAny M A t Q E s)(hQ:∀ a s,Q a s->Q' a s):wpAny M A t Q' E s:=Y3 h hQ fun _ _ x=>x
section
variable{X:Cx}
def fC(i:Nat):TE:=fun σ H Q=>∃ v,σ[i]?=some (some v)/\Q v H
def tC(v:V):TE:=fun _ H Q=>Q v H
theorem nV(hN:X.N[i]?=some x)(hv:MA X.env.scope x)(hd:(x == ("__debug__" : Str))=false:=by decide)(FO:(x == ("__classdict__" : Str))=false:=by decide):PE X (.Name x pos) (fC i):=by
 intro pins s σ H Q I h;obtain⟨v,e,h⟩:=h;obtain⟨m,hn,hl⟩:=I.loc;obtain⟨u,r,l⟩:=hl i x v hN e hv;have fin:EP X pins σ Q u s:=⟨v,H,I,r,h⟩;rcases l with ⟨hk,hm⟩ | ⟨hk,c,hc,GP⟩
 ·exact wpAny_Name (wpAny_loadName_local I.ok.kind hk hn hm fin) hd
 ·rcases hk with hk | hk
  ·exact wpAny_Name (wpAny_loadName_cell I.ok.kind hk hc GP fin) hd
  ·exact wpAny_Name (wpAny_loadName_free I.ok.kind hk hc GP fin FO) hd
theorem uU{i j pos}:PE X (.Constant (.int i) j pos) (tC<|.int i):=fun _ _ _ H _ I h=>wpAny_Constant_int ⟨.int i,H,I.tok _,⟨_,rfl⟩,h⟩
theorem uV{b j pos}:PE X (.Constant (.bool b) j pos) (tC<|.bl b):=fun _ _ _ H _ I h=>Constant_bool ⟨.bl b,H,I,rfl,h⟩
theorem uW{j pos}:PE X (.Constant .none j pos) (tC .i_):=fun _ _ _ H _ I h=>Constant_none ⟨.i_,H,I,rfl,h⟩
theorem nW{x j pos}:PE X (.Constant (.str x) j pos) (tC<|.str x):=fun _ _ _ H _ I h=>Calls.Constant_str ⟨.str x,H,I.tok _,⟨_,rfl⟩,h⟩
def Gl(X:Cx)(x:Str):Prop:=X.env.kindOf x=some .globalImplicit
theorem ie(I:Inv X pins σ H s)(hg:Gl X x)(hm:X.mg x=some u)(h:Q u s)(hd:(x == ("__debug__" : Str))=false:=by decide):wpAny (model X.prog X.w) X.A (eval (.Name x pos) X.env) Q E s:=
 Calls.Name_function_global I.ok.kind hg (Calls.loadGlobal_global (by rw[I.ok.glob];exact I.mod.glob.keeps I.bk) hm h) hd
theorem ig(I:Inv X pins σ H s)(hg:Gl X x)(hm:X.mg x=none)(hv:bootBuiltins x=some u)(h:Q u s)(hn:x ≠ "__name__" := by decide)(hd:(x == ("__debug__" : Str))=false:=by decide):wpAny (model X.prog X.w) X.A (eval (.Name x pos) X.env) Q E s:=by
 obtain⟨mb,h1,h2⟩:=I.mod.blt;exact Calls.Name_function_global I.ok.kind hg (Calls.loadGlobal_builtin (by rw[I.ok.glob];exact I.mod.glob.keeps I.bk) hm (by rw[I.ok.blt];exact h1.keeps I.bk) ((h2 x hn).trans hv) h) hd
theorem nX(hg:Gl X x)(hm:X.mg x=some u)(r:aw v u)(hd:(x == ("__debug__" : Str))=false:=by decide):PE X (.Name x pos) (tC v):=
 fun _ _ _ H _ I h=>ie I hg hm ⟨v,H,I,r,h⟩ hd
theorem nY(hg:Gl X x)(hm:X.mg x=none)(hv:bootBuiltins x=some u)(r:aw v u)(hn:x ≠ "__name__" := by decide)(hd:(x == ("__debug__" : Str))=false:=by decide):PE X (.Name x pos) (tC v):=
 fun _ _ _ H _ I h=>ig I hg hm hv ⟨v,H,I,r,h⟩ hn hd
variable{a b:Expr}{ta tb:TE}{pos:Pos}
variable{tA MD:TT}{rest:List Expr}
def nZ(t u:TT):TT:=fun σ H Q=>t σ H fun c H1=>if c=true then u σ H1 Q else Q false H1
def O5(t u:TT):TT:=fun σ H Q=>t σ H fun c H1=>if c=true then Q true H1 else u σ H1 Q
def uX(t:TT):TT:=fun σ H Q=>t σ H fun c H1=>Q (!c) H1
theorem uY(ha:PT X a tA):PW X (.BoolOp .And [a] pos) tA:=by
 intro wh pins s σ H Q I h;refine isTrue_and (B_ (ha pins s σ H Q I h) fun c s1 e=>?_);cases c with
 | true=>exact isTrue_and_nil e
 | false=>exact e
theorem uZ(ha:PT X a tA):PW X (.BoolOp .Or [a] pos) tA:=by
 intro wh pins s σ H Q I h;refine isTrue_or (B_ (ha pins s σ H Q I h) fun c s1 e=>?_);cases c with
 | false=>exact isTrue_or_nil e
 | true=>exact e
theorem u0(ha:PT X a tA)(hb:PW X (.BoolOp .And (b::rest) pos) MD):PW X (.BoolOp .And (a::b::rest) pos) (nZ tA MD):=by
 intro wh pins s σ H Q I h;refine isTrue_and (B_ (ha pins s σ H _ I h) fun c s1 ⟨H1,I1,q1⟩=>?_);cases c with
 | true=>exact hb wh pins s1 σ H1 Q I1 q1
 | false=>exact⟨H1,I1,q1⟩
theorem u5(ha:PT X a tA)(hb:PW X (.BoolOp .Or (b::rest) pos) MD):PW X (.BoolOp .Or (a::b::rest) pos) (O5 tA MD):=by
 intro wh pins s σ H Q I h;refine isTrue_or (B_ (ha pins s σ H _ I h) fun c s1 ⟨H1,I1,q1⟩=>?_);cases c with
 | true=>exact⟨H1,I1,q1⟩
 | false=>exact hb wh pins s1 σ H1 Q I1 q1
theorem u6(ha:PT X a tA):PT X (.UnaryOp .Not a pos) (uX tA):=by
 intro pins s σ H Q I h;exact isTrue_not (ha pins s σ H (fun c H1=>Q (!c) H1) I h)
def u7(ta tb:TE):TE:=fun σ H Q=>ta σ H fun x H1=>∃ c,x=.bl c/\if c=true then tb σ H1 Q else Q (.bl false) H1
def u8(ta tb:TE):TE:=fun σ H Q=>ta σ H fun x H1=>∃ c,x=.bl c/\if c=true then Q (.bl true) H1 else tb σ H1 Q
def u9(ta:TE):TE:=fun σ H Q=>ta σ H fun x H1=>∃ c,x=.bl c/\Q (.bl<|!c) H1
theorem va{op}{t:TE}(h:PE X a t):PE X (.BoolOp op [a] pos) t:=fun pins s σ H Q I hw=>BoolOp_one (h pins s σ H Q I hw)
theorem vb(ha:PE X a ta)(hb:PE X (.BoolOp .And (b::rest) pos) tb):PE X (.BoolOp .And (a::b::rest) pos) (u7 ta tb):=by
 intro pins s σ H Q I h;refine BoolOp_and (B_ (ha pins s σ H _ I h) fun v s1 ⟨x,H1,I1,r1,q1⟩=>?_);obtain⟨c,rfl,q1⟩:=q1;cases r1;refine YB ?_;cases c with
 | true=>exact hb pins s1 σ H1 Q I1 q1
 | false=>exact⟨.bl false,H1,I1,rfl,q1⟩
theorem vc(ha:PE X a ta)(hb:PE X (.BoolOp .Or (b::rest) pos) tb):PE X (.BoolOp .Or (a::b::rest) pos) (u8 ta tb):=by
 intro pins s σ H Q I h;refine BoolOp_or (B_ (ha pins s σ H _ I h) fun v s1 ⟨x,H1,I1,r1,q1⟩=>?_);obtain⟨c,rfl,q1⟩:=q1;cases r1;refine YB ?_;cases c with
 | false=>exact hb pins s1 σ H1 Q I1 q1
 | true=>exact⟨.bl true,H1,I1,rfl,q1⟩
theorem vd(ha:PE X a ta):PE X (.UnaryOp .Not a pos) (u9 ta):=by
 intro pins s σ H Q I h;refine UnaryOp_ (B_ (ha pins s σ H _ I h) fun v s1 ⟨x,H1,I1,r1,q1⟩=>?_);obtain⟨c,rfl,q1⟩:=q1;cases r1;exact not_of (YB ⟨.bl<|!c,H1,I1,rfl,q1⟩)
end
def D7(K:PySem.W.Frag)(H:Hp)(a:Addr)(xs:List V):Prop:=
 Rd H a (.lst xs)\/
  ∃ (o:Obj) (f_:Array Value) (n:Nat),K.lookup a=some o/\o.cls=.type "list" /\ o.dict=none/\o.data=.seq f_ n/\f_.size<=sizeLine/\az xs f_.toList
def DG(K:PySem.W.Frag)(H:Hp)(a:Addr)(xs:List V):Prop:=
 Rd H a (.tup xs)\/
  ∃ (o:Obj) (f_:Array Value) (n:Nat),K.lookup a=some o/\o.cls=.type "tuple" /\ o.data=.seq f_ n/\f_.size<=sizeLine/\az xs f_.toList
def ve:Value->Option V
 | .none=>some .i_
 | .bool b=>some (.bl b)
 | .int i _=>some (.int i)
 | .str x _=>some (.str x)
 | .bytes b _=>some (.KL b)
 | .float b _=>some (.Nf b)
 | .ref a=>some (.ref a)
 | .type n=>some (.ty n)
 | _=>none
theorem aw.abs{x:V}(r:aw x u):ve u=some x:=by
 cases x with
 | i_=>cases r;rfl
 | bl _=>cases r;rfl
 | int _=>obtain⟨t,rfl⟩:=r;rfl
 | str _=>obtain⟨t,rfl⟩:=r;rfl
 | KL _=>obtain⟨t,rfl⟩:=r;rfl
 | Nf _=>obtain⟨t,rfl⟩:=r;rfl
 | ref _=>cases r;rfl
 | ty _=>cases r;rfl
theorem aw.inj{x y:V}{u:Value}(r:aw x u)(q:aw y u):x=y:=Zv (r.abs.symm.trans q.abs)
theorem az.inj:∀ {xs ys:List V}{us:List Value},az xs us->az ys us->xs=ys
 | _,_,_,.nil,.nil=>rfl
 | _,_,_,.cons r t,.cons r' t'=>by rw[r.inj r',az.inj t t']
section
variable{X:Cx}{pins:List (Addr×Obj)}{σ:St}{H:Hp}{s:Shared}{a:Addr}{xs ys:List V}
theorem D7.of(h:H a=some (.lst xs)):D7 K H a xs:=.inl (.inl h)
theorem DG.of(h:H a=some (.tup xs)):DG K H a xs:=.inl (.inl h)
theorem Inv.list(I:Inv X pins σ H s)(h:D7 X.K H a xs):∃ f_:List Value,az xs f_/\PlainL s.heap a f_.toArray/\xs.length<=sizeLine:=by
 rcases h with h | ⟨o,f_,n,hk,hc,hd,hs,hz,r⟩
 ·obtain⟨z,f_,n,r,e⟩:=h.ok I.m_;exact⟨f_,r,⟨_,n,e,rfl,rfl,rfl⟩,z⟩
 ·refine⟨f_.toList,r,⟨o,n,I.GZ a o hk,hc,hd,by simpa using hs⟩,?_⟩;have e:=r.length;simp only[Zw] at e;lia
theorem Inv.tuple(I:Inv X pins σ H s)(h:DG X.K H a xs):∃ f_:List Value,az xs f_/\IsTup s.heap a f_.toArray/\xs.length<=sizeLine:=by
 rcases h with h | ⟨o,f_,n,hk,hc,hs,hz,r⟩
 ·obtain⟨z,f_,r,p⟩:=h.ok I.m_;exact⟨f_,r,p,z⟩
 ·refine⟨f_.toList,r,⟨o,I.GZ a o hk,hc,n,by simpa using hs⟩,?_⟩;have e:=r.length;simp only[Zw] at e;lia
theorem Inv.Hy(I:Inv X pins σ H s)(h:D7 X.K H a xs)(h':D7 X.K H a ys):xs=ys:=by
 obtain⟨f_,r,⟨o,n,e,_,_,d⟩,_⟩:=I.list h;obtain⟨its',r',⟨o',n',e',_,_,d'⟩,_⟩:=I.list h';rw[e] at e';cases e';rw[d] at d';injection d' with d1 _;have:f_=its':=by simpa using congrArg Array.toList d1
 subst this;exact r.inj r'
theorem Inv.ER(I:Inv X pins σ H s)(h:DG X.K H a xs)(h':DG X.K H a ys):xs=ys:=by
 obtain⟨f_,r,⟨o,e,_,n,d⟩,_⟩:=I.tuple h;obtain⟨its',r',⟨o',e',_,n',d'⟩,_⟩:=I.tuple h';rw[e] at e';cases e';rw[d] at d';injection d' with d1 _;have:f_=its':=by simpa using congrArg Array.toList d1
 subst this;exact r.inj r'
end
abbrev Cx.FE(X:Cx)(E:Value->Shared->Prop):Cx:={ X with xe:=E }
abbrev Cx.JG(X:Cx):Cx:=X.FE fun _ _=>False
theorem Cx.Ok.FE(ok:X.Ok)(E:Value->Shared->Prop):(X.FE E).Ok:=
 ⟨ok.mod,ok.kind,ok.glob,ok.blt,ok.above,ok.inj,ok.has,ok.Hv,ok.hd,ok.frames,ok.Hw,ok.I_,ok.bs,ok.Gy,ok.Fd,ok.Fe,ok.DT,ok.GY⟩
theorem Cx.Ok.Ef(ok:(X.FE E).Ok):X.Ok:=
 ⟨ok.mod,ok.kind,ok.glob,ok.blt,ok.above,ok.inj,ok.has,ok.Hv,ok.hd,ok.frames,ok.Hw,ok.I_,ok.bs,ok.Gy,ok.Fd,ok.Fe,ok.DT,ok.GY⟩
section
variable{X:Cx}{pins:List (Addr×Obj)}{σ:St}{H:Hp}{s:Shared}{E:Value->Shared->Prop}
theorem Inv.FE(I:Inv X pins σ H s)(E:Value->Shared->Prop):Inv (X.FE E) pins σ H s:=⟨I.ok.FE E,I.os,I.bare,I.base,I.loc,I.cell,I.free,I.DB,I.pin,I.m_,I.len⟩
theorem Inv.Ef(I:Inv (X.FE E) pins σ H s):Inv X pins σ H s:=⟨I.ok.Ef,I.os,I.bare,I.base,I.loc,I.cell,I.free,I.DB,I.pin,I.m_,I.len⟩
theorem SP.Ef{D:Ends}{f:Flow}(h:SP (X.FE E) pins D f s'):SP X pins D f s':=by
 cases f with
 | next=>obtain⟨σ',H',I,q⟩:=h;exact⟨σ',H',I.Ef,q⟩
 | brk=>obtain⟨σ',H',I,q⟩:=h;exact⟨σ',H',I.Ef,q⟩
 | cont=>obtain⟨σ',H',I,q⟩:=h;exact⟨σ',H',I.Ef,q⟩
 | ret u=>obtain⟨v,σ',H',I,r,q⟩:=h;exact⟨v,σ',H',I.Ef,r,q⟩
theorem FN.JG{st:List Stmt}{t:TS}(h:FN X.JG st t):FN X st t:=fun pins s σ H D I hw=>
 Y3 (h pins s σ H D (I.FE _) hw) (fun _ _ q=>q.Ef) fun _ _ z=>False.elim z
end
section
variable{X:Cx}{st:Stmt}{rest:List Stmt}{t u:TS}{e:Expr}{te:TE}{pos:Pos}
def KU:TS:=fun D σ H=>D.nx σ H
def n4(t u:TS):TS:=fun D σ H=>t { D with nx:=u D } σ H
theorem vf:FN X [] KU:=fun _ _ σ H _ I h=>X5 ⟨σ,H,I,h⟩
theorem ii(h1:PS X st t)(h2:FN X rest u):FN X (st::rest) (n4 t u):=by
 intro pins s σ H D I h;refine wpAny_execs_cons (B_ (h1 pins s σ H { D with nx:=u D } I h) fun f s1 q=>?_);cases f with
 | next=>
  obtain⟨σ',H',I',q⟩:=q;exact h2 pins s1 σ' H' D I' q
 | ret v=>exact q
 | brk=>exact q
 | cont=>exact q
theorem vg(h1:PS X st t):FN X [st] t:=by
 intro pins s σ H D I h;refine wpAny_execs_cons (B_ (h1 pins s σ H D I h) fun f s1 q=>?_);cases f with
 | next=>exact X5 q
 | ret v=>exact q
 | brk=>exact q
 | cont=>exact q
theorem Inv.quiet(I:Inv X pins σ H s):interactive X.env=false:=by simp[interactive,I.ok.kind]
def vh(te:TE):TS:=fun D σ H=>te σ H fun _ H1=>D.nx σ H1
theorem vj(he:PE X e te)(hs:swapsWith e none pos.line X.env=pure false:=by rfl):PS X (.Expr e pos) (vh te):=by
 intro pins s σ H D I h;exact wpAny_Expr_any (B_ (he pins s σ H _ I h) fun v s1 ⟨x,H1,I1,r1,q1⟩=>⟨σ,H1,I1,q1⟩) I.quiet hs
def vk(te:TE):TS:=fun D σ H=>te σ H D.rt
theorem vm(he:PE X e te):PS X (.Return (some e) pos) (vk te):=by
 intro pins s σ H D I h;exact wpAny_Return_some (B_ (he pins s σ H _ I h) fun v s1 ⟨x,H1,I1,r1,q1⟩=>⟨x,σ,H1,I1,r1,q1⟩)
def vn(c:TT)(t u:TS):TS:=fun D σ H=>c σ H fun b H1=>if b=true then t D σ H1 else u D σ H1
theorem n5{a b:List Stmt}(hc:PT X c tc)(ha:FN X a t)(hb:FN X b u):PS X (.If c a b pos) (vn tc t u):=by
 intro pins s σ H D I h;refine wpAny_If (B_ (hc pins s σ H _ I h) fun d s1 ⟨H1,I1,q1⟩=>?_);cases d with
 | true=>exact ha pins s1 σ H1 D I1 q1
 | false=>exact hb pins s1 σ H1 D I1 q1
def JH:TS:=fun _ _ _=>False
theorem vo:PS X st JH:=fun _ _ _ _ _ _ h=>h.elim
end
abbrev TG:=V->St->Hp->(St->Hp->Prop)->Prop
abbrev Ii:=List V->St->Hp->(St->Hp->Prop)->Prop
def O6(X:Cx)(target:Expr)(t:TG)(pins:List (Addr×Obj)):Prop:=
 ∀ (s:Shared) (σ:St) (H:Hp) (v:V) (u:Value) (Q:St->Hp->Prop),Inv X pins σ H s->aw v u->t v σ H Q->
  wpAny (model X.prog X.w) X.A (assign target X.env u) (fun _ s'=>∃ σ' H',Inv X pins σ' H' s'/\Q σ' H') X.xe s
def PG(X:Cx)(target:Expr)(t:TG):Prop:=∀ pins,O6 X target t pins
def n6(X:Cx)(ts:List Expr)(t:Ii)(pins:List (Addr×Obj)):Prop:=
 ∀ (s:Shared) (σ:St) (H:Hp) (vs:List V) (us:List Value) (Q:St->Hp->Prop),Inv X pins σ H s->az vs us->t vs σ H Q->
  wpAny (model X.prog X.w) X.A (assignInOrder ((assignEach ts X.env).map (·.2)) us) (fun _ s'=>∃ σ' H',Inv X pins σ' H' s'/\Q σ' H') X.xe s
def Ku(X:Cx)(ts:List Expr)(t:Ii):Prop:=∀ pins,n6 X ts t pins
abbrev JI:=V->V->V->Hp->(Hp->Prop)->Prop
def kZ(X:Cx)(t:JI):Prop:=
 ∀ (pins:List (Addr×Obj)) (s:Shared) (σ:St) (H:Hp) (o i v:V) (ov iv u:Value) (Q:Hp->Prop),Inv X pins σ H s->aw o ov->aw i iv->aw v u->t o i v H Q->
  wpAny (model X.prog X.w) X.A (setItem ov iv u) (fun _ s'=>∃ H',Inv X pins σ H' s'/\Q H') X.xe s
section
variable{X:Cx}{pos:Pos}
def k7(i:Nat):TG:=fun v σ H Q=>Q (σ.set i<|some v) H
theorem vp(hN:X.N.Nodup)(hi:X.N[i]?=some x)(hx:Loc X.env.scope x)(hf:X.fn x=true\/X.env.scope.names.lookup x=some .local:=by first | exact .inl rfl | exact .inr rfl | assumption):PG X (.Name x pos) (k7 i):=by
 intro pins s σ H v u Q I r h;exact wpAny_assign_Name (js I hN hi hx r (fun s' I'=>⟨_,H,I',h⟩) hf)
def No:Ii:=fun vs σ H Q=>vs=[]/\Q σ H
def vq(t:TG)(u:Ii):Ii:=fun vs σ H Q=>∃ v r,vs=v::r/\t v σ H fun σ' H'=>u r σ' H' Q
theorem vu:Ku X [] No:=by
 intro pins s σ H vs us Q I r h;obtain⟨e,h⟩:=h;subst e;cases r;exact assignInOrder_nil ⟨σ,H,I,h⟩
theorem vw{t:TG}{u:Ii}(h1:PG X e t)(h2:Ku X es u)(hs:(assignEach (e::es) X.env).map (·.2)=assign e X.env::(assignEach es X.env).map (·.2):=by rfl):Ku X (e::es) (vq t u):=by
 intro pins s σ H vs us Q I r h;obtain⟨v,vr,e1,h⟩:=h;subst e1;cases r with
 | cons r rr=>
  rw[hs];refine assignInOrder_cons (B_ (h1 pins s σ H _ _ _ I r h) fun _ s1 ⟨σ1,H1,I1,q1⟩=>?_);exact h2 pins s1 σ1 H1 _ _ Q I1 rr q1
def vx(K:PySem.W.Frag)(n:Nat)(t:Ii):TG:=fun v σ H Q=>∃ a xs,v=.ref a/\DG K H a xs/\xs.length=n/\t xs σ H Q
theorem vy{t:Ii}(hc:X.calm=true)(h:Ku X es t)(hn:(assignEach es X.env).length=n:=by rfl)(FP:(assignEach es X.env).findIdx? (·.1)=none:=by rfl):PG X (.Tuple es k pos) (vx X.K n t):=by
 intro pins s σ H v u Q I r hw;obtain⟨a,xs,e1,hq,hl,hw⟩:=hw;subst e1;cases r;obtain⟨f_,rv,ht,hz⟩:=I.tuple hq;refine assign_Tuple_tuple (I.ok.hd hc) ht (by simp[hn,<- hl,rv.length]) FP fun h' hx=>?_;have I1:Inv X pins σ H { s with heap:=h' }:=I.kept (t':=s.toks) fun b o e=>hx b o (Zx<|ZO e) e;exact h pins _ σ H xs _ Q I1 (by simpa using rv) hw
def vz(to ti:TE)(t:JI):TG:=fun v σ H Q=>to σ H fun o H1=>ti σ H1 fun i H2=>t o i v H2 fun H3=>Q σ H3
theorem vA{o i:Expr}{to ti:TE}{t:JI}(ho:PE X o to)(hi:PE X i ti)(hs:kZ X t)(ha:∀ v,assign (.Subscript o i pos) X.env v=(do
   let ov <- holding [v] (eval o X.env)
   let iv <- holding [v,ov] (eval i X.env)
   standAt pos
   holding [v,ov,iv] (setItem ov iv v)
   release [v,ov,iv] []):=by intro _;rfl):PG X (.Subscript o i pos) (vz to ti t):=by
 intro pins s σ H v u Q I r h;rw[ha];refine Z9 (YM<|B_ (ho pins s σ H _ I h) fun ov s1 ⟨x,H1,I1,r1,q1⟩=>?_);refine Z9 (YM<|B_ (hi pins s1 σ H1 _ I1 q1) fun iv s2 ⟨y,H2,I2,r2,q2⟩=>?_);refine Z9 (Wu<|Z9<|YM<|B_ (hs pins s2 σ H2 x y v ov iv u _ I2 r1 r2 r q2) fun _ s3 ⟨H3,I3,q3⟩=>?_);exact wpAny_release ⟨σ,H3,I3,q3⟩
def k8(te:TE)(g:TG):TS:=fun D σ H=>te σ H fun x H1=>g x σ H1 D.nx
theorem vB{g:TG}(he:PE X e te)(hg:PG X tg g)(hs:swapsWithSole [tg] e pos.line X.env=pure false:=by rfl)(hw:swappedStores [tg] e X.env=pure none:=by rfl)(h1:(assignEach [tg] X.env).map (·.2)=[assign tg X.env]:=by rfl):PS X (.Assign [tg] e pos) (k8 te g):=by
 intro pins s σ H D I h;refine wpAny_Assign_stores (B_ (he pins s σ H _ I h) fun v s1 ⟨x,H1,I1,r1,q1⟩=>?_) hs hw;rw[h1];exact B_ (hg pins s1 σ H1 x v _ I1 r1 q1) fun _ s2 q=>q
theorem n9{pos':Pos}(hN:X.N.Nodup)(hi:X.N[i]?=some x)(hx:Loc X.env.scope x)(he:PE X e te)(hs:swapsWith e (some<|.Name x pos') pos.line X.env=pure false:=by rfl)(hf:X.fn x=true\/X.env.scope.names.lookup x=some .local:=by first | exact .inl rfl | exact .inr rfl | assumption):
  PS X (.Assign [.Name x pos'] e pos) (k8 te<|k7 i):=by
 intro pins s σ H D I h;refine wpAny_Assign_Name (B_ (he pins s σ H _ I h) fun v s1 ⟨y,H1,I1,r1,q1⟩=>?_) hs;exact js I1 hN hi hx r1 (fun s2 I2=>⟨_,H1,I2,q1⟩) hf
def vC(i j:Nat)(ta:TA):TS:=fun D σ H=>ta σ H fun vs H1=>∃ v w,vs=[v,w]/\D.nx ((σ.set i<|some v).set j<|some w) H1
theorem vD{y:Str}{a b:Expr}{px py pt:Pos}{kt k2 JJ}(hc:X.calm=true)(hN:X.N.Nodup)(hi:X.N[i]?=some x)(hj:X.N[j]?=some y)(Ff:i≠j)(hx:X.env.scope.names.lookup x=some .local)(hy:X.env.scope.names.lookup y=some .local)(ha:PA X [a,b] ta)(hw:swappedStores [.Tuple [.Name x px,.Name y py] kt pt] (.Tuple [a,b] k2 JJ) X.env=pure (some [x,y]))(hs:swapsWithSole [.Tuple [.Name x px,.Name y py] kt pt] (.Tuple [a,b] k2 JJ) pos.line X.env=pure false:=by rfl):
  PS X (.Assign [.Tuple [.Name x px,.Name y py] kt pt] (.Tuple [a,b] k2 JJ) pos) (vC i j ta):=by
 intro pins s σ H D I h;rw[exec_Assign_arm];refine Z9 (Wu ?_);rw[hs];refine Z9 (ZU ?_);rw[ZW (by decide)];refine Z9 (Tuple_<|B_ (ha _ pins s σ H _ I h) fun us s1 ⟨vs,H1,I1,r1,q1⟩=>?_);obtain⟨v,w,e1,q1⟩:=q1;subst e1;obtain⟨u1,u2,rfl,rv,Hz⟩:∃ u1 u2,us=[u1,u2]/\aw v u1/\aw w u2:=by
  cases r1 with
  | cons p q=>
   cases q with
   | cons p' q'=>
    cases q';exact⟨_,_,rfl,p,p'⟩
 refine YA ?_ (by show 2<=sizeLine;decide);have I2:Inv X pins σ H1 { s1 with heap:=s1.heap.push { cls:=.type "tuple",data:=.seq [u1,u2].toArray } }:=I1.kept (t':=s1.toks) fun b o e=>Z2 _ e;rw[hw];refine Z9 (ZU ?_);show wpAny (model X.prog X.w) X.A (do rule "assign.swapped-stores";let items <- unpackItems (.ref s1.heap.objs.size) 2 none;assignInOrder [fun v=>bindName X.env y v,fun v=>bindName X.env x v] items.reverse;pure Flow.next) _ _ _;refine Z9 (YL<|Z9<|unpackItems_tuple (items:=#[u1,u2]) (I.ok.hd hc) (IsTup.new s1.heap _) fun h' Gw=>?_);have I3:=I2.kept (h':=h') (t':=s1.toks) fun b o e=>Gw b o (Zx<|ZO e) e;show wpAny _ _ (assignInOrder [fun v=>bindName X.env y v,fun v=>bindName X.env x v] [u2,u1] >>= fun _=>pure Flow.next) _ _ _;refine Z9 (assignInOrder_cons<|wpAny_bindName<|js I3 hN hj (.inl hy) Hz (fun s2 I4=>?_)<|.inr hy);refine assignInOrder_cons (wpAny_bindName<|js I4 hN hi (.inl hx) rv (fun s3 I5=>assignInOrder_nil<|ZU ?_)<|.inr hx);rw[Wt _ _ (Yv Ff)] at I5;exact⟨_,H1,I5,q1⟩
end
section
variable{X:Cx}{pos:Pos}
def vE(c:TT)(tb:TS):TS:=fun D σ H=>∃ W:Nat->St->Hp->Prop,(∃ m,W m σ H)/\∀ m σ H,W m σ H->
 c σ H fun b H1=>if b=true then ∃ N:St->Hp->Prop,(∀ σ' H',N σ' H'->∃ m',m'<m/\W m' σ' H')/\tb { D with nx:=N,ct:=N,bk:=D.nx } σ H1 else D.nx σ H1
theorem vF(hp:PassesOwn (model X.prog X.w) X.A X.env X.xe)(hc:PT X c tc)(hb:FN X body tb):PS X (.While c body [] pos) (vE tc tb):=by
 intro pins s σ H D I h;obtain⟨W,⟨m0,w0⟩,turn⟩:=h;refine wpAny_While (codeAny_whileLoop (fun n s'=>∃ σ' H',Inv X pins σ' H' s'/\W n σ' H') ?_ m0 ⟨σ,H,I,w0⟩);rintro n s1 ⟨σ1,H1,I1,w1⟩;refine Yn hp (B_ (hc pins s1 σ1 H1 _ I1<|turn n σ1 H1 w1) fun b s2 ⟨H2,I2,q2⟩=>?_);cases b with
 | true=>
  obtain⟨N,hN,q2⟩:=q2;rw[ZZ rfl];refine Yn hp (B_ (hb pins s2 σ1 H2 _ I2 q2) fun f s3 q3=>?_);cases f with
  | next=>
   obtain⟨σ3,H3,I3,n3⟩:=q3;obtain⟨m',hm,w3⟩:=hN σ3 H3 n3;exact⟨m',hm,σ3,H3,I3,w3⟩
  | cont=>
   obtain⟨σ3,H3,I3,n3⟩:=q3;obtain⟨m',hm,w3⟩:=hN σ3 H3 n3;exact⟨m',hm,σ3,H3,I3,w3⟩
  | brk=>exact q3
  | ret v=>exact q3
 | false=>
  rw[ZW ZK];exact X5 ⟨σ1,H2,I2,q2⟩
end
structure It where
 go:Nat->Hp->Prop
 KW:Nat->Hp->V->Hp->Prop
 stop:Nat->Hp->Prop
def dy(X:Cx)(pins:List (Addr×Obj))(H:Hp)(b:Addr):Prop:=
 H b=none/\b≠X.env.locals/\b∉X.fs/\(b∈X.ex\/X.s₀.heap.objs.size<=b)/\(∀ x c,X.env.cells.lookup x=some c->c≠b)/\∀ p∈X.pn++pins,p.1≠b
theorem Inv.IA(I:Inv X pins σ H s)(hb:s.heap.objs.size<=b)(hn:H' b=none):dy X pins H' b:=by
 refine⟨hn,WN<|Zy I.lt hb,I.Nj hb,.inr<|Zo I.sz hb,fun x c e z=>?_,fun p hp z=>?_⟩
 ·obtain⟨v,q⟩:=I.cell x c e;exact absurd (Zy q.lt (by rw[z];exact hb)) (Yt _)
 ·exact absurd (Zy (ZO (I.pin p hp).1) (by rw[z];exact hb)) (Yt _)
structure Turn(P:Program)(w:World)(K:PySem.W.Frag)(tg:Expr)(J:It)(fp:List Addr)(it:Addr)(tn:Nat->Heap->Prop):Prop where
 mem:it∈fp
 obj:∀ i h,tn i h->∀ b∈fp,∃ o,h.get? b=some o/\∀ v,o.data≠.cell v
 keep:∀ i h h',tn i h->(∀ b∈fp,∀ o,h.get? b=some o->h'.get? b=some o)->tn i h'
 item:∀ (X:Cx),X.prog=P->X.w=w->X.K=K->X.calm=true->∀ (i:Nat) (pins:List (Addr×Obj)) (s:Shared) (σ:St) (H:Hp) (E:Value->Shared->Prop),Inv X pins σ H s->(∀ b∈fp,dy X pins H b)->tn i s.heap->J.go i H->
  wpAny (model P w) X.A (pyNext<|.ref it) (fun r s1=>∃ u,r=some u/\
   wpAny (model P w) X.A (letOwnedTupleGo tg (.ref it) u) (fun _ s2=>∃ x H',Inv X pins σ H' s2/\aw x u/\J.KW i H x H'/\tn (i+1) s2.heap/\∀ b∈fp,H' b=none) E s1) E s
 done:∀ (X:Cx),X.prog=P->X.w=w->X.K=K->X.calm=true->∀ (i:Nat) (pins:List (Addr×Obj)) (s:Shared) (σ:St) (H:Hp) (E:Value->Shared->Prop),Inv X pins σ H s->(∀ b∈fp,dy X pins H b)->tn i s.heap->J.stop i H->
  wpAny (model P w) X.A (pyNext<|.ref it) (fun r s1=>r=none/\Inv X pins σ H s1) E s
 self:∀ (A:Around) (i:Nat) (s:Shared) (Q:Value->Shared->Prop) (E:Value->Shared->Prop),tn i s.heap->Q (.ref it) s->wpAny (model P w) A (pyIter<|.ref it) Q E s
abbrev TI:=St->Hp->(It->Hp->Prop)->Prop
def O7(X:Cx)(pins:List (Addr×Obj))(σ:St)(tg:Expr)(R:It->Hp->Prop)(Np:Value)(s2:Shared):Prop:=
 ∃ (it:Addr) (fp:List Addr) (tn:Nat->Heap->Prop) (J:It) (H':Hp),Np=.ref it/\Inv X pins σ H' s2/\Turn X.prog X.w X.K tg J fp it tn/\tn 0 s2.heap/\(∀ b∈fp,dy X pins H' b)/\R J H'
def O8(X:Cx)(tg iter:Expr)(wi:TI)(pins:List (Addr×Obj)):Prop:=
 ∀ (s:Shared) (σ:St) (H:Hp) (R:It->Hp->Prop),Inv X pins σ H s->wi σ H R->
  wpAny (model X.prog X.w) X.A (eval iter X.env) (fun v s1=>wpAny (model X.prog X.w) X.A (pyIter v) (O7 X pins σ tg R) X.xe s1) X.xe s
def PI(X:Cx)(tg iter:Expr)(wi:TI):Prop:=∀ pins,O8 X tg iter wi pins
theorem k9{M : Model}{E : Value -> Shared -> Prop}{o : Obj}{n : String}{vs : Array Value}{Q : Unit -> Shared -> Prop}(ho : s.heap.get? it = some o)(hc : o.cls = .type n)(hd : o.data = .fields vs)(hn : ["enumerate", "zip", "dict_itemiterator", "dict_reverseitemiterator", "odict_iterator", "itertools.zip_longest", "itertools.pairwise"].contains n = false)(hQ : Q () s): wpAny M A (letOwnedTupleGo tg (.ref it) u) Q E s := by
  unfold letOwnedTupleGo;cases tg <;> first
    | exact ZU hQ
    | (cases u <;> first
        | exact ZU hQ
        | (refine Z9 (wpAny_load ho ?_)
           rw [hc, hd];show wpAny M A (if (["enumerate", "zip", "dict_itemiterator", "dict_reverseitemiterator", "odict_iterator", "itertools.zip_longest", "itertools.pairwise"].contains n && vs[0]? == some (rawInt _)) = true then _ else _) Q E s;rw [ZW (by intro h; rw [hn, Bool.false_and] at h; cases h)];exact ZU hQ))
def KY(K:PySem.W.Frag)(a:Addr):It:=
 ⟨fun i H=>∃ xs x,D7 K H a xs/\xs[i]?=some x,fun i H x H'=>H'=H/\∀ xs,D7 K H a xs->xs[i]?=some x,fun i H=>∃ xs,D7 K H a xs/\xs.length<=i⟩
def ME(K:PySem.W.Frag)(a:Addr):It:=
 ⟨fun i H=>∃ xs x,DG K H a xs/\xs[i]?=some x,fun i H x H'=>H'=H/\∀ xs,DG K H a xs->xs[i]?=some x,fun i H=>∃ xs,DG K H a xs/\xs.length<=i⟩
def MF(lo:Int)(n:Nat):It:=⟨fun i _=>i<n,fun i H x H'=>H'=H/\x=.int (lo+i),fun i _=>n<=i⟩
theorem vG(a it:Addr):Turn P w K tg (KY K a) [it] it (fun i h=>h.IsListIter it a i) where
 mem:=by simp
 obj:=fun i h st b hb=>by
  have e:b=it:=by simpa using hb
  subst e;obtain⟨o,e,c,d⟩:=st;exact⟨o,e,fun v z=>by rw[d] at z;cases z⟩
 keep:=fun i h h' st k=>st.at fun o e=>k it (by simp) o e
 item:=by
  intro X hP hw hK hc i pins s σ H E I hf st hg;subst hP hw hK;obtain⟨xs,x,hq,hx⟩:=hg;obtain⟨f_,rv,p,hz⟩:=I.list hq;obtain⟨u,hu,ru⟩:=rv.get hx;obtain⟨f0,f1,f2,f3,f4,f5⟩:=hf it (by simp);refine wpAny_pyNext_list_item st p.isList (x:=u) (by simpa using hu) fun h' e_ sb=>?_;have I1:Inv X pins σ H { s with heap:=h' }:=I.turned (t':=s.toks) (fun b o hb e=>(sb.2 b hb).trans e) f0 f1 f3 f4 f5;obtain⟨o,e,c,d⟩:=id e_;exact⟨u,rfl,k9 (s:={ s with heap:=h' }) e c d (by decide) ⟨x,H,I1,ru,⟨rfl,fun ys hy=>by rw[I.Hy hy hq];exact hx⟩,e_,fun b hb=>(hf b hb).1⟩⟩
 done:=by
  intro X hP hw hK hc i pins s σ H E I hf st hg;subst hP hw hK;obtain⟨xs,hq,hx⟩:=hg;obtain⟨f_,rv,p,hz⟩:=I.list hq;obtain⟨f0,f1,f2,f3,f4,f5⟩:=hf it (by simp);have hl:=rv.length;exact wpAny_pyNext_list_end (I.ok.hd hc) st p.isList (by simp;lia) fun h' eb=>⟨rfl,I.turned (t':=s.toks) (fun b o hb e=>eb b o hb e) f0 f1 f3 f4 f5⟩
 self:=fun _ _ _ _ _ st h=>wpAny_pyIter_listiter st h
theorem vH(a it:Addr):Turn P w K tg (ME K a) [it] it (fun i h=>h.IsTupleIter it a i) where
 mem:=by simp
 obj:=fun i h st b hb=>by
  have e:b=it:=by simpa using hb
  subst e;obtain⟨o,e,c,d⟩:=st;exact⟨o,e,fun v z=>by rw[d] at z;cases z⟩
 keep:=fun i h h' st k=>st.at fun o e=>k it (by simp) o e
 item:=by
  intro X hP hw hK hc i pins s σ H E I hf st hg;subst hP hw hK;obtain⟨xs,x,hq,hx⟩:=hg;obtain⟨f_,rv,p,hz⟩:=I.tuple hq;obtain⟨u,hu,ru⟩:=rv.get hx;obtain⟨f0,f1,f2,f3,f4,f5⟩:=hf it (by simp);refine wpAny_pyNext_tuple_item st (show s.heap.IsTuple a f_.toArray from p) (x:=u) (by simpa using hu) fun h' e_ sb=>?_;have I1:Inv X pins σ H { s with heap:=h' }:=I.turned (t':=s.toks) (fun b o hb e=>(sb.2 b hb).trans e) f0 f1 f3 f4 f5;obtain⟨o,e,c,d⟩:=id e_;exact⟨u,rfl,k9 (s:={ s with heap:=h' }) e c d (by decide) ⟨x,H,I1,ru,⟨rfl,fun ys hy=>by rw[I.ER hy hq];exact hx⟩,e_,fun b hb=>(hf b hb).1⟩⟩
 done:=by
  intro X hP hw hK hc i pins s σ H E I hf st hg;subst hP hw hK;obtain⟨xs,hq,hx⟩:=hg;obtain⟨f_,rv,p,hz⟩:=I.tuple hq;obtain⟨f0,f1,f2,f3,f4,f5⟩:=hf it (by simp);have hl:=rv.length;exact wpAny_pyNext_tuple_end (I.ok.hd hc) st (show s.heap.IsTuple a f_.toArray from p) (by simp;lia) fun h' eb=>⟨rfl,I.turned (t':=s.toks) (fun b o hb e=>eb b o hb e) f0 f1 f3 f4 f5⟩
 self:=fun _ _ _ _ _ st h=>wpAny_pyIter_tupleiter st h
theorem vI(it:Addr)(lo:Int)(n:Nat):Turn P w K tg (MF lo n) [it] it (fun i h=>IsRangeIter h it (lo+(i:Nat) * 1) ((n:Int) - (i:Nat)) 1) where
 mem:=by simp
 obj:=fun i h st b hb=>by
  have e:b=it:=by simpa using hb
  subst e;exact⟨_,st,fun v z=>by
   have z':Data.fields _=Data.cell v:=z;cases z'⟩
 keep:=fun i h h' st k=>k it (by simp) _ st
 item:=by
  intro X hP hw hK hc i pins s σ H E I hf st hg;subst hP hw hK;obtain⟨f0,f1,f2,f3,f4,f5⟩:=hf it (by simp);have W:=Walks.range (prog:=X.prog) (w:=X.w) (I.ok.hd hc) it lo 1 n;refine W.item i s _ _ hg st fun v h' tk hv e_ kk=>?_;obtain⟨t,rfl⟩:=hv;have I1:Inv X pins σ H { s with heap:=h',toks:=tk }:=I.turned (fun b o hb e=>kk b o (by simpa using hb) e) f0 f1 f3 f4 f5;refine⟨_,rfl,k9 (s:={ s with heap:=h',toks:=tk }) (n := "range_iterator") e_ rfl rfl (by decide) ⟨.int<|lo+i,H,I1,⟨t,?_⟩,⟨rfl,rfl⟩,e_,fun b hb=>(hf b hb).1⟩⟩;rw[Int.mul_one]
 done:=by
  intro X hP hw hK hc i pins s σ H E I hf st hg;subst hP hw hK;obtain⟨f0,f1,f2,f3,f4,f5⟩:=hf it (by simp);exact wpAny_pyNext_range_end (I.ok.hd hc) st (by have:n<=i:=hg;lia) fun h' eb=>⟨rfl,I.turned (t':=s.toks) (fun b o hb e=>eb b o hb e) f0 f1 f3 f4 f5⟩
 self:=fun _ _ _ _ _ st h=>wpAny_pyIter_rangeiter st h
section
variable{X:Cx}{tg:Expr}
theorem vJ{R:It->Hp->Prop}{lo hi:Int}{t u v:Tok}{tk:Nat}(I:Inv X pins σ H s)(h1 : -(2 ^ 62)<=lo)(h2:lo<2 ^ 62)(h3 : -(2 ^ 62)<=hi)(h4:hi<2 ^ 62)(q:R (MF lo (hi - lo).toNat) H):wpAny (model X.prog X.w) X.A (pyIter<|.ref s.heap.objs.size) (O7 X pins σ tg R) E { s with heap:=s.heap.push { cls:=.type "range",data:=.fields #[.int lo t,.int hi u,.int 1 v] },toks:=tk }:=by
 refine wpAny_pyIter_range (IsRange.new ..) (small_one h1 h2 h3 h4) ?_;have I1:Inv X pins σ H { s with heap:=s.heap.push { cls:=.type "range",data:=.fields #[.int lo t,.int hi u,.int 1 v] },toks:=tk }:=I.kept fun b o e=>Z2 _ e;refine⟨(s.heap.push { cls:=.type "range",data:=.fields #[.int lo t,.int hi u,.int 1 v] }).objs.size,[(s.heap.push { cls:=.type "range",data:=.fields #[.int lo t,.int hi u,.int 1 v] }).objs.size],_,_,H,rfl,
  I1.kept (t':=tk) fun b o e=>Z2 _ e,vI _ lo (hi - lo).toNat,?_,fun b hb=>?_,q⟩
 ·have e1:lo+((0:Nat):Int) * 1=lo:=by simp
  have e2:(((hi - lo).toNat:Nat):Int) - ((0:Nat):Int)=Builtin.Range.rangeSize lo hi 1:=by rw[rangeSize_one];split<;>lia
  show IsRangeIter _ _ (lo+((0:Nat):Int) * 1) ((((hi - lo).toNat:Nat):Int) - ((0:Nat):Int)) 1;rw[e1,e2];exact ZE _ rfl
 ·have e:b=(s.heap.push { cls:=.type "range",data:=.fields #[.int lo t,.int hi u,.int 1 v] }).objs.size:=by simpa using hb
  subst e;exact I1.IA (ZR _) (I1.m_.fresh<|ZR _)
def vK(ta:TA):TI:=fun σ H R=>ta σ H fun vs H1=>∃ j:Int,vs=[.int j] /\ -(2 ^ 62)<=j/\j<2 ^ 62/\R (MF 0 j.toNat) H1
theorem vL{a:Expr}{p:Pos}(hg:Gl X "range")(hm:X.mg "range" = none)(ha:PA X [a] ta)(hs:starEach [a] X.env=[(false,eval a X.env)]:=by rfl):PI X tg (.Call (.Name "range" p) [a] [] pos) (vK ta):=by
 intro pins s σ H R I h;refine Call_ (ig I hg hm boot_range<|X1 (B_ (ha pos pins s σ H _ I h) fun us s1 ⟨vs,H1,I1,r1,q1⟩=>?_) hs rfl);obtain⟨j,e,q1,q2,q⟩:=q1;subst e;cases r1 with
 | cons r rr=>
  cases rr;obtain⟨t,rfl⟩:=r;exact call_range_1 (vJ I1 (by lia) (by lia) q1 q2 (by simpa using q))
def oa(wi:TI)(g:TG)(tb:TS):TS:=fun D σ H=>wi σ H fun J H1=>∃ W:Nat->Nat->St->Hp->Prop,(∃ m,W 0 m σ H1)/\∀ i m σ H,W i m σ H->
 (J.stop i H/\D.nx σ H)\/(J.go i H/\∃ N:St->Hp->Prop,(∀ σ' H',N σ' H'->∃ m',m'<m/\W (i+1) m' σ' H')/\∀ x H',J.KW i H x H'->g x σ H' fun σ2 H2=>tb { D with nx:=N,ct:=N,bk:=D.nx } σ2 H2)
def eu(fp:List Addr)(h:Heap):List (Addr×Obj):=fp.filterMap fun b=>(h.get? b).map fun o=>(b,o)
theorem jt{o:Obj}(hb:b∈fp)(e:h.get? b=some o):(b,o)∈eu fp h:=List.mem_filterMap.mpr ⟨b,hb,by rw[e];rfl⟩
theorem og{p:Addr×Obj}(hp:p∈eu fp h):p.1∈fp/\h.get? p.1=some p.2:=by
 obtain⟨b,hb,e⟩:=List.mem_filterMap.mp hp;cases q:h.get? b with
 | none=>rw[q] at e;cases e
 | some o=>
  rw[q] at e;have e':(b,o)=p:=Zv e;subst e';exact⟨hb,q⟩
theorem Inv.pinned(I:Inv X pins σ H s)(hf:∀ b∈fp,dy X pins H b)(ho:∀ b∈fp,∃ o,s.heap.get? b=some o/\∀ v,o.data≠.cell v):Inv X (pins++eu fp s.heap) σ H s:=
 I.Ep fun p hp=>(ZD.mp hp).elim (fun z=>I.pin p<|ZN _ z) fun z=>by
  obtain⟨hb,e⟩:=og z;obtain⟨f0,f1,f2,_⟩:=hf p.1 hb;obtain⟨o,e',d⟩:=ho p.1 hb;rw[e] at e';cases e';exact⟨e,f0,f1,f2,d⟩
theorem Inv.Fg{pl:List (Addr×Obj)}(I:Inv X (pins++pl) σ H s):Inv X pins σ H s:=I.Ep fun p hp=>I.pin p (ZN _<|ZJ _ hp)
theorem vM{iter:Expr}{wi:TI}{g:TG}(hp:PassesOwn (model X.prog X.w) X.A X.env X.xe)(hc:X.calm=true)(hi:PI X tg iter wi)(hg:PG X tg g)(hb:FN X body tb)(hs:∀ x,foldedSetIterable iter X.env x=pure x:=by intro _;rfl):PS X (.For tg iter body [] pos) (oa wi g tb):=by
 intro pins s σ H D I h;refine wpAny_For (B_ (hi pins s σ H _ I h) fun v s1 h1=>B_ h1 fun Np s2 h2=>?_) hs;obtain⟨it,fp,tn,J,H2,e,I2,T,q_,f2,W,⟨m0,w0⟩,turn⟩:=h2;subst e;have JK:∀ {H':Hp},(∀ b∈fp,H' b=none)->∀ b∈fp,dy X pins H' b:=fun hn b hb=>⟨hn b hb,(f2 b hb).2⟩;refine codeAny_forLoop_any (fun n s'=>∃ i σ' H',Inv X pins σ' H' s'/\tn i s'.heap/\(∀ b∈fp,H' b=none)/\W i n σ' H') ?_ m0 ⟨0,σ,H2,I2,q_,fun b hb=>(f2 b hb).1,w0⟩;rintro n s3 ⟨i,σ3,H3,I3,Fh,KZ,w3⟩;rcases turn i n σ3 H3 w3 with ⟨stop,qn⟩ | ⟨go,N,hN,step⟩
 ·refine Yn hp (B_ (T.done X rfl rfl rfl hc i pins s3 σ3 H3 X.xe I3 (JK KZ) Fh stop) fun r s4 ⟨hr,I4⟩=>?_);subst hr;exact X5 ⟨σ3,H3,I4,qn⟩
 ·refine Yn hp (B_ (T.item X rfl rfl rfl hc i pins s3 σ3 H3 X.xe I3 (JK KZ) Fh go) fun r s4 ⟨u,hr,h4⟩=>?_);subst hr;refine Yn hp (B_ h4 fun _ s5 ⟨x,H5,I5,r5,y5,E8,Nq⟩=>?_);have Nr:=I5.pinned (JK Nq) (T.obj _ _ E8);refine Yn hp (B_ (hg _ s5 σ3 H5 x u _ Nr r5<|step x H5 y5) fun _ s6 ⟨σ6,H6,I6,q6⟩=>?_);refine Yn hp (B_ (hb _ s6 σ6 H6 _ I6 q6) fun f s7 q7=>?_);have again:∀ {σ7:St}{H7:Hp},Inv X (pins++eu fp s5.heap) σ7 H7 s7->N σ7 H7->∃ m,m<n/\∃ i σ' H',Inv X pins σ' H' s7/\tn i s7.heap/\(∀ b∈fp,H' b=none)/\W i m σ' H':=fun {σ7 H7} I7 n7=>by
   obtain⟨m',hm,w7⟩:=hN σ7 H7 n7;refine⟨m',hm,i+1,σ7,H7,I7.Fg,T.keep _ _ _ E8 fun b hb o e=>(I7.pin (b,o)<|ZN _<|ZN _<|jt hb e).1,fun b hb=>?_,w7⟩;obtain⟨o,e,d⟩:=T.obj _ _ E8 b hb;exact (I7.pin (b,o)<|ZN _<|ZN _<|jt hb e).2.1
  cases f with
  | next=>obtain⟨σ7,H7,I7,n7⟩:=q7;exact again I7 n7
  | cont=>obtain⟨σ7,H7,I7,n7⟩:=q7;exact again I7 n7
  | brk=>obtain⟨σ7,H7,I7,q7⟩:=q7;exact⟨σ7,H7,I7.Fg,q7⟩
  | ret v=>obtain⟨x7,σ7,H7,I7,r7,q7⟩:=q7;exact⟨x7,σ7,H7,I7.Fg,r7,q7⟩
end
abbrev R2:=V->V->Hp->VK->Prop
variable{r:R2}
def Ex(X:Cx)(f:Value->Value->Sem Value)(r:R2):Prop:=
 ∀ (pins:List (Addr×Obj)) (s:Shared) (σ:St) (H:Hp) (x y:V) (v u:Value) (Q:VK),Inv X pins σ H s->aw x v->aw y u->r x y H Q->
  wpAny (model X.prog X.w) X.A (f v u) (EP X pins σ Q) X.xe s
def Nt(X:Cx)(f:Value->Sem Value)(r:V->Hp->VK->Prop):Prop:=
 ∀ (pins:List (Addr×Obj)) (s:Shared) (σ:St) (H:Hp) (x:V) (v:Value) (Q:VK),Inv X pins σ H s->aw x v->r x H Q->
  wpAny (model X.prog X.w) X.A (f v) (EP X pins σ Q) X.xe s
def bb(X:Cx)(f:Value)(r:List V->Hp->VK->Prop):Prop:=
 ∀ (pins:List (Addr×Obj)) (s:Shared) (σ:St) (H:Hp) (xs:List V) (us:List Value) (Q:VK),Inv X pins σ H s->az xs us->r xs H Q->
  wpAny (model X.prog X.w) X.A (call f us) (EP X pins σ Q) X.xe s
def vN(X:Cx)(r:V->Hp->(Bool->Hp->Prop)->Prop):Prop:=
 ∀ (pins:List (Addr×Obj)) (s:Shared) (σ:St) (H:Hp) (x:V) (v:Value) (Q:Bool->Hp->Prop),Inv X pins σ H s->aw x v->r x H Q->
  wpAny (model X.prog X.w) X.A (truthy v) (TP X pins σ Q) X.xe s
def MH(r:R2)(ta tb:TE):TE:=fun σ H Q=>ta σ H fun x H1=>tb σ H1 fun y H2=>r x y H2 Q
def P5(r:V->Hp->VK->Prop)(ta:TE):TE:=fun σ H Q=>ta σ H fun x H1=>r x H1 Q
def rI(C:Int->Int->Prop)(g:Int->Int->V):R2:=fun x y H Q=>∃ i j,x=.int i/\y=.int j/\C i j/\Q (g i j) H
def Jc(g:Int->Int->V):R2:=fun x y H Q=>∃ i j,x=.int i/\y=.int j/\Q (g i j) H
def rU(g:Int->V):V->Hp->VK->Prop:=fun x H Q=>∃ i,x=.int i/\Q (g i) H
section
variable{X:Cx}{a b c:Expr}{ta tb tc:TE}{pos:Pos}
theorem lc(ha:PE X a ta)(hb:PE X b tb){pins:List (Addr×Obj)}{s:Shared}{σ:St}{H:Hp}{R:V->V->Hp->Prop}(I:Inv X pins σ H s)(h:ta σ H fun x H1=>tb σ H1 fun y H2=>R x y H2){Q:Value->Shared->Prop}{f:Value->Value->Sem Value}(hf:∀ v u s2 x y H2,Inv X pins σ H2 s2->aw x v->aw y u->R x y H2->wpAny (model X.prog X.w) X.A (f v u) Q X.xe s2):
  wpAny (model X.prog X.w) X.A (eval a X.env) (fun v s₁=>wpAny (model X.prog X.w) X.A (eval b X.env) (fun u s₂=>wpAny (model X.prog X.w) X.A (f v u) Q X.xe s₂) X.xe s₁) X.xe s:=by
 refine B_ (ha pins s σ H _ I h) fun v s1 ⟨x,H1,I1,r1,q1⟩=>?_;refine B_ (hb pins s1 σ H1 _ I1 q1) fun u s2 ⟨y,H2,I2,r2,q2⟩=>?_;exact hf v u s2 x y H2 I2 r1 r2 q2
theorem vO{op:Operator}(ho:Ex X (binaryOp op) r)(ha:PE X a ta)(hb:PE X b tb):PE X (.BinOp a op b pos) (MH r ta tb):=by
 intro pins s σ H Q I h;exact wpAny_BinOp (lc ha hb I h fun v u s2 x y H2 I2 rx ry q=>ho pins s2 σ H2 x y v u Q I2 rx ry q)
theorem vP{op:UnaryOp}{r:V->Hp->VK->Prop}(ho:Nt X (unaryOp op) r)(ha:PE X a ta):PE X (.UnaryOp op a pos) (P5 r ta):=by
 intro pins s σ H Q I h;exact UnaryOp_ (B_ (ha pins s σ H _ I h) fun v s1 ⟨x,H1,I1,r1,q1⟩=>ho pins s1 σ H1 x v Q I1 r1 q1)
theorem MJ{C:Int->Int->Prop}(rule:∀ (i j:Int) (t u:Tok) (s:Shared) (Q:Value->Shared->Prop) (E:Value->Shared->Prop),C i j->Q (.int (g i j) s.toks) { s with toks:=s.toks+1 }->wpAny (model X.prog X.w) X.A (f (.int i t)<|.int j u) Q E s):
  Ex X f (rI C fun i j=>.int<|g i j):=by
 intro pins s σ H x y v u Q I rx ry h;obtain⟨i,j,rfl,rfl,hc,q⟩:=h;obtain⟨t,rfl⟩:=rx;obtain⟨t',rfl⟩:=ry;exact rule i j t t' s _ _ hc ⟨.int<|g i j,H,I.tok _,⟨_,rfl⟩,q⟩
theorem oh(rule:∀ (i j:Int) (t u:Tok) (s:Shared) (Q:Value->Shared->Prop) (E:Value->Shared->Prop),Q (.int (g i j) s.toks) { s with toks:=s.toks+1 }->wpAny (model X.prog X.w) X.A (f (.int i t)<|.int j u) Q E s):
  Ex X f (Jc fun i j=>.int<|g i j):=by
 intro pins s σ H x y v u Q I rx ry h;obtain⟨i,j,rfl,rfl,q⟩:=h;obtain⟨t,rfl⟩:=rx;obtain⟨t',rfl⟩:=ry;exact rule i j t t' s _ _ ⟨.int<|g i j,H,I.tok _,⟨_,rfl⟩,q⟩
theorem lg{g:Int->Int->Bool}(rule:∀ (i j:Int) (t u:Tok) (s:Shared) (Q:Value->Shared->Prop) (E:Value->Shared->Prop),Q (.bool<|g i j) s->wpAny (model X.prog X.w) X.A (f (.int i t)<|.int j u) Q E s):
  Ex X f (Jc fun i j=>.bl<|g i j):=by
 intro pins s σ H x y v u Q I rx ry h;obtain⟨i,j,rfl,rfl,q⟩:=h;obtain⟨t,rfl⟩:=rx;obtain⟨t',rfl⟩:=ry;exact rule i j t t' s _ _ ⟨.bl<|g i j,H,I,rfl,q⟩
def vQ(i j:Int):Prop:=0<j/\j<1073741824
def vR(i j:Int):Prop:=0<=j/\j<=1000000/\i.natAbs<2 ^ 64
theorem vS:Ex X (binaryOp .Add) (Jc fun i j=>.int<|i+j):=oh fun _ _ _ _ _ _ _ q=>add_int q
theorem vT:Ex X (binaryOp .Sub) (Jc fun i j=>.int<|i - j):=oh fun _ _ _ _ _ _ _ q=>sub_int q
theorem vU:Ex X (binaryOp .FloorDiv) (rI vQ fun i j=>.int<|i / j):=MJ fun i j _ _ _ _ _ hc q=>by
 have h1:(0:Int)<j:=hc.1;have h2:j<1073741824:=hc.2;exact floordiv_int (by lia) (by rw[Int.fdiv_eq_ediv_of_nonneg i (by lia)];exact q) (.inl (PyProof.noPylong_small (by lia)))
theorem vV:Ex X (binaryOp .Mod) (rI (fun _ j=>0<j) fun i j=>.int<|i % j):=MJ fun i j _ _ _ _ _ hc q=>by
 have h1:(0:Int)<j:=hc;exact mod_int' (by lia) (by rw[Int.fmod_eq_emod_of_nonneg i (by lia)];exact q)
theorem vW:Ex X (binaryOp .Pow) (rI vR fun i j=>.int<|i ^ j.toNat):=MJ fun _ _ _ _ _ _ _ hc q=>pow_int_small hc.1 hc.2.1 hc.2.2 q
theorem P6{f:Value->Sem Value}{g:Int->Int}(rule:∀ (i:Int) (t:Tok) (s:Shared) (Q:Value->Shared->Prop) (E:Value->Shared->Prop),Q (.int (g i) s.toks) { s with toks:=s.toks+1 }->wpAny (model X.prog X.w) X.A (f<|.int i t) Q E s):
  Nt X f (rU fun i=>.int<|g i):=by
 intro pins s σ H x v Q I rx h;obtain⟨i,rfl,q⟩:=h;obtain⟨t,rfl⟩:=rx;exact rule i t s _ _ ⟨.int<|g i,H,I.tok _,⟨_,rfl⟩,q⟩
theorem vX:Nt X (unaryOp .USub) (rU fun i=>.int<|-i):=P6 fun _ _ _ _ _ q=>neg_int q
end
section
variable{X:Cx}{a b c:Expr}{ta tb tc:TE}{pos:Pos}
theorem vY{Q:VK}{k k':Bool}(I:Inv X pins σ H s)(q:Q (.bl k) H)(e:k=k'):EP X pins σ Q (.bool k') s:=by
 subst e;exact⟨.bl k,H,I,rfl,q⟩
theorem vZ:Ex X (compareOp .Lt) (Jc fun i j=>.bl<|decide (i<j)):=lg fun _ _ _ _ _ _ _ q=>lt_int q
theorem v3:Ex X (compareOp .Gt) (Jc fun i j=>.bl<|decide (j<i)):=lg fun _ _ _ _ _ _ _ q=>gt_int q
theorem v4:Ex X (compareOp .GtE) (Jc fun i j=>.bl<|decide (j<=i)):=lg fun _ _ _ _ _ _ _ q=>ge_int q
theorem v6:Ex X (compareOp .Is) (fun x y H Q=>y=.i_/\Q (.bl<|decide (x=.i_)) H):=by
 intro pins s σ H x y v u Q I rx ry h;obtain⟨rfl,q⟩:=h;cases ry;refine is_none_gen (vY I q ?_);cases x<;>first
  | (cases rx;rfl)
  | (obtain⟨t,rfl⟩:=rx;rfl)
theorem Ex.or{r':R2}(h:Ex X f r)(h':Ex X f r'):Ex X f (fun x y H Q=>r x y H Q\/r' x y H Q):=by
 intro pins s σ H x y v u Q I rx ry q;rcases q with q | q
 ·exact h pins s σ H x y v u Q I rx ry q
 ·exact h' pins s σ H x y v u Q I rx ry q
theorem bv(b:Expr){op:CmpOp}(h:op≠.In:=by decide)(h2:op≠.NotIn:=by decide):behindInMarks op b=false:=by
 have e1:(op == CmpOp.In)=false:=by cases op<;>first | rfl | exact absurd rfl h
 have e2:(op == CmpOp.NotIn)=false:=by cases op<;>first | rfl | exact absurd rfl h2
 cases b<;>simp[behindInMarks,e1,e2]
theorem v7(ho:Ex X (compareOp op) r)(ha:PE X a ta)(hb:PE X b tb)(hm:behindInMarks op b=false):PE X (.Compare a [op] [b] pos) (MH r ta tb):=by
 intro pins s σ H Q I h;exact wpAny_Compare1 (lc ha hb I h fun v u s2 x y H2 I2 rx ry q=>ho pins s2 σ H2 x y v u Q I2 rx ry q) hm
def v9(t:TE):TT:=fun σ H Q=>t σ H fun x H'=>∃ k,x=.bl k/\Q k H'
theorem we(ho:Ex X (compareOp op) r)(ha:PE X a ta)(hb:PE X b tb)(hm:behindInMarks op b=false):PT X (.Compare a [op] [b] pos) (v9<|MH r ta tb):=by
 intro pins s σ H Q I h;refine wpAny_isTrue_Compare1 (B_ (ha pins s σ H _ I h) fun v s1 ⟨x,H1,I1,r1,q1⟩=>B_ (hb pins s1 σ H1 _ I1 q1) fun u s2 ⟨y,H2,I2,r2,q2⟩=>
  B_ (ho pins s2 σ H2 x y v u _ I2 r1 r2 q2) fun c s3 ⟨z,H3,I3,r3,k,e,q3⟩=>?_) hm;subst e;cases r3;exact YB ⟨H3,I3,q3⟩
def lh(K:PySem.W.Frag)(x:V)(H:Hp)(k:Bool):Prop:=
 match x with
 | .i_=>k=false
 | .bl b=>k=b
 | .int i=>k=(i != 0)
 | .str y=>y.length<=sizeLine/\k=((y.length:Int) != 0)
 | .KL y=>y.size<=sizeLine/\k=((y.size:Int) != 0)
 | .ref p=>(∃ xs,D7 K H p xs/\k=!xs.isEmpty)\/(∃ xs,DG K H p xs/\k=!xs.isEmpty)\/∃ kvs,H p=some (.dK kvs)/\k=!kvs.isEmpty
 | _=>False
theorem wf{κ:Type}{kvs:List (κ×V)}{vs:List (κ×Value)}(r:KV kvs vs):(!vs.isEmpty)=!kvs.isEmpty:=by
 cases r<;>rfl
theorem oj{xs:List V}{f_:List Value}(r:az xs f_):(!f_.toArray.isEmpty)=!xs.isEmpty:=by
 cases r<;>simp
theorem gm:(sizeLine:Nat)<2 ^ 63:=by rw[sizeLine_eq];decide
theorem wg:vN X (fun x H Q=>∃ k,lh X.K x H k/\Q k H):=by
 intro pins s σ H x v Q I rx h;obtain⟨k,e,q⟩:=h;have hl:=gm;have hs:sizeLine=16777216:=sizeLine_eq;cases x with
 | i_=>
  cases rx;have e':k=false:=e;subst e';exact truthy_none ⟨H,I,q⟩
 | bl b=>
  cases rx;have e':k=b:=e;subst e';exact YB ⟨H,I,q⟩
 | int i=>
  obtain⟨t,rfl⟩:=rx;have e':k=(i != 0):=e;subst e';exact PySem.P.truthy_int ⟨H,I,q⟩
 | str y=>
  obtain⟨t,rfl⟩:=rx;obtain⟨hy,e'⟩:y.length<=sizeLine/\k=((y.length:Int) != 0):=e;subst e';exact PySem.P.truthy_str (by lia) ⟨H,I.tok _,q⟩
 | KL y=>
  obtain⟨t,rfl⟩:=rx;obtain⟨hy,e'⟩:y.size<=sizeLine/\k=((y.size:Int) != 0):=e;subst e';exact PySem.W.truthy_bytes (by lia) ⟨H,I.tok _,q⟩
 | ref p=>
  cases rx;have e':(∃ xs,D7 X.K H p xs/\k=!xs.isEmpty)\/(∃ xs,DG X.K H p xs/\k=!xs.isEmpty)\/∃ kvs,H p=some (.dK kvs)/\k=!kvs.isEmpty:=e;rcases e' with ⟨xs,hx,e'⟩ | ⟨xs,hx,e'⟩ | ⟨kvs,hx,e'⟩
  ·subst e';obtain⟨f_,r,pl,hz⟩:=I.list hx;have hlen:=r.length;exact wpAny_truthy_list pl.isList (by simp only[ZS];lia) ⟨H,I.tok _,by rw[oj r];exact q⟩
  ·subst e';obtain⟨f_,r,pl,hz⟩:=I.tuple hx;have hlen:=r.length;exact truthy_tuple pl (by simp only[ZS];lia) ⟨H,I.tok _,by rw[oj r];exact q⟩
  ·subst e';obtain⟨hz,hS,vs,r,m⟩:kvs.length<=sizeLine/\(p == sysModules)=false/\∃ vs,KV kvs vs/\s.heap.DictOf (et X.prog X.w) p vs:=I.m_ p _ hx;have hlen:kvs.length=vs.length:=Yj r;exact wpAny_truthy_dict hS m (by lia) ⟨H,I.tok _,by rw[wf r];exact q⟩
 | _=>exact (show False from e).elim
theorem wj(ha:PE X a ta)(he:∀ whole,isTrue a X.env whole=(do let v <- whole;standAt a.pos;holding [v] (truthy v))):
  PT X a (fun σ H Q=>ta σ H fun x H'=>∃ k,lh X.K x H' k/\Q k H'):=by
 intro pins s σ H Q I h;exact isTrue_plain (B_ (ha pins s σ H _ I h) fun v s1 ⟨x,H1,I1,r1,q1⟩=>wg pins s1 σ H1 x v Q I1 r1 q1) (he _)
theorem wl:Ex X (binaryOp .Add) (fun x y H Q=>∃ i j,x=.str i/\y=.str j/\i.length+j.length<=sizeLine/\Q (.str<|i++j) H):=by
 intro pins s σ H x y v u Q I rx ry h;obtain⟨i,j,rfl,rfl,hz,q⟩:=h;obtain⟨t,rfl⟩:=rx;obtain⟨t',rfl⟩:=ry;exact add_str (fun t' tk=>⟨.str<|i++j,H,I.tok _,⟨_,rfl⟩,q⟩) hz
theorem cK{x:V}(r:az [x] us):∃ u,us=[u]/\aw x u:=by
 cases r with
 | cons r1 r2=>cases r2;exact⟨_,rfl,r1⟩
theorem lj{x y:V}(r:az [x,y] us):∃ u w',us=[u,w']/\aw x u/\aw y w':=by
 cases r with
 | cons r1 r2=>
  cases r2 with
  | cons r3 r4=>cases r4;exact⟨_,_,rfl,r1,r3⟩
theorem wm:bb X (.builtin "abs") (fun xs H Q=>∃ i,xs=[.int i]/\Q (.int<|if i<0 then -i else i) H):=by
 intro pins s σ H xs us Q I r h;obtain⟨i,rfl,q⟩:=h;obtain⟨u,rfl,t,rfl⟩:=cK r;exact call_abs_int fun u tk=>⟨.int<|if i<0 then -i else i,H,I.tok _,⟨_,rfl⟩,q⟩
theorem wn(hc:X.calm=true):bb X (.builtin "max") (fun xs H Q=>∃ i j,xs=[.int i,.int j]/\Q (.int<|if j > i then j else i) H):=by
 intro pins s σ H xs us Q I r h;obtain⟨i,j,rfl,q⟩:=h;obtain⟨u,w',rfl,⟨t,rfl⟩,⟨t',rfl⟩⟩:=lj r;refine max_two_ints (I.ok.hd hc) fun h' tk k=>⟨_,H,I.kept k,?_,q⟩;by_cases hj:j > i
 ·rw[ZZ hj,ZZ hj];exact⟨_,rfl⟩
 ·rw[ZW hj,ZW hj];exact⟨_,rfl⟩
theorem wo(hc:X.calm=true):bb X (.builtin "min") (fun xs H Q=>∃ i j,xs=[.int i,.int j]/\Q (.int<|if j<i then j else i) H):=by
 intro pins s σ H xs us Q I r h;obtain⟨i,j,rfl,q⟩:=h;obtain⟨u,w',rfl,⟨t,rfl⟩,⟨t',rfl⟩⟩:=lj r;refine min_two_ints (I.ok.hd hc) fun h' tk k=>⟨_,H,I.kept k,?_,q⟩;by_cases hj:j<i
 ·rw[ZZ hj,ZZ hj];exact⟨_,rfl⟩
 ·rw[ZW hj,ZW hj];exact⟨_,rfl⟩
theorem wu:bb X (.type "int") (fun xs H Q=>(∃ i,xs=[.int i]/\Q (.int i) H)\/∃ k,xs=[.bl k]/\Q (.int<|if k then 1 else 0) H):=by
 intro pins s σ H xs us Q I r h;rcases h with ⟨i,rfl,q⟩ | ⟨k,rfl,q⟩
 ·obtain⟨u,rfl,t,rfl⟩:=cK r;exact call_int_int ⟨.int i,H,I,⟨_,rfl⟩,q⟩
 ·obtain⟨u,rfl,r1⟩:=cK r;cases r1;exact call_int_bool ⟨.int<|if k then 1 else 0,H,I.tok _,⟨_,rfl⟩,q⟩
end
section
variable{prog:Program}{w:World}{A:Around}{E:Value->Shared->Prop}{s:Shared}{K:PySem.W.Frag}{x dx C f:Addr}{mA:Str->Option Value}{name:Str}{v:Value}
end
theorem dH.some_of{o:Option Value}(r:dH (some v) o):∃ u,o=some u/\aw v u:=by
 cases o with
 | none=>exact (show False from r).elim
 | some u=>exact⟨u,rfl,r⟩
section
variable{P:Program}{w:World}{H H':Hp}{h h':Heap}{a C dx:Addr}{fs Nh:List (Str×V)}
end
section
variable{X:Cx}{pins:List (Addr×Obj)}{σ:St}{H:Hp}{s:Shared}{a C dx:Addr}{fs:List (Str×V)}{f:Str}{v:V}{A:Around}{E:Value->Shared->Prop}
end
section
variable{X:Cx}{o e value:Expr}{f:Str}{pos pos' Nu:Pos}{ta tv:TE}
end
section
variable{X:Cx}{pins:List (Addr×Obj)}{σ:St}{H:Hp}{s:Shared}{A:Around}{E:Value->Shared->Prop}{Q:Value->Shared->Prop}{c:Value}{b:Bool}
end
structure A_(k:Nat)(A:Around):Prop where
 hd:A.handled=none
 dp:A.depth+3 * k+5<recursionLimit
 un:A.units+16 * k+200<cLine
 gd:A.guards=some []
theorem A_.mono(r:A_ k A)(h:j<=k):A_ j A:=⟨r.hd,by have:=r.dp;lia,by have:=r.un;lia,r.gd⟩
theorem A_.deeper(r:A_ (k+1) A)(env:Env):A_ k (A.deeper env):=
 ⟨r.hd,by have:=r.dp;show A.depth+1+3 * k+5 < _;lia,by have:=r.un;show A.units+3+16 * k+200 < _;lia,r.gd⟩
theorem A_.depth(r:A_ k A):A.depth<recursionLimit:=by have:=r.dp;lia
def Nv:TA:=fun _ H Q=>Q [] H
def wv(ta:TE)(tr:TA):TA:=fun σ H Q=>ta σ H fun x H1=>tr σ H1 fun xs H2=>Q (x::xs) H2
section
variable{X:Cx}{e:Expr}{es:List Expr}{te:TE}{t:TA}{pos:Pos}
theorem ij:PA X [] Nv:=fun _ _ _ _ H Q I h=>Calls.spliced_nil ⟨[],H,I,.nil,h⟩
theorem dJ(ha:PE X e te)(hr:PA X es t)(hs:starEach (e::es) X.env=(false,eval e X.env)::starEach es X.env:=by rfl):PA X (e::es) (wv te t):=by
 intro pos pins s σ H Q I h;rw[hs];show wpAny _ _ (spliced ((false,eval e X.env)::backTo pos (starEach es X.env))) _ _ s;refine Calls.spliced_cons (B_ (ha pins s σ H _ I h) fun u s1 ⟨x,H1,I1,r1,q1⟩=>?_);exact B_ (hr pos pins s1 σ H1 _ I1 q1) fun us s2 ⟨xs,H2,I2,r2,q2⟩=>⟨x::xs,H2,I2,.cons r1 r2,q2⟩
def ww(t:TA):TE:=fun σ H Q=>t σ H fun xs H1=>xs.length<=sizeLine/\∀ p,H1 p=none->Q (.ref p) (upd H1 p<|.tup xs)
def wx(t:TA):TE:=fun σ H Q=>t σ H fun xs H1=>xs.length<=sizeLine/\∀ p,H1 p=none->Q (.ref p) (upd H1 p<|.lst xs)
theorem om{x1}(h:PA X es t):PE X (.Tuple es x1 pos) (ww t):=by
 intro pins s σ H Q I hq;refine wpAny_Tuple_spliced (B_ (h pos pins s σ H _ I hq) fun us s1 ⟨xs,H1,I1,r,z,q⟩=>⟨by rw[<- r.length];exact z,?_⟩);have hf:H1 s1.heap.objs.size=none:=I1.m_.fresh (ZR _);refine⟨.ref s1.heap.objs.size,upd H1 s1.heap.objs.size<|.tup xs,I1.laid (t':=s1.toks) (fun b u e=>Z2 _ e) (ZR _) ?_,rfl,q _ hf⟩;exact⟨z,us,r,⟨_,ZE _ rfl,rfl,_,rfl⟩⟩
theorem wy(h:PA X es t):PE X (.List es pos) (wx t):=by
 intro pins s σ H Q I hq;refine wpAny_List_spliced (B_ (h pos pins s σ H _ I hq) fun us s1 ⟨xs,H1,I1,r,z,q⟩=>⟨by rw[<- r.length];exact z,?_⟩);have hf:H1 s1.heap.objs.size=none:=I1.m_.fresh (ZR _);refine⟨.ref s1.heap.objs.size,upd H1 s1.heap.objs.size<|.lst xs,I1.laid (t':=s1.toks) (fun b u e=>Z2 _ e) (ZR _) ?_,rfl,q _ hf⟩;exact⟨z,us,0,r,ZE _ rfl⟩
end
abbrev Sp:=List V->Hp->VK->XK->Prop
abbrev HA:=List Env->Hp->Shared->XK->Value->Shared->Prop
variable{CX:HA}
structure G0(P:Program)(w:World)(K:PySem.W.Frag)(mg:Str->Option Value)(base:Heap)(A:Around)(outer:List Env)(s:Shared)(H:Hp):Prop where
 frames:A.frames=some outer
 mod:Mod K mg base
 bs:∀ b o,base.get? b=some o->s.heap.get? b=some o/\H b=none
 Gy:base.objs.size<=s.heap.objs.size
 DT:s.heap.FunFrames base outer
 GY:∀ b∈DL outer,H b=none
 m_:DV P w H s.heap
 bare:AllBare s.gens
def CE(outer:List Env)(P:Program)(w:World)(H:Hp)(s:Shared)(Q:VK)(u:Value)(s':Shared):Prop:=
 ∃ v H',s'.os=s.os/\AllBare s'.gens/\Un (DL outer) [] H H' s.heap s'.heap/\DV P w H' s'.heap/\aw v u/\Q v H'
def CR(CX:HA)(outer:List Env)(P:Program)(w:World)(H:Hp)(s:Shared)(Q:VK)(E:XK)(r:Result)(s':Shared):Prop:=
 match r with
 | .ok (.ret u)=>CE outer P w H s Q u s'
 | .ok _=>False
 | .error e=>CX outer H s E e s'
structure Eg(P:Program)(w:World)(K:PySem.W.Frag)(mg:Str->Option Value)(base:Heap)(CX:HA)(k:Nat)(f:Addr)(fd:FuncData)(ps:List Str)(sp:Sp):Prop where
 len:∀ vs H Q E,sp vs H Q E->vs.length=ps.length
 run:∀ (A:Around) (outer:List Env) (s:Shared) (H:Hp) (args:Args) (us:List Value) (vs:List V) (Q:VK) (E:XK),A_ k A->G0 P w K mg base A outer s H->BindsTo s fd args (ps.zip us)->az vs us->sp vs H Q E->
  codeAny (model P w) A (.call (.ref f) args) (CR CX outer P w H s Q E) s
section
variable{X:Cx}{pins:List (Addr×Obj)}{σ:St}{H:Hp}{s s':Shared}
theorem Inv.JL(I:Inv X pins σ H s):G0 X.prog X.w X.K X.mg X.base X.A X.stack s H:=
 ⟨I.ok.frames,I.ok.mod,I.bs,Zo I.ok.Gy I.sz,I.stack,I.Eo,I.m_,I.bare⟩
theorem Inv.after{Q:VK}(I:Inv X pins σ H s)(h:CE X.stack X.prog X.w H s Q u s'):EP X pins σ Q u s':=by
 obtain⟨v,H',os,bare,un,m_,r,q⟩:=h;obtain⟨hh,g,d,t,K0⟩:=s';obtain rfl:K0=s.os:=os;exact⟨v,H',I.call (h':=hh) (g':=g) (d':=d) (t':=t) (ch:=[]) un m_ bare (fun b z=>absurd z (by simp)),r,q⟩
end
def lq(sp:Sp)(Jd:List V)(E:XK)(t:TA):TE:=fun σ H Q=>t σ H fun vs H1=>sp (vs++Jd) H1 Q E
def cf(K:PySem.W.Frag)(fd:FuncData)(ps:List Str)(ds:List Value):Prop:=
 ∀ (s:Shared) (us:List Value),K.In s.heap->(us++ds).length=ps.length->BindsTo s fd ⟨us,[]⟩ (ps.zip<|us++ds)
theorem cf.all{fd:FuncData}(h:∀ us:List Value,us.length=ps.length->bindArgs fd ⟨us,[]⟩=pure (ps.zip us)):cf K fd ps []:=fun s us _ hl=>by
 rw[ZY] at hl ⊢;exact .of_eq (h us hl)
def lr(CX:HA)(X:Cx)(E:XK):Prop:=∀ (pins:List (Addr×Obj)) (σ:St) (H:Hp) (s:Shared) (e:Value) (s':Shared),Inv X pins σ H s->CX X.stack H s E e s'->X.xe e s'
section
variable{X:Cx}{CX:HA}{k:Nat}{f C:Addr}{fd:FuncData}{ps:List Str}{sp:Sp}{Jd:List V}{ds:List Value}{E:XK}{x m:Str}{p pos apos:Pos}{e o:Expr}{es:List Expr}{ta:TE}{t:TA}
theorem wz{Q:VK}(F:Eg X.prog X.w X.K X.mg X.base CX k f fd ps sp)(hr:A_ k X.A)(hb:cf X.K fd ps ds)(hd:az Jd ds)(hx:lr CX X E)(I:Inv X pins σ H s)(r:az vs us)(h:sp (vs++Jd) H Q E):wpAny (model X.prog X.w) X.A (call (.ref f) us) (EP X pins σ Q) X.xe s:=by
 have r2:az (vs++Jd) (us++ds):=r.append hd;have hl:(us++ds).length=ps.length:=by rw[<- r2.length];exact F.len _ _ _ _ h
 refine wpAny_call (WM (F.run X.A X.stack s H ⟨us,[]⟩ (us++ds) (vs++Jd) Q E hr I.JL (hb s us I.GZ hl) r2 h) fun r s' hq=>?_);cases r with
 | error e=>exact hx pins σ H s e s' I hq
 | ok fl=>
  cases fl with
  | ret u=>exact I.after hq
  | next=>exact False.elim hq
  | brk=>exact False.elim hq
  | cont=>exact False.elim hq
theorem wA(F:Eg X.prog X.w X.K X.mg X.base CX k f fd ps sp)(hr:A_ k X.A)(hg:Gl X x)(hm:X.mg x=some (.ref f))(hk:PySem.W.keepIn X.K (.ref f)=true)(hb:cf X.K fd ps ds)(hd:az Jd ds)(hx:lr CX X E)(ha:PA X (e::es) t)(FQ:(x == ("__debug__" : Str))=false:=by decide)(he:starEach (e::es) X.env=(false,eval e X.env)::starEach es X.env:=by rfl)(E3:(backTo pos<|starEach es X.env).any (·.1)=false:=by rfl):
  PE X (.Call (.Name x p) (e::es) [] pos) (lq sp Jd E t):=by
 intro pins s σ H Q I h;refine Ya (ie I hg hm ?_ FQ);refine WH (h₀:=X.base) I.ok.mod.JE hk (B_ (ha pos pins s σ H _ I h) fun us s1 ⟨vs,H1,I1,r,q⟩=>⟨I1.GZ,?_⟩) he E3;exact wz F hr hb hd hx I1 r q
end
section
variable{X:Cx}{CX:HA}{k:Nat}{f C:Addr}{fd:FuncData}{ps ks:List Str}{sp:Sp}{E:XK}{x m:Str}{p pos apos P7:Pos}{e o:Expr}{es:List Expr}{Eh:List Keyword}{te ta:TE}{t tk:TA}{nm:Option Str}
variable{g:List Value->List Value->List Value}{gV:List V->List V->List V}
end
structure j_(N P:List Str)(sc:Scope):Prop where
 kind:sc.kind=.function
 co:sc.isCoroutine=false
 gen:sc.isGenerator=false
 nd:N.Nodup
 pre:N.take P.length=P
 par:∀ x∈P,sc.names.lookup x=some .local\/sc.names.lookup x=some .cell
 JM:∀ y∈sc.names,y.2≠.free
theorem oq{kindOf:Str->Option NameKind}{x:Str}:∀ {binds:List (Str×Value)}{m:Str->Option Value},(∀ v,(x,v)∉binds)->bindL kindOf binds m x=m x
 | [],_,_=>rfl
 | (n,v)::r,m,h=>by
  unfold bindL;rw[oq fun w hw=>h w<|Zm _ hw];split
  ·have:x≠n:=by rintro rfl;exact h v Zb
   simp[this]
  ·rfl
theorem ou{kindOf:Str->Option NameKind}{x:Str}:∀ {binds:List (Str×Value)}{m:Str->Option Value},(∀ v,(x,v)∉binds)->bindC kindOf binds m x=m x
 | [],_,_=>rfl
 | (n,v)::r,m,h=>by
  unfold bindC;rw[ou fun w hw=>h w<|Zm _ hw];split
  ·rfl
  ·have:x≠n:=by rintro rfl;exact h v Zb
   simp[this]
theorem oz{kindOf:Str->Option NameKind}{x:Str}{v:Value}:∀ {P:List Str}{vs:List Value}{i:Nat}{m:Str->Option Value},P.Nodup->P[i]?=some x->vs[i]?=some v->kindOf x=some .local->
  bindL kindOf (P.zip vs) m x=some v
 | [],_,_,_,_,h,_,_=>by simp at h
 | _::_,[],_,_,_,_,h,_=>by simp at h
 | p::P,w::vs,0,m,nd,h1,h2,hk=>by
  simp at h1 h2;subst h1;subst h2;show bindL kindOf ((p,w)::P.zip vs) m p=_;unfold bindL;rw[oq fun v hv=>(Zl.mp nd).1 (WX hv).1,ZZ hk];simp
 | p::P,w::vs,i+1,m,nd,h1,h2,hk=>by
  show bindL kindOf ((p,w)::P.zip vs) m x=_;unfold bindL;exact oz (i:=i) (Zl.mp nd).2 (by simpa using h1) (by simpa using h2) hk
theorem oA{kindOf:Str->Option NameKind}{x:Str}{v:Value}:∀ {P:List Str}{vs:List Value}{i:Nat}{m:Str->Option Value},P.Nodup->P[i]?=some x->vs[i]?=some v->kindOf x≠some .local->
  bindC kindOf (P.zip vs) m x=some v
 | [],_,_,_,_,h,_,_=>by simp at h
 | _::_,[],_,_,_,_,h,_=>by simp at h
 | p::P,w::vs,0,m,nd,h1,h2,hk=>by
  simp at h1 h2;subst h1;subst h2;show bindC kindOf ((p,w)::P.zip vs) m p=_;unfold bindC;rw[ou fun v hv=>(Zl.mp nd).1 (WX hv).1,ZW hk];simp
 | p::P,w::vs,i+1,m,nd,h1,h2,hk=>by
  show bindC kindOf ((p,w)::P.zip vs) m x=_;unfold bindC;exact oA (i:=i) (Zl.mp nd).2 (by simpa using h1) (by simpa using h2) hk
def ci(N:List Str)(vs:List V):St:=vs.map some++replicate (N.length - vs.length) none
def bZ(CX:HA)(P:Program)(w:World)(K:PySem.W.Frag)(mg:Str->Option Value)(base:Heap)(N:List Str)(qual:Str)(scope:Scope)(f:Addr)(cd:Value)(A:Around)(outer:List Env)(s:Shared)(H:Hp)(E:XK):Cx where
 prog:=P
 w:=w
 K:=K
 mg:=mg
 base:=base
 A:=A.deeper (envOfC qual scope s.heap.objs.size f cd)
 N:=N
 s₀:=s
 H₀:=H
 env:=envOfC qual scope s.heap.objs.size f cd
 outer:=outer
 stack:=envOfC qual scope s.heap.objs.size f cd::outer
 ex:=[]
 calm:=true
 fn:=fun _=>true
 pn:=[]
 xe:=fun e s'=>wpAny (model P w) (A.deeper<|envOfC qual scope s.heap.objs.size f cd) (leaving (envOfC qual scope s.heap.objs.size f cd) e) (fun _ Nw=>CX outer H s E e Nw) (fun e' Nw=>CX outer H s E e' Nw) s'
theorem oC{sc:Scope}(h:sc.names.lookup x=some .cell):∃ c,(cellsFrom n sc.names []).lookup x=some c:=by
 have q:=XE sc.names n [] (.inl h);exact Ws.mp q
theorem oD{f:Addr}{cd:Value}{outer:List Env}{s1:Shared}{E:XK}(S:j_ N ps scope)(hd:A.handled=none)(e0:G0 P w K mg base A outer s H)(hl:vs.length=ps.length)(r:az vs us)(x:InCallC s s.heap.objs.size (bindL (envOfC qual scope s.heap.objs.size f cd).kindOf (ps.zip us) fun _=>none) (cellsFrom (s.heap.objs.size+1) scope.names []) (bindC (envOfC qual scope s.heap.objs.size f cd).kindOf (ps.zip us) fun _=>none) s1):
  Inv (bZ CX P w K mg base N qual scope f cd A outer s H E) [] (ci N vs) H s1:=by
 have E3:ps.length<=N.length:=by have:=congrArg List.length S.pre;rw[Zf] at this;lia
 obtain⟨h1,tk,rfl,hk⟩:=x.done;have K1:∀ b:Addr,b∉(bZ CX P w K mg base N qual scope f cd A outer s H E).ex:=fun b z=>absurd (show b∈([]:List Addr) from z) (by simp);refine⟨⟨e0.mod,S.kind,rfl,rfl,ZR _,fun y z c h1 h2=>?_,fun y hy=>?_,fun y c _ h=>?_,fun _=>hd,Around.frames_deeper e0.frames,.inr ⟨rfl,rfl⟩,fun b z=>absurd z<|K1 b,e0.bs,e0.Gy,fun b _ _=>K1 b,fun b z=>absurd z<|K1 b,e0.DT,e0.GY⟩,
  rfl,e0.bare,Un.kept hk,⟨_,x.toInCall.ns,fun i y v h1 h2 h3=>?_⟩,fun y c h=>⟨_,x.cell y c h⟩,e0.m_.fresh<|ZR _,fun y c h=>?_,fun p hp=>absurd (show p∈([]:List (Addr×Obj)) from hp) (by simp),e0.m_.kept hk,?_⟩
 ·exact name_of_addr x.apart (Yg h1) (Yg h2)
 ·have hy:scope.names.lookup y=some .cell\/scope.names.lookup y=some .free:=hy;rcases hy with hy | hy
  ·exact oC hy
  ·exact absurd rfl (S.JM _<|Yg hy)
 ·exact Wg (x.above y c<|Yg h)
 ·have hi:i<vs.length:=by
   unfold ci at h2;by_cases hi:i<vs.length
   ·exact hi
   ·rw[YY (by simpa using hi)] at h2;rw[List.getElem?_replicate] at h2;split at h2<;>cases h2
  have ha:vs[i]?=some v:=by
   unfold ci at h2;rw[Y4 (by simpa using hi),Zq] at h2;cases e:vs[i]? with
   | none=>rw[e] at h2;cases h2
   | some a=>rw[e] at h2;cases h2;rfl
  obtain⟨u,hu,rv⟩:=r.get ha;have hp:ps[i]?=some y:=by
   rw[<- S.pre,List.getElem?_take_of_lt (by lia)];exact h1
  have O9:ps.Nodup:=by rw[<- S.pre];exact S.nd.sublist (XD _ _)
  refine⟨u,rv,?_⟩;rcases S.par y (YX hp) with k | k
  ·exact .inl ⟨k,oz O9 hp hu k⟩
  ·obtain⟨c,e⟩:=oC (n:=s.heap.objs.size+1) k;refine .inr ⟨.inl k,c,e,?_⟩;have q:=x.cell y c e;rw[oA O9 hp hu (by show scope.names.lookup y≠_;rw[k];decide)] at q;exact q
 ·exact e0.m_.fresh (Wg<|x.above y c<|Yg h)
 ·unfold ci;show _=N.length;rw[ZH,Z4,List.length_replicate];lia
theorem oE{f:Addr}{name:Str}{params:Arguments}{dV kV doc pm o_ ct oc:Value}{an od:Option Addr}{GQ:Array (Option Value)}{sp:Sp}(lk:K.lookup f=some ⟨oc,od,.func<|PySem.W.fnOf name qual params body scope dV kV doc pm an o_ ct,GQ⟩)(FO:PySem.W.codeIn K o_ qual=true)(S:j_ N ps scope)(len:∀ vs H Q E,sp vs H Q E->vs.length=ps.length)(HB:∀ (A:Around) (outer:List Env) (s:Shared) (H:Hp) (vs:List V) (Q:VK) (E:XK),A_ k (A.deeper<|envOfC qual scope s.heap.objs.size f o_)->sp vs H Q E->
   ∃ t,FN (bZ CX P w K mg base N qual scope f o_ A outer s H E) body t/\t { nx:=fun _ H'=>Q .i_ H',rt:=Q } (ci N vs) H):
  Eg P w K mg base CX (k+1) f (PySem.W.fnOf name qual params body scope dV kV doc pm an o_ ct) ps sp:=by
 refine⟨len,fun A outer s H args us vs Q E hr e0 hb r HC=>?_⟩;have hl:=len _ _ _ _ HC;have KX:K.In s.heap:=e0.mod.JE.keeps fun b o e=>(e0.bs b o e).1;have lim:s.heap.NoLimit:=e0.mod.nolimit.keeps fun b o e=>(e0.bs b o e).1;have s_:∀ y∈ps.zip us,scope.names.lookup y.1=some .local\/(scope.names.lookup y.1=some .cell/\((cellsFrom (s.heap.objs.size+1) scope.names []).lookup y.1).isSome=true):=fun ⟨n,v⟩ hy=>by
  rcases S.par n (WX hy).1 with q | q
  ·exact .inl q
  ·exact .inr ⟨q,XE _ _ _<|.inl q⟩
 refine codeAny_call_function hr.depth (KX _ _ lk) rfl S.co S.gen rfl (PySem.W.codeRec_of KX FO) (hb _ _ _ _ ?_);refine wpAny_newFunctionEnv_cells S.kind s_ fun env he s1 x=>?_;subst he;refine⟨lim.keeps x.toInCall.keep,codeAny_func ?_⟩;obtain⟨t,ht,hq⟩:=HB A outer s H vs Q E (hr.deeper _) HC;have I:Inv (bZ CX P w K mg base N qual scope f o_ A outer s H E) [] (ci N vs) H s1:=oD S hr.hd e0 hl r x;refine Y3 (ht [] s1 (ci N vs) H _ I hq) (fun fl s' hs=>?_) fun e s' hs=>hs;have fin:∀ {σ':St}{H':Hp}{v:V}{u:Value},Inv (bZ CX P w K mg base N qual scope f o_ A outer s H E) [] σ' H' s'->aw v u->Q v H'->CE outer P w H s Q u s':=
  fun {σ' H' v u} J rv q=>⟨v,H',J.os,J.bare,J.base,J.m_,rv,q⟩;cases fl with
 | ret u=>
  obtain⟨v,σ',H',J,rv,q⟩:=hs;exact fin J rv q
 | next=>
  obtain⟨σ',H',J,q⟩:=hs;exact fin (v:=V.i_) (u:=Value.none) J rfl q
 | brk=>
  obtain⟨_,_,_,q⟩:=hs;exact False.elim q
 | cont=>
  obtain⟨_,_,_,q⟩:=hs;exact False.elim q
section
variable{X:Cx}{x:Str}{p pos:Pos}{e:Expr}{es:List Expr}{t:TA}{id T:String}{r:List V->Hp->VK->Prop}
def O'(r:List V->Hp->VK->Prop)(t:TA):TE:=fun σ H Q=>t σ H fun vs H1=>r vs H1 Q
theorem ju(hc:bb X (.builtin id) r)(hg:Gl X x)(hm:X.mg x=none)(hv:bootBuiltins x=some (.builtin id))(ha:PA X (e::es) t)(hn:x ≠ "__name__" := by decide)(FQ:(x == ("__debug__" : Str))=false:=by decide)(he:starEach (e::es) X.env=(false,eval e X.env)::starEach es X.env:=by rfl)(E3:(backTo pos<|starEach es X.env).any (·.1)=false:=by rfl):PE X (.Call (.Name x p) (e::es) [] pos) (O' r t):=by
 intro pins s σ H Q I h;refine Ya (ig I hg hm hv ?_ hn FQ);exact PyProof.Rows.callWith_builtin1 (B_ (ha pos pins s σ H _ I h) fun us s1 ⟨vs,H1,I1,r1,q1⟩=>hc pins s1 σ H1 vs us Q I1 r1 q1) he E3
theorem wB(hc:bb X (.type T) r)(hg:Gl X x)(hm:X.mg x=none)(hv:bootBuiltins x=some (.type T))(ha:PA X (e::es) t)(hn:x ≠ "__name__" := by decide)(FQ:(x == ("__debug__" : Str))=false:=by decide)(he:starEach (e::es) X.env=(false,eval e X.env)::starEach es X.env:=by rfl)(E3:(backTo pos<|starEach es X.env).any (·.1)=false:=by rfl):PE X (.Call (.Name x p) (e::es) [] pos) (O' r t):=by
 intro pins s σ H Q I h;refine Ya (ig I hg hm hv ?_ hn FQ);exact X1 (B_ (ha pos pins s σ H _ I h) fun us s1 ⟨vs,H1,I1,r1,q1⟩=>hc pins s1 σ H1 vs us Q I1 r1 q1) he E3
end
end L2
namespace HT
open PySem PyProof.Rows
theorem wC(A:Around)(s:Shared)(a:Int)(t:Tok)(c:Int)(u:Tok)(prog:Program)(w:World)(E:Value->Shared->Prop)(Q:Value->Shared->Prop)(h:Q (.bool<|decide (a<c)) s):
  wpAny (model prog w) A (richCompare .Lt (.int a t)<|.int c u) Q E s:=
 (PyProof.Rows.lt_int h:wpAny (model prog w) A (compareOp .Lt (.int a t)<|.int c u) Q E s)
section
open PySem.SeqAt
open PySem.AutoSeq1 (wpAny_loadPart')
open PySem.MeetsSeq PySem.MeetsSeq2 PySem.MeetsSeq3
end
section
variable{prog:Program}{w:World}{A:Around}{E:Value->Shared->Prop}{s:Shared}
theorem wD{t b:Addr}{vs ws:List Value}{Q:Value->Shared->Prop}(ht:IsTup s.heap t vs.toArray)(hb:IsTup s.heap b ws.toArray)(hv:vs≠[])(h1:ws=[]->Q (.ref t) s)(h2:ws≠[]->Q (.ref s.heap.objs.size) { s with heap:=s.heap.push { cls:=.type "tuple",data:=.seq (vs++ws).toArray } })(hsz:vs.length+ws.length<=sizeLine):wpAny (model prog w) A (binaryOp .Add (.ref t)<|.ref b) Q E s:=by
 obtain⟨⟨cls,dd,data,sl⟩,ho,hc,n,hd⟩:=id ht;obtain⟨⟨Nx,HD,data2,Kv⟩,JN,JO,n2,hd2⟩:=id hb;simp only at hc hd JO hd2;subst hc hd JO hd2;have e:vs.toArray++ws.toArray=(vs++ws).toArray:=by simp
 by_cases hw:ws=[]
 ·exact concat_meets ⟨_,ho,rfl⟩ ⟨_,JN,rfl⟩ Wo seq_tuple_add XC XJ (XV _ _)
   (tuple_addW1 t b vs.toArray ws.toArray n n2 dd HD sl Kv (by simpa using hv) (by simp[hw])) ⟨ho,JN,h1 hw⟩
 ·refine concat_meets ⟨_,ho,rfl⟩ ⟨_,JN,rfl⟩ Wo seq_tuple_add XC XJ (XV _ _)
   (tuple_addW2 t b vs.toArray ws.toArray n n2 dd HD sl Kv (by simpa using hv) (by simpa using hw) (by rw[ZS,ZS];exact hsz)) ⟨ho,JN,?_⟩;rw[e];exact h2 hw
end
end HT
namespace L2
open PySem PySem.Spec PyProof.Rows
variable{h':Heap}{Q:Value->Shared->Prop}{b a p:Addr}{H' H:Hp}{kvs:List (List Im×V)}{w:World}{P:Program}{o:Option V}{t' n:Nat}{its' f_ us:List Value}{s:Shared}{σ:St}{pins:List (Addr×Obj)}{r:R2}{α:Type}{i:Int}{xs:List (List Im×Addr×Value)}
abbrev TO:=St->Hp->(Option Int->Hp->Prop)->Prop
section
variable{X:Cx}{e:Expr}{te:TE}{lo hi:Option Expr}{tl th:TO}{pos p2:Pos}
def wE(K:PySem.W.Frag):R2:=fun x y H Q=>∃ a b xs ys,x=.ref a/\y=.ref b/\DG K H a xs/\DG K H b ys/\xs≠[]/\xs.length+ys.length<=sizeLine/\
 (ys=[]->Q (.ref a) H)/\(ys≠[]->∀ p,H p=none->Q (.ref p) (upd H p<|.tup<|xs++ys))
theorem az.E9{xs:List V}(r:az xs us):us=[]↔xs=[]:=by
 cases r with
 | nil=>simp
 | cons _ _=>simp
theorem wF:Ex X (binaryOp .Add) (wE X.K):=by
 intro pins s σ H x y v u Q I rx ry h;obtain⟨a,b,xs,ys,rfl,rfl,ha,hb,hx,hz,q1,q2⟩:=h;cases rx;cases ry;obtain⟨f_,r1,p1,_⟩:=I.tuple ha;obtain⟨Ey,r2,p2,_⟩:=I.tuple hb;refine HT.wD p1 p2 (fun z=>hx<|r1.E9.mp z) (fun z=>⟨.ref a,H,I,rfl,q1<|r2.E9.mp z⟩) (fun z=>?_) (by rw[<- r1.length,<- r2.length];exact hz);refine⟨.ref s.heap.objs.size,_,I.laid (t':=s.toks) (o:=.tup (xs++ys)) (fun b ob q=>Z2 _ q) (ZR _) ?_,rfl,q2 (fun w=>z<|r2.E9.mpr w) _<|I.m_.fresh<|ZR _⟩;exact⟨by rw[ZH];exact hz,_,r1.append r2,IsTup.new _ _⟩
end
def Je(n:Nat)(i:Int):Option Nat:=if 0<=i then (if i<n then some i.toNat else none) else if -(n:Int)<=i then some (i+n).toNat else none
def FR{α:Type}(xs:List α)(i:Int):Option α:=(Je xs.length i).bind fun j=>xs[j]?
theorem oF{j:Nat}(h:Je n i=some j):seqIndex? i n=some j/\j<n /\ -(n:Int)<=i/\i<n:=by
 unfold Je at h;by_cases h0:0<=i
 ·rw[ZZ h0] at h;by_cases h1:i<n
  ·rw[ZZ h1] at h;have e:i.toNat=j:=Zv h;exact⟨by rw[seqIndex_of h0 h1,e],by lia,by lia,h1⟩
  ·rw[ZW h1] at h;cases h
 ·rw[ZW h0] at h;by_cases h1 : -(n:Int)<=i
  ·rw[ZZ h1] at h;have e:(i+n).toNat=j:=Zv h;exact⟨by rw[seqIndex_neg (by lia) h1,e],by lia,h1,by lia⟩
  ·rw[ZW h1] at h;cases h
theorem oG{xs:List α}{v:α}(h:FR xs i=some v):∃ j,seqIndex? i xs.length=some j/\xs[j]?=some v/\j<xs.length /\ -(xs.length:Int)<=i/\i<xs.length:=by
 unfold FR at h;cases e:Je xs.length i with
 | none=>rw[e] at h;cases h
 | some j=>
  rw[e] at h;obtain⟨h1,h2,h3,h4⟩:=oF e;exact⟨j,h1,h,h2,h3,h4⟩
def ls(b:Expr):Prop:=∀ o i,subscripted b false o i=operate [o,i] (getItem o i)
def G7(X:Cx)(r:R2):Prop:=
 ∀ (value slice:Expr) (pins:List (Addr×Obj)) (s:Shared) (σ:St) (H:Hp) (x y:V) (v u:Value) (Q:VK),Inv X pins σ H s->aw x v->aw y u->r x y H Q->
  subscripted slice false v u=operate [v,u] (getItem v u)->wpAny (model X.prog X.w) X.A (subscriptTail value slice v u) (EP X pins σ Q) X.xe s
def Kw(X:Cx)(id:String)(r:V->List V->Hp->VK->Prop):Prop:=
 ∀ (pins:List (Addr×Obj)) (s:Shared) (σ:St) (H:Hp) (x:V) (xs:List V) (v:Value) (us:List Value) (Q:VK),Inv X pins σ H s->aw x v->az xs us->r x xs H Q->
  wpAny (model X.prog X.w) X.A (call (.builtin id) (v::us)) (EP X pins σ Q) X.xe s
section
variable{X:Cx}{a b:Expr}{ta tb:TE}{pos:Pos}
theorem G7.or{r':R2}(h:G7 X r)(h':G7 X r'):G7 X (fun x y H Q=>r x y H Q\/r' x y H Q):=by
 intro value slice pins s σ H x y v u Q I rx ry q hs;rcases q with q | q
 ·exact h value slice pins s σ H x y v u Q I rx ry q hs
 ·exact h' value slice pins s σ H x y v u Q I rx ry q hs
theorem wG(hr:G7 X r)(ha:PE X a ta)(hb:PE X b tb)(hs:ls b):PE X (.Subscript a b pos) (MH r ta tb):=by
 intro pins s σ H Q I h;exact Subscript_ (lc ha hb I h fun v u s2 x y H2 I2 rx ry q=>hr a b pins s2 σ H2 x y v u Q I2 rx ry q<|hs _ _)
def wH(K:PySem.W.Frag):R2:=fun x y H Q=>∃ p xs i v,x=.ref p/\y=.int i/\D7 K H p xs/\FR xs i=some v/\Q v H
def wI(K:PySem.W.Frag):R2:=fun x y H Q=>∃ p xs i v,x=.ref p/\y=.int i/\DG K H p xs/\FR xs i=some v/\Q v H
theorem wJ:G7 X (wH X.K):=by
 intro value slice pins s σ H x y v u Q I rx ry h hs;obtain⟨p,xs,i,z,rfl,rfl,hq,he,q⟩:=h;cases rx;obtain⟨t,rfl⟩:=ry;obtain⟨f_,r,pl,hz⟩:=I.list hq;obtain⟨j,h1,h2,h3,h4,h5⟩:=oG he;obtain⟨w,ew,Hz⟩:=r.get h2;have hl:=r.length;have hn:=gm;have fin:EP X pins σ Q w s:=⟨z,H,I,Hz,q⟩;by_cases h0:0<=i
 ·have hj:i.toNat=j:=by
   rw[seqIndex_of h0 h5] at h1;exact Zv h1
  exact item_listR pl.isList h0 (by lia) (by rw[hj];simpa using ew) fin hs
 ·have hj:(i+(f_.toArray.size:Int)).toNat=j:=by
   rw[seqIndex_neg (by lia) h4] at h1;rw[ZS,<- hl];exact Zv h1
  exact subscriptTail_builtinR (x:=w) pl.isList.typeIs slot_list_getitem.lookup
   (wpAny_getItem_list_neg (Q:=fun r s'=>r=w/\EP X pins σ Q r s') pl.isList (by lia) (by rw[ZS]<;>lia) (by lia) (by rw[hj];simpa using ew) ⟨rfl,fin⟩) hs
theorem wK:G7 X (wI X.K):=by
 intro value slice pins s σ H x y v u Q I rx ry h hs;obtain⟨p,xs,i,z,rfl,rfl,hq,he,q⟩:=h;cases rx;obtain⟨t,rfl⟩:=ry;obtain⟨f_,r,pl,hz⟩:=I.tuple hq;obtain⟨j,h1,h2,h3,h4,h5⟩:=oG he;obtain⟨w,ew,Hz⟩:=r.get h2;have hl:=r.length;have hn:=gm;have fin:EP X pins σ Q w s:=⟨z,H,I,Hz,q⟩;exact subscriptTail_builtinR (x:=w) pl.typeIs slot_tuple_getitem.lookup
  (getItem_tuple (j:=j) (Q:=fun r s'=>r=w/\EP X pins σ Q r s') pl (by lia) (by lia) (by rw[ZS,<- hl];exact h1) (by simpa using ew) ⟨rfl,fin⟩) hs
theorem wL(f_:List Value)(n j:Nat)(u:Value):Obj.mapSeq (·.setIfInBounds j u) { cls:=.type "list",data:=.seq f_.toArray n }={ cls:=.type "list",data:=.seq (f_.set j u).toArray n }:=by
 simp[Obj.mapSeq]
variable{xs:List V}
theorem Inv.lst(I:Inv X pins σ H s)(h:H p=some (.lst xs)):
  ∃ (f_:List Value) (n:Nat),az xs f_/\s.heap.get? p=some { cls:=.type "list",data:=.seq f_.toArray n }/\xs.length<=sizeLine:=by
 obtain⟨z,f_,n,r,e⟩:=I.m_ p _ h;exact⟨f_,n,r,e,z⟩
theorem Inv.JP{ys:List V}{n':Nat}{f:Obj->Obj}(I:Inv X pins σ H s)(h:H p=some (.lst xs))(ho:s.heap.get? p=some { cls:=.type "list",data:=.seq f_.toArray n })(hf:f { cls:=.type "list",data:=.seq f_.toArray n }={ cls:=.type "list",data:=.seq its'.toArray n' })(r:az ys its')(hz:ys.length<=sizeLine)(t:Nat):
  Inv X pins σ (upd H p<|.lst ys) { s with heap:=s.heap.update p f,toks:=t }:=by
 have e:(s.heap.update p f).get? p=some { cls:=.type "list",data:=.seq its'.toArray n' }:=by
  rw[YG f ho (by rw[hf]<;>rfl),hf]
 refine I.write (x:=p) (e:=p) (by rw[h];trivial) (.inl rfl) (fun b u hb q=>(Yu _ _<|Yv hb).trans q) ⟨_,e⟩ ?_;exact⟨hz,its',n',r,e⟩
def K3:V->V->V->Hp->(Hp->Prop)->Prop:=fun o i v H Q=>∃ p xs k j,o=.ref p/\i=.int k/\H p=some (.lst xs)/\Je xs.length k=some j/\Q (upd H p<|.lst<|xs.set j v)
theorem wM:kZ X K3:=by
 intro pins s σ H o i v ov iv u Q I ro ri rv h;obtain⟨p,xs,k,j,rfl,rfl,hp,hj,q⟩:=h;cases ro;obtain⟨t,rfl⟩:=ri;obtain⟨f_,n,r,ho,hz⟩:=I.lst hp;obtain⟨h1,h2,h3,h4⟩:=oF hj;have hl:=r.length;have hn:=gm;have I':Inv X pins σ (upd H p<|.lst<|xs.set j v) { s with heap:=s.heap.update p (Obj.mapSeq (·.setIfInBounds j u)) }:=
  I.JP hp ho (wL f_ n j u) (r.set rv j) (by rw[XN];exact hz) s.toks;by_cases h0:0<=k
 ·have hk:k.toNat=j:=by
   rw[seqIndex_of h0 h4] at h1;exact Zv h1
  exact PySem.W.ki_setAt ho h0 (by lia) (by rw[ZS,<- hl];exact h4) (by rw[hk];exact⟨_,I',q⟩)
 ·have hk:(k+(f_.toArray.size:Int)).toNat=j:=by
   rw[seqIndex_neg (by lia) h3] at h1;rw[ZS,<- hl];exact Zv h1
  exact PySem.W.ki_setBack ho (by lia) (by rw[ZS,<- hl];exact h3) (by lia) (by rw[hk];exact⟨_,I',q⟩)
theorem wN:bb X (.builtin "len") (fun xs H Q=>∃ p ys,xs=[.ref p]/\(D7 X.K H p ys\/DG X.K H p ys)/\Q (.int ys.length) H):=by
 intro pins s σ H xs us Q I r h;obtain⟨p,ys,rfl,hq,q⟩:=h;obtain⟨u,rfl,rx⟩:=cK r;cases rx;have hn:=gm;rcases hq with hq | hq
 ·obtain⟨f_,r',pl,hz⟩:=I.list hq;have hlen:=r'.length;exact Calls.call_len_list pl.isList (by simp only[ZS]<;>lia) ⟨.int ys.length,H,I.tok _,⟨s.toks+1,by rw[ZS,hlen]⟩,q⟩
 ·obtain⟨f_,r',pl,hz⟩:=I.tuple hq;have hlen:=r'.length;exact len_tuple pl (by simp only[ZS]<;>lia) ⟨.int ys.length,H,I.tok _,⟨s.toks+1,by rw[ZS,hlen]⟩,q⟩
theorem wO:bb X (.builtin "len") (fun xs H Q=>∃ z,xs=[.str z]/\z.length<=sizeLine/\Q (.int z.length) H):=by
 intro pins s σ H xs us Q I r h;obtain⟨z,rfl,hz,q⟩:=h;obtain⟨u,rfl,t,rfl⟩:=cK r;have hn:=gm;exact len_str (by lia) ⟨.int z.length,H,I.tok _,⟨_,rfl⟩,q⟩
theorem bb.or{f:Value}{r r':List V->Hp->VK->Prop}(h:bb X f r)(h':bb X f r'):bb X f (fun xs H Q=>r xs H Q\/r' xs H Q):=by
 intro pins s σ H xs us Q I rs q;rcases q with q | q
 ·exact h pins s σ H xs us Q I rs q
 ·exact h' pins s σ H xs us Q I rs q
theorem wP:bb X (.type "list") (fun xs H Q=>∃ p ys,xs=[.ref p]/\(D7 X.K H p ys\/DG X.K H p ys)/\∀ l,H l=none->Q (.ref l) (upd H l<|.lst ys)):=by
 intro pins s σ H xs us Q I r h;obtain⟨p,ys,rfl,hq,q⟩:=h;obtain⟨u,rfl,rx⟩:=cK r;cases rx;have fin:∀ (f_:List Value),az ys f_->ys.length<=sizeLine->∀ (h':Heap) (c':Nat),(∀ b o',s.heap.get? b=some o'->h'.get? b=some o')->
   h'.get? s.heap.objs.size=some { cls:=.type "list",dict:=none,data:=.seq f_.toArray c',slots:=#[] }->EP X pins σ Q (.ref s.heap.objs.size) { s with heap:=h' }:=fun f_ r' hz h' c' kp e=>
  ⟨.ref s.heap.objs.size,_,I.laid (t':=s.toks) kp (ZR _)<|show bo X.prog X.w _ h' _ (.lst ys) from ⟨hz,f_,c',r',e⟩,rfl,q _<|I.m_.fresh<|ZR _⟩;rcases hq with hq | hq
 ·obtain⟨f_,r',pl,hz⟩:=I.list hq;have hlen:=r'.length;obtain⟨o,ho,hc,n,hd⟩:=pl.isList;exact call_list_seq p (.inl rfl) ho hc hd (fun h' c' kp e=>fin f_ r' hz h' c' kp e) (by simp only[ZS]<;>lia)
 ·obtain⟨f_,r',pl,hz⟩:=I.tuple hq;have hlen:=r'.length;obtain⟨o,ho,hc,n,hd⟩:=pl;exact call_list_seq p (.inr rfl) ho hc hd (fun h' c' kp e=>fin f_ r' hz h' c' kp e) (by simp only[ZS]<;>lia)
theorem wQ:bb X (.type "tuple") (fun xs H Q=>∃ p ys,xs=[.ref p]/\((D7 X.K H p ys/\∀ l,H l=none->Q (.ref l) (upd H l<|.tup ys))\/(DG X.K H p ys/\Q (.ref p) H))):=by
 intro pins s σ H xs us Q I r h;obtain⟨p,ys,rfl,h⟩:=h;obtain⟨u,rfl,rx⟩:=cK r;cases rx;rcases h with ⟨hq,q⟩ | ⟨hq,q⟩
 ·obtain⟨f_,r',pl,hz⟩:=I.list hq;have hlen:=r'.length;refine call_tuple_list pl.isList (fun h' kp=>?_) (by simp only[ZS]<;>lia);have I1:Inv X pins σ H { s with heap:=h' }:=I.kept (t':=s.toks) kp;have I2:Inv X pins σ (upd H h'.objs.size<|.tup ys) { s with heap:=h'.push { cls:=.type "tuple",data:=.seq f_.toArray } }:=
   I1.laid (t':=s.toks) (fun b o e=>Z2 _ e) (ZR _) (show bo X.prog X.w _ _ _ (.tup ys) from ⟨hz,f_,r',IsTup.new _ _⟩);exact⟨.ref h'.objs.size,_,I2,rfl,q _<|I1.m_.fresh<|ZR _⟩
 ·obtain⟨f_,r',pl,hz⟩:=I.tuple hq;exact call_tuple_same pl ⟨.ref p,H,I,rfl,q⟩
def IB(K:PySem.W.Frag)(T:String)(x:V)(H:Hp):Prop:=match x with
 | .str _=>T = "str"
 | .int _=>T = "int"
 | .ref p=>(T = "list" /\ ∃ xs,D7 K H p xs)\/(T = "tuple" /\ ∃ o,K.lookup p=some o/\o.cls=.type "tuple" /\ o.dict=none)\/
   (T = "dict" /\ ((∃ kvs,H p=some (.dK kvs))\/∃ kvs,H p=some (.dT kvs)))\/(T = "set" /\ ∃ S n,H p=some (.set S n))
 | _=>False
theorem oH{T:String}{x:V}{v:Value}(I:Inv X pins σ H s)(r:aw x v)(ty:IB X.K T x H):
  s.TypeIs v T/\∀ a,v=.ref a->∃ ob,s.heap.get? a=some ob/\ob.dict=none:=by
 cases x with
 | str z=>
  obtain⟨t,rfl⟩:=r;cases (show T = "str" from ty);exact⟨typeIs_str s z t,fun _ e=>nomatch e⟩
 | int i=>
  obtain⟨t,rfl⟩:=r;cases (show T = "int" from ty);exact⟨typeIs_int s i t,fun _ e=>nomatch e⟩
 | ref p=>
  cases r;rcases ty with ⟨rfl,xs,hq⟩ | ⟨rfl,o,hk,hc,hd⟩ | ⟨rfl,hk⟩ | ⟨rfl,S,n,hk⟩
  ·obtain⟨f_,_,pl,_⟩:=I.list hq;refine⟨pl.isList.typeIs,fun a e=>?_⟩;cases e;obtain⟨o,n,e,c,hd,_⟩:=pl;exact⟨o,e,hd⟩
  ·refine⟨⟨o,I.GZ p o hk,hc⟩,fun a e=>?_⟩;cases e;exact⟨o,I.GZ _ o hk,hd⟩
  ·have z:∃ o,s.heap.get? p=some o/\o.ExactDict:=by
    rcases hk with ⟨kvs,hk⟩ | ⟨kvs,hk⟩
    ·obtain⟨_,_,_,_,o,_,_,e,ex,_⟩:=I.m_ p _ hk;exact⟨o,e,ex⟩
    ·obtain⟨_,_,_,_,o,_,_,e,ex,_⟩:=I.m_ p _ hk;exact⟨o,e,ex⟩
   obtain⟨o,e,ex⟩:=z;refine⟨⟨o,e,ex.1⟩,fun a e2=>?_⟩;cases e2;exact⟨o,e,ex.2.1⟩
  ·obtain⟨o,_,_,_,e,ex,_⟩:=I.m_ p _ hk;refine⟨⟨o,e,ex.1⟩,fun a e2=>?_⟩;cases e2;exact⟨o,e,ex.2.1⟩
 | _=>exact False.elim ty
def wR(K:PySem.W.Frag)(T:String)(r:V->List V->Hp->VK->Prop)(to:TE):TE:=fun σ H Q=>to σ H fun x H1=>IB K T x H1/\r x [] H1 Q
def P8(K:PySem.W.Frag)(T:String)(r:V->List V->Hp->VK->Prop)(to:TE)(t:TA):TE:=fun σ H Q=>to σ H fun x H1=>IB K T x H1/\t σ H1 fun xs H2=>r x xs H2 Q
variable{o e:Expr}{es:List Expr}{to:TE}{t:TA}{name:Str}{apos x_:Pos}{T id:String}{r:V->List V->Hp->VK->Prop}
theorem wS(pa:PlainAttrs T)(slot:Slot T name id)(G8:typeOf (.builtin id)=pure (.type "method_descriptor"))(hm:Kw X id r)(ho:PE X o to)(Ei:attributeBase o name X.env (eval o X.env)=eval o X.env:=by rfl)(Ej:(apos.endLine == x_.line)=true:=by rfl):PE X (.Call (.Attribute o name apos) [] [] x_) (wR X.K T r to):=by
 intro pins s σ H Q I h;refine wpAny_Call_method0_late Ei Ej (B_ (ho pins s σ H _ I h) fun v s1 ⟨x,H1,I1,r1,ty,q1⟩=>?_);obtain⟨h1,h2⟩:=oH I1 r1 ty;exact⟨T,id,pa,slot,G8,h1,h2,Calls.callWith_builtin rfl<|PySem.evalArgs_none<|hm pins s1 σ H1 x [] v [] Q I1 r1 .nil q1⟩
theorem lu(pa:PlainAttrs T)(slot:Slot T name id)(G8:typeOf (.builtin id)=pure (.type "method_descriptor"))(hm:Kw X id r)(ho:PE X o to)(ha:PA X (e::es) t)(Ei:attributeBase o name X.env (eval o X.env)=eval o X.env:=by rfl)(GB:((backTo x_<|starEach (e::es) X.env).all (fun x=>!x.1) && (backToKw x_<|keywordEach [] X.env).all (fun x=>x.1.isSome)
   && decide ((e::es).length+([]:List Keyword).length+(if ([]:List Keyword).isEmpty then 0 else 1)<30))=true:=by rfl)(Ej:(apos.endLine == x_.line)=true:=by rfl)(hs:starEach (e::es) X.env=(false,eval e X.env)::starEach es X.env:=by rfl)(Ez:(backTo x_<|starEach es X.env).any (·.1)=false:=by rfl):
  PE X (.Call (.Attribute o name apos) (e::es) [] x_) (P8 X.K T r to t):=by
 intro pins s σ H Q I h;refine wpAny_Call_method_late Ei GB Ej rfl (B_ (ho pins s σ H _ I h) fun v s1 ⟨x,H1,I1,r1,ty,q1⟩=>?_);obtain⟨h1,h2⟩:=oH I1 r1 ty;refine⟨T,id,pa,slot,G8,h1,h2,?_⟩;have hA:=ha x_ pins s1 σ H1 _ I1 q1;rw[hs] at hA ⊢;refine Calls.callWith_builtin (by show (false || (backTo x_<|starEach es X.env).any (·.1))=false;rw[Ez]<;>rfl) (Calls.evalArgs_plain ?_);exact B_ hA fun us s2 ⟨vs,H2,I2,r2,q2⟩=>hm pins s2 σ H2 x vs v us Q I2 r1 r2 q2
end
def Ny(X:Cx)(id:String)(r:V->List V->Hp->VK->Prop):Prop:=
 ∀ (pins:List (Addr×Obj)) (s:Shared) (σ:St) (H:Hp) (x:V) (xs:List V) (v:Value) (us:List Value) (Q:VK),Inv X pins σ H s->aw x v->az xs us->r x xs H Q->
  wpAny (model X.prog X.w) X.A (call (.builtin id) (v::us)) (EP X pins σ Q) X.xe s
theorem az.one:∀ {x:V}{us:List Value},az [x] us->∃ u,us=[u]/\aw x u
 | _,_,.cons r .nil=>⟨_,rfl,r⟩
theorem az.zero:∀ {us:List Value},az [] us->us=[]
 | _,.nil=>rfl
theorem az.dropLast{xs:List V}(h:az xs us):az xs.dropLast us.dropLast:=by
 induction h with
 | nil=>exact .nil
 | cons r t ih=>
  cases t with
  | nil=>exact .nil
  | cons q t'=>exact .cons r ih
theorem wT(l:List α):l.eraseIdx (l.length - 1)=l.dropLast:=by
 induction l with
 | nil=>rfl
 | cons a r ih=>
  cases r with
  | nil=>rfl
  | cons b r=>
   have e:(a::b::r).length - 1=((b::r).length - 1)+1:=by
    have h1:(a::b::r).length=r.length+2:=rfl;have h2:(b::r).length=r.length+1:=rfl;lia
   rw[e,List.eraseIdx_cons_succ,ih];all_goals rfl
section
variable{X:Cx}{pins:List (Addr×Obj)}{σ:St}{H:Hp}{s:Shared}{l b:Addr}{xs ys zs:List V}
theorem Inv.JQ{f:Array Value->Array Value}(I:Inv X pins σ H s)(hH:H l=some (.lst xs))(e:s.heap.get? l=some { cls:=.type "list",data:=.seq f_.toArray n })(hf:f f_.toArray=its'.toArray)(hv:az ys its')(hz:ys.length<=sizeLine):
  Inv X pins σ (upd H l<|.lst ys) { s with heap:=s.heap.update l (Obj.mapSeq f),toks:=t' }:=by
 have q:=PySem.IsL.update e f;rw[hf] at q;refine I.write (x:=l) (e:=l) (by rw[hH];exact trivial) (.inl rfl) (fun b' u hb hu=>(Yu s.heap (Obj.mapSeq f)<|Yv hb).trans hu) ⟨_,q⟩ ?_;exact⟨hz,its',_,hv,q⟩
theorem Inv.Nz(I:Inv X pins σ H s)(hv:az ys f_)(hz:ys.length<=sizeLine):
  Inv X pins σ (upd H s.heap.objs.size<|.lst ys) { s with heap:=s.heap.push { cls:=.type "list",data:=.seq f_.toArray },toks:=t' }:=
 I.laid (fun _ _ q=>Z2 _ q) (ZR _) ⟨hz,f_,0,hv,ZE _ rfl⟩
theorem Inv.fresh(I:Inv X pins σ H s):H s.heap.objs.size=none:=I.m_.fresh (ZR _)
theorem Inv.EA(I:Inv X pins σ H s)(hH:H l=some (.lst xs)):xs.length<=sizeLine/\∃ (f_:List Value) (n:Nat),az xs f_/\xs.length=f_.length/\s.heap.get? l=some { cls:=.type "list",data:=.seq f_.toArray n }:=by
 obtain⟨z,f_,n,r,e⟩:=I.m_ l _ hH;exact⟨z,f_,n,r,r.length,e⟩
theorem wU(h:n<=sizeLine):Builtin.List.listTooLong n=false:=by
 unfold Builtin.List.listTooLong;exact Zs (by lia)
end
section
variable{X:Cx}
def IC:V->List V->Hp->VK->Prop:=fun x vs H Q=>∃ l xs y,x=.ref l/\vs=[y]/\H l=some (.lst xs)/\xs.length<sizeLine/\Q .i_ (upd H l<|.lst<|xs++[y])
theorem wV:Ny X "list.append" IC:=by
 intro pins s σ H x vs v us Q I rx rv h;obtain⟨l,xs,y,rfl,rfl,hH,hz,q⟩:=h;cases rx;obtain⟨u,rfl,ru⟩:=rv.one;obtain⟨z,f_,n,r,hl,e⟩:=I.EA hH;refine Xf F.slot_list_append ⟨_,e,rfl⟩ F.entry_list_append (F.args_list_append_2 _ _) (PySem.list_append l f_.toArray n u (by rw[ZS];lia)) ⟨e,?_⟩;refine⟨.i_,_,I.JQ (its':=f_++[u]) hH e (by simp) (r.append<|.cons ru .nil) ?_,rfl,q⟩;rw[ZH,Y9];lia
def ID:V->List V->Hp->VK->Prop:=fun x vs H Q=>∃ l b xs zs,x=.ref l/\vs=[.ref b]/\H l=some (.lst xs)/\H b=some (.lst zs)/\xs.length+zs.length<=sizeLine/\Q .i_ (upd H l<|.lst<|xs++zs)
theorem wW:Ny X "list.extend" ID:=by
 intro pins s σ H x vs v us Q I rx rv h;obtain⟨l,b,xs,zs,rfl,rfl,hH,hB,hz,q⟩:=h;cases rx;obtain⟨u,rfl,ru⟩:=rv.one;cases ru;obtain⟨z,f_,n,r,hl,e⟩:=I.EA hH;obtain⟨z2,Ey,n2,r2,Ij,e2⟩:=I.EA hB;have hsz:f_.toArray.size+Ey.toArray.size<=sizeLine:=by rw[ZS,ZS];lia
 have K5:¬ (!f_.toArray.isEmpty && Builtin.List.listTooLong (f_.toArray.size+Ey.toArray.size))=true:=by
  rw[wU hsz,Bool.and_false];exact ZK
 refine Xf F.slot_list_extend ⟨_,e,rfl⟩ F.entry_list_extend (F.args_list_extend_2 _ _)
  (AutoSeq1.list_extend_list_list_0 l f_.toArray n b Ey.toArray n2 K5 (by rw[ZS];lia) (by lia)) ⟨e,e2,?_⟩;refine⟨.i_,_,I.JQ (its':=f_++Ey) hH e (by simp) (r.append r2) ?_,rfl,q⟩;rw[ZH];lia
def NA:V->List V->Hp->VK->Prop:=fun x vs H Q=>∃ l xs y,x=.ref l/\vs=[]/\H l=some (.lst xs)/\xs[xs.length - 1]?=some y/\Q y (upd H l<|.lst xs.dropLast)
theorem wX:Ny X "list.pop" NA:=by
 intro pins s σ H x vs v us Q I rx rv h;obtain⟨l,xs,y,rfl,rfl,hH,hy,q⟩:=h;cases rx;have P9:=rv.zero;subst P9;obtain⟨z,f_,n,r,hl,e⟩:=I.EA hH;obtain⟨u,hu,ru⟩:=r.get hy;have Nd:f_.toArray[f_.toArray.size - 1]?=some u:=by
  show f_.toArray[f_.length - 1]?=some u;rw[<- Zt,<- hl];exact hu
 refine Xf F.slot_list_pop ⟨_,e,rfl⟩ F.entry_list_pop (F.args_list_pop_1 _) (MeetsSeq.list_pop_last l f_.toArray n u Nd (by rw[ZS];lia)) ⟨e,?_⟩;refine⟨y,_,I.JQ (its':=f_.dropLast) hH e ?_ r.dropLast ?_,ru,q⟩
 ·show f_.toArray.eraseIdxIfInBounds (f_.toArray.size - 1)=f_.dropLast.toArray;rw[ZS,Xn,wT]
 ·rw[List.length_dropLast];lia
def NB:R2:=fun x y H Q=>∃ l b xs zs,x=.ref l/\y=.ref b/\H l=some (.lst xs)/\H b=some (.lst zs)/\xs.length+zs.length<=sizeLine/\∀ p,H p=none->Q (.ref p) (upd H p<|.lst<|xs++zs)
theorem wY:Ex X (binaryOp .Add) NB:=by
 intro pins s σ H x y v u Q I rx ry h;obtain⟨l,b,xs,zs,rfl,rfl,hH,hB,hz,q⟩:=h;cases rx;cases ry;obtain⟨z,f_,n,r,hl,e⟩:=I.EA hH;obtain⟨z2,Ey,n2,r2,Ij,e2⟩:=I.EA hB;refine PySem.P.add_list e e2 ?_ (by rw[ZS,ZS];lia);have ea:f_.toArray++Ey.toArray=(f_++Ey).toArray:=by simp
 rw[ea];exact⟨.ref _,_,I.Nz (t':=s.toks) (r.append r2) (by rw[ZH];lia),rfl,q _ I.fresh⟩
end
section
variable{prog:Program}{w:World}{A:Around}{E:Value->Shared->Prop}{s:Shared}
end
section
variable{X:Cx}
end
section
variable{κ:Type}[DecidableEq κ]
def cw(kvs:List (κ×V))(k:κ):Option V:=(kvs.find? fun kv=>decide (kv.1=k)).map (·.2)
def br(kvs:List (κ×V))(k:κ)(v:V):List (κ×V):=
 if (kvs.any fun kv=>decide (kv.1=k))=true then kvs.map (fun kv=>if kv.1=k then (kv.1,v) else kv) else kvs++[(k,v)]
theorem jv{p:κ×V}{r:List (κ×V)}{k:κ}(e:p.1=k):cw (p::r) k=some p.2:=by simp[cw,YI,e]
theorem jw{p:κ×V}{r:List (κ×V)}{k:κ}(e:¬ p.1=k):cw (p::r) k=cw r k:=by simp[cw,YI,e]
theorem oI(k:κ):∀ kvs:List (κ×V),(kvs.any fun kv=>decide (kv.1=k))=(cw kvs k).isSome
 | []=>rfl
 | p::r=>by
  rw[X2];by_cases e:p.1=k
  ·simp only[jv e,Zr e,Bool.true_or,Option.isSome_some]
  ·rw[jw e,Zs e,Bool.false_or];exact oI k r
theorem oJ(kvs:List (κ×V))(k:κ)(v:V):(br kvs k v).length<=kvs.length+1:=by
 unfold br;split
 ·rw[Z4];lia
 ·rw[ZH,ZC,Yy];lia
theorem dH.DW{u:Option Value}(r:dH o u):o.isSome=u.isSome:=by
 cases o with
 | none=>cases u with
  | none=>rfl
  | some _=>exact (show False from r).elim
 | some _=>cases u with
  | none=>exact (show False from r).elim
  | some _=>rfl
theorem KV.val{kvs:List (κ×V)}{vs:List (κ×Value)}(r:KV kvs vs)(k:κ):dH (cw kvs k) (valueAt vs k):=by
 unfold KV at r;induction r with
 | nil=>exact True.intro
 | @cons p q ps qs h t ih=>
  obtain⟨h1,h2⟩:=h;by_cases e:p.1=k
  ·have e':q.1=k:=h1.symm.trans e;have b:valueAt (q::qs) k=some q.2:=by simp[valueAt,YI,e']
   rw[jv e,b];exact h2
  ·have e':¬ q.1=k:=fun z=>e (h1.trans z);have b:valueAt (q::qs) k=valueAt qs k:=by simp[valueAt,YI,e']
   rw[jw e,b];exact ih
theorem KV.any{kvs:List (κ×V)}{vs:List (κ×Value)}(r:KV kvs vs)(k:κ):(kvs.any fun kv=>decide (kv.1=k))=vs.any fun kv=>decide (kv.1=k):=by
 unfold KV at r;induction r with
 | nil=>rfl
 | cons h t ih=>rw[X2,X2,ih,h.1]
theorem KV.JR{kvs:List (κ×V)}{vs:List (κ×Value)}(r:KV kvs vs)(k:κ){y:V}{u:Value}(ry:aw y u):
  KV (kvs.map fun kv=>if kv.1=k then (kv.1,y) else kv) (vs.map fun kv=>if kv.1=k then (kv.1,u) else kv):=by
 unfold KV at r ⊢;induction r with
 | nil=>exact .nil
 | @cons p q ps qs h t ih=>
  rw[ZF,ZF];refine .cons ?_ ih;obtain⟨h1,h2⟩:=h;by_cases e:p.1=k
  ·rw[ZZ e,ZZ<|h1.symm.trans e];exact⟨h1,ry⟩
  ·rw[ZW e,ZW<|fun z=>e<|h1.trans z];exact⟨h1,h2⟩
theorem KV.put{kvs:List (κ×V)}{vs:List (κ×Value)}(r:KV kvs vs)(k:κ){y:V}{u:Value}(ry:aw y u):KV (br kvs k y) (stored vs k u):=by
 unfold br stored;rw[r.any k];by_cases e:(vs.any fun kv=>decide (kv.1=k))=true
 ·rw[ZZ e,ZZ e];exact r.JR k ry
 ·rw[ZW e,ZW e];exact Paired.snoc r ⟨rfl,ry⟩
theorem KV.length{kvs:List (κ×V)}{vs:List (κ×Value)}(r:KV kvs vs):kvs.length=vs.length:=Yj r
end
theorem jx{k:Key}{u:Value}(r:aw (kV k) u):(et P w).is k u=true:=by
 cases k with
 | inl i=>obtain⟨t,e⟩:=(show ∃ t,u=Value.int i t from r);subst e;exact uN P w i t
 | inr x=>obtain⟨t,e⟩:=(show ∃ t,u=Value.str x t from r);subst e;exact uO P w x t
abbrev KT(H:Hp):List (List Im×V)->List (List Im×Addr×Value)->Prop:=Paired fun p q=>p.1=q.1/\Gx H p.1 q.2.1/\aw p.2 q.2.2
theorem KT.val(r:KT H kvs xs)(k:List Im):dH (cw kvs k) ((atKey xs k).map (·.2)):=by
 induction r with
 | nil=>exact True.intro
 | @cons p q ps qs h t ih=>
  obtain⟨h1,_,h2⟩:=h;by_cases e:p.1=k
  ·have e':q.1=k:=h1.symm.trans e;have b:atKey (q::qs) k=some q.2:=by simp[atKey,YI,e']
   rw[jv e,b];exact h2
  ·have e':¬ q.1=k:=fun z=>e (h1.trans z);have b:atKey (q::qs) k=atKey qs k:=by simp[atKey,YI,e']
   rw[jw e,b];exact ih
theorem KT.JR(r:KT H kvs xs)(k:List Im){y:V}{u:Value}(ry:aw y u):
  KT H (kvs.map fun kv=>if kv.1=k then (kv.1,y) else kv) (xs.map<|putAt k u):=by
 induction r with
 | nil=>exact .nil
 | @cons p q ps qs h t ih=>
  rw[ZF,ZF];refine .cons ?_ ih;obtain⟨h1,h2,h3⟩:=h;unfold putAt;by_cases e:p.1=k
  ·rw[ZZ e,ZZ<|h1.symm.trans e];exact⟨h1,h2,ry⟩
  ·rw[ZW e,ZW<|fun z=>e<|h1.trans z];exact⟨h1,h2,h3⟩
theorem KT.put(r:KT H kvs xs)(k:List Im){b:Addr}{y:V}{u:Value}(hb:Gx H k b)(ry:aw y u):
  KT H (br kvs k y) (storedH xs k b u):=by
 have e:(kvs.any fun kv=>decide (kv.1=k))=(atKey xs k).isSome:=by
  rw[oI,(r.val k).DW,XB]
 unfold br storedH;rw[e];by_cases q:(atKey xs k).isSome=true
 ·rw[ZZ q,ZZ q];exact r.JR k ry
 ·rw[ZW q,ZW q];exact Paired.snoc r ⟨rfl,hb,ry⟩
theorem KT.keeps(r:KT H kvs xs)(ht:∀ b ys,H b=some (.tup ys)->H' b=some (.tup ys)):KT H' kvs xs:=
 Paired.Iy r fun _ _ z=>⟨z.1,z.2.1.mono ht,z.2.2⟩
section
variable{P:Program}{w:World}{H:Hp}{h:Heap}{a:Addr}
theorem oK{u:HO}(ok:DV P w H h)(e:Rd H a u):bo P w H h a u:=e.ok ok
theorem gn{kvs:List (Key×V)}(ok:DV P w H h)(e:Rd H a (.dK kvs)):kvs.length<=sizeLine/\(a == sysModules)=false/\∃ vs,KV kvs vs/\h.DictOf (et P w) a vs:=
 show bo P w H h a (.dK kvs) from oK ok e
theorem wZ{kvs:List (Key×V)}(ok:DV P w H h)(e:H a=some (.dK kvs)):kvs.length<=sizeLine/\(a == sysModules)=false/\∃ vs,KV kvs vs/\h.DictOf (et P w) a vs:=gn ok (.inl e)
mutual
theorem DK.FB(ok:DV P w H h):∀ {d:Im}{v:V}{u:Value},DK H d v->aw v u->Ew h d u
 | .i_,_,_,e,r=>by cases (show _=V.i_ from e);exact r
 | .bl b,_,_,e,r=>by cases (show _=V.bl b from e);exact r
 | .int i,_,_,e,r=>by cases (show _=V.int i from e);exact r
 | .str x,_,_,e,r=>by cases (show _=V.str x from e);exact r
 | .fn a,_,_,e,r=>by cases (show _=V.ref a from e);exact r
 | .tup ds,_,_,e,r=>by
  obtain⟨a,xs,rfl,h1,h2⟩:=e;cases r;obtain⟨_,f_,rv,o,g1,g2,n,g3⟩:=(show bo P w H h a (.tup xs) from ok a _ h1);exact⟨a,o,f_.toArray,n,rfl,g1,g2,g3,by simpa using ar.FB ok h2 rv⟩
 | .fl ds,_,_,e,r=>by
  obtain⟨a,xs,o,rfl,h1,h2⟩:=e;cases r;exact⟨a,rfl⟩
 | .fd,_,_,e,r=>by
  obtain⟨a,o,rfl,h1⟩:=e;cases r;exact⟨a,rfl⟩
theorem ar.FB(ok:DV P w H h):∀ {ds:List Im}{vs:List V}{us:List Value},ar H ds vs->az vs us->aO h ds us
 | [],_,_,e,r=>by cases (show _=[] from e);cases r;rfl
 | d::ds,_,_,e,r=>by
  obtain⟨v,t,rfl,h1,h2⟩:=e;cases r with
  | cons r1 r2=>exact⟨_,_,rfl,DK.FB ok h1 r1,ar.FB ok h2 r2⟩
end
theorem eE{ks:List Im}(ok:DV P w H h)(e:Gx H ks a):(bK P w).is h ks a:=⟨e.1,e.2.FB ok rfl⟩
theorem gp{P:Program}{w:World}{A:Around}(h:A.units+20<cLine):(bK P w).room A.in1:=show A.units+1+10<cLine by lia
theorem ik(ok:DV P w H h)(e:Rd H a (.dT kvs)):kvs.length<=sizeLine/\(a == sysModules)=false/\
  ∃ xs,KT H kvs xs/\h.DictOfH (bK P w) a xs:=by
 obtain⟨z,y,xs,r,o,es,ep,h1,h2,h3,h4,h5⟩:=(show bo P w H h a (.dT kvs) from oK ok e);refine⟨z,y,xs,r,o,es,ep,h1,h2,h3,h4,fun x hx=>?_,h5⟩;have all:∀ {l:List (List Im×V)}{m:List (List Im×Addr×Value)},KT H l m->∀ x∈m,(bK P w).is h x.1 x.2.1:=by
  intro l m q;induction q with
  | nil=>intro x hx;exact nomatch hx
  | @cons p q ps qs hq t ih=>
   intro x hx;rcases ZT.mp hx with e | hx
   ·subst e;exact eE ok (by rw[<- hq.1];exact hq.2.1)
   ·exact ih x hx
 exact all r x hx
theorem jy(ok:DV P w H h)(e:H a=some (.dT kvs)):kvs.length<=sizeLine/\(a == sysModules)=false/\
  ∃ xs,KT H kvs xs/\h.DictOfH (bK P w) a xs:=ik ok (.inl e)
end
def bW(H:Hp)(a:Addr)(y:V)(r:Option V):Prop:=
 (∃ kvs k,Rd H a (.dK kvs)/\y=kV k/\r=cw kvs k)\/∃ kvs k b,Rd H a (.dT kvs)/\y=.ref b/\Gx H k b/\r=cw kvs k
def fF(H:Hp)(a:Addr)(y v:V)(H':Hp):Prop:=
 (∃ kvs k,H a=some (.dK kvs)/\y=kV k/\kvs.length<sizeLine/\H'=upd H a (.dK<|br kvs k v))\/
 ∃ kvs k b,H a=some (.dT kvs)/\y=.ref b/\Gx H k b/\kvs.length<sizeLine/\H'=upd H a (.dT<|br kvs k v)
theorem bW.k{H:Hp}{a:Addr}{kvs:List (Key×V)}{k:Key}(e:H a=some (.dK kvs)):bW H a (kV k) (cw kvs k):=.inl ⟨kvs,k,.inl e,rfl,rfl⟩
theorem bW.t{k:List Im}(e:H a=some (.dT kvs))(eb:Gx H k b):bW H a (.ref b) (cw kvs k):=.inr ⟨kvs,k,b,.inl e,rfl,eb,rfl⟩
theorem fF.k{H:Hp}{a:Addr}{kvs:List (Key×V)}{k:Key}{v:V}(e:H a=some (.dK kvs))(hl:kvs.length<sizeLine):fF H a (kV k) v (upd H a<|.dK<|br kvs k v):=.inl ⟨kvs,k,e,rfl,hl,rfl⟩
theorem fF.t{k:List Im}{v:V}(e:H a=some (.dT kvs))(eb:Gx H k b)(hl:kvs.length<sizeLine):
  fF H a (.ref b) v (upd H a<|.dT<|br kvs k v):=.inr ⟨kvs,k,b,e,rfl,eb,hl,rfl⟩
section
variable{X:Cx}{pins:List (Addr×Obj)}{σ:St}{H:Hp}{s:Shared}{a:Addr}{y v:V}{u r:Value}{o:Option V}{A:Around}{E:Value->Shared->Prop}
theorem Inv.big(I:Inv X pins σ H s):sysModules<s.heap.objs.size:=by
 have h:mainGlobals<s.heap.objs.size:=(I.mod.glob.keeps I.bk).lt;exact Nat.lt_trans (by decide) h
theorem w9(hu:A.units+20<cLine)(I:Inv X pins σ H s)(g:bW H a y (some v))(ry:aw y u)(h:∀ w' s',Inv X pins σ H s'->aw v w'->Q w' s'):
  wpAny (model X.prog X.w) A (getItem (.ref a) u) Q E s:=by
 rcases g with ⟨kvs,k,e,ey,l⟩ | ⟨kvs,k,b,e,ey,eb,l⟩
 ·subst ey;obtain⟨z,hd,vs,rel,dd⟩:=gn I.m_ e;obtain⟨w',hw,Hz⟩:=dH.some_of (v:=v) (o:=valueAt vs k) (by rw[l];exact rel.val k);exact wpAny_getItem_of (jx ry) dd.mapOf hw (h w' _ (I.tok _) Hz)
 ·subst ey;cases (show u=Value.ref b from ry);obtain⟨z,hd,xs,rel,dd⟩:=ik I.m_ e;obtain⟨w',hw,Hz⟩:=dH.some_of (v:=v) (o:=(atKey xs k).map (·.2)) (by rw[l];exact rel.val k);obtain⟨p,hp,G9⟩:=Z5.mp hw;refine wpAny_getItem_heap (gp hu) (eE I.m_ eb) dd hp ?_;rw[G9];exact h w' _ (I.tok _) Hz
theorem lv(hu:A.units+20<cLine)(I:Inv X pins σ H s)(g:bW H a y o)(ry:aw y u)(h:∀ s',Inv X pins σ H s'->Q (.bool o.isSome) s'):
  wpAny (model X.prog X.w) A (compareOp .In u<|.ref a) Q E s:=by
 rcases g with ⟨kvs,k,e,ey,l⟩ | ⟨kvs,k,b,e,ey,eb,l⟩
 ·subst ey;obtain⟨z,hd,vs,rel,dd⟩:=gn I.m_ e;refine wpAny_in_of (jx ry) hd dd.mapOf ?_;rw[<- (rel.val k).DW,<- l];exact h _ (I.tok _)
 ·subst ey;cases (show u=Value.ref b from ry);obtain⟨z,hd,xs,rel,dd⟩:=ik I.m_ e;refine wpAny_in_heap (gp hu) (eE I.m_ eb) hd dd ?_;have q:=(rel.val k).DW;rw[XB] at q;rw[<- q,<- l];exact h _ (I.tok _)
theorem lz(hu:A.units+20<cLine)(I:Inv X pins σ H s)(g:bW H a y o)(ry:aw y u)(h:∀ s',Inv X pins σ H s'->Q (.bool<|!o.isSome) s'):
  wpAny (model X.prog X.w) A (compareOp .NotIn u<|.ref a) Q E s:=by
 rcases g with ⟨kvs,k,e,ey,l⟩ | ⟨kvs,k,b,e,ey,eb,l⟩
 ·subst ey;obtain⟨z,hd,vs,rel,dd⟩:=gn I.m_ e;refine wpAny_notIn_of (jx ry) hd dd.mapOf ?_;rw[<- (rel.val k).DW,<- l];exact h _ (I.tok _)
 ·subst ey;cases (show u=Value.ref b from ry);obtain⟨z,hd,xs,rel,dd⟩:=ik I.m_ e;refine wpAny_notIn_heap (gp hu) (eE I.m_ eb) hd dd ?_;have q:=(rel.val k).DW;rw[XB] at q;rw[<- q,<- l];exact h _ (I.tok _)
theorem jz{ob:HO}(I:Inv X pins σ H s)(mu:KM (H a))(hs:Heap.SameBut a s.heap h')(he:∃ q,h'.get? a=some q)(new:bo X.prog X.w (upd H a ob) h' a ob):
  Inv X pins σ (upd H a ob) { s with heap:=h',toks:=t' }:=
 I.write (x:=a) (e:=a) mu (.inl rfl) (fun b q hb z=>(hs.2 b hb).trans z) he new
theorem xa{kvs:List (Key×V)}{vs:List (Key×Value)}(z:kvs.length<=sizeLine)(hd:(a == sysModules)=false)(rel:KV kvs vs)(dd:h'.DictOf (et P w) a vs):
  bo P w H' h' a (.dK kvs):=⟨z,hd,vs,rel,dd⟩
theorem oM{Q:Unit->Shared->Prop}(hu:A.units+20<cLine)(I:Inv X pins σ H s)(g:fF H a y v H')(ry:aw y u)(rv:aw v r)(h:∀ s',Inv X pins σ H' s'->Q () s'):
  wpAny (model X.prog X.w) A (setItem (.ref a) u r) Q E s:=by
 rcases g with ⟨kvs,k,e,ey,l,eH⟩ | ⟨kvs,k,b,e,ey,eb,l,eH⟩
 ·subst ey eH;obtain⟨z,hd,vs,rel,dd⟩:=wZ I.m_ e;have hz:vs.length<=sizeLine:=by rw[<- rel.length];exact z
  have hl:(br kvs k v).length<=sizeLine:=by have:=oJ kvs k v;lia
  refine wpAny_setItem_pairs (hsz:=hz) (jx ry) dd fun h' Hl hs=>h _ ?_;have he:∃ q,h'.get? a=some q:=let ⟨q,_,_,hq,_⟩:=Hl;⟨q,hq⟩
  exact jz I (by rw[e];exact True.intro) hs he (xa hl hd (rel.put k rv) Hl)
 ·subst ey eH;cases (show u=Value.ref b from ry);obtain⟨z,hd,xs,rel,dd⟩:=jy I.m_ e;have hz:xs.length<=sizeLine:=by rw[<- Yj rel];exact z
  have hl:(br kvs k v).length<=sizeLine:=by have:=oJ kvs k v;lia
  refine wpAny_setItem_heap (hsz:=hz) (gp hu) (eE I.m_ eb) dd fun h' Hl hs=>h _ ?_;obtain⟨q,es,ep,hq,h2,h3,h4,_,h5⟩:=Hl;refine jz I (by rw[e];exact True.intro) hs ⟨q,hq⟩ ⟨hl,hd,_,(rel.put k eb rv).keeps fun c ys ec=>?_,q,es,ep,hq,h2,h3,h4,h5⟩;rw[aE (kW ec e<|fun z=>nomatch z)];exact ec
end
section
variable{X:Cx}{pins:List (Addr×Obj)}{σ:St}{H:Hp}{s:Shared}{a:Addr}{kvs:List (Key×V)}{k:Key}{u:Value}{A:Around}{E:Value->Shared->Prop}
theorem xb(I:Inv X pins σ H s)(e:Rd H a (.dK kvs))(h:∀ t s',Inv X pins σ H s'->Q (.int kvs.length t) s'):wpAny (model X.prog X.w) A (call (.builtin "len") [.ref a]) Q E s:=by
 obtain⟨z,hd,vs,rel,dd⟩:=gn I.m_ e;refine call_len_dict hd dd (by rw[<- rel.length];rw[sizeLine_eq] at z;lia) ?_;rw[<- rel.length];exact h _ _ (I.tok _)
end
theorem xc{X:Cx}{y:V}(I:Inv X pins σ H s)(g:bW H a y o):s.TypeIs (.ref a) "dict" := by
 rcases g with ⟨kvs,k,e,_,_⟩ | ⟨kvs,k,b,e,_,_,_⟩
 ·obtain⟨_,_,vs,_,dd⟩:=gn I.m_ e;exact dd.typeIs
 ·obtain⟨_,_,xs,_,dd⟩:=ik I.m_ e;exact dd.typeIs
section
variable{X:Cx}{o i e value:Expr}{pos pos' Nu:Pos}{td ty tv:TE}
end
theorem oN(h:Heap)(hb:sysModules<h.objs.size):bo P w H (h.push { cls:=.type "dict",data:=.dict #[] }) h.objs.size (.dT []):=
 ⟨Ys _,WQ.mpr<|Yv<|Zx hb,[],.nil,_,#[],0,ZE _ rfl,⟨rfl,rfl,rfl⟩,rfl,rfl,XA⟩
def JS:TE:=fun _ H Q=>∀ p,H p=none->Q (.ref p) (upd H p<|.dT [])
section
variable{X:Cx}{pos:Pos}
theorem xf:PE X (.Dict [] [] pos) JS:=fun pins s σ H Q I h=>
 wpAny_Dict_empty ⟨.ref s.heap.objs.size,_,I.laid (a:=s.heap.objs.size) (o:=.dT []) (t':=s.toks) (fun _ _ q=>Z2 _ q) (ZR _)<|oN s.heap I.big,rfl,h _<|I.m_.fresh<|ZR _⟩
end
section
variable{X:Cx}{pins:List (Addr×Obj)}{σ:St}{H:Hp}{s:Shared}{a:Addr}{y d:V}{u r:Value}{o:Option V}{A:Around}{E:Value->Shared->Prop}
end
section
variable{X:Cx}{o e f:Expr}{apos x_:Pos}{td ty tx:TE}
end
section
variable{X:Cx}{pins:List (Addr×Obj)}{σ:St}{H:Hp}{s:Shared}{a:Addr}{kvs:List (Key×V)}{A:Around}{E:Value->Shared->Prop}
end
section
variable{X:Cx}{pins:List (Addr×Obj)}{σ:St}{H:Hp}{s:Shared}{a:Addr}{y:V}{u:Value}{A:Around}{E:Value->Shared->Prop}
end
end L2
namespace O_
open PySem PySem.W PySem.Calls PyProof.Rows
variable{n:Nat}{l:OpenLaw}
theorem xg{P:Params}{h:Heap}:∀ (ns:List Int) (vs:List Value),WellAll P h vs (ns.map WData.int)->IntsAre vs ns:=by
 intro ns;induction ns with
 | nil=>
  intro vs w;rw[List.map_nil] at w;cases w;exact .nil
 | cons n ns ih=>
  intro vs w;rw[ZF] at w;cases w with
  | cons a b=>
   cases a;exact .cons _ _ (ih _ b)
theorem xh(hn:l.most=some n){P:Params}{h:Heap}{args:List WData}{vals:List Value}(IE:l.row.toRowW.claim.pre args=true)(NC:WellAll P h vals args):
  ∃ a vs ns,vals=[Value.ref a]/\args=[WData.list (ns.map WData.int)]/\h.get? a=some { cls:=.type "list",data:=.seq vs.toArray }/\IntsAre vs ns/\ns.length<=n:=by
 have IF:WShape.hasAll [] args [.list .int]=true:=(pre_splitW IE).1;have hc:l.pre.holds [] { args:=args }=true:=(pre_splitW IE).2;obtain⟨d,r,rfl,h1,h2⟩:=hasAllW_cons IF;obtain rfl:=hasAllW_nil h2;obtain⟨xs,rfl,h3⟩:=hasW_list h1;obtain⟨ns,rfl⟩:=items_int h3;have hlen:ns.length<=n:=by
  unfold OpenLaw.pre at hc;have h4:(WTm.not<|.lt (.lit<|.int (n:Int))<|.len<|.arg 0).holds [] { args:=[.list (ns.map .int)] }=true:=by
   have h4:=(holds_andW hc).1;rw[hn] at h4;exact h4
  have h5:=condW_of h4 (w_not<|w_lt w_lit<|w_len_list<|w_arg rfl);rw[Z4] at h5;refine Nat.le_of_not_lt fun q=>?_;have q':(n:Int)<((ns.length:Nat):Int):=by lia
  first
   | (rw[Zr q'] at h5;exact absurd h5 (by decide))
   | (simp at h5;lia)
 cases NC with
 | cons w1 w2=>
  cases w2;cases w1 with
  | list ho ND=>exact⟨_,_,ns,rfl,rfl,ho,xg ns _ ND,hlen⟩
theorem xi(l:OpenLaw)(args:List WData):l.row.toRowW.claim.post args (.bool true) args=true:=
 postW_of (r:=l.row.toRowW) (X:=(true == true))
  (show WShape.has [] (.bool true) .bool=true by first | rfl | decide | simp[WShape.has,WShape.arms,WShape.armsAll])
  (show (WTm.eq .res<|.lit<|.bool true).value [] { args:=args,res:=some (.bool true),after:=args }=some (.bool<|true == true) from w_eq_bool (w_res rfl) w_lit) rfl
theorem Gc{q:Program}{loose:List Str}{XP:(Str->Option Value)->Heap->Prop}{YP:World->Heap->Prop}{d:DefRec}(hn:l.most=some n)(K6:d.params.defaults=[])(call:∀ (w:World) (s₀ s₁:Shared) (mg mb:Str->Option Value) (fa:Addr) (o:Obj) (pm cd doc:Value) (a:Addr) (vs:List Value) (ns:List Int),
   Ground q loose [] XP w s₀ mg mb s₁.heap->YP w s₁.heap->
   s₁.heap.get? fa=some o->o.data=.func (docDef d.name d.params d.body d.scope pm cd doc)->s₁.heap.CodeRec cd d.name->mg d.name=some (.ref fa)->
   s₁.heap.get? a=some { cls:=.type "list",data:=.seq vs.toArray }->IntsAre vs ns->ns.length<=n->s₁.gens=#[]->
   codeAny (model l.prog w) callerA (.call (.ref fa) ⟨[.ref a],[]⟩) (fun r s'=>r=.ok (.ret<|.bool true)/\OldK s₁.heap s'.heap/\s'.os=s₁.os/\AllBare s'.gens) s₁):
  WalkO q loose XP YP l.row.toRowW d [] (fun f vs=>PySem.call f vs):=by
 intro w s₀ s₁ mg mb G Y fa o pm cd doc dV kV ho hd FO hD hmg hg args vals as IE P' Sf NC P_;obtain rfl:dV=.none:=Dflts.none hD K6;obtain rfl:kV=.none:=Dflts.noKw hD;obtain⟨a,vs,ns,rfl,rfl,JT,hints,hlen⟩:=xh hn IE NC;refine enter_call (WM (call w s₀ s₁ mg mb fa o pm cd doc a vs ns G Y ho (fd_plain hd) FO hmg JT hints hlen hg) fun r s' hq=>?_);obtain⟨rfl,h2,h3,h4⟩:=hq;exact⟨.inl ⟨.bool true,.bool true,[],rfl,fun _=>rfl,.bool true,xi l _,fun _=>⟨List.Pairwise.nil,fun _ hm=>(nomatch hm)⟩⟩,h2,h3,h4⟩
section
variable{prog:Program}{w:World}{A:Around}{E:Value->Shared->Prop}{s:Shared}{K:Frag}
end
end O_
namespace L2
open PySem PySem.Spec PyProof.Rows
variable{ps:List Str}{f:Addr}{st:Stmt}{qual x:Str}{sp:Sp}{fd:FuncData}{k:Nat}
theorem oO:∀ {vs:List Value}{ns:List Int},IntsAre vs ns->az (ns.map V.int) vs
 | _,_,.nil=>.nil
 | _,_,.cons n t h=>.cons ⟨t,rfl⟩ (oO h)
def jA(H:Hp):Prop:=∀ b,H b=none\/∃ o xs,H b=some (.Es o<|.lst xs)
theorem xl{P:Program}{w:World}{K:PySem.W.Frag}{mg mb:Str->Option Value}{CX:HA}{fa a:Addr}{s₁:Shared}{vs:List Value}{ns:List Int}(KX:K.In s₁.heap)(NE:s₁.heap.Ns mainGlobals mg)(hb:s₁.heap.Ns builtinsNs mb)(Qa:∀ x:Str,x ≠ "__name__" -> mb x=bootBuiltins x)(NF:s₁.heap.NoLimit)(hg:s₁.gens=#[])(ha:s₁.heap.get? a=some { cls:=.type "list",data:=.seq vs.toArray })(hi:IntsAre vs ns)(hl:ns.length<=sizeLine)(hr:A_ k callerA)(F:∀ base:Heap,K.In base->base.Ns mainGlobals mg->Eg P w K mg base CX k fa fd [x] sp)(K7:∀ (s:Shared) (u:Value),BindsTo s fd ⟨[u],[]⟩ [(x,u)])(HC:∀ H:Hp,jA H->D7 K H a (ns.map V.int)->sp [.ref a] H (fun v _=>v=.bl true) fun _ _ _=>False)(NG:∀ H e s',CX [] H s₁ (fun _ _ _=>False) e s'->False):
  codeAny (model P w) callerA (.call (.ref fa) ⟨[.ref a],[]⟩) (fun r s'=>r=.ok (.ret<|.bool true)/\OldK s₁.heap s'.heap/\s'.os=s₁.os/\AllBare s'.gens) s₁:=by
 have rv:=oO hi;have NH:=hi.length;have core:∀ H:Hp,jA H->D7 K H a (ns.map V.int)->DV P w H s₁.heap->(∀ b,H b≠none->b=a)->(H a≠none->K.lookup a=none)->
   codeAny (model P w) callerA (.call (.ref fa) ⟨[.ref a],[]⟩) (fun r s'=>r=.ok (.ret<|.bool true)/\OldK s₁.heap s'.heap/\s'.os=s₁.os/\AllBare s'.gens) s₁:=by
  intro H hO hS m_ hA hK;have GR:∀ {b:Addr}{o:Obj},s₁.heap.get? b=some o->H b=none->(d8 s₁.heap H).get? b=some o:=fun e n=>uQ e n;have K1:∀ {b:Addr}{o:Obj}{es:Array DictEntry}{ep:Nat},s₁.heap.get? b=some o->o.data=.dict es ep->H b=none:=fun {b o es ep} e d=>by
   cases q:H b with
   | none=>rfl
   | some u=>
    have e':b=a:=hA b (by rw[q];simp);subst e';rw[ha] at e;cases e;have d':Data.seq vs.toArray _=Data.dict es ep:=d;cases d'
  have MK:∀ {b:Addr}{m:Str->Option Value},s₁.heap.Ns b m->(d8 s₁.heap H).Ns b m:=fun {b m} ⟨o,es,ep,e,d,r⟩=>⟨o,es,ep,GR e<|K1 e d,d,r⟩;have Pa:K.In (d8 s₁.heap H):=fun b o e=>GR (KX b o e) (by
   cases q:H b with
   | none=>rfl
   | some u=>
    have e':b=a:=hA b (by rw[q];simp);subst e';rw[hK (by rw[q];simp)] at e;cases e)
  have hM:Mod K mg (d8 s₁.heap H):=⟨Pa,MK NE,⟨mb,MK hb,Qa⟩,let ⟨mc,h1,h2⟩:=NF;⟨mc,MK h1,h2⟩⟩;have e0:G0 P w K mg (d8 s₁.heap H) callerA [] s₁ H:=⟨rfl,hM,fun b o e=>uR e,Nat.le_of_eq<|uP _ _,trivial,fun b hb=>absurd (show b∈([]:List Addr) from hb) (by simp),m_,.of_eq hg⟩;refine WM ((F _ Pa<|MK NE).run callerA [] s₁ H ⟨[.ref a],[]⟩ [.ref a] [.ref a] _ _ hr e0 (K7 s₁<|.ref a) (.cons rfl .nil)<|HC H hO hS) fun r s' h=>?_;cases r with
  | error e=>exact (NG H e s' h).elim
  | ok fl=>
   cases fl with
   | next=>exact False.elim h
   | brk=>exact False.elim h
   | cont=>exact False.elim h
   | ret u=>
    obtain⟨v,H',os,bare,un,HE,r',q⟩:=h;have q':v=.bl true:=q;subst q';obtain rfl:u=Value.bool true:=r';refine⟨rfl,OldK.of_keep fun b o e=>?_,os,bare⟩;cases q:H b with
    | none=>exact un.keep b o e q (by intro z;exact absurd (show b∈([]:List Addr) from z) (by simp)) (by simp)
    | some u=>
     rcases hO b with z | ⟨ob,xs,z⟩
     ·rw[q] at z;cases z
     ·have z2:=un.D_ b ob _ z;obtain⟨e1,_⟩:=m_ b _ z;obtain⟨e2,_⟩:=HE b _ z2;rw[e] at e1;cases e1;exact e2
 cases hk:K.lookup a with
 | some o=>
  have e:=KX a o hk;rw[ha] at e;cases e;refine core (fun _=>none) (fun _=>.inl rfl) (.inr ⟨_,vs.toArray,_,hk,rfl,rfl,rfl,by rw[ZS,NH];exact hl,by simpa using rv⟩) (fun b u z=>by have z':(none:Option HO)=some u:=z;cases z') (fun b z=>absurd rfl z) fun z=>absurd rfl z
 | none=>
  refine core (fun b=>if b=a then some (.Es { cls:=.type "list",data:=.seq vs.toArray } (.lst<|ns.map V.int)) else none) (fun b=>?_) (.inl<|.inr ⟨{ cls:=.type "list",data:=.seq vs.toArray },ZZ rfl⟩) (fun b u z=>?_) (fun b z=>?_) fun _=>hk
  ·by_cases hb:b=a
   ·exact .inr ⟨_,_,ZZ hb⟩
   ·exact .inl (ZW hb)
  ·by_cases hb:b=a
   ·have z':=(ZZ hb).symm.trans z;cases z';subst hb;exact⟨ha,by rw[Z4];exact hl,vs,_,rv,ha⟩
   ·have z':=(ZW hb).symm.trans z;cases z'
  ·by_cases hb:b=a
   ·exact hb
   ·exact absurd (ZW hb) z
theorem xm{l:PySem.W.OpenLaw}{n:Nat}{q:Program}{loose:List Str}{XP:(Str->Option Value)->Heap->Prop}{YP:World->Heap->Prop}{d:DefRec}{K:Params->PySem.W.Frag}{CX:World->HA}{sp:World->Sp}(hn:l.most=some n)(K8:n<=sizeLine)(K6:d.params.defaults=[])(hr:A_ k callerA)(hY:∀ (w:World) (h:Heap),YP w h->(K w.params).In h)(F:∀ (w:World) (mg:Str->Option Value) (fa:Addr) (h:Heap),(K w.params).In h->h.Ns mainGlobals mg->mg d.name=some (.ref fa)->
   ∃ fd:FuncData,(∀ (s:Shared) (u:Value),BindsTo s fd ⟨[u],[]⟩ [(x,u)])/\
    ∀ base:Heap,(K w.params).In base->base.Ns mainGlobals mg->Eg l.prog w (K w.params) mg base (CX w) k fa fd [x] (sp w))(HC:∀ (w:World) (H:Hp) (a:Addr) (ns:List Int),ns.length<=n->jA H->D7 (K w.params) H a (ns.map V.int)->sp w [.ref a] H (fun v _=>v=.bl true) fun _ _ _=>False)(NG:∀ (w:World) (H:Hp) (s:Shared) (e:Value) (s':Shared),CX w [] H s (fun _ _ _=>False) e s'->False):
  PySem.W.WalkO q loose XP YP l.row.toRowW d [] (fun f vs=>PySem.call f vs):=by
 refine O_.Gc hn K6 fun w s₀ s₁ mg mb fa o pm cd doc a vs ns G Y ho hd FO hmg JT hints hlen hg=>?_;have KX:=hY w _ Y;obtain⟨fd,hb,hF⟩:=F w mg fa _ KX G.T.g hmg;exact xl KX G.T.g G.T.b G.T.builtins G.T.nolimit hg JT hints (Zo hlen K8) hr hF hb (fun H hO hS=>HC w H a ns hlen hO hS) fun H e s'=>NG w H s₁ e s'
def cN(s:Stmt):Arguments:=match s with
 | .FunctionDef _ a _ _ _ _ _ _ _ _=>a
 | _=>{ posonlyargs:=[],args:=[],vararg:=none,kwonlyargs:=[],kw_defaults:=[],kwarg:=none,defaults:=[] }
def bA(s:Stmt):List Stmt:=match s with
 | .FunctionDef _ _ b _ _ _ _ _ _ _=>b
 | _=>[]
def au(s:Stmt):Scope:=match s with
 | .FunctionDef _ _ _ _ _ _ sc _ _ _=>sc
 | _=>{ kind:=.function,names:=[],isGenerator:=false,isCoroutine:=false }
abbrev FS:HA:=fun _ _ _ _ _ _=>False
abbrev E0:XK:=fun _ _ _=>False
theorem xn{X:Cx}:lr FS X E0:=fun _ _ _ _ _ _ _ h=>h.elim
structure Fi(K:PySem.W.Frag)(x qual:Str)(st:Stmt)(f:Addr)(fd:FuncData):Prop where
 ex:∃ (oc:Value) (od:Option Addr) (kV doc pm:Value) (an:Option Addr) (o_ ct:Value) (GQ:Array (Option Value)),
  fd=PySem.W.fnOf x qual (cN st) (bA st) (au st) .none kV doc pm an o_ ct/\K.lookup f=some ⟨oc,od,.func fd,GQ⟩/\PySem.W.codeIn K o_ qual=true
 kp:PySem.W.keepIn K (.ref f)=true
section
variable{P:Program}{w:World}{K:PySem.W.Frag}{mg:Str->Option Value}{base:Heap}
theorem Fi.ok{N:List Str}(F:Fi K x qual st f fd)(S:j_ N ps (au st))(len:∀ vs H Q E,sp vs H Q E->vs.length=ps.length)(HB:∀ (o_:Value) (A:Around) (outer:List Env) (s:Shared) (H:Hp) (vs:List V) (Q:VK) (E:XK),A_ k (A.deeper<|envOfC qual (au st) s.heap.objs.size f o_)->sp vs H Q E->
   ∃ t,FN (bZ FS P w K mg base N qual (au st) f o_ A outer s H E).JG (bA st) t/\t { nx:=fun _ H'=>Q .i_ H',rt:=Q } (ci N vs) H):Eg P w K mg base FS (k+1) f fd ps sp:=by
 obtain⟨oc,od,kV,doc,pm,an,o_,ct,GQ,rfl,lk,FO⟩:=F.ex;refine oE lk FO S len fun A outer s H vs Q E hr HC=>?_;obtain⟨t,h,q⟩:=HB o_ A outer s H vs Q E hr HC;exact⟨t,h.JG,q⟩
theorem Fi.binds(F:Fi K x qual st f fd)(h:∀ (kV doc pm:Value) (an:Option Addr) (o_ ct:Value) (us:List Value),us.length=ps.length->bindArgs (PySem.W.fnOf x qual (cN st) (bA st) (au st) .none kV doc pm an o_ ct) ⟨us,[]⟩=pure (ps.zip us)):cf K fd ps []:=by
 obtain⟨oc,od,kV,doc,pm,an,o_,ct,GQ,rfl,lk,FO⟩:=F.ex;exact .all (h kV doc pm an o_ ct)
theorem xo{oc:Value}{od an:Option Addr}{GQ:Array (Option Value)}{kV doc pm o_ ct:Value}(l:K.lookup f=some ⟨oc,od,.func<|PySem.W.fnOf x qual (cN st) (bA st) (au st) .none kV doc pm an o_ ct,GQ⟩)(c:PySem.W.codeIn K o_ qual=true)(k:PySem.W.keepIn K (.ref f)=true):Fi K x qual st f (PySem.W.fnOf x qual (cN st) (bA st) (au st) .none kV doc pm an o_ ct):=⟨⟨oc,od,kV,doc,pm,an,o_,ct,GQ,rfl,l,c⟩,k⟩
end
section
variable{X:Cx}
theorem pv(i:Nat){x:Str}{pos:Pos}(hN:X.N[i]?=some x:=by rfl)(hv:MA X.env.scope x:=by first | exact Or.inl rfl | exact Or.inr (Or.inl rfl) | exact Or.inr (Or.inr rfl))(hd:(x == ("__debug__" : Str))=false:=by decide)(FO:(x == ("__classdict__" : Str))=false:=by decide):PE X (.Name x pos) (fC i):=nV hN hv hd FO
end
def aF(H H':Hp):Prop:=∀ b o,H b=some o->H' b=some o
theorem aF.refl(H:Hp):aF H H:=fun _ _ h=>h
end L2
namespace L2
section
variable{X:Cx}
theorem xp:bb X (.builtin "len") (fun xs H Q=>∃ a kvs,xs=[V.ref a]/\H a=some (.dK kvs)/\Q (.int kvs.length) H):=by
 intro pins s σ H xs us Q I r h;obtain⟨a,kvs,rfl,ha,q⟩:=h;obtain⟨u,rfl,ru⟩:=cK r;cases ru;exact xb I (.inl ha) fun t s' I'=>⟨.int kvs.length,H,I',⟨t,rfl⟩,q⟩
end
section
variable{κ:Type}[DecidableEq κ]
end
end L2
namespace L2
open PySem PySem.Spec PyProof.Rows
variable{Q:Option Value->Shared->Prop}{i ep:Nat}{it d C:Addr}{h:Heap}{ks:List Value}{wi:TI}{tg iter elt:Expr}{fp:List Addr}{H:Hp}{σ:St}{pins:List (Addr×Obj)}{caps:List Nat}{own:List Str}{env:Env}{pos:Pos}{scope:Scope}{ifs:List Expr}{s:Shared}
theorem xq{prog:Program}{w:World}{A:Around}{R:Result->Shared->Prop}{target:Expr}{it acc:Value}(I:Nat->Shared->Prop)(turn:∀ n s,I n s->wpAny (model prog w) A (pyNext it) (fun r s₁=>match r with
   | none=>R (.ok .next) s₁
   | some v=>wpAny (model prog w) A (letOwnedTupleGo target it v) (fun _ s₁=>wpAny (model prog w) A (assign target env v) (fun _ s₂=>
     wpAny (model prog w) A (forIn ifs true fun c r=>if r=true then do let ok <- isTrue c env (eval c env);pure (ForInStep.yield ok) else pure (ForInStep.yield r)) (fun ok s₃=>
      if ok=true then wpAny (model prog w) A (eval elt env) (fun x s₄=>
       wpAny (model prog w) A (call (.builtin "list.append") [acc,x]) (fun _ s₅=>∃ m,m<n/\I m s₅) (fun _ _=>False) s₄) (fun _ _=>False) s₃
      else ∃ m,m<n/\I m s₃) (fun _ _=>False) s₂) (fun _ _=>False) s₁) (fun _ _=>False) s₁) (fun _ _=>False) s)(n:Nat)(h:I n s):
  codeAny (model prog w) A (.compLoop (.ListComp elt [⟨target,iter,ifs,0⟩] scope pos) 0 it acc env) R s:=by
 refine codeAny_loop rfl I (fun n s hI=>?_) n h;show wpAny _ A ((compTurn (.ListComp elt [⟨target,iter,ifs,0⟩] scope pos) 0 it acc env).onRaise (fun x=>do noteFrame x env;theTreesLotGoes x)) _ _ s;refine wpAny_noted ?_;rw[compTurn_list];refine Z9 (Wu<|Z9<|Y3 (turn n s hI) (fun r s₁ h₁=>?_) fun _ _ h'=>h'.elim);cases r with
 | none=>exact ZU h₁
 | some v=>
  refine Z9 (Y3 h₁ (fun _ s₁ h₁=>?_) fun _ _ h'=>h'.elim);refine Z9 (Y3 h₁ (fun _ s₂ h₂=>Z9<|Y3 h₂ (fun ok s₃ h₃=>?_) fun _ _ h'=>h'.elim) fun _ _ h'=>h'.elim);cases ok with
  | false=>exact ZU ⟨rfl,h₃⟩
  | true=>
   exact Z9 (Z9<|Y3 h₃ (fun x s₄ h₄=>Z9<|Y3 h₄ (fun _ s₅ h₅=>ZU<|ZU ⟨rfl,h₅⟩) fun _ _ h'=>h'.elim) fun _ _ h'=>h'.elim)
def fG(env:Env)(names:List (Str×NameKind)):List (Str×Addr):=names.foldl (fun cs y=>if y.2 == .free then (y.1,(env.cells.lookup y.1).getD 0)::cs else cs) []
theorem lD{env:Env}:∀ (names:List (Str×NameKind)) (cs:List (Str×Addr)),(∀ y∈names,y.2=.free->∃ c,env.cells.lookup y.1=some c)->
  (forIn names cs fun (y:Str×NameKind) cs=>if y.2 == .free then (do let c <- cellOf env y.1;pure (ForInStep.yield ((y.1,c)::cs))) else pure (ForInStep.yield cs):Sem _)=
   pure (names.foldl (fun cs y=>if y.2 == .free then (y.1,(env.cells.lookup y.1).getD 0)::cs else cs) cs)
 | [],cs,_=>rfl
 | y::r,cs,h=>by
  rw[WW,YH];by_cases hy:y.2=.free
  ·obtain⟨c,hc⟩:=h y Zb hy;have e:(y.2 == NameKind.free)=true:=by simp[hy]
   rw[ZZ e,ZZ e];have ec:cellOf env y.1=pure c:=by unfold cellOf;rw[hc]
   rw[ec,hc];show (forIn r ((y.1,c)::cs) _:Sem _)=_;exact lD r _ fun z hz=>h z (Zm _ hz)
  ·have e:¬ (y.2 == NameKind.free)=true:=by simp[hy]
   rw[ZW e,ZW e];show (forIn r cs _:Sem _)=_;exact lD r _ fun z hz=>h z (Zm _ hz)
theorem xr(h:∀ y∈scope.names,y.2=.free->∃ c,env.cells.lookup y.1=some c):closureFor scope env=pure (fG env scope.names):=by
 have:=lD (env:=env) scope.names [] h;unfold closureFor;dsimp only;have e:(forIn scope.names ([]:List (Str×Addr))<|fun (x:Str×NameKind) (r:List (Str×Addr))=>(if x.2 == .free then (do let c <- cellOf env x.1;pure (ForInStep.yield ((x.1,c)::r))) else pure (ForInStep.yield r):Sem (ForInStep<|List<|Str×Addr)))=pure (fG env scope.names):=this;rw[e];rfl
theorem oP{env:Env}:∀ (names:List (Str×NameKind)) (cs:List (Str×Addr)) (x:Str) (c:Addr),
  (names.foldl (fun cs y=>if y.2 == .free then (y.1,(env.cells.lookup y.1).getD 0)::cs else cs) cs).lookup x=some c->
  (c=(env.cells.lookup x).getD 0/\(x,NameKind.free)∈names)\/cs.lookup x=some c
 | [],cs,x,c,h=>.inr h
 | y::r,cs,x,c,h=>by
  rw[YH] at h;rcases oP r _ x c h with ⟨e,m⟩ | h
  ·exact .inl ⟨e,Zm _ m⟩
  ·by_cases hy:y.2=.free
   ·rw[ZZ (by simp[hy])] at h;rw[Ze] at h;by_cases hx:x=y.1
    ·subst hx;rw[Yr] at h;refine .inl ⟨(Zv h).symm,?_⟩;rw[<- hy];exact Zb
    ·have:(x == y.1)=false:=by simpa using hx
     rw[this] at h;exact .inr h
   ·rw[ZW (by simp[hy])] at h;exact .inr h
theorem lE{env:Env}:∀ (names:List (Str×NameKind)) (cs:List (Str×Addr)) (x:Str),(x,NameKind.free)∈names\/(∃ c,cs.lookup x=some c)->
  ∃ c,(names.foldl (fun cs y=>if y.2 == .free then (y.1,(env.cells.lookup y.1).getD 0)::cs else cs) cs).lookup x=some c
 | [],cs,x,h=>by
  rcases h with h | h
  ·cases h
  ·exact h
 | y::r,cs,x,h=>by
  rw[YH];apply lE r _ x;rcases h with h | ⟨c,h⟩
  ·rcases ZT.mp h with e | h
   ·right;subst e;rw[ZZ (by rfl),Ze,Yr];exact⟨_,rfl⟩
   ·exact .inl h
  ·right;by_cases hy:(y.2 == NameKind.free)=true
   ·rw[ZZ hy,Ze];cases x == y.1
    ·exact⟨c,h⟩
    ·exact⟨_,rfl⟩
   ·rw[ZW hy];exact⟨c,h⟩
structure HF where
 C:Addr
 s:Shared
 H:Hp
 fp:List Addr
variable{te:HF->TE}{tt:HF->TT}{g:HF->TG}
def Cx.FT(X : Cx)(N' : List Str)(scope : Scope)(Y : HF): Cx :=
  { prog := X.prog, w := X.w, K := X.K, mg := X.mg, base := X.base, A := X.A, N := N', s₀ := Y.s, H₀ := Y.H, env := compEnvC scope (fG X.env scope.names) Y.C X.env, outer := X.stack, stack := X.stack,
    ex := Y.fp, fn := fun _ => false, calm := X.calm, pn := [], xe := fun _ _ => False }
theorem lF{env:Env}:∀ {names:List (Str×NameKind)}{x:Str}{k:NameKind},
  (names.map fun (n,k)=>if (k == NameKind.free && env.scope.kind == .function && env.kindOf n == some .cell) then (n,NameKind.cell) else (n,k)).lookup x=some k->
  (k=.cell\/k=.free)->(∀ y∈names,y.2≠.cell)->(x,NameKind.free)∈names
 | [],x,k,h,_,_=>by simp at h
 | (n,k')::r,x,k,h,hk,hc=>by
  rw[ZF] at h;dsimp only at h;by_cases hx:x=n
  ·subst hx;by_cases hf:(k' == NameKind.free && env.scope.kind == .function && env.kindOf x == some .cell)=true
   ·have:k'=NameKind.free:=by
     simp only[ZV] at hf;exact by simpa using hf.1.1
    subst this;exact Zb
   ·simp only[hf] at h;have e:k'=k:=by simpa [Ze] using h
    subst e;rcases hk with hk | hk
    ·exact absurd hk (hc (x,k') Zb)
    ·rw[hk];exact Zb
  ·have hb:(x == n)=false:=by simpa using hx
   have h':(r.map fun (n,k)=>if (k == NameKind.free && env.scope.kind == .function && env.kindOf n == some .cell) then (n,NameKind.cell) else (n,k)).lookup x=some k:=by
    by_cases hf:(k' == NameKind.free && env.scope.kind == .function && env.kindOf n == some .cell)=true
    ·rw[ZZ hf,Ze,hb] at h;exact h
    ·rw[ZW hf,Ze,hb] at h;exact h
   exact Zm _ (lF h' hk fun y hy=>hc y<|Zm _ hy)
section
variable{X:Cx}
structure r_(X:Cx)(scope:Scope)(own:List Str)(caps:List Nat):Prop where
 kind:scope.kind=.function
 cell:∀ y∈scope.names,y.2≠.cell
 free:∀ y∈scope.names,y.2=.free->X.env.scope.names.lookup y.1=some .cell
 loc:∀ y∈scope.names,y.2=.local->scope.names.lookup y.1=some .local
 NI:∀ i∈caps,∃ x,X.N[i]?=some x/\(x,NameKind.free)∈scope.names/\scope.names.lookup x=some .free
def bL(X:Cx)(own:List Str)(caps:List Nat):List Str:=own++caps.map fun i=>X.N.getD i ""
def dz(own:List Str)(caps:List Nat)(σ:St):St:=own.map (fun _=>none)++caps.map fun i=>σ.getD i none
theorem r_.cells(S:r_ X scope own caps)(ok:X.Ok):∀ y∈scope.names,y.2=.free->∃ c,X.env.cells.lookup y.1=some c:=
 fun y hy hf=>ok.has y.1 (.inl<|S.free y hy hf)
theorem r_.sub(S:r_ X scope own caps)(ok:X.Ok){x:Str}{c:Addr}(h:(fG X.env scope.names).lookup x=some c):X.env.cells.lookup x=some c/\(x,NameKind.free)∈scope.names:=by
 rcases oP scope.names [] x c h with ⟨e,m⟩ | h
 ·obtain⟨c',e'⟩:=S.cells ok (x,.free) m rfl;rw[show (List.lookup x X.env.cells)=some c' from e'] at e;refine⟨?_,m⟩;rw[e];exact e'
 ·simp at h
theorem oQ(S:r_ X scope own caps)(I:Inv X pins σ H s)(hC:s.heap.objs.size<=C)(hf:∀ b∈fp,dy X pins H b)(FC:∀ b∈fp,b<s.heap.objs.size):(X.FT (bL X own caps) scope ⟨C,s,H,fp⟩).Ok where
 mod:=I.ok.mod
 kind:=S.kind
 glob:=I.ok.glob
 blt:=I.ok.blt
 above:=hC
 inj:=fun x y c h1 h2=>I.ok.inj x y c (S.sub I.ok h1).1 (S.sub I.ok h2).1
 has:=fun x hx=>by
  have m:(x,NameKind.free)∈scope.names:=by
   rcases hx with hx | hx
   ·exact lF hx (.inl rfl) S.cell
   ·exact lF hx (.inr rfl) S.cell
  exact lE scope.names [] x (.inl m)
 Hv:=fun x c h _=>nomatch h
 hd:=I.ok.hd
 frames:=I.ok.frames
 Hw:=.inl rfl
 I_:=fun b hb=>⟨Zx<|Zy (FC b hb) hC,fun x c h=>(hf b hb).2.2.2.2.1 x c (S.sub I.ok h).1⟩
 bs:=I.bs
 Gy:=Zo I.ok.Gy I.sz
 Fd:=fun b o e hb=>by
  rcases (hf b hb).2.2.2.1 with z | z
  ·exact I.ok.Fd b o e z
  ·exact absurd (Zy (ZO e)<|Zo I.ok.Gy z) (Yt _)
 Fe:=fun b hb z=>by
  rcases ZT.mp (I.GA b z) with e | e
  ·exact (hf b hb).2.1 e
  ·exact (hf b hb).2.2.1 e
 DT:=I.stack
 GY:=I.Eo
theorem xt{h1:Heap}{tk:Nat}{m:Str->Option Value}(S:r_ X scope own caps)(I:Inv X pins σ H s)(hC:s.heap.objs.size<=C)(hf:∀ b∈fp,dy X pins H b)(FC:∀ b∈fp,b<s.heap.objs.size)(old:∀ b o,s.heap.get? b=some o->h1.get? b=some o)(hn:h1.Ns C m):
  Inv (X.FT (bL X own caps) scope ⟨C,s,H,fp⟩) [] (dz own caps σ) H { s with heap:=h1,toks:=tk } where
 ok:=oQ S I hC hf FC
 os:=rfl
 bare:=I.bare
 base:=Un.kept old
 loc:=by
  obtain⟨m0,Sg,Qb⟩:=I.loc;refine⟨m,hn,fun j x v e1 e2 hv=>?_⟩;have e1:(own++caps.map fun i=>X.N.getD i "")[j]?=some x:=e1;have e2:(own.map (fun _=>(none:Option V))++caps.map fun i=>σ.getD i none)[j]?=some (some v):=e2;by_cases hj:j<own.length
  ·rw[Y4 (by rw[Z4];exact hj),Zq] at e2;cases q:own[j]? with
   | none=>rw[q] at e2;cases e2
   | some z=>rw[q] at e2;cases e2
  ·rw[YY (by lia),Zq] at e1;rw[YY (by rw[Z4];lia),Zq,Z4] at e2;cases q:caps[j - own.length]? with
   | none=>rw[q] at e1;cases e1
   | some i=>
    rw[q] at e1 e2;have e1:X.N.getD i "" = x:=Zv e1;have e2:σ.getD i none=some v:=Zv e2;obtain⟨x',Gw,hm,Qc⟩:=S.NI i (YX q);have ex:x'=x:=by
     rw[<- e1,Z6,Gw];rfl
    subst ex;have hs:σ[i]?=some (some v):=by
     rw[Z6] at e2;cases q2:σ[i]? with
     | none=>rw[q2] at e2;cases e2
     | some z=>rw[q2] at e2;rw[show z=some v from e2]
    have K9:=S.free (x',.free) hm rfl;obtain⟨u,r,lk⟩:=Qb i x' v Gw hs (.inr<|.inl K9);refine⟨u,r,.inr ⟨?_,?_⟩⟩
    ·rcases hv with hv | hv | hv
     ·
      exfalso;have:∀ {names:List (Str×NameKind)},names.lookup x'=some .free->(names.map fun (n,k)=>if (k == NameKind.free && X.env.scope.kind == .function && X.env.kindOf n == some .cell) then (n,NameKind.cell) else (n,k)).lookup x'≠some .local:=by
       intro names;induction names with
       | nil=>intro h;simp at h
       | cons y r ih=>
        obtain⟨n,k⟩:=y;intro h;rw[ZF];dsimp only;by_cases hx:x'=n
        ·subst hx;have ek:k=.free:=by simpa [Ze] using h
         subst ek;by_cases hq:(NameKind.free == NameKind.free && X.env.scope.kind == ScopeKind.function && X.env.kindOf x' == some NameKind.cell)=true
         ·rw[ZZ hq];simp[Ze]
         ·rw[ZW hq];simp[Ze]
        ·have hb:(x' == n)=false:=by simpa using hx
         rw[Ze,hb] at h;by_cases hq:(k == NameKind.free && X.env.scope.kind == ScopeKind.function && X.env.kindOf n == some NameKind.cell)=true
         ·rw[ZZ hq,Ze,hb];exact ih h
         ·rw[ZW hq,Ze,hb];exact ih h
      exact this Qc hv
     ·exact .inl hv
     ·exact .inr hv
    ·rcases lk with ⟨hk,_⟩ | ⟨_,c,hc,GP⟩
     ·exact absurd (hk.symm.trans K9) (by simp)
     ·obtain⟨c',KS⟩:=lE (env:=X.env) scope.names [] x' (.inl hm);have:=(S.sub I.ok KS).1;rw[hc] at this;cases this;obtain⟨o,ho,hd⟩:=GP;exact⟨c,KS,o,old _ _ ho,hd⟩
 cell:=fun x c h=>by
  obtain⟨v,o,ho,hd⟩:=I.cell x c (S.sub I.ok h).1;exact⟨v,o,old _ _ ho,hd⟩
 free:=I.m_.fresh hC
 DB:=fun x c h=>I.DB x c (S.sub I.ok h).1
 pin:=fun p hp=>nomatch hp
 m_:=I.m_.kept old
 len:=by simp[dz,bL,Cx.FT]
end
section
variable{X:Cx}
def oR(X:Cx)(ifs:List Expr)(t:TT)(pins:List (Addr×Obj)):Prop:=
 ∀ (s:Shared) (σ:St) (H:Hp) (Q:Bool->Hp->Prop),Inv X pins σ H s->t σ H Q->
  wpAny (model X.prog X.w) X.A (forIn ifs true fun c r=>if r=true then do let ok <- isTrue c X.env (eval c X.env);pure (ForInStep.yield ok) else pure (ForInStep.yield r)) (TP X pins σ Q) X.xe s
def K'(X:Cx)(ifs:List Expr)(t:TT):Prop:=∀ pins,oR X ifs t pins
def NJ:TT:=fun _ H Q=>Q true H
theorem xu:K' X [] NJ:=fun pins s σ H Q I h=>wpAny_tests_nil ⟨H,I,h⟩
theorem xv{c:Expr}{t:TT}(h:PT X c t):K' X [c] t:=fun pins s σ H Q I hw=>wpAny_tests_one (h pins s σ H Q I hw)
def xw(own:List Str)(caps:List Nat)(g:TG)(tt:TT)(te:TE)(σ:St)(N:List V->Hp->Prop)(ys:List V)(x:V)(H':Hp):Prop:=
 g x (dz own caps σ) H' fun σ2 H2=>(∀ (j:Nat) (v:V),(dz own caps σ)[j]?=some (some v)->σ2[j]?=some (some v))/\tt σ2 H2 fun b H3=>if b=true then te σ2 H3 fun v H4=>ys.length<sizeLine/\N (ys++[v]) H4 else N ys H3
def xx(J:It)(own:List Str)(caps:List Nat)(g:TG)(tt:TT)(te:TE)(σ:St)(H1:Hp)(Q:VK):Prop:=
 ∃ W:Nat->Nat->List V->Hp->Prop,(∃ m,W 0 m [] H1)/\∀ i m ys H,W i m ys H->(J.stop i H/\∀ D,H D=none->Q (.ref D) (upd H D<|.lst ys))\/
  (J.go i H/\∃ N:List V->Hp->Prop,(∀ Pb H',N Pb H'->∃ m',m'<m/\W (i+1) m' Pb H')/\∀ x H',J.KW i H x H'->xw own caps g tt te σ N ys x H')
def jB(own:List Str)(caps:List Nat)(wi:TI)(g:HF->TG)(tt:HF->TT)(te:HF->TE):TE:=fun σ H Q=>wi σ H fun J H1=>∀ Y:HF,xx J own caps (g Y) (tt Y) (te Y) σ H1 Q
def lG(sc:Scope)(N:List Str)(scope:Scope)(caps:List Nat):Bool:=
 scope.kind == .function && scope.names.all (fun y=>y.2 != .cell) && scope.names.all (fun y=>y.2 != .free || sc.names.lookup y.1 == some .cell) && scope.names.all (fun y=>y.2 != .local || scope.names.lookup y.1 == some .local) &&
  caps.all (fun i=>match N[i]? with | some x=>scope.names.lookup x == some .free | none=>false)
theorem mem_of_lookup:∀ {l:List (Str×NameKind)}{x:Str}{k:NameKind},l.lookup x=some k->(x,k)∈l
 | [],_,_,h=>by simp at h
 | (n,k')::r,x,k,h=>by
  rw[Ze] at h;by_cases hx:x=n
  ·subst hx;rw[Yr] at h;cases h;exact Zb
  ·rw[show (x == n)=false by simpa using hx] at h;exact Zm _ (mem_of_lookup h)
theorem dg{X:Cx}(sc:Scope)(N:List Str)(h:lG sc N scope caps=true)(e:X.env.scope=sc:=by rfl)(eN:X.N=N:=by rfl):r_ X scope own caps:=by
 unfold lG at h;simp only[ZV,Zn,bne_iff_ne,ne_eq,Bool.or_eq_true,WG] at h;obtain⟨⟨⟨⟨h1,h2⟩,h3⟩,h4⟩,h5⟩:=h;refine⟨h1,h2,fun y hy hf=>?_,fun y hy hf=>?_,fun i hi=>?_⟩
 ·rw[e];exact (h3 y hy).resolve_left fun z=>z hf
 ·exact (h4 y hy).resolve_left fun z=>z hf
 ·have:=h5 i hi;rw[eN];cases q:N[i]? with
  | none=>rw[q] at this;cases this
  | some x=>
   rw[q] at this;have hl:scope.names.lookup x=some .free:=by simpa using this
   exact⟨x,rfl,mem_of_lookup hl,hl⟩
theorem oS{p2:Pos}{use:Option (Value->Sem Unit)}{Qp:Value->Shared->Prop}{Qv:VK}(hc:X.calm=true)(S:r_ X scope own caps)(hi:PI X tg iter wi)(hg:∀ Y,PG (X.FT (bL X own caps) scope Y) tg<|g Y)(ht:∀ Y,K' (X.FT (bL X own caps) scope Y) ifs<|tt Y)(he:∀ Y,PE (X.FT (bL X own caps) scope Y) elt<|te Y)(hs:∀ x,foldedSetIterable iter X.env x=pure x)(I:Inv X pins σ H s)(h:jB own caps wi g tt te σ H Qv)(HG:∀ (D C:Addr) (H4:Hp) (s4:Shared) (m:Str->Option Value),Inv X pins σ H4 s4->s4.heap.Ns C m->H4 C=none->X.env.locals≠C->(∀ x c,X.env.cells.lookup x=some c->c≠C)->X.s₀.heap.objs.size<=C->(∀ p∈X.pn++pins,p.1≠C)->Qv (.ref D) H4->compPost (model X.prog X.w) X.A X.xe use Qp (.ref D) C (.ok .next) s4):
  wpAny (model X.prog X.w) X.A (comprehension (.ListComp elt [⟨tg,iter,ifs,0⟩] scope pos) scope X.env p2 (newList []) false (eval iter X.env) use) Qp X.xe s:=by
 refine wpAny_comprehension_free (use:=use) rfl hs (xr<|S.cells I.ok) S.kind S.loc (B_ (hi pins s σ H _ I h) fun v s1 h1=>B_ h1 fun Np s2 h2=>?_);obtain⟨it,fp,tn,J,H2,e,I2,T,q_,f2,hW⟩:=h2;subst e;have FC:∀ b∈fp,b<s2.heap.objs.size:=fun b hb=>by
  obtain⟨o,e,_⟩:=T.obj _ _ q_ b hb;exact ZO e
 refine YA (wpAny_newFunctionEnv S.cell (by intro y hy;simp at hy) (fun h₁ FU Fj=>?_) S.kind);dsimp only at FU Fj ⊢;generalize NK:s2.heap.push { cls:=.type "list",dict:=none,data:=.seq ([]:List Value).toArray }=Hq at FU Fj ⊢;have hC:Hq.objs.size=s2.heap.objs.size+1:=by rw[<- NK,Xz]
 have JU:s2.heap.objs.size≠Hq.objs.size:=by rw[hC];exact Zx (Nat.lt_succ_self _)
 have JV:s2.heap.objs.size<=Hq.objs.size:=by rw[hC];exact Nat.le_succ _
 have old:∀ b o,s2.heap.get? b=some o->h₁.get? b=some o:=fun b o e=>
  Fj.extBut b o (by rw[hC];exact Zx (Nat.lt_succ_of_lt<|ZO e)) (Z2 _<|NK ▸ Z2 _ e);have Gd:h₁.get? s2.heap.objs.size=some { cls:=.type "list",data:=.seq ([]:List Value).toArray 0 }:=Fj.extBut _ _ JU (Z2 _<|NK ▸ ZE _ rfl);generalize Sh:Hq.objs.size=C at FU Fj hC JU JV ⊢;generalize JW:s2.heap.objs.size=D at Gd hC JU JV ⊢;have K_:s2.heap.objs.size<=C:=by rw[JW];exact JV
 obtain⟨W,⟨m0,w0⟩,turn⟩:=hW ⟨C,s2,H2,fp⟩;have Pc:=fun (tk:Nat)=>xt (tk:=tk) S I2 K_ f2 FC old FU;have Pd:=hg ⟨C,s2,H2,fp⟩;have Pe:=ht ⟨C,s2,H2,fp⟩;have Pf:=he ⟨C,s2,H2,fp⟩;have HE:=oQ S I2 K_ f2 FC;generalize ES:X.FT (bL X own caps) scope ⟨C,s2,H2,fp⟩=X' at Pc Pd Pe Pf HE;have eP:X'.prog=X.prog:=by rw[<- ES];rfl
 have ew:X'.w=X.w:=by rw[<- ES];rfl
 have eK:X'.K=X.K:=by rw[<- ES];rfl
 have eA:X'.A=X.A:=by rw[<- ES];rfl
 have ec:X'.calm=true:=by rw[<- ES];exact hc
 have eL:X'.env.locals=C:=by rw[<- ES];rfl
 have NL:X'.ex=fp:=by rw[<- ES];rfl
 have ML:X'.s₀=s2:=by rw[<- ES];rfl
 have Qd:X'.H₀=H2:=by rw[<- ES];rfl
 have Qe:X'.fs=DL X.stack:=by rw[<- ES];rfl
 have MM:X'.pn=[]:=by rw[<- ES];rfl
 have NM:X'.xe=fun _ _=>False:=by rw[<- ES];rfl
 have Ld:X'.env=compEnvC scope (fG X.env scope.names) C X.env:=by rw[<- ES];rfl
 have Jf:∀ x c,X'.env.cells.lookup x=some c->X.env.cells.lookup x=some c:=fun x c h=>(S.sub I2.ok (by rw[Ld] at h;exact h)).1;have nD:∀ x c,X'.env.cells.lookup x=some c->c≠D:=fun x c h z=>by
  obtain⟨v,o,ho,_⟩:=I2.cell x c (Jf x c h);have:=ZO ho;rw[z,<- JW] at this;exact Yt _ this
 have NN:∀ b∈fp,b≠D:=fun b hb z=>by
  have:=FC b hb;rw[z,<- JW] at this;exact Yt _ this
 have Qf:D∉X'.fs:=fun z=>by
  obtain⟨_,o,ho,_⟩:=HE.DT.mem z;rw[ML] at ho;have:=ZO ho;rw[JW] at this;exact Yt _ this
 have NO:∀ (H':Hp) (o:Obj),(∀ b∈fp,H' b=none)->∀ b∈fp,dy X' [(D,o)] H' b:=fun H' o hn b hb=>by
  refine⟨hn b hb,?_,?_,.inl (by rw[NL];exact hb),fun x c h=>(f2 b hb).2.2.2.2.1 x c (Jf x c h),fun p hp=>?_⟩
  ·rw[eL];exact Zx (Zy (FC b hb) K_)
  ·exact HE.Fe b (by rw[NL];exact hb)
  ·rw[MM] at hp;have:p=(D,o):=by simpa using hp
   rw[this];exact Yv (NN b hb)
 have loop:∀ s₃:Shared,s₃={ s2 with heap:=h₁,toks:=s2.toks+([]:List (Str×Value)).length }->
   codeAny (model X.prog X.w) X.A (.compLoop (.ListComp elt [⟨tg,iter,ifs,0⟩] scope pos) 0 (.ref it) (.ref D) X'.env)
    (compPost (model X.prog X.w) X.A X.xe use Qp (.ref D) C) s₃:=by
  rintro s₃ rfl;refine xq (fun n s'=>∃ (i:Nat) (ys:List V) (H':Hp) (f_:List Value) (k:Nat),Inv X' [(D,{ cls:=.type "list",data:=.seq f_.toArray k })] (dz own caps σ) H' s'/\az ys f_/\ys.length<=sizeLine/\tn i s'.heap/\
   (∀ b∈fp,H' b=none)/\W i n ys H') ?_ m0 ?_
  ·rintro n s3 ⟨i,ys,H3,f_,k,I3,rv,hz,Fh,KZ,w3⟩;rcases turn i n ys H3 w3 with ⟨stop,qn⟩ | ⟨go,N,hN,step⟩
   ·have:=T.done X' eP ew eK ec i _ s3 _ H3 (fun _ _=>False) I3 (NO H3 _ KZ) Fh stop;rw[eA] at this;refine B_ this fun r s4 ⟨hr,I4⟩=>?_;subst hr;obtain⟨m,hn,_⟩:=I4.loc;have Qg:s4.heap.Ns C m:=by rw[<- eL];exact hn
    have hp:=I4.pin (D,{ cls:=.type "list",data:=.seq f_.toArray k }) (by rw[MM];simp);have Kx:H3 D=none:=hp.2.1;have kp:∀ b,b≠C->s4.heap.get? b=s4.heap.get? b:=fun b hb=>rfl;have nC:∀ b o,s2.heap.get? b=some o->b≠C:=fun b o e=>Zx (Zy (ZO e) K_);have Qh:∀ b o,s2.heap.get? b=some o->b≠D:=fun b o e=>by rw[<- JW];exact Zx (ZO e)
    have ub:Un (DL X.stack) fp H2 H3 s2.heap s4.heap:=by
     have:=I4.base;rw[Qe,NL,Qd,ML] at this;exact this
    have u:Un (DL X.stack) fp H2 (upd H3 D<|.lst ys) s2.heap s4.heap:=
     ⟨fun b o e n hb hx=>(kp b<|nC b o e).trans<|ub.keep b o e n hb hx,
      fun b o e n hb hx=>by
      obtain⟨sl,q⟩:=ub.slot b o e n hb hx;exact⟨sl,(kp b<|nC b o e).trans q⟩,
      fun b o e n hx=>by rw[aE (Qh b o e)];exact ub.free b o e n hx,
      fun b o e hx=>by
      obtain⟨o',q⟩:=ub.there b o e hx;exact⟨o',(kp b<|nC b o e).trans q⟩,
      fun b xs e=>by rw[aE (ce (ub.Ee b xs e) Kx)];exact ub.Ee b xs e,
      fun b o xs e=>by rw[aE (ce (ub.D_ b o xs e) Kx)];exact ub.D_ b o xs e,
      fun b ps e=>by
      obtain⟨more,q⟩:=ub.Et b ps e;exact⟨more,by rw[aE (ce q Kx)];exact q⟩⟩
    have Le:∀ b o,H3 b=some o->b≠C:=fun b o e z=>by
     have:=I4.free;rw[eL,<- z,e] at this;cases this
    have hk:DV X.prog X.w (upd H3 D<|.lst ys) s4.heap:=fun a o e=>by
     by_cases ha:a=D
     ·subst ha;rw[bp] at e;cases e;exact⟨hz,f_,k,rv,(kp _ JU).trans hp.1⟩
     ·rw[aE ha] at e;have:=I4.m_ a o e;rw[eP,ew] at this;refine this.EI (fun b u hb q=>(kp b ?_).trans q) (fun b q=>by rw[aE (ce q Kx)];exact q) fun b xs q=>by rw[aE (ce q Kx)];exact q
      rcases hb with z | z
      ·rw[z];exact Le a o e
      ·exact Le b _ z
    have Qi:Inv X pins σ (upd H3 D<|.lst ys) s4:=I2.Jb (s':=s4) (ch:=fp) (by have:=I4.os;rw[ML] at this;exact this) u hk I4.bare fun b hb=>⟨(f2 b hb).2.2.2.1,(f2 b hb).2.1,(f2 b hb).2.2.2.2.1,(f2 b hb).2.2.2.2.2⟩;have MN:X.env.locals≠C:=by
     obtain⟨m2,K8,_⟩:=I2.loc;obtain⟨o,_,_,ho,_⟩:=K8;exact nC _ _ ho
    have MO:∀ x c,X.env.cells.lookup x=some c->c≠C:=fun x c h=>by
     obtain⟨v,o,ho,_⟩:=I2.cell x c h;exact nC _ _ ho
    refine HG D C _ s4 m Qi Qg ?_ MN MO ?_ (fun p hp=>nC _ _ (I2.pin p hp).1) (qn D Kx)
    ·rw[aE (Yv JU)];have:=I4.free
     rwa [eL] at this
    ·exact Zo I2.sz K_
   ·have:=T.item X' eP ew eK ec i _ s3 _ H3 (fun _ _=>False) I3 (NO H3 _ KZ) Fh go;rw[eA] at this;refine B_ this fun r s4 ⟨u,hr,h4⟩=>?_;subst hr;refine B_ h4 fun _ s5 ⟨x,H5,I5,r5,y5,E8,Nq⟩=>?_;have Nr:=I5.pinned (NO H5 _ Nq) (T.obj _ _ E8);have a6:=Pd _ s5 _ H5 x u _ Nr r5 (step x H5 y5);rw[eP,ew,eA,NM] at a6;refine B_ a6 fun _ s6 ⟨σ6,H6,I6,JX,q6⟩=>?_;have a7:=Pe _ s6 σ6 H6 _ I6 q6;rw[eP,ew,eA,NM] at a7;refine B_ a7 fun b s7 ⟨H7,I7,q7⟩=>?_;have Jg:∀ {σ':St}{H':Hp}{s':Shared},Inv X' ([(D,{ cls:=.type "list",data:=.seq f_.toArray k })]++eu fp s5.heap) σ' H' s'->(∀ b∈fp,H' b=none)/\tn (i+1) s'.heap:=fun {σ' H' s'} I'=>by
     refine⟨fun b hb=>?_,T.keep _ _ _ E8 fun b hb o e=>(I'.pin (b,o)<|ZN _<|ZN _<|jt hb e).1⟩;obtain⟨o,e,_⟩:=T.obj _ _ E8 b hb;exact (I'.pin (b,o)<|ZN _<|ZN _<|jt hb e).2.1
    have wk:∀ {FH:List (Addr×Obj)}{H':Hp}{s':Shared},Inv X' FH σ6 H' s'->Inv X' FH (dz own caps σ) H' s':=fun {FH H' s'} I'=>
     I'.weak (by rw[I'.len,I3.len]) JX;cases b with
    | false=>
     rw[ZW ZK] at q7;obtain⟨m',hm,w7⟩:=hN _ _ q7;rw[ZW ZK];obtain⟨k1,k2⟩:=Jg I7;exact⟨m',hm,i+1,ys,H7,f_,k,wk (I7.Ep fun p hp=>I7.pin p (by
      rw[MM];simp at hp ⊢;exact .inl hp)),rv,hz,k2,k1,w7⟩
    | true=>
     rw[ZZ rfl] at q7 ⊢;have a8:=Pf _ s7 σ6 H7 _ I7 q7;rw[eP,ew,eA,NM] at a8;refine B_ a8 fun uv s8 ⟨v8,H8,I8,r8,Si,n8⟩=>?_;obtain⟨m',hm,w8⟩:=hN _ _ n8;have hp:=I8.pin (D,{ cls:=.type "list",data:=.seq f_.toArray k }) (ZN _ (ZJ _ (by simp)));have eD:=hp.1;refine Xf F.slot_list_append ⟨_,eD,rfl⟩ F.entry_list_append (F.args_list_append_2 _ _) (PySem.list_append D f_.toArray k uv (by rw[ZS,<- rv.length];lia)) ⟨eD,?_⟩;have q:=PySem.IsL.update eD (fun a=>a.push uv);obtain⟨k1,k2⟩:=Jg I8;have Qj:Inv X' (eu fp s5.heap) σ6 H8 s8:=I8.Ep fun p hp=>I8.pin p (ZN _<|ZN _ hp);have Pg:∀ b o,b≠D->s8.heap.get? b=some o->(s8.heap.update D<|Obj.mapSeq fun a=>a.push uv).get? b=some o:=fun b o hb e=>(Yu s8.heap _<|Yv hb).trans e;have I9:Inv X' (eu fp s5.heap) σ6 H8 { s8 with heap:=s8.heap.update D (Obj.mapSeq fun a=>a.push uv),toks:=s8.toks }:=
      Qj.turned (it:=D) Pg hp.2.1 (by rw[eL];exact JU) (.inr (by rw[ML,JW];exact ZR _)) nD fun p IG=>by
       rw[MM] at IG;obtain⟨hb,_⟩:=og (show p∈eu fp s5.heap by simpa using IG);exact NN _ hb
     refine⟨m',hm,i+1,ys++[v8],H8,f_++[uv],k+1,wk<|I9.Ep fun p IG=>?_,rv.append<|.cons r8 .nil,?_,?_,k1,w8⟩
     ·have e:p=(D,{ cls:=.type "list",data:=.seq (f_++[uv]).toArray (k+1) }):=by simpa using IG
      subst e;refine⟨?_,hp.2.1,hp.2.2.1,hp.2.2.2.1,fun v z=>by cases z⟩;have e2:f_.toArray.push uv=(f_++[uv]).toArray:=by simp
      rw[<- e2];have q':IsL (s8.heap.update D<|Obj.mapSeq fun a=>a.push uv) D (f_.toArray.push uv) (if (f_.toArray.push uv).size == f_.toArray.size then k else k+1):=q;rw[ZW (by simp)] at q';exact q'
     ·rw[ZH,Y9];lia
     ·refine T.keep _ _ _ k2 fun b hb o e=>Pg b o (NN b hb) e
  ·refine⟨0,[],H2,[],0,?_,.nil,Ys _,T.keep _ _ _ q_ fun b _ o e=>old b o e,fun b hb=>(f2 b hb).1,w0⟩;refine (Pc _).Ep fun p hp=>?_;have e:p=(D,{ cls:=.type "list",data:=.seq ([]:List Value).toArray 0 }):=by simpa using hp
   subst e;exact⟨Gd,I2.m_.fresh (by rw[JW];exact ZR _),by rw[eL];exact JU,Qf,fun v z=>by cases z⟩
 have Lf:compEnvC scope (fG X.env scope.names) C X.env=X'.env:=Ld.symm;show codeAny (model X.prog X.w) X.A (.compStart _ 0 (.ref it) (.ref D)<|compEnvC scope (fG X.env scope.names) C X.env) _ _;rw[Lf];exact codeAny_compStart_list (loop _ rfl) (T.self X.A 0 _ _ _ (T.keep _ _ _ q_ fun b _ o e=>old b o e)<|loop _ rfl)
theorem xy(hc:X.calm=true)(S:r_ X scope own caps)(hi:PI X tg iter wi)(hg:∀ Y,PG (X.FT (bL X own caps) scope Y) tg<|g Y)(ht:∀ Y,K' (X.FT (bL X own caps) scope Y) ifs<|tt Y)(he:∀ Y,PE (X.FT (bL X own caps) scope Y) elt<|te Y)(hs:∀ x,foldedSetIterable iter X.env x=pure x:=by intro _;rfl):PE X (.ListComp elt [⟨tg,iter,ifs,0⟩] scope pos) (jB own caps wi g tt te):=by
 intro pins s σ H Q I h;show wpAny _ X.A (comprehension (.ListComp elt [⟨tg,iter,ifs,0⟩] scope pos) scope X.env _ (newList []) false (eval iter X.env) none) _ _ s;refine oS (use:=none) (Qp:=EP X pins σ Q) hc S hi hg ht he hs I h fun D C H4 s4 m I4 hn f l c z p q=>?_;show ∃ m,s4.heap.Ns C m/\∀ h',Heap.SameBut C s4.heap h'->EP X pins σ Q (.ref D) { s4 with heap:=h' };refine⟨m,hn,fun h' sb=>⟨.ref D,H4,?_,rfl,q⟩⟩;exact I4.turned (it:=C) (t':=s4.toks) (fun b o hb e=>(sb.2 b hb).trans e) f (Yv l) (.inr z) c p
end
def G'(h:Heap)(d:Addr)(ks:List Value)(ep:Nat):Prop:=∃ o es,h.get? d=some o/\o.ExactDict/\o.data=.dict es ep/\es.toList.map (·.key)=ks
theorem G'.ty(x:G' s.heap d ks ep):s.TypeIs (.ref d) "dict" := let ⟨o,_,e,c,_⟩:=x;⟨o,e,c.1⟩
theorem G'.lt(x:G' h d ks ep):d<h.objs.size:=let ⟨_,_,e,_⟩:=x;ZO e
theorem G'.go{h':Heap}(x:G' h d ks ep)(k:∀ o,h.get? d=some o->h'.get? d=some o):G' h' d ks ep:=let ⟨o,es,e,r⟩:=x;⟨o,es,k o e,r⟩
section
variable{prog:Program}{w:World}{A:Around}{E:Value->Shared->Prop}{s:Shared}
theorem xz{Q:Value->Shared->Prop}(lo:(d == sysModules)=false)(x:G' s.heap d ks ep)(q:Q (.ref s.heap.objs.size) { s with heap:=s.heap.push { cls:=.type "dict_keyiterator",data:=.fields #[.ref d,.int 0 0,.int ks.length 0,.int ep 0] } }):wpAny (model prog w) A (pyIter<|.ref d) Q E s:=by
 have ty:=x.ty;obtain⟨o,es,e1,e2,e3,e4⟩:=x;have n:es.size=ks.length:=by rw[<- e4,Z4,Zw]
 refine wpAny_pyIter_slot ty F.slot_dict_iter (Y2 F.slot_dict_iter ty F.entry_dict_iter ?z<|F.args_dict_iter_1 _)
 case z=>
  unfold Builtin.«dict.__iter__» Builtin.Dict.dictSlotNone;refine Z9 (Z9<|Xm ty ?_);show wpAny _ _ (pure<|Value.ref d) _ _ s;apply ZU;show wpAny _ _ (Builtin.Dict.showsAll d >>= _) _ _ s;unfold Builtin.Dict.showsAll;rw[ZW (by rw[lo];simp)];refine Z9 (ZU<|Z9<|YJ e1 e3<|Z9<|XM e1 e3<|Z9<|YA<|ZU ⟨_,rfl,"dict_keyiterator",_,⟨_,ZE _ rfl,rfl⟩,YS.lookup,?_⟩);simpa [rawInt,n] using q
theorem xA{v:Value}(hit:s.heap.IsKeyIter it d i ks.length ep)(x:G' s.heap d ks ep)(hv:ks[i]?=some v)(q:∀ h',h'.IsKeyIter it d (i+1) ks.length ep->Heap.SameBut it s.heap h'->Q (some v) { s with heap:=h' }):wpAny (model prog w) A (pyNext<|.ref it) Q E s:=by
 obtain⟨oi,f1,f2,f3⟩:=id hit;obtain⟨o,es,e1,e2,e3,e4⟩:=x;have n:es.size=ks.length:=by rw[<- e4,Z4,Zw]
 have hi:i<es.size:=by
  have:i<ks.length:=(Zz.mp hv).1;lia
 have ek:es[i].key=v:=by
  rw[<- e4,Zq,Zt,Wy hi] at hv;exact Zv hv
 unfold pyNext;refine Z9 (W3<|YQ (name:=Str.ofString "__next__") hit.typeIs YS<|Y2 YS hit.typeIs W1 ?z<|Xe _)
 case z=>
  refine Z9 (ZU<|Z9<|Z9 ?_);refine Z9 (YE hit.typeIs<|ZU<|Z9<|wpAny_fieldsOf f1 f3 ?_);simp only[show Builtin.Dict_items.ownsTuple "dict_keyiterator" = false by decide,Zc,X6];show wpAny _ _ (if (Value.ref d == Value.none)=true then _ else _) _ _ s;rw[ZW (show ¬ (Value.ref d == Value.none)=true by intro z;cases z)];refine Z9 (ZU<|Z9<|YJ e1 e3 ?_);rw[ZW (by simp[n])];refine Z9 (ZU<|Z9<|XM e1 e3 ?_);rw[ZW (by simp)];apply ZU;simp only[show ¬ ((i:Int)<0) by lia,X6,Xy,Wy hi];refine Z9 (Z9<|YE hit.typeIs<|ZU<|Z9<|wpAny_isOneOf_keyiter hit.typeIs ?_);show wpAny _ _ (setField (.ref it) 1 (rawInt<|(i:Int)+1) >>= _) _ _ s;have Lj:(s.heap.update it (Obj.mapFields (·.setIfInBounds 1 (rawInt<|(i:Int)+1)))).IsKeyIter it d (i+1) ks.length ep:=
   ⟨_,YG _ f1<|Obj.isFreed_of_fields<|XL f3 _,(Obj.cls_mapFields ..).trans f2,by rw[XL f3];simp[rawInt]⟩;refine Z9 (WF f1 f3 (by simp) (Z9 (YM (Z9 (wpAny_isOneOf_keyiter (s:={ s with heap:=s.heap.update it (Obj.mapFields (·.setIfInBounds 1 (rawInt<|(i:Int)+1))) }) Lj.typeIs ?_)))));show wpAny _ _ (pure es[i].key) _ _ _;rw[ek];exact ZU (ZU ⟨_,rfl,ZU<|q _ Lj<|Zh ..⟩)
theorem xB(hh:A.handled=none)(hit:s.heap.IsKeyIter it d i ks.length ep)(x:G' s.heap d ks ep)(hv:ks.length<=i)(q:∀ h',Heap.ExtBut it s.heap h'->Q none { s with heap:=h' }):wpAny (model prog w) A (pyNext<|.ref it) Q E s:=by
 obtain⟨oi,f1,f2,f3⟩:=id hit;obtain⟨o,es,e1,e2,e3,e4⟩:=x;have n:es.size=ks.length:=by rw[<- e4,Z4,Zw]
 unfold pyNext;refine Z9 (W3<|YQ (name:=Str.ofString "__next__") hit.typeIs YS<|Y2 YS hit.typeIs W1 ?z<|Xe _)
 case z=>
  refine Z9 (ZU<|Z9<|Z9 ?_);refine Z9 (YE hit.typeIs<|ZU<|Z9<|wpAny_fieldsOf f1 f3 ?_);simp only[show Builtin.Dict_items.ownsTuple "dict_keyiterator" = false by decide,Zc,X6];show wpAny _ _ (if (Value.ref d == Value.none)=true then _ else _) _ _ s;rw[ZW (show ¬ (Value.ref d == Value.none)=true by intro z;cases z)];refine Z9 (ZU<|Z9<|YJ e1 e3 ?_);rw[ZW (by simp[n])];refine Z9 (ZU<|Z9<|XM e1 e3 ?_);rw[ZW (by simp)];apply ZU;simp only[show ¬ ((i:Int)<0) by lia,X6,Xy,Array.getElem?_eq_none (show es.size<=i by lia)];refine Z9 (Z9<|YE hit.typeIs<|ZU ?_);show wpAny _ _ (setField (.ref it) 0 .none >>= _) _ _ s;refine Z9 (WF f1 f3 (by simp) ?_);show wpAny _ _ (newExc (.type "StopIteration") [] >>= _) _ _ _;apply Z9;simp only[newExc,newTuple];refine Z9 (YA (Z9 (m:=firstArgMember _ _) (wpAny_of_eq (a:=Value.none) (by first | rfl | (simp only[firstArgMember];rfl)) (YA ?_ (by size_fits)))) (by size_fits));simp only[raiseNew];apply Z9;apply wpAny_handled;rw[show A.in1.handled=none from hh];refine Z9 (m:=pure _) (ZU<|wpAny_throw ?_);apply Z9;refine Xh (T := "StopIteration") (b:=true) ⟨_,ZE _ rfl,rfl⟩ isSubtype_stop ?_;exact ZU (q _<|((Zh ..).extBut.push _).push _)
theorem xC(hh:A.handled=none)(it d:Addr)(ne:d≠it)(ks:List Value)(ep:Nat):Walks prog w A it [it,d] [it] ks.length (fun i v=>ks[i]?=some v) (fun i h=>h.IsKeyIter it d i ks.length ep/\G' h d ks ep) where
 sub:=fun b hb=>by
  have:b=it:=by simpa using hb
  simp[this]
 frame:=fun i h h' st k=>⟨let ⟨o,e,r⟩:=st.1;⟨o,k it (by simp) o e,r⟩,st.2.go (k d (by simp))⟩
 item:=fun i s Q E hi st hQ=>by
  have hv:ks[i]?=some ks[i]:=by simp[hi]
  refine xA st.1 st.2 hv fun h' a b=>hQ _ h' s.toks hv ⟨a,st.2.go fun o e=>b.extBut d o ne e⟩ fun c o hc e=>b.extBut c o (by simpa using hc) e
 done:=fun s Q E st hQ=>xB hh st.1 st.2 (ZR _) fun h' b=>hQ h' s.toks fun c o hc e=>b c o (by simpa using hc) e
 self:=fun i s Q E st hQ=>wpAny_pyIter_keyiter st.1 hQ
theorem xE(lo:(d == sysModules)=false):PySem.W.KdlSrc prog w "dict" d d ks.length (fun i v=>ks[i]?=some v) (fun h=>G' h d ks ep) where
 type:=fun s x=>x.ty
 there:=fun h x=>⟨x.lt,x.lt⟩
 keep:=fun h h' x k=>x.go (k d<|.inl rfl)
 notList:=by decide
 notTuple:=by decide
 hint:=fun A E s Q x q=>PySem.W.kdl_hint_dict x.ty q
 iter:=fun A s hh x=>⟨_,_,(fun E Q q=>xz lo x q),xC hh _ d (Zx x.lt) ks ep,⟨⟨_,ZE _ rfl,rfl,rfl⟩,x.go fun o e=>Z2 _ e⟩⟩
end
end L2
namespace L2
open PySem PySem.Spec PyProof.Rows PySem.W
section
variable{n:Nat}{key:Nat->Int}{cmp:Nat->Nat->(Bool->Shared->Prop)->Shared->Prop}
def z_(key:Nat->Int)(p:Array Nat)(i:Nat):Int:=key (p.getD i 0)
def Up(key:Nat->Int)(p:Array Nat)(m:Nat):Prop:=∀ i j,i<=j->j<m->z_ key p i<=z_ key p j
def cj(n:Nat)(key:Nat->Int)(cmp:Nat->Nat->(Bool->Shared->Prop)->Shared->Prop)(s:Shared):Prop:=∀ i j C,i<n->j<n->C (decide (key i<key j)) s->cmp i j C s
def Rg(n:Nat)(p:Array Nat):Prop:=p.toList.Perm (range n)
variable{p:Array Nat}
theorem Rg.size(h:Rg n p):p.size=n:=by
 have:=h.length_eq;simpa using this
theorem Rg.lt(h:Rg n p){i:Nat}(hi:i<n):p.getD i 0<n:=by
 have hs:=h.size;have e:p.getD i 0=p[i]:=by simp[Array.getD,hs,hi]
 rw[e];have:p[i]∈p.toList:=by simp
 exact Zp.mp (h.mem_iff.mp this)
theorem Rg.ne(h:Rg n p)(inj:∀ i j,i<n->j<n->key i=key j->i=j){i j:Nat}(Ff:i<j)(hj:j<n):z_ key p i≠z_ key p j:=by
 intro e;have hs:=h.size;have e':=inj _ _ (h.lt (by lia)) (h.lt hj) e;have e1:p.getD i 0=p[i]:=by simp[Array.getD,hs,show i<n by lia]
 have e2:p.getD j 0=p[j]:=by simp[Array.getD,hs,hj]
 rw[e1,e2] at e';have nd:p.toList.Nodup:=h.nodup_iff.mpr List.nodup_range;have e3:p.toList[i]'(by simpa [hs] using (show i<n by lia))=p.toList[j]'(by simpa [hs] using hj):=by simpa using e'
 have:=(Xg nd).mp e3;lia
theorem gq{q:Array Nat}{i j:Nat}(e:p[i]?=q[j]?):z_ key p i=z_ key q j:=by
 unfold z_;rw[WL,WL,e]
theorem Rg.rev(h:Rg n p)(i j:Nat):Rg n (kas_rev p i j):=(WE.mp<|mirror_perm p i j _).trans h
theorem Rg.Qk(h:Rg n p)(i j:Nat):Rg n (bubble p i j):=(WE.mp<|bubble_perm p i j).trans h
end
section
variable{prog:Program}{w:World}{A:Around}{E:Value->Shared->Prop}{κ:SortKind}{it:Array Keyed}{key:Nat->Int}
end
section
variable{prog:Program}{w:World}{A:Around}{E:Value->Shared->Prop}{κ:SortKind}{it:Array Keyed}{key:Nat->Int}{n:Nat}{s:Shared}
def jC:Bool->Keyed->Array Keyed->Nat->Nat->Nat->StateT SortSt Sem (Option Nat):=sortPriv% PySem.Builtin.gallop
theorem io(hc:cj n key (kas_cmp prog w A κ it) s){i j:Nat}(hi:i<n)(hj:j<n){st:SortSt}(hk:kindOf st=κ){Q:Option Bool->SortSt->Shared->Prop}(h:Q (some<|decide (key i<key j)) st s):
  kasC (model prog w) A E (lt' (kas_item it i)<|kas_item it j) Q st s:=by
 rw[lt'_eq];apply Z1;apply X4;have:=hc i j (fun c s'=>s'=s/\c=decide (key i<key j)) hi hj ⟨rfl,rfl⟩;unfold kas_cmp at this;rw[hk];refine Z1 (WK<|W3<|Y3 this (fun c s' Ql=>?_) fun _ _ hF=>hF.elim);obtain⟨rfl,rfl⟩:=Ql;exact Z3 h
theorem bM{σ β:Type}{M:Model}{f:Nat->β->StateT σ Sem (ForInStep β)}{Q:β->σ->Shared->Prop}(I:Nat->β->σ->Shared->Prop)(step:∀ x c st s',I x c st s'->kasC M A E (f x c) (fun r q_ s2=>match r with | .yield c'=>I (x+1) c' q_ s2 | .done c'=>Q c' q_ s2) st s'):∀ (m a:Nat) (c:β) (st:σ) (s':Shared),(∀ c st s',I (a+m) c st s'->Q c st s')->I a c st s'->
   kasC M A E (forIn (range' a m) c f) Q st s'
 | 0,a,c,st,s',fin,h=>by
  show kasC M A E (forIn ([]:List Nat) c f) Q st s';exact kasC_nil (fin c st s' h)
 | m+1,a,c,st,s',fin,h=>by
  show kasC M A E (forIn (a::range' (a+1) m) c f) Q st s';refine kasC_cons (Y3 (step a c st s' h) (fun r s2 h'=>?_) fun _ _ e=>e);obtain⟨r,q_⟩:=r;cases r with
  | done c'=>exact h'
  | yield c'=>exact bM I step m (a+1) c' q_ s2 (fun c st s' hi=>fin c st s' (by rw[show a+(m+1)=a+1+m by lia];exact hi)) h'
def DJ(key:Nat->Int)(left:Bool)(k:Nat)(pa:Array Nat)(base i:Nat):Bool:=if left=true then decide (key (pa.getD (base+i) 0)<key k) else !decide (key k<key (pa.getD (base+i) 0))
theorem oU(hc:cj n key (kas_cmp prog w A κ it) s){left:Bool}{k:Nat}(hk:k<n){pa:Array Nat}(Qm:∀ i,i<pa.size->pa.getD i 0<n){base m hint:Nat}(hb:base+m<=pa.size)(hh:hint<m)(mono:∀ i j,i<=j->j<m->DJ key left k pa base j=true->DJ key left k pa base i=true){st:SortSt}(s_:kindOf st=κ){Q:Option Nat->SortSt->Shared->Prop}(h:∀ r,r<=m->(∀ i,i<r->DJ key left k pa base i=true)->(∀ i,r<=i->i<m->DJ key left k pa base i=false)->Q (some r) st s):
  kasC (model prog w) A E (jC left (kas_item it k) (pa.map<|kas_item it) base m hint) Q st s:=by
 have el:∀ i,i<m->(pa.map<|kas_item it)[base+i]?=some (kas_item it<|pa.getD (base+i) 0):=fun i hi=>by
  have:base+i<pa.size:=by lia
  simp[Array.getD,this]
 have ask:∀ i,i<m->∀ Q':Option Bool->SortSt->Shared->Prop,Q' (some<|DJ key left k pa base i) st s->
   kasC (model prog w) A E (do let x <- elem' (pa.map<|kas_item it) (base+i);if left=true then lt' x (kas_item it k) else do let r <- lt' (kas_item it k) x;pure (r.map fun x=>!x)) Q' st s:=fun i hi Q' hq=>by
  rw[elem'_eq,el i hi];apply Z1;apply Z3;have hx:=Qm (base+i) (by lia);unfold DJ at hq;cases left with
  | true=>
   rw[ZZ rfl] at hq ⊢;exact io hc hx hk s_ hq
  | false=>
   rw[ZW ZK] at hq ⊢;exact Z1 (io hc hk hx s_<|Z3 hq)
 unfold jC;with_unfolding_all refine Z1 ?_;refine ask hint hh _ ?_;dsimp only;cases Ph:DJ key left k pa base hint with
 | true=>
  rw[ZZ rfl];apply Z1;apply Za;have JY:∀ last DQ,last<DQ->hint+last<m->DJ key left k pa base (hint+last)=true->(DQ >= m - hint\/DJ key left k pa base (hint+DQ)=false)->
    hint+last+1<=hint+min DQ (m - hint)/\hint+min DQ (m - hint)<=m/\(∀ i,i<hint+last+1->DJ key left k pa base i=true)/\(∀ i,hint+min DQ (m - hint)<=i->i<m->DJ key left k pa base i=false)/\hint+min DQ (m - hint) - (hint+last+1)<=m - 0:=fun last DQ a1 a2 a3 a4=>by
   refine⟨by lia,by lia,fun i hi=>mono i (hint+last) (by lia) a2 a3,fun i h1 h2=>?_,by lia⟩;rcases a4 with a4 | a4
   ·lia
   ·cases EO:DJ key left k pa base i with
    | false=>rfl
    | true=>rw[mono (hint+DQ) i (by lia) h2 EO] at a4;cases a4
  refine bM (fun x c e_ s'=>e_=st/\s'=s/\∃ last DQ,c=(none,last,DQ)/\last<DQ/\x<DQ/\hint+last<m/\DJ key left k pa base (hint+last)=true) ?_ _ 0 _ _ _ ?_ ⟨rfl,rfl,0,1,rfl,by lia,by lia,by lia,Ph⟩
  ·rintro x c e_ s' ⟨e1,e2,last,DQ,rfl,h1,h2,h3,h4⟩;rw[e1,e2];dsimp only;by_cases ho:DQ >= m - hint
   ·rw[ZZ ho];apply Z3;dsimp only;have LH:=JY last DQ h1 h3 h4 (.inl ho);apply Z1;apply Za;refine bM (fun x c e_ s'=>e_=st/\s'=s/\∃ lo hi,c=(none,lo,hi)/\lo<=hi/\hi<=m/\(∀ i,i<lo->DJ key left k pa base i=true)/\(∀ i,hi<=i->i<m->DJ key left k pa base i=false)/\hi - lo<=m - x) ?_ _ 0 _ _ _ ?_ ⟨rfl,rfl,_,_,rfl,LH⟩
    ·rintro x c e_ s' ⟨e1,e2,lo,hi,rfl,h1,h2,h3,h4,h5⟩;rw[e1,e2];dsimp only;by_cases Ge:lo >= hi
     ·rw[ZZ Ge];apply Z3;dsimp only;have e:lo=hi:=by lia
      subst e;exact Z3 (h lo h2 h3 h4)
     ·rw[ZW Ge];have m1:lo<=lo+(hi - lo) / 2:=by lia
      have m2:lo+(hi - lo) / 2<hi:=by lia
      generalize lo+(hi - lo) / 2=mid at m1 m2 ⊢;refine Z1 (ask mid (by lia) _ ?_);dsimp only;cases hB:DJ key left k pa base mid with
      | true=>
       rw[ZZ rfl];exact Z3 ⟨rfl,rfl,mid+1,hi,rfl,by lia,h2,fun i G_=>mono i mid (by lia) (by lia) hB,h4,by lia⟩
      | false=>
       rw[ZW ZK];refine Z3 ⟨rfl,rfl,lo,mid,rfl,by lia,by lia,h3,fun i a b=>?_,by lia⟩;cases EO:DJ key left k pa base i with
       | false=>rfl
       | true=>rw[mono mid i a b EO] at hB;cases hB
    ·rintro c e_ s' ⟨e1,e2,lo,hi,rfl,h1,h2,h3,h4,h5⟩;rw[e1,e2];dsimp only;have e:lo=hi:=by lia
     subst e;exact Z3 (h lo h2 h3 h4)
   ·rw[ZW ho];refine Z1 (ask (hint+DQ) (by lia) _ ?_);dsimp only;cases hB:DJ key left k pa base (hint+DQ) with
    | true=>
     simp only[W4,Zc,X6];exact Z3 ⟨rfl,rfl,DQ,2 * DQ+1,rfl,by lia,by lia,by lia,hB⟩
    | false=>
     simp only[Bool.not_false,Wx];apply Z3;dsimp only;have LH:=JY last DQ h1 h3 h4 (.inr hB);apply Z1;apply Za;refine bM (fun x c e_ s'=>e_=st/\s'=s/\∃ lo hi,c=(none,lo,hi)/\lo<=hi/\hi<=m/\(∀ i,i<lo->DJ key left k pa base i=true)/\(∀ i,hi<=i->i<m->DJ key left k pa base i=false)/\hi - lo<=m - x) ?_ _ 0 _ _ _ ?_ ⟨rfl,rfl,_,_,rfl,LH⟩
     ·rintro x c e_ s' ⟨e1,e2,lo,hi,rfl,h1,h2,h3,h4,h5⟩;rw[e1,e2];dsimp only;by_cases Ge:lo >= hi
      ·rw[ZZ Ge];apply Z3;dsimp only;have e:lo=hi:=by lia
       subst e;exact Z3 (h lo h2 h3 h4)
      ·rw[ZW Ge];have m1:lo<=lo+(hi - lo) / 2:=by lia
       have m2:lo+(hi - lo) / 2<hi:=by lia
       generalize lo+(hi - lo) / 2=mid at m1 m2 ⊢;refine Z1 (ask mid (by lia) _ ?_);dsimp only;cases hB:DJ key left k pa base mid with
       | true=>
        rw[ZZ rfl];exact Z3 ⟨rfl,rfl,mid+1,hi,rfl,by lia,h2,fun i G_=>mono i mid (by lia) (by lia) hB,h4,by lia⟩
       | false=>
        rw[ZW ZK];refine Z3 ⟨rfl,rfl,lo,mid,rfl,by lia,by lia,h3,fun i a b=>?_,by lia⟩;cases EO:DJ key left k pa base i with
        | false=>rfl
        | true=>rw[mono mid i a b EO] at hB;cases hB
     ·rintro c e_ s' ⟨e1,e2,lo,hi,rfl,h1,h2,h3,h4,h5⟩;rw[e1,e2];dsimp only;have e:lo=hi:=by lia
      subst e;exact Z3 (h lo h2 h3 h4)
  ·rintro c e_ s' ⟨e1,e2,last,DQ,rfl,h1,h2,h3,h4⟩;rw[e1,e2];dsimp only;have LH:=JY last DQ h1 h3 h4 (.inl (by lia));apply Z1;apply Za;refine bM (fun x c e_ s'=>e_=st/\s'=s/\∃ lo hi,c=(none,lo,hi)/\lo<=hi/\hi<=m/\(∀ i,i<lo->DJ key left k pa base i=true)/\(∀ i,hi<=i->i<m->DJ key left k pa base i=false)/\hi - lo<=m - x) ?_ _ 0 _ _ _ ?_ ⟨rfl,rfl,_,_,rfl,LH⟩
   ·rintro x c e_ s' ⟨e1,e2,lo,hi,rfl,h1,h2,h3,h4,h5⟩;rw[e1,e2];dsimp only;by_cases Ge:lo >= hi
    ·rw[ZZ Ge];apply Z3;dsimp only;have e:lo=hi:=by lia
     subst e;exact Z3 (h lo h2 h3 h4)
    ·rw[ZW Ge];have m1:lo<=lo+(hi - lo) / 2:=by lia
     have m2:lo+(hi - lo) / 2<hi:=by lia
     generalize lo+(hi - lo) / 2=mid at m1 m2 ⊢;refine Z1 (ask mid (by lia) _ ?_);dsimp only;cases hB:DJ key left k pa base mid with
     | true=>
      rw[ZZ rfl];exact Z3 ⟨rfl,rfl,mid+1,hi,rfl,by lia,h2,fun i G_=>mono i mid (by lia) (by lia) hB,h4,by lia⟩
     | false=>
      rw[ZW ZK];refine Z3 ⟨rfl,rfl,lo,mid,rfl,by lia,by lia,h3,fun i a b=>?_,by lia⟩;cases EO:DJ key left k pa base i with
      | false=>rfl
      | true=>rw[mono mid i a b EO] at hB;cases hB
   ·rintro c e_ s' ⟨e1,e2,lo,hi,rfl,h1,h2,h3,h4,h5⟩;rw[e1,e2];dsimp only;have e:lo=hi:=by lia
    subst e;exact Z3 (h lo h2 h3 h4)
 | false=>
  rw[ZW ZK];apply Z1;apply Za;have JY:∀ last DQ,last<DQ->last<=hint->DJ key left k pa base (hint - last)=false->(DQ >= hint+1\/DJ key left k pa base (hint - DQ)=true)->
    hint+1 - min DQ (hint+1)<=hint - last/\hint - last<=m/\(∀ i,i<hint+1 - min DQ (hint+1)->DJ key left k pa base i=true)/\(∀ i,hint - last<=i->i<m->DJ key left k pa base i=false)/\hint - last - (hint+1 - min DQ (hint+1))<=m - 0:=fun last DQ a1 a2 a3 a4=>by
   refine⟨by lia,by lia,fun i hi=>?_,fun i h1 h2=>?_,by lia⟩
   ·rcases a4 with a4 | a4
    ·lia
    ·exact mono i (hint - DQ) (by lia) (by lia) a4
   ·cases EO:DJ key left k pa base i with
    | false=>rfl
    | true=>rw[mono (hint - last) i (by lia) h2 EO] at a3;cases a3
  refine bM (fun x c e_ s'=>e_=st/\s'=s/\∃ last DQ,c=(none,last,DQ)/\last<DQ/\x<DQ/\last<=hint/\DJ key left k pa base (hint - last)=false) ?_ _ 0 _ _ _ ?_ ⟨rfl,rfl,0,1,rfl,by lia,by lia,by lia,Ph⟩
  ·rintro x c e_ s' ⟨e1,e2,last,DQ,rfl,h1,h2,h3,h4⟩;rw[e1,e2];dsimp only;by_cases ho:DQ >= hint+1
   ·rw[ZZ ho];apply Z3;dsimp only;have LH:=JY last DQ h1 h3 h4 (.inl ho);apply Z1;apply Za;refine bM (fun x c e_ s'=>e_=st/\s'=s/\∃ lo hi,c=(none,lo,hi)/\lo<=hi/\hi<=m/\(∀ i,i<lo->DJ key left k pa base i=true)/\(∀ i,hi<=i->i<m->DJ key left k pa base i=false)/\hi - lo<=m - x) ?_ _ 0 _ _ _ ?_ ⟨rfl,rfl,_,_,rfl,LH⟩
    ·rintro x c e_ s' ⟨e1,e2,lo,hi,rfl,h1,h2,h3,h4,h5⟩;rw[e1,e2];dsimp only;by_cases Ge:lo >= hi
     ·rw[ZZ Ge];apply Z3;dsimp only;have e:lo=hi:=by lia
      subst e;exact Z3 (h lo h2 h3 h4)
     ·rw[ZW Ge];have m1:lo<=lo+(hi - lo) / 2:=by lia
      have m2:lo+(hi - lo) / 2<hi:=by lia
      generalize lo+(hi - lo) / 2=mid at m1 m2 ⊢;refine Z1 (ask mid (by lia) _ ?_);dsimp only;cases hB:DJ key left k pa base mid with
      | true=>
       rw[ZZ rfl];exact Z3 ⟨rfl,rfl,mid+1,hi,rfl,by lia,h2,fun i G_=>mono i mid (by lia) (by lia) hB,h4,by lia⟩
      | false=>
       rw[ZW ZK];refine Z3 ⟨rfl,rfl,lo,mid,rfl,by lia,by lia,h3,fun i a b=>?_,by lia⟩;cases EO:DJ key left k pa base i with
       | false=>rfl
       | true=>rw[mono mid i a b EO] at hB;cases hB
    ·rintro c e_ s' ⟨e1,e2,lo,hi,rfl,h1,h2,h3,h4,h5⟩;rw[e1,e2];dsimp only;have e:lo=hi:=by lia
     subst e;exact Z3 (h lo h2 h3 h4)
   ·rw[ZW ho];refine Z1 (ask (hint - DQ) (by lia) _ ?_);dsimp only;cases hB:DJ key left k pa base (hint - DQ) with
    | false=>
     rw[ZW ZK];exact Z3 ⟨rfl,rfl,DQ,2 * DQ+1,rfl,by lia,by lia,by lia,hB⟩
    | true=>
     rw[ZZ rfl];apply Z3;dsimp only;have LH:=JY last DQ h1 h3 h4 (.inr hB);apply Z1;apply Za;refine bM (fun x c e_ s'=>e_=st/\s'=s/\∃ lo hi,c=(none,lo,hi)/\lo<=hi/\hi<=m/\(∀ i,i<lo->DJ key left k pa base i=true)/\(∀ i,hi<=i->i<m->DJ key left k pa base i=false)/\hi - lo<=m - x) ?_ _ 0 _ _ _ ?_ ⟨rfl,rfl,_,_,rfl,LH⟩
     ·rintro x c e_ s' ⟨e1,e2,lo,hi,rfl,h1,h2,h3,h4,h5⟩;rw[e1,e2];dsimp only;by_cases Ge:lo >= hi
      ·rw[ZZ Ge];apply Z3;dsimp only;have e:lo=hi:=by lia
       subst e;exact Z3 (h lo h2 h3 h4)
      ·rw[ZW Ge];have m1:lo<=lo+(hi - lo) / 2:=by lia
       have m2:lo+(hi - lo) / 2<hi:=by lia
       generalize lo+(hi - lo) / 2=mid at m1 m2 ⊢;refine Z1 (ask mid (by lia) _ ?_);dsimp only;cases hB:DJ key left k pa base mid with
       | true=>
        rw[ZZ rfl];exact Z3 ⟨rfl,rfl,mid+1,hi,rfl,by lia,h2,fun i G_=>mono i mid (by lia) (by lia) hB,h4,by lia⟩
       | false=>
        rw[ZW ZK];refine Z3 ⟨rfl,rfl,lo,mid,rfl,by lia,by lia,h3,fun i a b=>?_,by lia⟩;cases EO:DJ key left k pa base i with
        | false=>rfl
        | true=>rw[mono mid i a b EO] at hB;cases hB
     ·rintro c e_ s' ⟨e1,e2,lo,hi,rfl,h1,h2,h3,h4,h5⟩;rw[e1,e2];dsimp only;have e:lo=hi:=by lia
      subst e;exact Z3 (h lo h2 h3 h4)
  ·rintro c e_ s' ⟨e1,e2,last,DQ,rfl,h1,h2,h3,h4⟩;rw[e1,e2];dsimp only;have LH:=JY last DQ h1 h3 h4 (.inl (by lia));apply Z1;apply Za;refine bM (fun x c e_ s'=>e_=st/\s'=s/\∃ lo hi,c=(none,lo,hi)/\lo<=hi/\hi<=m/\(∀ i,i<lo->DJ key left k pa base i=true)/\(∀ i,hi<=i->i<m->DJ key left k pa base i=false)/\hi - lo<=m - x) ?_ _ 0 _ _ _ ?_ ⟨rfl,rfl,_,_,rfl,LH⟩
   ·rintro x c e_ s' ⟨e1,e2,lo,hi,rfl,h1,h2,h3,h4,h5⟩;rw[e1,e2];dsimp only;by_cases Ge:lo >= hi
    ·rw[ZZ Ge];apply Z3;dsimp only;have e:lo=hi:=by lia
     subst e;exact Z3 (h lo h2 h3 h4)
    ·rw[ZW Ge];have m1:lo<=lo+(hi - lo) / 2:=by lia
     have m2:lo+(hi - lo) / 2<hi:=by lia
     generalize lo+(hi - lo) / 2=mid at m1 m2 ⊢;refine Z1 (ask mid (by lia) _ ?_);dsimp only;cases hB:DJ key left k pa base mid with
     | true=>
      rw[ZZ rfl];exact Z3 ⟨rfl,rfl,mid+1,hi,rfl,by lia,h2,fun i G_=>mono i mid (by lia) (by lia) hB,h4,by lia⟩
     | false=>
      rw[ZW ZK];refine Z3 ⟨rfl,rfl,lo,mid,rfl,by lia,by lia,h3,fun i a b=>?_,by lia⟩;cases EO:DJ key left k pa base i with
      | false=>rfl
      | true=>rw[mono mid i a b EO] at hB;cases hB
   ·rintro c e_ s' ⟨e1,e2,lo,hi,rfl,h1,h2,h3,h4,h5⟩;rw[e1,e2];dsimp only;have e:lo=hi:=by lia
    subst e;exact Z3 (h lo h2 h3 h4)
end
section
variable{key:Nat->Int}
def DD(key:Nat->Int)(l:List Nat):Prop:=l.Pairwise fun x y=>key x<=key y
structure Qn(key:Nat->Int)(la lb:List Nat)(po:List Nat)(ia ib:Nat):Prop where
 perm:po.Perm (la.take ia++lb.take ib)
 sa:DD key (po++la.drop ia)
 sb:DD key (po++lb.drop ib)
 pa:ia+1<la.length
 pb:ib<lb.length
variable{l m:List Nat}
theorem bt:DD key (l++m)↔DD key l/\DD key m/\∀ x∈l,∀ y∈m,key x<=key y:=List.pairwise_append
theorem gr(l:List Nat)(i k:Nat):l.take i++(l.drop i).take k=l.take (i+k):=by rw[List.take_add]
variable{la lb po:List Nat}{ia ib:Nat}
theorem fH(k:Nat)(perm:po.Perm (la.take ia++lb.take ib))(sa:DD key (po++la.drop ia))(sb:DD key (po++lb.drop ib))(h:∀ x∈(la.drop ia).take k,∀ y∈lb.drop ib,key x<=key y):
  (po++(la.drop ia).take k).Perm (la.take (ia+k)++lb.take ib)/\DD key (po++(la.drop ia).take k++la.drop (ia+k))/\DD key (po++(la.drop ia).take k++lb.drop ib):=by
 refine⟨?_,?_,?_⟩
 ·rw[<- gr la ia k];refine (perm.append_right _).trans ?_;rw[Z7,Z7];exact ZQ _ Z0
 ·rw[Z7,<- Yf,ZA];exact sa
 ·rw[Z7];have s1:=bt.mp sa;have s2:=bt.mp sb;refine bt.mpr ⟨s1.1,bt.mpr ⟨s1.2.1.sublist<|XD _ _,s2.2.1,h⟩,fun x hx y hy=>?_⟩;rcases ZD.mp hy with hy | hy
  ·exact s1.2.2 x hx y (YD hy)
  ·exact s2.2.2 x hx y hy
theorem ip(k:Nat)(perm:po.Perm (la.take ia++lb.take ib))(sa:DD key (po++la.drop ia))(sb:DD key (po++lb.drop ib))(h:∀ x∈(lb.drop ib).take k,∀ y∈la.drop ia,key x<=key y):
  (po++(lb.drop ib).take k).Perm (la.take ia++lb.take (ib+k))/\DD key (po++(lb.drop ib).take k++la.drop ia)/\DD key (po++(lb.drop ib).take k++lb.drop (ib+k)):=by
 have:=fH (la:=lb) (lb:=la) k (perm.trans Z0) sb sa h;exact⟨this.1.trans Z0,this.2.2,this.2.1⟩
variable{i:Nat}
theorem bN(h:i<l.length):(l.drop i).take 1=[l.getD i 0]:=by
 rw[Zg h,Z6,ZL h];rfl
variable{y:Nat}
theorem ck(h:y∈l.drop i):∃ j,i<=j/\j<l.length/\y=l.getD j 0:=by
 obtain⟨j,hj,e⟩:=Ym.mp h;have hl:=hj;rw[Zd] at hl;exact⟨i+j,by lia,by lia,by rw[<- e,Xx];simp[List.getD,show i+j<l.length by lia]⟩
variable{k:Nat}
theorem fI(h:y∈(l.drop i).take k):∃ j,j<k/\i+j<l.length/\y=l.getD (i+j) 0:=by
 obtain⟨j,hj,e⟩:=Ym.mp h;have hl:=hj;rw[Zf,Zd] at hl;exact⟨j,by lia,by lia,by rw[<- e,Ww,Xx];simp[List.getD,show i+j<l.length by lia]⟩
theorem fJ(h:DD key l){i j:Nat}(Ff:i<=j)(hj:j<l.length):key (l.getD i 0)<=key (l.getD j 0):=by
 rcases Nat.lt_or_eq_of_le Ff with FC | rfl
 ·have:=YU.mp h i j (by lia) hj FC;simpa [List.getD,hj,show i<l.length by lia] using this
 ·exact XI _
theorem oW(h:DD key (l++m)):DD key m:=(bt.mp h).2.1
theorem eF{j:Nat}(h:DD key (po++l.drop i))(hj:i<=j)(Pi:j<=k)(hk:k<l.length):key (l.getD j 0)<=key (l.getD k 0):=by
 have:=fJ (oW h) (i:=j - i) (j:=k - i) (by lia) (by rw[Zd];lia);simpa [List.getD,YR,show i+(j - i)=j by lia,show i+(k - i)=k by lia] using this
def F8(key:Nat->Int)(it:Array Keyed)(la lb:List Nat)(out:Array Keyed):Prop:=∃ po:List Nat,out=(po.map<|kas_item it).toArray/\po.Perm (la++lb)/\DD key po
variable{it:Array Keyed}
theorem fK(perm:po.Perm (la.take ia++lb.take ib))(sa:DD key (po++la.drop ia))(sb:DD key (po++lb.drop ib))(Qo:ib=lb.length\/ia=la.length):
  F8 key it la lb ((po.map<|kas_item it).toArray++(la.map<|kas_item it).toArray.extract ia la.length++(lb.map<|kas_item it).toArray.extract ib lb.length):=by
 refine⟨po++la.drop ia++lb.drop ib,?_,?_,?_⟩
 ·apply X9;simp[Yi,Xw]
 ·rw[Z7];refine (perm.append_right _).trans ?_;have:(la.take ia++lb.take ib++(la.drop ia++lb.drop ib)).Perm ((la.take ia++la.drop ia)++(lb.take ib++lb.drop ib)):=by
   rw[Z7,Z7];refine ZQ _ ?_;rw[<- Z7,<- Z7];exact ZI _ Z0
  rw[ZA,ZA] at this;exact this
 ·rcases Qo with e | e
  ·rw[e,Wn,ZY];exact sa
  ·rw[e,Wn,ZY];exact sb
theorem fL(perm:po.Perm (la.take ia++lb.take ib))(sa:DD key (po++la.drop ia))(sb:DD key (po++lb.drop ib))(Sj:ia+1=la.length)(top:∀ x∈lb,key x<=key (la.getD (la.length - 1) 0)):
  F8 key it la lb ((po.map<|kas_item it).toArray++(lb.map<|kas_item it).toArray.extract ib lb.length++(la.map<|kas_item it).toArray.extract ia la.length):=by
 refine⟨po++lb.drop ib++la.drop ia,?_,?_,?_⟩
 ·apply X9;simp[Yi,Xw]
 ·rw[Z7];refine (perm.append_right _).trans ?_;have:(la.take ia++lb.take ib++(lb.drop ib++la.drop ia)).Perm ((la.take ia++la.drop ia)++(lb.take ib++lb.drop ib)):=by
   rw[Z7,Z7];refine ZQ _ ?_;rw[<- Z7];exact Z0
  rw[ZA,ZA] at this;exact this
 ·refine bt.mpr ⟨sb,oW sa,fun x hx y hy=>?_⟩;rcases ZD.mp hx with hx | hx
  ·exact (bt.mp sa).2.2 x hx y hy
  ·obtain⟨j,h1,h2,rfl⟩:=ck hy;have:j=la.length - 1:=by lia
   rw[this];exact top x (YO hx)
end
section
variable{prog:Program}{w:World}{A:Around}{E:Value->Shared->Prop}{κ:SortKind}{it:Array Keyed}{key:Nat->Int}{n:Nat}{s:Shared}
def oX:Array Keyed->Array Keyed->StateT SortSt Sem (Array Keyed):=sortPriv% PySem.Builtin.mergeLo
structure l_(MP st:SortSt):Prop where
 k:kindOf st=kindOf MP
 a:arrOf st=arrOf MP
 p:pendingOf st=pendingOf MP
 f:failedOf st=failedOf MP
theorem l_.refl(st:SortSt):l_ st st:=⟨rfl,rfl,rfl,rfl⟩
theorem cn{σ α:Type}{M:Model}{m:StateT σ Sem α}{Q Q':α->σ->Shared->Prop}{st:σ}{s':Shared}(h:kasC M A E m Q' st s')(g:∀ a st s',Q' a st s'->Q a st s'):kasC M A E m Q st s':=
 Y3 h (fun r s' x=>g r.1 r.2 s' x) fun _ _ e=>e
variable{l:List Nat}
theorem aY{i:Nat}(hi:i<l.length){st:SortSt}{Q:Keyed->SortSt->Shared->Prop}(h:Q (kas_item it<|l.getD i 0) st s):kasC (model prog w) A E (elem' (l.map<|kas_item it).toArray i) Q st s:=by
 rw[elem'_eq,show ((l.map<|kas_item it).toArray)[i]?=some (kas_item it<|l.getD i 0) by simp[List.getD,hi]];exact Z3 h
theorem cP(hl:∀ x∈l,x<n){i:Nat}(hi:i<l.length):l.getD i 0<n:=by
 rw[Z6,ZL hi];exact hl _ (List.getElem_mem hi)
theorem d9(l:List Nat)(i:Nat):l.toArray.getD i 0=l.getD i 0:=by simp[Array.getD,List.getD];split<;>simp_all
theorem lH(hc:cj n key (kas_cmp prog w A κ it) s){k:Nat}(hk:k<n){l:List Nat}(hl:∀ x∈l,x<n){base m hint:Nat}(hb:base+m<=l.length)(hh:hint<m)(mono:∀ i j,base<=i->i<=j->j<base+m->key (l.getD i 0)<=key (l.getD j 0)){st:SortSt}(s_:kindOf st=κ){Q:Option Nat->SortSt->Shared->Prop}(h:∀ r,r<=m->(∀ i,base<=i->i<base+r->key (l.getD i 0)<=key k)->(∀ i,base+r<=i->i<base+m->key k<key (l.getD i 0))->Q (some r) st s):
  kasC (model prog w) A E (jC false (kas_item it k) (l.map<|kas_item it).toArray base m hint) Q st s:=by
 rw[<- List.map_toArray];refine oU hc hk (fun i hi=>by rw[d9];exact cP hl (by simpa using hi)) (by simpa using hb) hh (fun i j Ff hj hB=>?_) s_ fun r hr a b=>h r hr (fun i h1 h2=>?_) (fun i h1 h2=>?_)
 ·simp only[DJ,d9,Zc,X6,Yl,Ye,Int.not_lt] at hB ⊢;have:=mono (base+i) (base+j) (by lia) (by lia) (by lia);lia
 ·have:=a (i - base) (by lia);simp only[DJ,d9,Zc,X6,Yl,Ye,Int.not_lt] at this
  rwa [show base+(i - base)=i by lia] at this
 ·have:=b (i - base) (by lia) (by lia);simp only[DJ,d9,Zc,X6,Bool.not_eq_false',Xv] at this
  rwa [show base+(i - base)=i by lia] at this
theorem iq(hc:cj n key (kas_cmp prog w A κ it) s){k:Nat}(hk:k<n){l:List Nat}(hl:∀ x∈l,x<n){base m hint:Nat}(hb:base+m<=l.length)(hh:hint<m)(mono:∀ i j,base<=i->i<=j->j<base+m->key (l.getD i 0)<=key (l.getD j 0)){st:SortSt}(s_:kindOf st=κ){Q:Option Nat->SortSt->Shared->Prop}(h:∀ r,r<=m->(∀ i,base<=i->i<base+r->key (l.getD i 0)<key k)->(∀ i,base+r<=i->i<base+m->key k<=key (l.getD i 0))->Q (some r) st s):
  kasC (model prog w) A E (jC true (kas_item it k) (l.map<|kas_item it).toArray base m hint) Q st s:=by
 rw[<- List.map_toArray];refine oU hc hk (fun i hi=>by rw[d9];exact cP hl (by simpa using hi)) (by simpa using hb) hh (fun i j Ff hj hB=>?_) s_ fun r hr a b=>h r hr (fun i h1 h2=>?_) (fun i h1 h2=>?_)
 ·simp only[DJ,d9,Wx,Xv] at hB ⊢;have:=mono (base+i) (base+j) (by lia) (by lia) (by lia);lia
 ·have:=a (i - base) (by lia);simp only[DJ,d9,Wx,Xv] at this
  rwa [show base+(i - base)=i by lia] at this
 ·have:=b (i - base) (by lia) (by lia);simp only[DJ,d9,Wx,Ye,Int.not_lt] at this
  rwa [show base+(i - base)=i by lia] at this
theorem aZ(po:List Nat)(y:Nat):(po.map<|kas_item it).toArray.push (kas_item it y)=((po++[y]).map<|kas_item it).toArray:=by simp
theorem bX(po l:List Nat)(i k:Nat):(po.map<|kas_item it).toArray++(l.map<|kas_item it).toArray.extract i (i+k)=((po++(l.drop i).take k).map<|kas_item it).toArray:=by
 apply X9;simp[Yi,Yh,Xu]
end
section
variable{prog:Program}{w:World}{A:Around}{E:Value->Shared->Prop}{κ:SortKind}{it:Array Keyed}{key:Nat->Int}{n:Nat}{s:Shared}
def Hm(key:Nat->Int)(it:Array Keyed)(la lb:List Nat)(out:Array Keyed)(ia ib:Nat):Prop:=∃ po:List Nat,out=(po.map<|kas_item it).toArray/\Qn key la lb po ia ib
theorem oY{M:Model}{A:Around}{E:Value->Shared->Prop}{σ α:Type}{c:Nat->Prop}{dc:∀ g,Decidable (c g)}{a P:Nat->StateT σ Sem α}{Q:α->σ->Shared->Prop}{st:σ}{s:Shared}(x:Nat->Nat)(ha:∀ g,a g=P (x g))(H:∀ g,kasC M A E (P g) Q st s):∀ g,kasC M A E (if c g then a g else P g) Q st s:=by
 intro g;rw[ha];split
 ·exact H _
 ·exact H _
def Lk(key:Nat->Int)(it:Array Keyed)(la lb:List Nat)(st:SortSt)(s:Shared): Option (Array Keyed)×Array Keyed×Nat×Nat×Nat->SortSt->Shared->Prop:=fun c e_ s'=>s=s'/\l_ st e_/\∃ DM p q r g,c=(some DM,p,q,r,g)/\F8 key it la lb DM
def Ll(key:Nat->Int)(it:Array Keyed)(la lb:List Nat)(st:SortSt)(s:Shared)(x:Nat):Option (Array Keyed)×Array Keyed×Nat×Nat×Nat->SortSt->Shared->Prop:=fun c e_ s'=>s=s'/\l_ st e_/\∃ o ia ib g,c=(none,o,ia,ib,g)/\Hm key it la lb o ia ib/\x+1<=ia+ib
def Ik(key:Nat->Int)(it:Array Keyed)(la lb:List Nat)(st:SortSt)(s:Shared)(x:Nat):Option (Array Keyed)×Array Keyed×Nat×Nat×Nat×Nat->SortSt->Shared->Prop:=fun c e_ s'=>s=s'/\l_ st e_/\((∃ DM p q r ac bc,c=(some DM,p,q,r,ac,bc)/\F8 key it la lb DM)\/∃ o ia ib ac bc,c=(none,o,ia,ib,ac,bc)/\Hm key it la lb o ia ib/\x+2<=ia+ib)
def Ky(key:Nat->Int)(it:Array Keyed)(la lb:List Nat)(st:SortSt)(s:Shared)(x y:Nat):Option (Array Keyed)×Array Keyed×Nat×Nat×Nat×Nat->SortSt->Shared->Prop:=fun c e_ s'=>s=s'/\l_ st e_/\∃ o ia ib ac bc,c=(none,o,ia,ib,ac,bc)/\Hm key it la lb o ia ib/\x+1+y<=ia+ib
def FI(key:Nat->Int)(it:Array Keyed)(la lb:List Nat)(st:SortSt)(s:Shared)(x:Nat):Option (Array Keyed)×Array Keyed×Nat×Nat×Nat×Nat×Nat->SortSt->Shared->Prop:=fun c e_ s'=>s=s'/\l_ st e_/\((∃ DM p q r g ac bc,c=(some DM,p,q,r,g,ac,bc)/\F8 key it la lb DM)\/∃ o ia ib g ac bc,c=(none,o,ia,ib,g,ac,bc)/\Hm key it la lb o ia ib/\x+2<=ia+ib)
def Jh(key:Nat->Int)(it:Array Keyed)(la lb:List Nat)(st:SortSt)(s:Shared)(x y:Nat):Option (Array Keyed)×Array Keyed×Nat×Nat×Nat×Nat×Nat->SortSt->Shared->Prop:=fun c e_ s'=>s=s'/\l_ st e_/\∃ o ia ib g ac bc,c=(none,o,ia,ib,g,ac,bc)/\Hm key it la lb o ia ib/\x+2<=ia+ib
variable{la lb:List Nat}{st e_:SortSt}{out p:Array Keyed}{q r g:Nat}
theorem Lk.a{key:Nat->Int}{it:Array Keyed}{s:Shared}(h:l_ st e_)(m:F8 key it la lb out):Lk key it la lb st s (some out,p,q,r,g) e_ s:=⟨rfl,h,_,_,_,_,_,rfl,m⟩
variable{x ia ib:Nat}{o:Array Keyed}
theorem Ll.k{key:Nat->Int}{it:Array Keyed}{s:Shared}(h:l_ st e_)(j:Hm key it la lb o ia ib)(e:x+1<=ia+ib):Ll key it la lb st s x (none,o,ia,ib,g) e_ s:=⟨rfl,h,_,_,_,_,rfl,j,e⟩
variable{g2:Nat}
theorem Ik.a{key:Nat->Int}{it:Array Keyed}{s:Shared}(h:l_ st e_)(m:F8 key it la lb out):Ik key it la lb st s x (some out,p,q,r,g,g2) e_ s:=⟨rfl,h,.inl ⟨_,_,_,_,_,_,rfl,m⟩⟩
theorem Ik.b{key:Nat->Int}{it:Array Keyed}{s:Shared}(h:l_ st e_)(j:Hm key it la lb o ia ib)(e:x+2<=ia+ib):Ik key it la lb st s x (none,o,ia,ib,g,g2) e_ s:=⟨rfl,h,.inr ⟨_,_,_,_,_,rfl,j,e⟩⟩
variable{y:Nat}
theorem Ky.k{key:Nat->Int}{it:Array Keyed}{s:Shared}(h:l_ st e_)(j:Hm key it la lb o ia ib)(e:x+1+y<=ia+ib):Ky key it la lb st s x y (none,o,ia,ib,g,g2) e_ s:=⟨rfl,h,_,_,_,_,_,rfl,j,e⟩
variable{g3:Nat}
theorem FI.a{key:Nat->Int}{it:Array Keyed}{s:Shared}(h:l_ st e_)(m:F8 key it la lb out):FI key it la lb st s x (some out,p,q,r,g,g2,g3) e_ s:=⟨rfl,h,.inl ⟨_,_,_,_,_,_,_,rfl,m⟩⟩
theorem FI.b{key:Nat->Int}{it:Array Keyed}{s:Shared}(h:l_ st e_)(j:Hm key it la lb o ia ib)(e:x+2<=ia+ib):FI key it la lb st s x (none,o,ia,ib,g,g2,g3) e_ s:=⟨rfl,h,.inr ⟨_,_,_,_,_,_,rfl,j,e⟩⟩
theorem Jh.k{key:Nat->Int}{it:Array Keyed}{s:Shared}(h:l_ st e_)(j:Hm key it la lb o ia ib)(e:x+2<=ia+ib):Jh key it la lb st s x y (none,o,ia,ib,g,g2,g3) e_ s:=⟨rfl,h,_,_,_,_,_,_,rfl,j,e⟩
theorem bq{a b:Nat}(h:a=b):(a == b)=true:=by simp[h]
theorem EJ{a b:Nat}(h:¬ a=b):¬ (a == b)=true:=by simp[h]
theorem xF(hc:cj n key (kas_cmp prog w A κ it) s){la lb:List Nat}(IH:∀ x∈la,x<n)(II:∀ x∈lb,x<n)(NP:DD key la)(NQ:DD key lb)(h0:0<la.length)(h1:0<lb.length)(first:∀ x∈la,key (lb.getD 0 0)<=key x)(top:∀ x∈lb,key x<=key (la.getD (la.length - 1) 0)){st:SortSt}(s_:kindOf st=κ){Q:Array Keyed->SortSt->Shared->Prop}(h:∀ out e_,F8 key it la lb out->l_ st e_->Q out e_ s):
  kasC (model prog w) A E (oX (la.map<|kas_item it).toArray (lb.map<|kas_item it).toArray) Q st s:=by
 unfold oX;with_unfolding_all refine Z1 (WK<|YL ?_);refine Z1 (aY h1 ?_);dsimp only;generalize NR:(List.map (kas_item it) la).toArray.size=za;obtain rfl:la.length=za:=by rw[<- NR];simp
 generalize NS:(List.map (kas_item it) lb).toArray.size=zb;obtain rfl:lb.length=zb:=by rw[<- NS];simp
 have Fk:[lb.getD 0 0].Perm (la.take 0++lb.take 1):=by
  have:=bN (l:=lb) (i:=0) h1;simp only[Yd] at this;rw[this];exact ZG _
 have JZ:DD key ([lb.getD 0 0]++lb.drop 1):=by
  have:=bN (l:=lb) (i:=0) h1;simp only[Yd] at this;rw[<- this,ZA];exact NQ
 have J0:DD key ([lb.getD 0 0]++la.drop 0):=bt.mpr ⟨ZB _ _,by rw[Yd];exact NP,fun x hx y hy=>by
  rw[ZX.mp hx];exact first y (by rwa [Yd] at hy)⟩
 have e0:#[kas_item it (lb.getD 0 0)]=([lb.getD 0 0].map<|kas_item it).toArray:=rfl;rw[e0];by_cases c1:1=lb.length
 ·rw[ZZ (bq c1)];exact Z3 (h _ _ (fK Fk J0 JZ<|.inl c1)<|l_.refl st)
 rw[ZW (EJ c1)];by_cases c2:0+1=la.length
 ·rw[ZZ (bq c2)];exact Z3 (h _ _ (fL Fk J0 JZ c2 top)<|l_.refl st)
 rw[ZW (EJ c2)];refine Z1 (X4 ?_);refine Z1 (cn (Q':=Lk key it la lb st s) (Za (bM (Ll key it la lb st s) ?step _ 0 _ _ _ ?fin (Ll.k (l_.refl st) ⟨_,rfl,Fk,J0,JZ,by lia,by lia⟩ (by lia)))) ?after)
 case after=>
  rintro c e_ s' ⟨rfl,hs,DM,o,ia,ib,g,rfl,hm⟩;exact Z3 (h _ _ hm hs)
 case fin=>
  rintro c e_ s' ⟨rfl,hs,o,ia,ib,g,rfl,⟨po,rfl,m⟩,hx⟩;have:=m.pa;have:=m.pb;lia
 case step=>
  rintro x c e_ s' ⟨rfl,hs,o,ia,ib,g,rfl,hJ,hx⟩;dsimp only;refine Z1 (cn (Q':=Ik key it la lb st s x)
   (Za (bM (Ky key it la lb st s x) ?HH _ 0 _ _ _ ?J1 (Ky.k hs hJ (by lia)))) ?GC)
  case J1=>
   rintro c e_ s' ⟨rfl,hs,o,ia,ib,ac,bc,rfl,hJ,hx⟩;exact Ik.b hs hJ (by lia)
  case HH=>
   rintro y c e_ s' ⟨rfl,hs,o,ia,ib,ac,bc,rfl,⟨po,rfl,m⟩,hx⟩;have m1:=m.pa;have m2:=m.pb;have HI:kindOf e_=κ:=hs.k.trans s_;dsimp only;refine Z1 (aY m2 ?_);refine Z1 (aY (show ia<la.length by lia) ?_);refine Z1 (io hc (cP II m2) (cP IH (show ia<la.length by lia)) HI ?_);dsimp only;by_cases hw:key (lb.getD ib 0)<key (la.getD ia 0)
   ·rw[ZZ (by simpa using hw)];refine Z1 (aY m2 ?_);have b1:=ip 1 m.perm m.sa m.sb (fun x hx y hy=>by
     rw[bN m2,ZX] at hx;obtain⟨j,j1,j2,rfl⟩:=ck hy;have:=eF m.sa (ZR _) j1 j2;rw[hx];lia)
    rw[bN m2] at b1;rw[aZ];try dsimp only
    by_cases hz:ib+1=lb.length
    ·rw[ZZ (bq hz)];exact Z3 (Ik.a hs<|fK b1.1 b1.2.1 b1.2.2<|.inl hz)
    ·rw[ZW (EJ hz)];have J':Hm key it la lb ((po++[lb.getD ib 0]).map<|kas_item it).toArray ia (ib+1):=⟨_,rfl,b1.1,b1.2.1,b1.2.2,m1,by lia⟩;by_cases hg:bc+1 >= g
     ·rw[ZZ hg];exact Z3 (Ik.b hs J' (by lia))
     ·rw[ZW hg];exact Z3 (Ky.k hs J' (by lia))
   ·rw[ZW (by simpa using hw)];refine Z1 (aY (show ia<la.length by lia) ?_);have b1:=fH 1 m.perm m.sa m.sb (fun x hx y hy=>by
     rw[bN (show ia<la.length by lia),ZX] at hx;obtain⟨j,j1,j2,rfl⟩:=ck hy;have:=eF m.sb (ZR _) j1 j2;rw[hx];lia)
    rw[bN (show ia<la.length by lia)] at b1;rw[aZ];try dsimp only
    by_cases hz:ia+1+1=la.length
    ·rw[ZZ (bq hz)];exact Z3 (Ik.a hs<|fL b1.1 b1.2.1 b1.2.2 hz top)
    ·rw[ZW (EJ hz)];have J':Hm key it la lb ((po++[la.getD ia 0]).map<|kas_item it).toArray (ia+1) ib:=⟨_,rfl,b1.1,b1.2.1,b1.2.2,by lia,m2⟩;by_cases hg:ac+1 >= g
     ·rw[ZZ hg];exact Z3 (Ik.b hs J' (by lia))
     ·rw[ZW hg];exact Z3 (Ky.k hs J' (by lia))
  case GC=>
   rintro c e_ s' ⟨rfl,hs,⟨DM,o,ia,ib,ac,bc,rfl,hm⟩ | ⟨o,ia,ib,ac,bc,rfl,hJ,hx⟩⟩
   ·exact Z3 (Lk.a hs hm)
   ·dsimp only;refine Z1 (WK<|YL ?_);try dsimp only
    refine Z1 (cn (Q':=FI key it la lb st s x)
     (Za (bM (Jh key it la lb st s x) ?HJ _ 0 _ _ _ ?fin2 (Jh.k hs hJ (by lia)))) ?GD)
    case fin2=>
     rintro c e_ s' ⟨rfl,hs,o,ia,ib,g,ac,bc,rfl,hJ,hx⟩;exact FI.b hs hJ (by lia)
    case GD=>
     rintro c e_ s' ⟨rfl,hs,⟨DM,o,ia,ib,g,ac,bc,rfl,hm⟩ | ⟨o,ia,ib,g,ac,bc,rfl,hJ,hx⟩⟩
     ·exact Z3 (Lk.a hs hm)
     ·dsimp only;refine Z1 (YN ?_);exact Z3 (Ll.k ⟨hs.k,hs.a,hs.p,hs.f⟩ hJ (by lia))
    case HJ=>
     rintro y c e_ s' ⟨rfl,hs,o,ia,ib,g,ac,bc,rfl,⟨po,rfl,m⟩,hx⟩;have m1:=m.pa;have m2:=m.pb;dsimp only;revert g;refine oY (fun g=>g - 1) ?ha ?_
     case ha=>exact fun g=>rfl
     intro g;refine Z1 (YN ?_);refine Z1 (aY m2 ?_);refine Z1 (lH hc (cP II m2) IH (base:=ia) (m:=la.length - ia) (hint:=0) (by lia) (by lia) (fun i j a b c=>eF m.sa a b (by lia)) (by exact hs.k.trans s_) ?_);intro k MQ lo1 Kz;dsimp only;by_cases Lm:k > 0
     ·rw[ZZ Lm];have p1:=fH k m.perm m.sa m.sb (fun x hx y hy=>by
       obtain⟨j,j0,j1,rfl⟩:=fI hx;obtain⟨j',a1,a2,rfl⟩:=ck hy;have:=lo1 (ia+j) (by lia) (by lia);have:=eF m.sb (ZR _) a1 a2;lia)
      by_cases hz:ia+k+1=la.length
      ·rw[ZZ (bq hz)];exact Z3 (FI.a ⟨hs.k,hs.a,hs.p,hs.f⟩ (by rw[bX];exact fL p1.1 p1.2.1 p1.2.2 hz top))
      rw[ZW (EJ hz)];by_cases KA:ia+k=la.length
      ·rw[ZZ (bq KA)];exact Z3 (FI.a ⟨hs.k,hs.a,hs.p,hs.f⟩ (by rw[bX];exact fK p1.1 p1.2.1 p1.2.2 (.inr KA)))
      rw[ZW (EJ KA)];have J3:∀ i,ia+k<=i->i<la.length->key (lb.getD ib 0)<key (la.getD i 0):=fun i a b=>Kz i a (by lia);refine Z1 (aY m2 ?_);have p2:=ip 1 p1.1 p1.2.1 p1.2.2 (fun x hx y hy=>by
       rw[bN m2,ZX] at hx;obtain⟨j,j1,j2,rfl⟩:=ck hy;have:=J3 j j1 j2;rw[hx];lia)
      rw[bN m2] at p2;by_cases GE:ib+1=lb.length
      ·rw[ZZ (bq GE)];exact Z3 (FI.a ⟨hs.k,hs.a,hs.p,hs.f⟩ (by rw[bX,aZ];exact fK p2.1 p2.2.1 p2.2.2 (.inl GE)))
      rw[ZW (EJ GE)];refine Z1 (aY (show ia+k<la.length by lia) ?_);refine Z1 (iq hc (cP IH (show ia+k<la.length by lia)) II (base:=ib+1) (m:=lb.length - (ib+1)) (hint:=0) (by lia) (by lia) (fun i j a b c=>eF p2.2.2 a b (by lia)) (by exact hs.k.trans s_) ?_);intro k2 Gr HK EO;dsimp only;by_cases Ha:k2 > 0
      ·rw[ZZ Ha];have p3:=ip k2 p2.1 p2.2.1 p2.2.2 (fun x hx y hy=>by
        obtain⟨j,j0,j1,rfl⟩:=fI hx;obtain⟨j',a1,a2,rfl⟩:=ck hy;have:=HK (ib+1+j) (by lia) (by lia);have:=eF p2.2.1 (ZR _) a1 a2;lia)
       by_cases GF:ib+1+k2=lb.length
       ·rw[ZZ (bq GF)];exact Z3 (FI.a ⟨hs.k,hs.a,hs.p,hs.f⟩ (by rw[bX,aZ,bX];exact fK p3.1 p3.2.1 p3.2.2 (.inl GF)))
       rw[ZW (EJ GF)];have GG:∀ i,ib+1+k2<=i->i<lb.length->key (la.getD (ia+k) 0)<=key (lb.getD i 0):=fun i a b=>EO i a (by lia);refine Z1 (aY (show ia+k<la.length by lia) ?_);have p4:=fH 1 p3.1 p3.2.1 p3.2.2 (fun x hx y hy=>by
        rw[bN (show ia+k<la.length by lia),ZX] at hx;obtain⟨j,j1,j2,rfl⟩:=ck hy;have:=GG j j1 j2;rw[hx];exact this)
       rw[bN (show ia+k<la.length by lia)] at p4;by_cases EB:ia+k+1+1=la.length
       ·rw[ZZ (bq EB)];exact Z3 (FI.a ⟨hs.k,hs.a,hs.p,hs.f⟩ (by rw[bX,aZ,bX,aZ];exact fL p4.1 p4.2.1 p4.2.2 EB top))
       rw[ZW (EJ EB)];by_cases hb:(decide (k<7) && decide (k2<7))=true
       ·rw[ZZ hb];exact Z3 (FI.b ⟨hs.k,hs.a,hs.p,hs.f⟩ ⟨_,by rw[bX,aZ,bX,aZ],p4.1,p4.2.1,p4.2.2,by lia,by lia⟩ (by lia))
       ·rw[ZW hb];exact Z3 (Jh.k ⟨hs.k,hs.a,hs.p,hs.f⟩ ⟨_,by rw[bX,aZ,bX,aZ],p4.1,p4.2.1,p4.2.2,by lia,by lia⟩ (by lia))
      ·rw[ZW Ha];have p3:=p2;have GG:∀ i,ib+1<=i->i<lb.length->key (la.getD (ia+k) 0)<=key (lb.getD i 0):=fun i a b=>EO i (by lia) (by lia);refine Z1 (aY (show ia+k<la.length by lia) ?_);have p4:=fH 1 p3.1 p3.2.1 p3.2.2 (fun x hx y hy=>by
        rw[bN (show ia+k<la.length by lia),ZX] at hx;obtain⟨j,j1,j2,rfl⟩:=ck hy;have:=GG j j1 j2;rw[hx];exact this)
       rw[bN (show ia+k<la.length by lia)] at p4;by_cases EB:ia+k+1+1=la.length
       ·rw[ZZ (bq EB)];exact Z3 (FI.a ⟨hs.k,hs.a,hs.p,hs.f⟩ (by rw[bX,aZ,aZ];exact fL p4.1 p4.2.1 p4.2.2 EB top))
       rw[ZW (EJ EB)];by_cases hb:(decide (k<7) && decide (k2<7))=true
       ·rw[ZZ hb];exact Z3 (FI.b ⟨hs.k,hs.a,hs.p,hs.f⟩ ⟨_,by rw[bX,aZ,aZ],p4.1,p4.2.1,p4.2.2,by lia,by lia⟩ (by lia))
       ·rw[ZW hb];exact Z3 (Jh.k ⟨hs.k,hs.a,hs.p,hs.f⟩ ⟨_,by rw[bX,aZ,aZ],p4.1,p4.2.1,p4.2.2,by lia,by lia⟩ (by lia))
     ·rw[ZW Lm];have p1:po.Perm (la.take ia++lb.take ib)/\DD key (po++la.drop ia)/\DD key (po++lb.drop ib):=⟨m.perm,m.sa,m.sb⟩;have J3:∀ i,ia<=i->i<la.length->key (lb.getD ib 0)<key (la.getD i 0):=fun i a b=>Kz i (by lia) (by lia);refine Z1 (aY m2 ?_);have p2:=ip 1 p1.1 p1.2.1 p1.2.2 (fun x hx y hy=>by
       rw[bN m2,ZX] at hx;obtain⟨j,j1,j2,rfl⟩:=ck hy;have:=J3 j j1 j2;rw[hx];lia)
      rw[bN m2] at p2;by_cases GE:ib+1=lb.length
      ·rw[ZZ (bq GE)];exact Z3 (FI.a ⟨hs.k,hs.a,hs.p,hs.f⟩ (by rw[aZ];exact fK p2.1 p2.2.1 p2.2.2 (.inl GE)))
      rw[ZW (EJ GE)];refine Z1 (aY (show ia<la.length by lia) ?_);refine Z1 (iq hc (cP IH (show ia<la.length by lia)) II (base:=ib+1) (m:=lb.length - (ib+1)) (hint:=0) (by lia) (by lia) (fun i j a b c=>eF p2.2.2 a b (by lia)) (by exact hs.k.trans s_) ?_);intro k2 Gr HK EO;dsimp only;by_cases Ha:k2 > 0
      ·rw[ZZ Ha];have p3:=ip k2 p2.1 p2.2.1 p2.2.2 (fun x hx y hy=>by
        obtain⟨j,j0,j1,rfl⟩:=fI hx;obtain⟨j',a1,a2,rfl⟩:=ck hy;have:=HK (ib+1+j) (by lia) (by lia);have:=eF p2.2.1 (ZR _) a1 a2;lia)
       by_cases GF:ib+1+k2=lb.length
       ·rw[ZZ (bq GF)];exact Z3 (FI.a ⟨hs.k,hs.a,hs.p,hs.f⟩ (by rw[aZ,bX];exact fK p3.1 p3.2.1 p3.2.2 (.inl GF)))
       rw[ZW (EJ GF)];have GG:∀ i,ib+1+k2<=i->i<lb.length->key (la.getD (ia) 0)<=key (lb.getD i 0):=fun i a b=>EO i a (by lia);refine Z1 (aY (show ia<la.length by lia) ?_);have p4:=fH 1 p3.1 p3.2.1 p3.2.2 (fun x hx y hy=>by
        rw[bN (show ia<la.length by lia),ZX] at hx;obtain⟨j,j1,j2,rfl⟩:=ck hy;have:=GG j j1 j2;rw[hx];exact this)
       rw[bN (show ia<la.length by lia)] at p4;by_cases EB:ia+1+1=la.length
       ·rw[ZZ (bq EB)];exact Z3 (FI.a ⟨hs.k,hs.a,hs.p,hs.f⟩ (by rw[aZ,bX,aZ];exact fL p4.1 p4.2.1 p4.2.2 EB top))
       rw[ZW (EJ EB)];by_cases hb:(decide (k<7) && decide (k2<7))=true
       ·rw[ZZ hb];exact Z3 (FI.b ⟨hs.k,hs.a,hs.p,hs.f⟩ ⟨_,by rw[aZ,bX,aZ],p4.1,p4.2.1,p4.2.2,by lia,by lia⟩ (by lia))
       ·rw[ZW hb];exact Z3 (Jh.k ⟨hs.k,hs.a,hs.p,hs.f⟩ ⟨_,by rw[aZ,bX,aZ],p4.1,p4.2.1,p4.2.2,by lia,by lia⟩ (by lia))
      ·rw[ZW Ha];have p3:=p2;have GG:∀ i,ib+1<=i->i<lb.length->key (la.getD (ia) 0)<=key (lb.getD i 0):=fun i a b=>EO i (by lia) (by lia);refine Z1 (aY (show ia<la.length by lia) ?_);have p4:=fH 1 p3.1 p3.2.1 p3.2.2 (fun x hx y hy=>by
        rw[bN (show ia<la.length by lia),ZX] at hx;obtain⟨j,j1,j2,rfl⟩:=ck hy;have:=GG j j1 j2;rw[hx];exact this)
       rw[bN (show ia<la.length by lia)] at p4;by_cases EB:ia+1+1=la.length
       ·rw[ZZ (bq EB)];exact Z3 (FI.a ⟨hs.k,hs.a,hs.p,hs.f⟩ (by rw[aZ,aZ];exact fL p4.1 p4.2.1 p4.2.2 EB top))
       rw[ZW (EJ EB)];by_cases hb:(decide (k<7) && decide (k2<7))=true
       ·rw[ZZ hb];exact Z3 (FI.b ⟨hs.k,hs.a,hs.p,hs.f⟩ ⟨_,by rw[aZ,aZ],p4.1,p4.2.1,p4.2.2,by lia,by lia⟩ (by lia))
       ·rw[ZW hb];exact Z3 (Jh.k ⟨hs.k,hs.a,hs.p,hs.f⟩ ⟨_,by rw[aZ,aZ],p4.1,p4.2.1,p4.2.2,by lia,by lia⟩ (by lia))
end
section
variable{prog:Program}{w:World}{A:Around}{E:Value->Shared->Prop}{κ:SortKind}{it:Array Keyed}{key:Nat->Int}{n:Nat}{s:Shared}
def oZ:Array Keyed->Array Keyed->StateT SortSt Sem (Array Keyed):=sortPriv% PySem.Builtin.mergeHi
variable{l:List Nat}{i j:Nat}
theorem lJ(Ff:i<=j)(hj:j<=l.length):l.drop i=(l.take j).drop i++l.drop j:=by
 have e:l.drop i=(l.take j++l.drop j).drop i:=by rw[ZA]
 rw[e,List.drop_append_of_le_length (by rw[Zf];lia)]
theorem xG(Ff:i<=j):l.take i++(l.take j).drop i=l.take j:=by
 have:=ZA i (l.take j)
 rwa [WD,WV Ff] at this
variable{la lb ro:List Nat}{na nb:Nat}
theorem fM(k:Nat)(hk:k<=na)(Qq:na<=la.length)(perm:ro.Perm (la.drop na++lb.drop nb))(sa:DD key (la.take na++ro))(sb:DD key (lb.take nb++ro))(h:∀ x∈(la.take na).drop k,∀ y∈lb.take nb,key y<=key x):
  ((la.take na).drop k++ro).Perm (la.drop k++lb.drop nb)/\DD key (la.take k++((la.take na).drop k++ro))/\DD key (lb.take nb++((la.take na).drop k++ro)):=by
 refine⟨?_,?_,?_⟩
 ·rw[lJ hk Qq,Z7];exact ZQ _ perm
 ·rw[<- Z7,xG hk];exact sa
 ·have s1:=bt.mp sa;have s2:=bt.mp sb;refine bt.mpr ⟨s2.1,bt.mpr ⟨s1.1.sublist<|Wv _ _,s2.2.1,fun x hx y hy=>s1.2.2 x (YO hx) y hy⟩,fun x hx y hy=>?_⟩;rcases ZD.mp hy with hy | hy
  ·exact h y hy x hx
  ·exact s2.2.2 x hx y hy
theorem ir(k:Nat)(hk:k<=nb)(Qr:nb<=lb.length)(perm:ro.Perm (la.drop na++lb.drop nb))(sa:DD key (la.take na++ro))(sb:DD key (lb.take nb++ro))(h:∀ x∈(lb.take nb).drop k,∀ y∈la.take na,key y<=key x):
  ((lb.take nb).drop k++ro).Perm (la.drop na++lb.drop k)/\DD key (la.take na++((lb.take nb).drop k++ro))/\DD key (lb.take k++((lb.take nb).drop k++ro)):=by
 have:=fM (la:=lb) (lb:=la) k hk Qr (perm.trans Z0) sb sa h;exact⟨this.1.trans Z0,this.2.2,this.2.1⟩
theorem b6(h0:0<i)(h:i<=l.length):(l.take i).drop (i - 1)=[l.getD (i - 1) 0]:=by
 rw[Xu,show i - (i - 1)=1 by lia];exact bN (by lia)
variable{y:Nat}
theorem cQ(h:y∈l.take i):∃ j,j<i/\j<l.length/\y=l.getD j 0:=by
 have:=fI (i:=0) (k:=i) (y:=y) (l:=l) (by rwa [Yd]);obtain⟨j,a,b,e⟩:=this;exact⟨j,a,by lia,by rw[e];congr 1;lia⟩
variable{k:Nat}
theorem lL(h:y∈(l.take k).drop i):∃ j,i<=j/\j<k/\j<l.length/\y=l.getD j 0:=by
 rw[Xu] at h;obtain⟨j,a,b,e⟩:=fI h;exact⟨i+j,by lia,by lia,b,e⟩
theorem eG(h:DD key (l.take i++ro))(Pi:j<=k)(hk:k<i)(hl:k<l.length):key (l.getD j 0)<=key (l.getD k 0):=by
 have:=fJ (bt.mp h).1 (i:=j) (j:=k) Pi (by rw[Zf];lia);simpa [List.getD,YF,show j<i by lia,hk] using this
theorem ed(perm:ro.Perm (la.drop na++lb.drop nb))(sa:DD key (la.take na++ro))(sb:DD key (lb.take nb++ro))(hz:na=0\/nb=0):
  F8 key it la lb ((la.map<|kas_item it).toArray.extract 0 na++(lb.map<|kas_item it).toArray.extract 0 nb++(ro.reverse.map<|kas_item it).toArray.reverse):=by
 refine⟨la.take na++lb.take nb++ro,?_,?_,?_⟩
 ·apply X9;simp[Yh]
 ·refine (ZQ _ perm).trans ?_;have:(la.take na++lb.take nb++(la.drop na++lb.drop nb)).Perm ((la.take na++la.drop na)++(lb.take nb++lb.drop nb)):=by
   rw[Z7,Z7];refine ZQ _ ?_;rw[<- Z7,<- Z7];exact ZI _ Z0
  rw[ZA,ZA] at this;exact this
 ·rcases hz with e | e
  ·rw[e,List.take_zero,WU];exact sb
  ·rw[e,List.take_zero,ZY];exact sa
theorem gu(perm:ro.Perm (la.drop na++lb.drop nb))(sa:DD key (la.take na++ro))(sb:DD key (lb.take nb++ro))(hz:nb=1)(first:∀ x∈la,key (lb.getD 0 0)<=key x):
  F8 key it la lb ((lb.map<|kas_item it).toArray.extract 0 nb++(la.map<|kas_item it).toArray.extract 0 na++(ro.reverse.map<|kas_item it).toArray.reverse):=by
 refine⟨lb.take nb++la.take na++ro,?_,?_,?_⟩
 ·apply X9;simp[Yh]
 ·refine (ZQ _ perm).trans ?_;have:(lb.take nb++la.take na++(la.drop na++lb.drop nb)).Perm ((la.take na++la.drop na)++(lb.take nb++lb.drop nb)):=by
   rw[Z7,<- Z7 (la.take na),<- Z7 (la.take na++la.drop na)];rw[<- Z7 (lb.take nb)];exact ZI _ Z0
  rw[ZA,ZA] at this;exact this
 ·rw[Z7];refine bt.mpr ⟨(bt.mp sb).1,sa,fun x hx y hy=>?_⟩;rcases ZD.mp hy with hy | hy
  ·obtain⟨j,h1,h2,rfl⟩:=cQ hx;have:j=0:=by lia
   rw[this];exact first y (YD hy)
  ·exact (bt.mp sb).2.2 x hx y hy
theorem aS(ro:List Nat)(y:Nat):(ro.reverse.map<|kas_item it).toArray.push (kas_item it y)=(([y]++ro).reverse.map<|kas_item it).toArray:=by simp
theorem bF(ro l:List Nat)(i k:Nat):(ro.reverse.map<|kas_item it).toArray++((l.map<|kas_item it).toArray.extract i k).reverse=(((l.take k).drop i++ro).reverse.map<|kas_item it).toArray:=by
 apply X9;simp[Yi,Yh,Xu]
structure Qs(key:Nat->Int)(la lb:List Nat)(ro:List Nat)(na nb:Nat):Prop where
 perm:ro.Perm (la.drop na++lb.drop nb)
 sa:DD key (la.take na++ro)
 sb:DD key (lb.take nb++ro)
 pa:0<na
 pb:1<nb
 qa:na<=la.length
 qb:nb<=lb.length
def Hn(key:Nat->Int)(it:Array Keyed)(la lb:List Nat)(out:Array Keyed)(na nb:Nat):Prop:=∃ ro:List Nat,out=(ro.reverse.map<|kas_item it).toArray/\Qs key la lb ro na nb
end
section
variable{prog:Program}{w:World}{A:Around}{E:Value->Shared->Prop}{κ:SortKind}{it:Array Keyed}{key:Nat->Int}{n:Nat}{s:Shared}
def Ln(key:Nat->Int)(it:Array Keyed)(la lb:List Nat)(st:SortSt)(s:Shared): Option (Array Keyed)×Nat×Nat×Array Keyed×Nat->SortSt->Shared->Prop:=fun c e_ s'=>s=s'/\l_ st e_/\∃ DM p q r g,c=(some DM,p,q,r,g)/\F8 key it la lb DM
def Lo(key:Nat->Int)(it:Array Keyed)(la lb:List Nat)(st:SortSt)(s:Shared)(x:Nat):Option (Array Keyed)×Nat×Nat×Array Keyed×Nat->SortSt->Shared->Prop:=fun c e_ s'=>s=s'/\l_ st e_/\∃ na nb o g,c=(none,na,nb,o,g)/\Hn key it la lb o na nb/\na+nb+x+1<=la.length+lb.length
def Il(key:Nat->Int)(it:Array Keyed)(la lb:List Nat)(st:SortSt)(s:Shared)(x:Nat):Option (Array Keyed)×Nat×Nat×Array Keyed×Nat×Nat->SortSt->Shared->Prop:=fun c e_ s'=>s=s'/\l_ st e_/\((∃ DM p q r ac bc,c=(some DM,p,q,r,ac,bc)/\F8 key it la lb DM)\/∃ na nb o ac bc,c=(none,na,nb,o,ac,bc)/\Hn key it la lb o na nb/\na+nb+x+2<=la.length+lb.length)
def KB(key:Nat->Int)(it:Array Keyed)(la lb:List Nat)(st:SortSt)(s:Shared)(x y:Nat):Option (Array Keyed)×Nat×Nat×Array Keyed×Nat×Nat->SortSt->Shared->Prop:=fun c e_ s'=>s=s'/\l_ st e_/\∃ na nb o ac bc,c=(none,na,nb,o,ac,bc)/\Hn key it la lb o na nb/\na+nb+x+1+y<=la.length+lb.length
def FF(key:Nat->Int)(it:Array Keyed)(la lb:List Nat)(st:SortSt)(s:Shared)(x:Nat):Option (Array Keyed)×Nat×Nat×Array Keyed×Nat×Nat×Nat->SortSt->Shared->Prop:=fun c e_ s'=>s=s'/\l_ st e_/\((∃ DM p q r g ac bc,c=(some DM,p,q,r,g,ac,bc)/\F8 key it la lb DM)\/∃ na nb o g ac bc,c=(none,na,nb,o,g,ac,bc)/\Hn key it la lb o na nb/\na+nb+x+2<=la.length+lb.length)
def Ji(key:Nat->Int)(it:Array Keyed)(la lb:List Nat)(st:SortSt)(s:Shared)(x y:Nat):Option (Array Keyed)×Nat×Nat×Array Keyed×Nat×Nat×Nat->SortSt->Shared->Prop:=fun c e_ s'=>s=s'/\l_ st e_/\∃ na nb o g ac bc,c=(none,na,nb,o,g,ac,bc)/\Hn key it la lb o na nb/\na+nb+x+2<=la.length+lb.length
variable{la lb:List Nat}{st e_:SortSt}{out r:Array Keyed}{p q g:Nat}
theorem Ln.a{key:Nat->Int}{it:Array Keyed}{s:Shared}(h:l_ st e_)(m:F8 key it la lb out):Ln key it la lb st s (some out,p,q,r,g) e_ s:=⟨rfl,h,_,_,_,_,_,rfl,m⟩
variable{x na nb:Nat}{o:Array Keyed}
theorem Lo.k{key:Nat->Int}{it:Array Keyed}{s:Shared}(h:l_ st e_)(j:Hn key it la lb o na nb)(e:na+nb+x+1<=la.length+lb.length):Lo key it la lb st s x (none,na,nb,o,g) e_ s:=⟨rfl,h,_,_,_,_,rfl,j,e⟩
variable{g2:Nat}
theorem Il.a{key:Nat->Int}{it:Array Keyed}{s:Shared}(h:l_ st e_)(m:F8 key it la lb out):Il key it la lb st s x (some out,p,q,r,g,g2) e_ s:=⟨rfl,h,.inl ⟨_,_,_,_,_,_,rfl,m⟩⟩
theorem Il.b{key:Nat->Int}{it:Array Keyed}{s:Shared}(h:l_ st e_)(j:Hn key it la lb o na nb)(e:na+nb+x+2<=la.length+lb.length):Il key it la lb st s x (none,na,nb,o,g,g2) e_ s:=⟨rfl,h,.inr ⟨_,_,_,_,_,rfl,j,e⟩⟩
variable{y:Nat}
theorem KB.k{key:Nat->Int}{it:Array Keyed}{s:Shared}(h:l_ st e_)(j:Hn key it la lb o na nb)(e:na+nb+x+1+y<=la.length+lb.length):KB key it la lb st s x y (none,na,nb,o,g,g2) e_ s:=⟨rfl,h,_,_,_,_,_,rfl,j,e⟩
variable{g3:Nat}
theorem FF.a{key:Nat->Int}{it:Array Keyed}{s:Shared}(h:l_ st e_)(m:F8 key it la lb out):FF key it la lb st s x (some out,p,q,r,g,g2,g3) e_ s:=⟨rfl,h,.inl ⟨_,_,_,_,_,_,_,rfl,m⟩⟩
theorem FF.b{key:Nat->Int}{it:Array Keyed}{s:Shared}(h:l_ st e_)(j:Hn key it la lb o na nb)(e:na+nb+x+2<=la.length+lb.length):FF key it la lb st s x (none,na,nb,o,g,g2,g3) e_ s:=⟨rfl,h,.inr ⟨_,_,_,_,_,_,rfl,j,e⟩⟩
theorem Ji.k{key:Nat->Int}{it:Array Keyed}{s:Shared}(h:l_ st e_)(j:Hn key it la lb o na nb)(e:na+nb+x+2<=la.length+lb.length):Ji key it la lb st s x y (none,na,nb,o,g,g2,g3) e_ s:=⟨rfl,h,_,_,_,_,_,_,rfl,j,e⟩
theorem xH(hc:cj n key (kas_cmp prog w A κ it) s){la lb:List Nat}(IH:∀ x∈la,x<n)(II:∀ x∈lb,x<n)(NP:DD key la)(NQ:DD key lb)(h0:0<la.length)(h1:0<lb.length)(first:∀ x∈la,key (lb.getD 0 0)<=key x)(top:∀ x∈lb,key x<=key (la.getD (la.length - 1) 0)){st:SortSt}(s_:kindOf st=κ){Q:Array Keyed->SortSt->Shared->Prop}(h:∀ out e_,F8 key it la lb out->l_ st e_->Q out e_ s):
  kasC (model prog w) A E (oZ (la.map<|kas_item it).toArray (lb.map<|kas_item it).toArray) Q st s:=by
 unfold oZ;with_unfolding_all refine Z1 (WK<|YL ?_);dsimp only;generalize NR:(List.map (kas_item it) la).toArray.size=za;obtain rfl:la.length=za:=by rw[<- NR];simp
 generalize NS:(List.map (kas_item it) lb).toArray.size=zb;obtain rfl:lb.length=zb:=by rw[<- NS];simp
 refine Z1 (aY (show la.length - 1<la.length by lia) ?_);try dsimp only
 have l1:=b6 h0 (ZR _);rw[Xd] at l1;have Fk:[la.getD (la.length - 1) 0].Perm (la.drop (la.length - 1)++lb.drop lb.length):=by
  rw[l1,Wn];exact ZG _
 have J0:DD key (la.take (la.length - 1)++[la.getD (la.length - 1) 0]):=by
  rw[<- l1,ZA];exact NP
 have JZ:DD key (lb.take lb.length++[la.getD (la.length - 1) 0]):=bt.mpr ⟨by rw[Xd];exact NQ,ZB _ _,fun x hx y hy=>by
  rw[ZX.mp hy];exact top x (by rwa [Xd] at hx)⟩
 have e0:#[kas_item it (la.getD (la.length - 1) 0)]=([la.getD (la.length - 1) 0].reverse.map<|kas_item it).toArray:=rfl;rw[e0];by_cases c1:la.length - 1=0
 ·rw[ZZ (bq c1)];exact Z3 (h _ _ (ed Fk J0 JZ<|.inl c1)<|l_.refl st)
 rw[ZW (EJ c1)];by_cases c2:lb.length=1
 ·rw[ZZ (bq c2)];exact Z3 (h _ _ (gu Fk J0 JZ c2 first)<|l_.refl st)
 rw[ZW (EJ c2)];refine Z1 (X4 ?_);refine Z1 (cn (Q':=Ln key it la lb st s) (Za (bM (Lo key it la lb st s) ?step _ 0 _ _ _ ?fin (Lo.k (l_.refl st) ⟨_,rfl,Fk,J0,JZ,by lia,by lia,by lia,by lia⟩ (by lia)))) ?after)
 case after=>
  rintro c e_ s' ⟨rfl,hs,DM,o,ia,ib,g,rfl,hm⟩;exact Z3 (h _ _ hm hs)
 case fin=>
  rintro c e_ s' ⟨rfl,hs,na,nb,o,g,rfl,⟨po,rfl,m⟩,hx⟩;have:=m.pa;have:=m.pb;lia
 case step=>
  rintro x c e_ s' ⟨rfl,hs,na,nb,o,g,rfl,hJ,hx⟩;dsimp only;refine Z1 (cn (Q':=Il key it la lb st s x)
   (Za (bM (KB key it la lb st s x) ?HH _ 0 _ _ _ ?J1 (KB.k hs hJ (by lia)))) ?GC)
  case J1=>
   rintro c e_ s' ⟨rfl,hs,na,nb,o,ac,bc,rfl,hJ,hx⟩;exact Il.b hs hJ (by lia)
  case HH=>
   rintro y c e_ s' ⟨rfl,hs,na,nb,o,ac,bc,rfl,⟨po,rfl,m⟩,hx⟩;have m1:=m.pa;have m2:=m.pb;have m3:=m.qa;have m4:=m.qb;have HI:kindOf e_=κ:=hs.k.trans s_;dsimp only;refine Z1 (aY (show nb - 1<lb.length by lia) ?_);refine Z1 (aY (show na - 1<la.length by lia) ?_);refine Z1 (io hc (cP II (show nb - 1<lb.length by lia)) (cP IH (show na - 1<la.length by lia)) HI ?_);dsimp only;by_cases hw:key (lb.getD (nb - 1) 0)<key (la.getD (na - 1) 0)
   ·rw[ZZ (by simpa using hw)];refine Z1 (aY (show na - 1<la.length by lia) ?_);have b1:=fM (na - 1) (by lia) m3 m.perm m.sa m.sb (fun x hx y hy=>by
     rw[b6 m1 m3,ZX] at hx;obtain⟨j,j1,j2,rfl⟩:=cQ hy;have:=eG m.sb (show j<=nb - 1 by lia) (by lia) (by lia);rw[hx];lia)
    rw[b6 m1 m3] at b1;rw[aS];try dsimp only
    by_cases hz:na - 1=0
    ·rw[ZZ (bq hz)];exact Z3 (Il.a hs<|ed b1.1 b1.2.1 b1.2.2<|.inl hz)
    ·rw[ZW (EJ hz)];have J':Hn key it la lb (([la.getD (na - 1) 0]++po).reverse.map<|kas_item it).toArray (na - 1) nb:=⟨_,rfl,b1.1,b1.2.1,b1.2.2,by lia,m2,by lia,m4⟩;by_cases hg:ac+1 >= g
     ·rw[ZZ hg];exact Z3 (Il.b hs J' (by lia))
     ·rw[ZW hg];exact Z3 (KB.k hs J' (by lia))
   ·rw[ZW (by simpa using hw)];refine Z1 (aY (show nb - 1<lb.length by lia) ?_);have b1:=ir (nb - 1) (by lia) m4 m.perm m.sa m.sb (fun x hx y hy=>by
     rw[b6 (by lia) m4,ZX] at hx;obtain⟨j,j1,j2,rfl⟩:=cQ hy;have:=eG m.sa (show j<=na - 1 by lia) (by lia) (by lia);rw[hx];lia)
    rw[b6 (by lia) m4] at b1;rw[aS];try dsimp only
    by_cases hz:nb - 1=1
    ·rw[ZZ (bq hz)];exact Z3 (Il.a hs<|gu b1.1 b1.2.1 b1.2.2 hz first)
    ·rw[ZW (EJ hz)];have J':Hn key it la lb (([lb.getD (nb - 1) 0]++po).reverse.map<|kas_item it).toArray na (nb - 1):=⟨_,rfl,b1.1,b1.2.1,b1.2.2,m1,by lia,m3,by lia⟩;by_cases hg:bc+1 >= g
     ·rw[ZZ hg];exact Z3 (Il.b hs J' (by lia))
     ·rw[ZW hg];exact Z3 (KB.k hs J' (by lia))
  case GC=>
   rintro c e_ s' ⟨rfl,hs,⟨DM,o,ia,ib,ac,bc,rfl,hm⟩ | ⟨na,nb,o,ac,bc,rfl,hJ,hx⟩⟩
   ·exact Z3 (Ln.a hs hm)
   ·try dsimp only
    refine Z1 (WK<|YL ?_);try dsimp only
    refine Z1 (cn (Q':=FF key it la lb st s x)
     (Za (bM (Ji key it la lb st s x) ?HJ _ 0 _ _ _ ?fin2 (Ji.k hs hJ (by lia)))) ?GD)
    case fin2=>
     rintro c e_ s' ⟨rfl,hs,na,nb,o,g,ac,bc,rfl,hJ,hx⟩;exact FF.b hs hJ (by lia)
    case GD=>
     rintro c e_ s' ⟨rfl,hs,⟨DM,o,ia,ib,g,ac,bc,rfl,hm⟩ | ⟨na,nb,o,g,ac,bc,rfl,hJ,hx⟩⟩
     ·exact Z3 (Ln.a hs hm)
     ·try dsimp only
      refine Z1 (YN ?_);exact Z3 (Lo.k ⟨hs.k,hs.a,hs.p,hs.f⟩ hJ (by lia))
    case HJ=>
     rintro y c e_ s' ⟨rfl,hs,na,nb,o,g,ac,bc,rfl,⟨po,rfl,m⟩,hx⟩;have m1:=m.pa;have m2:=m.pb;have m3:=m.qa;have m4:=m.qb;dsimp only;revert g;refine oY (fun g=>g - 1) ?ha ?_
     case ha=>exact fun g=>rfl
     intro g;refine Z1 (YN ?_);refine Z1 (aY (show nb - 1<lb.length by lia) ?_);refine Z1 (lH hc (cP II (show nb - 1<lb.length by lia)) IH (base:=0) (m:=na) (hint:=na - 1) (by lia) (by lia) (fun i j a b c=>eG m.sa b (by lia) (by lia)) (by exact hs.k.trans s_) ?_);intro k MQ lo1 Kz;dsimp only;by_cases Lm:na - k > 0
     ·rw[ZZ Lm];have p1:=fM k (by lia) m3 m.perm m.sa m.sb (fun x hx y hy=>by
       obtain⟨j,j0,j1,j2,rfl⟩:=lL hx;obtain⟨j',a1,a2,rfl⟩:=cQ hy;have:=Kz j (by lia) (by lia);have:=eG m.sb (show j'<=nb - 1 by lia) (by lia) (by lia);lia)
      by_cases hz:k=0
      ·rw[ZZ (bq hz)];exact Z3 (FF.a ⟨hs.k,hs.a,hs.p,hs.f⟩ (by rw[bF];exact ed p1.1 p1.2.1 p1.2.2 (.inl hz)))
      rw[ZW (EJ hz)];have J3:∀ i,i<k->key (la.getD i 0)<=key (lb.getD (nb - 1) 0):=fun i a=>lo1 i (by lia) (by lia);refine Z1 (aY (show nb - 1<lb.length by lia) ?_);have p2:=ir (nb - 1) (by lia) m4 p1.1 p1.2.1 p1.2.2 (fun x hx y hy=>by
       rw[b6 (by lia) m4,ZX] at hx;obtain⟨j,j1,j2,rfl⟩:=cQ hy;have:=J3 j j1;rw[hx];lia)
      rw[b6 (by lia) m4] at p2;by_cases GE:nb - 1=1
      ·rw[ZZ (bq GE)];exact Z3 (FF.a ⟨hs.k,hs.a,hs.p,hs.f⟩ (by rw[bF,aS];exact gu p2.1 p2.2.1 p2.2.2 GE first))
      rw[ZW (EJ GE)];refine Z1 (aY (show k - 1<la.length by lia) ?_);refine Z1 (iq hc (cP IH (show k - 1<la.length by lia)) II (base:=0) (m:=nb - 1) (hint:=nb - 1 - 1) (by lia) (by lia) (fun i j a b c=>eG p2.2.2 b (by lia) (by lia)) (by exact hs.k.trans s_) ?_);intro k2 Gr HK EO;dsimp only;by_cases Ha:nb - 1 - k2 > 0
      ·rw[ZZ Ha];have p3:=ir k2 (by lia) (show nb - 1<=lb.length by lia) p2.1 p2.2.1 p2.2.2 (fun x hx y hy=>by
        obtain⟨j,j0,j1,j2,rfl⟩:=lL hx;obtain⟨j',a1,a2,rfl⟩:=cQ hy;have:=EO j (by lia) (by lia);have:=eG p2.2.1 (show j'<=k - 1 by lia) (by lia) (by lia);lia)
       by_cases GF:k2=1
       ·rw[ZZ (bq GF)];exact Z3 (FF.a ⟨hs.k,hs.a,hs.p,hs.f⟩ (by rw[bF,aS,bF];exact gu p3.1 p3.2.1 p3.2.2 GF first))
       rw[ZW (EJ GF)];by_cases J4:k2=0
       ·rw[ZZ (bq J4)];exact Z3 (FF.a ⟨hs.k,hs.a,hs.p,hs.f⟩ (by rw[bF,aS,bF];exact ed p3.1 p3.2.1 p3.2.2 (.inr J4)))
       rw[ZW (EJ J4)];have GG:∀ i,i<k2->key (lb.getD i 0)<key (la.getD (k - 1) 0):=fun i a=>HK i (by lia) (by lia);refine Z1 (aY (show k - 1<la.length by lia) ?_);have p4:=fM (k - 1) (by lia) (show k<=la.length by lia) p3.1 p3.2.1 p3.2.2 (fun x hx y hy=>by
        rw[b6 (by lia) (show k<=la.length by lia),ZX] at hx;obtain⟨j,j1,j2,rfl⟩:=cQ hy;have:=GG j j1;rw[hx];lia)
       rw[b6 (by lia) (show k<=la.length by lia)] at p4;by_cases EB:k - 1=0
       ·rw[ZZ (bq EB)];exact Z3 (FF.a ⟨hs.k,hs.a,hs.p,hs.f⟩ (by rw[bF,aS,bF,aS];exact ed p4.1 p4.2.1 p4.2.2 (.inl EB)))
       rw[ZW (EJ EB)];by_cases hb:(decide (na - k<7) && decide (nb - 1 - k2<7))=true
       ·rw[ZZ hb];exact Z3 (FF.b ⟨hs.k,hs.a,hs.p,hs.f⟩ ⟨_,by rw[bF,aS,bF,aS],p4.1,p4.2.1,p4.2.2,by lia,by lia,by lia,by lia⟩ (by lia))
       ·rw[ZW hb];exact Z3 (Ji.k ⟨hs.k,hs.a,hs.p,hs.f⟩ ⟨_,by rw[bF,aS,bF,aS],p4.1,p4.2.1,p4.2.2,by lia,by lia,by lia,by lia⟩ (by lia))
      ·rw[ZW Ha];have p3:=p2;have GG:∀ i,i<nb - 1->key (lb.getD i 0)<key (la.getD (k - 1) 0):=fun i a=>HK i (by lia) (by lia);refine Z1 (aY (show k - 1<la.length by lia) ?_);have p4:=fM (k - 1) (by lia) (show k<=la.length by lia) p3.1 p3.2.1 p3.2.2 (fun x hx y hy=>by
        rw[b6 (by lia) (show k<=la.length by lia),ZX] at hx;obtain⟨j,j1,j2,rfl⟩:=cQ hy;have:=GG j j1;rw[hx];lia)
       rw[b6 (by lia) (show k<=la.length by lia)] at p4;by_cases EB:k - 1=0
       ·rw[ZZ (bq EB)];exact Z3 (FF.a ⟨hs.k,hs.a,hs.p,hs.f⟩ (by rw[bF,aS,aS];exact ed p4.1 p4.2.1 p4.2.2 (.inl EB)))
       rw[ZW (EJ EB)];by_cases hb:(decide (na - k<7) && decide (nb - 1 - k2<7))=true
       ·rw[ZZ hb];exact Z3 (FF.b ⟨hs.k,hs.a,hs.p,hs.f⟩ ⟨_,by rw[bF,aS,aS],p4.1,p4.2.1,p4.2.2,by lia,by lia,by lia,by lia⟩ (by lia))
       ·rw[ZW hb];exact Z3 (Ji.k ⟨hs.k,hs.a,hs.p,hs.f⟩ ⟨_,by rw[bF,aS,aS],p4.1,p4.2.1,p4.2.2,by lia,by lia,by lia,by lia⟩ (by lia))
     ·rw[ZW Lm];have p1:po.Perm (la.drop na++lb.drop nb)/\DD key (la.take na++po)/\DD key (lb.take nb++po):=⟨m.perm,m.sa,m.sb⟩;have J3:∀ i,i<na->key (la.getD i 0)<=key (lb.getD (nb - 1) 0):=fun i a=>lo1 i (by lia) (by lia);refine Z1 (aY (show nb - 1<lb.length by lia) ?_);have p2:=ir (nb - 1) (by lia) m4 p1.1 p1.2.1 p1.2.2 (fun x hx y hy=>by
       rw[b6 (by lia) m4,ZX] at hx;obtain⟨j,j1,j2,rfl⟩:=cQ hy;have:=J3 j j1;rw[hx];lia)
      rw[b6 (by lia) m4] at p2;by_cases GE:nb - 1=1
      ·rw[ZZ (bq GE)];exact Z3 (FF.a ⟨hs.k,hs.a,hs.p,hs.f⟩ (by rw[aS];exact gu p2.1 p2.2.1 p2.2.2 GE first))
      rw[ZW (EJ GE)];refine Z1 (aY (show na - 1<la.length by lia) ?_);refine Z1 (iq hc (cP IH (show na - 1<la.length by lia)) II (base:=0) (m:=nb - 1) (hint:=nb - 1 - 1) (by lia) (by lia) (fun i j a b c=>eG p2.2.2 b (by lia) (by lia)) (by exact hs.k.trans s_) ?_);intro k2 Gr HK EO;dsimp only;by_cases Ha:nb - 1 - k2 > 0
      ·rw[ZZ Ha];have p3:=ir k2 (by lia) (show nb - 1<=lb.length by lia) p2.1 p2.2.1 p2.2.2 (fun x hx y hy=>by
        obtain⟨j,j0,j1,j2,rfl⟩:=lL hx;obtain⟨j',a1,a2,rfl⟩:=cQ hy;have:=EO j (by lia) (by lia);have:=eG p2.2.1 (show j'<=na - 1 by lia) (by lia) (by lia);lia)
       by_cases GF:k2=1
       ·rw[ZZ (bq GF)];exact Z3 (FF.a ⟨hs.k,hs.a,hs.p,hs.f⟩ (by rw[aS,bF];exact gu p3.1 p3.2.1 p3.2.2 GF first))
       rw[ZW (EJ GF)];by_cases J4:k2=0
       ·rw[ZZ (bq J4)];exact Z3 (FF.a ⟨hs.k,hs.a,hs.p,hs.f⟩ (by rw[aS,bF];exact ed p3.1 p3.2.1 p3.2.2 (.inr J4)))
       rw[ZW (EJ J4)];have GG:∀ i,i<k2->key (lb.getD i 0)<key (la.getD (na - 1) 0):=fun i a=>HK i (by lia) (by lia);refine Z1 (aY (show na - 1<la.length by lia) ?_);have p4:=fM (na - 1) (by lia) (show na<=la.length by lia) p3.1 p3.2.1 p3.2.2 (fun x hx y hy=>by
        rw[b6 (by lia) (show na<=la.length by lia),ZX] at hx;obtain⟨j,j1,j2,rfl⟩:=cQ hy;have:=GG j j1;rw[hx];lia)
       rw[b6 (by lia) (show na<=la.length by lia)] at p4;by_cases EB:na - 1=0
       ·rw[ZZ (bq EB)];exact Z3 (FF.a ⟨hs.k,hs.a,hs.p,hs.f⟩ (by rw[aS,bF,aS];exact ed p4.1 p4.2.1 p4.2.2 (.inl EB)))
       rw[ZW (EJ EB)];by_cases hb:(decide (na - k<7) && decide (nb - 1 - k2<7))=true
       ·rw[ZZ hb];exact Z3 (FF.b ⟨hs.k,hs.a,hs.p,hs.f⟩ ⟨_,by rw[aS,bF,aS],p4.1,p4.2.1,p4.2.2,by lia,by lia,by lia,by lia⟩ (by lia))
       ·rw[ZW hb];exact Z3 (Ji.k ⟨hs.k,hs.a,hs.p,hs.f⟩ ⟨_,by rw[aS,bF,aS],p4.1,p4.2.1,p4.2.2,by lia,by lia,by lia,by lia⟩ (by lia))
      ·rw[ZW Ha];have p3:=p2;have GG:∀ i,i<nb - 1->key (lb.getD i 0)<key (la.getD (na - 1) 0):=fun i a=>HK i (by lia) (by lia);refine Z1 (aY (show na - 1<la.length by lia) ?_);have p4:=fM (na - 1) (by lia) (show na<=la.length by lia) p3.1 p3.2.1 p3.2.2 (fun x hx y hy=>by
        rw[b6 (by lia) (show na<=la.length by lia),ZX] at hx;obtain⟨j,j1,j2,rfl⟩:=cQ hy;have:=GG j j1;rw[hx];lia)
       rw[b6 (by lia) (show na<=la.length by lia)] at p4;by_cases EB:na - 1=0
       ·rw[ZZ (bq EB)];exact Z3 (FF.a ⟨hs.k,hs.a,hs.p,hs.f⟩ (by rw[aS,aS];exact ed p4.1 p4.2.1 p4.2.2 (.inl EB)))
       rw[ZW (EJ EB)];by_cases hb:(decide (na - k<7) && decide (nb - 1 - k2<7))=true
       ·rw[ZZ hb];exact Z3 (FF.b ⟨hs.k,hs.a,hs.p,hs.f⟩ ⟨_,by rw[aS,aS],p4.1,p4.2.1,p4.2.2,by lia,by lia,by lia,by lia⟩ (by lia))
       ·rw[ZW hb];exact Z3 (Ji.k ⟨hs.k,hs.a,hs.p,hs.f⟩ ⟨_,by rw[aS,aS],p4.1,p4.2.1,p4.2.2,by lia,by lia,by lia,by lia⟩ (by lia))
end
section
variable{prog:Program}{w:World}{A:Around}{E:Value->Shared->Prop}{κ:SortKind}{it:Array Keyed}{key:Nat->Int}{n:Nat}{s:Shared}
theorem xI{σ:Type}{M:Model}{Q:PUnit->σ->Shared->Prop}{st q_:σ}{s:Shared}(h:Q ⟨⟩ q_ s):kasC M A E (set q_:StateT σ Sem PUnit) Q st s:=by
 unfold kasC;rw[StateT.run_set];exact ZU h
theorem lM{α:Type}:∀ (l:List α) (arr:List α) (q j0 s0:Nat),q+l.length<=arr.length->q=s0+j0->((l.zipIdx j0).foldl (fun (a:Array α) (x:α×Nat)=>a.setIfInBounds (s0+x.2) x.1) arr.toArray)=(arr.take q++l++arr.drop (q+l.length)).toArray
 | [],arr,q,j0,s0,h,e=>by simp
 | x::l,arr,q,j0,s0,h,e=>by
  rw[ZC] at h;rw[Wm,YH];dsimp only;rw[<- e,WC,lM l (arr.set q x) (q+1) (j0+1) s0 (by rw[XN];lia) (by lia)];congr 1;have e1:(arr.set q x).take (q+1)=arr.take q++[x]:=by
   apply Yk;intro i;rw[YF,List.getElem?_append,Zf,YF,Xt];by_cases h1:i<q
   ·rw[ZZ (by lia),ZW (by lia),ZZ (by lia),ZZ h1]
   ·by_cases h2:i=q
    ·subst h2;rw[ZZ (by lia),ZZ rfl,ZZ (by lia),ZW (by lia)];simp[show i - min i arr.length=0 by lia]
    ·rw[ZW (by lia),ZW (by lia)];rw[Xl];rw[Y9];lia
  have e2:(arr.set q x).drop (q+1+l.length)=arr.drop (q+(l.length+1)):=by
   apply Yk;intro i;rw[YR,YR,Xt,ZW (by lia)];congr 1;lia
  rw[e1,e2,ZC,Z7,Z7,Z7];rfl
theorem pc{LA LB po:List Nat}{k m:Nat}(sA:DD key LA)(sB:DD key LB)(hb:0<LB.length)(ha:0<LA.length)(h1:∀ x∈LA.take k,key x<=key (LB.getD 0 0))(h4:∀ x∈LB.drop m,key (LA.getD (LA.length - 1) 0)<=key x)(hp:po.Perm (LA.drop k++LB.take m))(sp:DD key po):DD key (LA.take k++po++LB.drop m)/\(LA.take k++po++LB.drop m).Perm (LA++LB):=by
 have b0:∀ y∈LB,key (LB.getD 0 0)<=key y:=fun y hy=>by
  obtain⟨j,_,hj,rfl⟩:=ck (i:=0) (l:=LB) (by rwa [Yd]);exact fJ sB (Ys _) hj
 have aL:∀ x∈LA,key x<=key (LA.getD (LA.length - 1) 0):=fun x hx=>by
  obtain⟨j,_,hj,rfl⟩:=ck (i:=0) (l:=LA) (by rwa [Yd]);exact fJ sA (by lia) (by lia)
 have cA:DD key (LA.take k++LA.drop k):=by rwa [ZA]
 have cB:DD key (LB.take m++LB.drop m):=by rwa [ZA]
 have cA:=bt.mp cA;have cB:=bt.mp cB;refine⟨bt.mpr ⟨bt.mpr ⟨cA.1,sp,fun x hx y hy=>?_⟩,cB.2.1,fun x hx y hy=>?_⟩,?_⟩
 ·rcases ZD.mp (hp.mem_iff.mp hy) with hy | hy
  ·exact cA.2.2 x hx y hy
  ·exact V7 (h1 x hx) (b0 y<|YD hy)
 ·rcases ZD.mp hx with hx | hx
  ·exact V7 (h1 x hx) (b0 y<|YO hy)
  ·rcases ZD.mp (hp.mem_iff.mp hx) with hx | hx
   ·exact V7 (aL x<|YO hx) (h4 y hy)
   ·exact cB.2.2 x hx y hy
 ·refine (ZI _<|ZQ _ hp).trans ?_;rw[<- Z7,ZA,Z7,ZA]
theorem xJ(hc:cj n key (kas_cmp prog w A κ it) s){lp:List Nat}(KC:∀ x∈lp,x<n){i sa na nb pw pw2:Nat}{st:SortSt}(s_:PyProof.Rows.kindOf st=κ)(NT:arrOf st=(lp.map<|kas_item it).toArray)(hf:failedOf st=none)(hi:(pendingOf st)[i]?=some (sa,na,pw))(hj:(pendingOf st)[i+1]?=some (sa+na,nb,pw2))(ha:0<na)(hb:0<nb)(hz:sa+na+nb<=lp.length)(sA:DD key ((lp.drop sa).take na))(sB:DD key ((lp.drop<|sa+na).take nb)){Q:Bool->SortSt->Shared->Prop}(h:∀ mid e_,PyProof.Rows.kindOf e_=κ->failedOf e_=none->pendingOf e_=((pendingOf st).setIfInBounds i (sa,na+nb,pw)).eraseIdxIfInBounds (i+1)->mid.Perm ((lp.drop sa).take<|na+nb)->DD key mid->
   arrOf e_=((lp.take sa++mid++lp.drop (sa+(na+nb))).map<|kas_item it).toArray->Q true e_ s):
  kasC (model prog w) A E (mergeAt' i) Q st s:=by
 have lA:((lp.drop sa).take na).length=na:=by rw[Zf,Zd];lia
 have lB:((lp.drop<|sa+na).take nb).length=nb:=by rw[Zf,Zd];lia
 have KD:∀ j,j<na->((lp.drop sa).take na).getD j 0=lp.getD (sa+j) 0:=fun j hj=>by simp[List.getD,YF,YR,hj]
 have gtB:∀ j,j<nb->((lp.drop<|sa+na).take nb).getD j 0=lp.getD (sa+na+j) 0:=fun j hj=>by simp[List.getD,YF,YR,hj]
 have eW:(lp.drop sa).take na++(lp.drop<|sa+na).take nb=(lp.drop sa).take (na+nb):=by rw[<- Yf,gr]
 have IJ:lp.take sa++(lp.drop sa).take (na+nb)++lp.drop (sa+(na+nb))=lp:=by rw[gr,ZA]
 have gA:∀ i j,sa<=i->i<=j->j<sa+na->key (lp.getD i 0)<=key (lp.getD j 0):=fun i j a b c=>by
  have:=fJ sA (i:=i - sa) (j:=j - sa) (by lia) (by lia)
  rwa [KD _ (by lia),KD _ (by lia),show sa+(i - sa)=i by lia,show sa+(j - sa)=j by lia] at this
 have gB:∀ i j,sa+na<=i->i<=j->j<sa+na+nb->key (lp.getD i 0)<=key (lp.getD j 0):=fun i j a b c=>by
  have:=fJ sB (i:=i - (sa+na)) (j:=j - (sa+na)) (by lia) (by lia)
  rwa [gtB _ (by lia),gtB _ (by lia),show sa+na+(i - (sa+na))=i by lia,show sa+na+(j - (sa+na))=j by lia] at this
 have mA:∀ x∈(lp.drop sa).take na,∃ j,sa<=j/\j<sa+na/\x=lp.getD j 0:=fun x hx=>by
  obtain⟨j,j0,j1,rfl⟩:=fI hx;exact⟨sa+j,by lia,by lia,rfl⟩
 have mB:∀ x∈(lp.drop<|sa+na).take nb,∃ j,sa+na<=j/\j<sa+na+nb/\x=lp.getD j 0:=fun x hx=>by
  obtain⟨j,j0,j1,rfl⟩:=fI hx;exact⟨sa+na+j,by lia,by lia,rfl⟩
 unfold mergeAt';with_unfolding_all refine Z1 (X4 ?_);simp only[hi,hj,NT];refine Z1 (xI ?_);refine Z1 (aY (show sa+na<lp.length by lia) ?_);refine Z1 (lH hc (cP KC (show sa+na<lp.length by lia)) KC (base:=sa) (m:=na) (hint:=0) (by lia) ha gA (by exact s_) ?_);intro k MQ lo1 Kz;dsimp only;by_cases c1:na - k=0
 ·rw[ZZ (by simpa using c1)];refine Z3 (h _ _ (by exact s_) (by exact hf) rfl (ZG _) ?_ ?_)
  ·rw[<- eW];refine bt.mpr ⟨sA,sB,fun x hx y hy=>?_⟩;obtain⟨j,j1,j2,rfl⟩:=mA x hx;obtain⟨j',j3,j4,rfl⟩:=mB y hy;have:=lo1 j j1 (by lia);have:=gB (sa+na) j' (by lia) j3 j4;lia
  ·rw[IJ]
 rw[ZW (by simpa using c1)];rw[show sa+k+(na - k) - 1=sa+na - 1 by lia];refine Z1 (aY (show sa+na - 1<lp.length by lia) ?_);refine Z1 (iq hc (cP KC (show sa+na - 1<lp.length by lia)) KC (base:=sa+na) (m:=nb) (hint:=nb - 1) (by lia) (by lia) gB (by exact s_) ?_);intro EQ Gr HK EO;dsimp only;by_cases c2:EQ=0
 ·rw[ZZ (by simpa using c2)];refine Z3 (h _ _ (by exact s_) (by exact hf) rfl (ZG _) ?_ ?_)
  ·rw[<- eW];refine bt.mpr ⟨sA,sB,fun x hx y hy=>?_⟩;obtain⟨j,j1,j2,rfl⟩:=mA x hx;obtain⟨j',j3,j4,rfl⟩:=mB y hy;have:=EO j' (by lia) j4;have:=gA j (sa+na - 1) j1 (by lia) (by lia);lia
  ·rw[IJ]
 rw[ZW (by simpa using c2)];have eX:(lp.map<|kas_item it).toArray.extract (sa+k) (sa+na)=((((lp.drop sa).take na).drop k).map<|kas_item it).toArray:=by
  apply X9;simp only[List.extract_toArray,List.extract_eq_drop_take,Yi,Yh];rw[Xu,Yf,show sa+na - (sa+k)=na - k by lia]
 have eY:(lp.map<|kas_item it).toArray.extract (sa+na) (sa+na+EQ)=((((lp.drop<|sa+na).take nb).take EQ).map<|kas_item it).toArray:=by
  apply X9;simp only[List.extract_toArray,List.extract_eq_drop_take,Yi,Yh];rw[WD,WV Gr,show sa+na+EQ - (sa+na)=EQ by lia]
 rw[eX,eY];have h1:∀ x∈((lp.drop sa).take na).take k,key x<=key (((lp.drop<|sa+na).take nb).getD 0 0):=fun x hx=>by
  rw[gtB 0 hb];obtain⟨j,j0,j1,rfl⟩:=cQ hx;rw[KD j (by lia)];exact lo1 _ (by lia) (by lia)
 have h4:∀ x∈((lp.drop<|sa+na).take nb).drop EQ,key (((lp.drop sa).take na).getD (((lp.drop sa).take na).length - 1) 0)<=key x:=fun x hx=>by
  rw[lA,KD _ (by lia)];obtain⟨j,j0,j1,rfl⟩:=ck hx;rw[gtB j (by lia),show sa+(na - 1)=sa+na - 1 by lia];exact EO _ (by lia) (by lia)
 have f1:∀ x∈((lp.drop sa).take na).drop k,key ((((lp.drop<|sa+na).take nb).take EQ).getD 0 0)<=key x:=fun x hx=>by
  rw[show (((lp.drop<|sa+na).take nb).take EQ).getD 0 0=((lp.drop<|sa+na).take nb).getD 0 0 by simp only[List.getD,YF,ZZ (show 0<EQ by lia)],gtB 0 hb];obtain⟨j,j0,j1,rfl⟩:=ck hx;rw[KD j (by lia)];have:=Kz (sa+j) (by lia) (by lia);rw[Nat.add_zero];lia
 have l2:(((lp.drop sa).take na).drop k).length=na - k:=by rw[Zd,lA]
 have l3:(((lp.drop<|sa+na).take nb).take EQ).length=EQ:=by rw[Zf,lB];lia
 have f2:∀ x∈((lp.drop<|sa+na).take nb).take EQ,key x<=key ((((lp.drop sa).take na).drop k).getD ((((lp.drop sa).take na).drop k).length - 1) 0):=fun x hx=>by
  rw[l2,show (((lp.drop sa).take na).drop k).getD (na - k - 1) 0=((lp.drop sa).take na).getD (na - 1) 0 by simp only[List.getD,YR,show k+(na - k - 1)=na - 1 by lia],KD _ (by lia),show sa+(na - 1)=sa+na - 1 by lia];obtain⟨j,j0,j1,rfl⟩:=cQ hx;rw[gtB j (by lia)];have:=HK (sa+na+j) (by lia) (by lia);lia
 have u1:∀ x∈((lp.drop sa).take na).drop k,x<n:=fun x hx=>KC x (YO<|YD<|YO hx);have u2:∀ x∈((lp.drop<|sa+na).take nb).take EQ,x<n:=fun x hx=>KC x (YO<|YD<|YD hx);by_cases c3:na - k<=EQ
 ·rw[ZZ c3];refine Z1 (xF hc u1 u2 (sA.sublist<|Wv _ _) (sB.sublist<|XD _ _) (by lia) (by lia) f1 f2 (by exact s_) ?_);intro out e_ hM IK;obtain⟨po,rfl,Gf,J5⟩:=hM;have HL:=pc (key:=key) sA sB (by lia) (by lia) h1 h4 Gf J5;refine Z1 (YN ?_);refine Z1 (X4 ?_);refine Z3 ?_;have e:failedOf e_=none:=IK.f.trans hf;show Q (failedOf e_).isNone _ s;rw[e];refine h (((lp.drop sa).take na).take k++po++((lp.drop<|sa+na).take nb).drop EQ) _ (IK.k.trans s_) (by first | rfl | exact e) (by exact IK.p) (by rw[<- eW];exact HL.2) HL.1 ?_;have ea:arrOf e_=(lp.map<|kas_item it).toArray:=IK.a;have pl:po.length=na - k+EQ:=by rw[Gf.length_eq,ZH,l2,l3]
  have NU:=lM (po.map<|kas_item it) (lp.map<|kas_item it) (sa+k) 0 (sa+k) (by rw[Z4,Z4,pl];lia) rfl;show List.foldl (fun a x=>a.setIfInBounds (sa+k+x.2) x.1) (arrOf e_) (po.map<|kas_item it).toArray.toList.zipIdx=_;rw[ea];refine NU.trans ?_;rw[Z4,pl,<- Yh,<- Yi,<- Y7,<- Y7];congr 2;have q1:lp.take (sa+k)=lp.take sa++((lp.drop sa).take na).take k:=by
   rw[WD,WV MQ,gr]
  have q2:lp.drop (sa+k+(na - k+EQ))=((lp.drop<|sa+na).take nb).drop EQ++lp.drop (sa+(na+nb)):=by
   have:=lJ (l:=lp.drop (sa+na)) (i:=EQ) (j:=nb) Gr (by rw[Zd];lia);rw[Yf,Yf] at this;rw[show sa+k+(na - k+EQ)=sa+na+EQ by lia,this,show sa+na+nb=sa+(na+nb) by lia]
  rw[q1,q2];simp only[Z7]
 ·rw[ZW c3];refine Z1 (xH hc u1 u2 (sA.sublist<|Wv _ _) (sB.sublist<|XD _ _) (by lia) (by lia) f1 f2 (by exact s_) ?_);intro out e_ hM IK;obtain⟨po,rfl,Gf,J5⟩:=hM;have HL:=pc (key:=key) sA sB (by lia) (by lia) h1 h4 Gf J5;refine Z1 (YN ?_);refine Z1 (X4 ?_);refine Z3 ?_;have e:failedOf e_=none:=IK.f.trans hf;show Q (failedOf e_).isNone _ s;rw[e];refine h (((lp.drop sa).take na).take k++po++((lp.drop<|sa+na).take nb).drop EQ) _ (IK.k.trans s_) (by first | rfl | exact e) (by exact IK.p) (by rw[<- eW];exact HL.2) HL.1 ?_;have ea:arrOf e_=(lp.map<|kas_item it).toArray:=IK.a;have pl:po.length=na - k+EQ:=by rw[Gf.length_eq,ZH,l2,l3]
  have NU:=lM (po.map<|kas_item it) (lp.map<|kas_item it) (sa+k) 0 (sa+k) (by rw[Z4,Z4,pl];lia) rfl;show List.foldl (fun a x=>a.setIfInBounds (sa+k+x.2) x.1) (arrOf e_) (po.map<|kas_item it).toArray.toList.zipIdx=_;rw[ea];refine NU.trans ?_;rw[Z4,pl,<- Yh,<- Yi,<- Y7,<- Y7];congr 2;have q1:lp.take (sa+k)=lp.take sa++((lp.drop sa).take na).take k:=by
   rw[WD,WV MQ,gr]
  have q2:lp.drop (sa+k+(na - k+EQ))=((lp.drop<|sa+na).take nb).drop EQ++lp.drop (sa+(na+nb)):=by
   have:=lJ (l:=lp.drop (sa+na)) (i:=EQ) (j:=nb) Gr (by rw[Zd];lia);rw[Yf,Yf] at this;rw[show sa+k+(na - k+EQ)=sa+na+EQ by lia,this,show sa+na+nb=sa+(na+nb) by lia]
  rw[q1,q2];simp only[Z7]
end
section
variable{prog:Program}{w:World}{A:Around}{E:Value->Shared->Prop}{κ:SortKind}{it:Array Keyed}{key:Nat->Int}{n:Nat}{s:Shared}{pend:Array (Nat×Nat×Nat)}
structure Hd(κ:SortKind)(it:Array Keyed)(pend:Array (Nat×Nat×Nat))(st:SortSt)(p:Array Nat):Prop where
 k:PyProof.Rows.kindOf st=κ
 a:arrOf st=p.map (kas_item it)
 p:pendingOf st=pend
 f:failedOf st=none
theorem iw(hc:cj n key (kas_cmp prog w A κ it) s){p:Array Nat}(hp:Rg n p){i j:Nat}(hi:i<n)(hj:j<n){st:SortSt}(H:Hd κ it pend st p){Q:Option Bool->SortSt->Shared->Prop}(h:Q (some<|decide (z_ key p i<z_ key p j)) st s):
  kasC (model prog w) A E (ltAt' i j) Q st s:=by
 have el:∀ i,i<n->(p.map<|kas_item it)[i]?=some (kas_item it<|p.getD i 0):=fun i hi=>by
  have:i<p.size:=by rw[hp.size];exact hi
  simp[Array.getD,this]
 rw[ltAt'_eq];refine Z1 (X4 ?_);rw[H.a];dsimp only;rw[elem'_eq,elem'_eq,el i hi,el j hj];refine Z1 (Z3 ?_);refine Z1 (Z3 ?_);exact io hc (hp.lt hi) (hp.lt hj) H.k h
variable{p:Array Nat}{st:SortSt}
theorem xK(H:Hd κ it pend st p){i j:Nat}{Q:Unit->SortSt->Shared->Prop}(h:∀ e_,Hd κ it pend e_ (kas_rev p i j)->Q () e_ s):kasC (model prog w) A E (reverseSlice' i j) Q st s:=by
 rw[reverseSlice'_eq];refine YN (h _ ⟨H.k,?_,H.p,H.f⟩);show mirror (arrOf st) i j ((j - i) / 2)=_;rw[H.a];exact kas_swaps_map (kas_item it) (fun k=>i+k) (fun k=>j - 1 - k) _ p
theorem xL(H:Hd κ it pend st p){i j:Nat}{Q:Unit->SortSt->Shared->Prop}(h:∀ e_,Hd κ it pend e_ (bubble p i<|i - j)->Q () e_ s):kasC (model prog w) A E (moveDown' i j) Q st s:=by
 rw[moveDown'_eq];refine YN (h _ ⟨H.k,?_,H.p,H.f⟩);show bubble (arrOf st) i (i - j)=_;rw[H.a];exact kas_swaps_map (kas_item it) (fun k=>i - k) (fun k=>i - k - 1) _ p
theorem ix{σ β:Type}{M:Model}{f:Nat->β->StateT σ Sem (ForInStep β)}{Q:β->σ->Shared->Prop}(I:Nat->β->σ->Shared->Prop)(B:Nat)(step:∀ x c st s',x<B->I x c st s'->kasC M A E (f x c) (fun r q_ s2=>match r with | .yield c'=>I (x+1) c' q_ s2 | .done c'=>Q c' q_ s2) st s'):∀ (m a:Nat) (c:β) (st:σ) (s':Shared),a+m<=B->(∀ c st s',I (a+m) c st s'->Q c st s')->I a c st s'->
   kasC M A E (forIn (range' a m) c f) Q st s'
 | 0,a,c,st,s',hB,fin,h=>by
  show kasC M A E (forIn ([]:List Nat) c f) Q st s';exact kasC_nil (fin c st s' h)
 | m+1,a,c,st,s',hB,fin,h=>by
  show kasC M A E (forIn (a::range' (a+1) m) c f) Q st s';refine kasC_cons (Y3 (step a c st s' (by lia) h) (fun r s2 h'=>?_) fun _ _ e=>e);obtain⟨r,q_⟩:=r;cases r with
  | done c'=>exact h'
  | yield c'=>exact ix I B step m (a+1) c' q_ s2 (by lia) (fun c st s' hi=>fin c st s' (by rw[show a+(m+1)=a+1+m by lia];exact hi)) h'
theorem xM(hc:cj n key (kas_cmp prog w A κ it) s)(inj:∀ i j,i<n->j<n->key i=key j->i=j){p:Array Nat}(hp:Rg n p){lo Ea:Nat}(h1:1<=Ea)(hz:lo+Ea<=n){st:SortSt}(H:Hd κ it pend st p){Q:Option Nat->SortSt->Shared->Prop}(h:∀ m p' e_,1<=m->m<=Ea->Rg n p'->Hd κ it pend e_ p'->(∀ i,i<lo->p'[i]?=p[i]?)->(∀ j,lo+1<=j->j<lo+m->z_ key p' (j - 1)<=z_ key p' j)->Q (some m) e_ s):
  kasC (model prog w) A E (countRun' lo Ea) Q st s:=by
 unfold countRun';have asc:∀ (q:Array Nat) (u_:SortSt) (a:Nat),Rg n q->Hd κ it pend u_ q->1<=a->a<=Ea->(∀ j,lo+1<=j->j<lo+a->z_ key q (j - 1)<=z_ key q j)->
   kasC (model prog w) A E (forIn [a:Ea] ((none:Option (Option Nat)),a) fun x c=>do
    let r <- ltAt' (lo+c.2) (lo+c.2 - 1)
    match r with
    | some IL=>if IL=true then pure (ForInStep.done (none,c.2)) else pure (ForInStep.yield (none,c.2+1))
    | x=>pure<|ForInStep.done (some none,c.2))
    (fun c e_ s'=>s=s'/\u_=e_/\∃ m,c=(none,m)/\a<=m/\m<=Ea/\(∀ j,lo+1<=j->j<lo+m->z_ key q (j - 1)<=z_ key q j)/\(m=Ea\/z_ key q (lo+m)<z_ key q (lo+m - 1))) u_ s:=fun q u_ a hq H1 a1 a2 a3=>by
  refine Za (ix (fun x c e_ s'=>s=s'/\u_=e_/\c=(none,x)/\a<=x/\∀ j,lo+1<=j->j<lo+x->z_ key q (j - 1)<=z_ key q j) Ea ?_ _ _ _ _ _ (by lia) ?_ ⟨rfl,rfl,rfl,ZR _,a3⟩)
  ·rintro x c e_ s' hx ⟨rfl,rfl,rfl,x1,x2⟩;dsimp only;refine Z1 (iw hc hq (by lia) (by lia) H1 ?_);dsimp only;by_cases hk:z_ key q (lo+x)<z_ key q (lo+x - 1)
   ·rw[ZZ (by simpa using hk)];exact Z3 ⟨rfl,rfl,x,rfl,x1,by lia,x2,.inr hk⟩
   ·rw[ZW (by simpa using hk)];refine Z3 ⟨rfl,rfl,rfl,by lia,fun j j1 j2=>?_⟩;by_cases e:j=lo+x
    ·subst e;lia
    ·exact x2 j j1 (by lia)
  ·rintro c e_ s' ⟨rfl,rfl,rfl,x1,x2⟩;rw[show a+(Ea - a)=Ea by lia] at x2 ⊢;exact⟨rfl,rfl,Ea,rfl,by lia,ZR _,x2,.inl rfl⟩
 with_unfolding_all refine Z1 (cn (asc p st 1 hp H (ZR _) h1 fun j a b=>by lia) ?_);rintro c e_ s' ⟨rfl,rfl,m,rfl,m1,m2,m3,m4⟩;dsimp only;by_cases e:m=Ea
 ·rw[ZZ (by simpa using e)];exact Z3 (h m p _ m1 m2 hp H (fun _ _=>rfl) m3)
 rw[ZW (by simpa using e)];have NV:z_ key p (lo+m)<z_ key p (lo+m - 1):=m4.resolve_left e;by_cases e1:m > 1
 ·rw[ZZ e1];refine Z1 (iw hc hp (by lia) (by lia) H ?_);dsimp only;have:∀ d,1<=d->d<m->z_ key p lo<z_ key p (lo+d):=fun d=>by
   induction d with
   | zero=>intro x;lia
   | succ d ih=>
    intro _ hd;have a:=m3 (lo+(d+1)) (by lia) (by lia);rw[show lo+(d+1) - 1=lo+d by lia] at a;have b:=hp.ne inj (show lo+d<lo+(d+1) by lia) (by lia);by_cases z:d=0
    ·subst z;rw[Nat.add_zero] at a b;lia
    ·have:=ih (by lia) (by lia);lia
  have hr:=this (m - 1) (by lia) (by lia);rw[show lo+(m - 1)=lo+m - 1 by lia] at hr;rw[ZZ (by simpa using hr)];exact Z3 (h m p _ m1 m2 hp H (fun _ _=>rfl) m3)
 rw[ZW e1];obtain rfl:m=1:=by lia
 refine Z1 (WK<|YL ?_);refine Z1 (cn (Q':=fun c e_ s'=>s=s'/\st=e_/\∃ m,c=(none,m,0)/\2<=m/\m<=Ea/\∀ j,lo+1<=j->j<lo+m->z_ key p j<z_ key p (j - 1))
  (Za (ix (fun x c e_ s'=>s=s'/\st=e_/\c=(none,x,0)/\2<=x/\∀ j,lo+1<=j->j<lo+x->z_ key p j<z_ key p (j - 1)) Ea ?d1 _ _ _ _ _ (by lia) ?d2 ⟨rfl,rfl,rfl,ZR _,fun j j1 j2=>by
   obtain rfl:j=lo+1:=by lia
   exact NV⟩)) ?d3)
 case d1=>
  rintro x c e_ s' hx ⟨rfl,rfl,rfl,x1,x2⟩;dsimp only;refine Z1 (iw hc hp (by lia) (by lia) H ?_);dsimp only;by_cases hk:z_ key p (lo+x)<z_ key p (lo+x - 1)
  ·rw[ZZ (by simpa using hk),ZW (by lia)];refine Z3 ⟨rfl,rfl,rfl,by lia,fun j j1 j2=>?_⟩;by_cases e:j=lo+x
   ·subst e;exact hk
   ·exact x2 j j1 (by lia)
  ·rw[ZW (by simpa using hk)];refine Z1 (iw hc hp (by lia) (by lia) H ?_);dsimp only;have b:=hp.ne inj (show lo+x - 1<lo+x by lia) (by lia);rw[ZZ (by rw[Xv];lia)];exact Z3 ⟨rfl,rfl,x,rfl,x1,by lia,x2⟩
 case d2=>
  rintro c e_ s' ⟨rfl,rfl,rfl,x1,x2⟩;rw[show 1+1+(Ea - (1+1))=Ea by lia] at x2 ⊢;exact⟨rfl,rfl,Ea,rfl,by lia,ZR _,x2⟩
 case d3=>
  rintro c e_ s' ⟨rfl,rfl,k,rfl,k1,k2,k3⟩;dsimp only;rw[ZW (by lia)];refine Z1 (xK H ?_);intro q_ H2;have IG:=hp.rev lo (lo+k);have g:∀ i,(kas_rev p lo<|lo+k)[i]?=if lo<=i/\i<lo+k then p[lo+(lo+k) - 1 - i]? else p[i]?:=fun i=>by
   unfold kas_rev;rw[getElem?_mirror_all (by rw[hp.size];lia)]
  have ky:∀ i,lo<=i->i<lo+k->z_ key (kas_rev p lo<|lo+k) i=z_ key p (lo+(lo+k) - 1 - i):=fun i a b=>gq (by rw[g,ZZ ⟨a,b⟩]);refine Z1 (cn (asc (kas_rev p lo<|lo+k) q_ k IG H2 (by lia) k2 fun j j1 j2=>?_) ?_)
  ·rw[ky _ (by lia) (by lia),ky _ (by lia) (by lia)];have:=k3 (lo+(lo+k) - 1 - (j - 1)) (by lia) (by lia);rw[show lo+(lo+k) - 1 - (j - 1) - 1=lo+(lo+k) - 1 - j by lia] at this;lia
  ·rintro c e_ s' ⟨rfl,rfl,m',rfl,q1,q2,q3,q4⟩;dsimp only;exact Z3 (h m' _ _ (by lia) q2 IG H2 (fun i hi=>by rw[g,ZW (by lia)]) q3)
end
section
variable{prog:Program}{w:World}{A:Around}{E:Value->Shared->Prop}{κ:SortKind}{it:Array Keyed}{key:Nat->Int}{n:Nat}{s:Shared}{pend:Array (Nat×Nat×Nat)}
def cx(key:Nat->Int)(p:Array Nat)(lo m:Nat):Prop:=∀ i j,lo<=i->i<=j->j<lo+m->z_ key p i<=z_ key p j
theorem pd{p:Array Nat}{lo m:Nat}(h:∀ j,lo+1<=j->j<lo+m->z_ key p (j - 1)<=z_ key p j):cx key p lo m:=by
 intro i j hi Ff hj;obtain⟨d,rfl⟩:∃ d,j=i+d:=⟨j - i,by lia⟩;clear Ff;induction d with
 | zero=>exact XI _
 | succ d ih=>
  have a:=ih (by lia);have b:=h (i+(d+1)) (by lia) hj;rw[show i+(d+1) - 1=i+d by lia] at b;lia
theorem xN(hc:cj n key (kas_cmp prog w A κ it) s){p:Array Nat}(hp:Rg n p){lo m Jj:Nat}(hz:lo+m<=n)(h1:1<=Jj)(hm:Jj<=m)(up:cx key p lo Jj){st:SortSt}(H:Hd κ it pend st p){Q:Bool->SortSt->Shared->Prop}(h:∀ p' e_,Rg n p'->Hd κ it pend e_ p'->(∀ i,i<lo->p'[i]?=p[i]?)->cx key p' lo m->Q true e_ s):
  kasC (model prog w) A E (binarySort' lo m Jj) Q st s:=by
 rw[binarySort'_eq];rw[show max Jj 1=Jj by lia];with_unfolding_all refine Z1 (cn (Q':=fun c e_ s'=>s=s'/\c=(none,())/\∃ q,Rg n q/\Hd κ it pend e_ q/\(∀ i,i<lo->q[i]?=p[i]?)/\cx key q lo m)
  (Za (ix (fun x c e_ s'=>s=s'/\c=(none,())/\1<=x/\∃ q,Rg n q/\Hd κ it pend e_ q/\(∀ i,i<lo->q[i]?=p[i]?)/\cx key q lo x) m ?step _ _ _ _ _ (by lia) ?fin ⟨rfl,rfl,h1,p,hp,H,fun _ _=>rfl,up⟩)) ?after)
 case after=>
  rintro c e_ s' ⟨rfl,rfl,q,q1,q2,q3,q4⟩;exact Z3 (h q _ q1 q2 q3 q4)
 case fin=>
  rintro c e_ s' ⟨rfl,rfl,x1,q,q1,q2,q3,q4⟩;rw[show Jj+(m - Jj)=m by lia] at q4;exact⟨rfl,rfl,q,q1,q2,q3,q4⟩
 case step=>
  rintro k c e_ s' hk ⟨rfl,rfl,k1,q,hq,H',fr,up⟩;dsimp only;have L0:∀ i,lo<=i->i<lo+0->z_ key q i<=z_ key q (lo+k):=fun i a b=>by lia
  have R0:∀ i,lo+k<=i->i<lo+k->z_ key q (lo+k)<=z_ key q i:=fun i a b=>by lia
  refine Z1 (cn (Q':=fun c q_ s'=>s=s'/\e_=q_/\∃ l r,c=(none,l,r)/\l<=k/\(∀ i,lo<=i->i<lo+l->z_ key q i<=z_ key q (lo+k))/\(∀ i,lo+l<=i->i<lo+k->z_ key q (lo+k)<=z_ key q i))
   (Za (ix (fun x c q_ s'=>s=s'/\e_=q_/\∃ l r,c=(none,l,r)/\l<=r/\r<=k/\r - l<=k - x/\(∀ i,lo<=i->i<lo+l->z_ key q i<=z_ key q (lo+k))/\(∀ i,lo+r<=i->i<lo+k->z_ key q (lo+k)<=z_ key q i)) k ?s2 _ _ _ _ _ (by lia) ?f2 ⟨rfl,rfl,0,k,rfl,by lia,by lia,by lia,L0,R0⟩)) ?a2)
  case f2=>
   rintro c q_ s' ⟨rfl,rfl,l,r,rfl,b1,b2,b3,b4,b5⟩;exact⟨rfl,rfl,l,r,rfl,by lia,b4,fun i x y=>b5 i (by lia) y⟩
  case s2=>
   rintro x c q_ s' hx ⟨rfl,rfl,l,r,rfl,b1,b2,b3,b4,b5⟩;dsimp only;by_cases e:l >= r
   ·rw[ZZ e];exact Z3 ⟨rfl,rfl,l,r,rfl,by lia,b4,fun i x y=>b5 i (by lia) y⟩
   rw[ZW e];have m1:l<=(l+r) / 2:=by lia
   have m2:(l+r) / 2<r:=by lia
   have m3:(l+r) / 2 - l<=k - (x+1):=by lia
   have m4:r - ((l+r) / 2+1)<=k - (x+1):=by lia
   generalize (l+r) / 2=mid at m1 m2 m3 m4 ⊢;refine Z1 (iw hc hq (by lia) (by lia) H' ?_);dsimp only;by_cases Gr:z_ key q (lo+k)<z_ key q (lo+mid)
   ·rw[ZZ (by simpa using Gr)];refine Z3 ⟨rfl,rfl,l,mid,rfl,m1,by lia,m3,b4,fun i x y=>?_⟩;have:=up (lo+mid) i (by lia) x y;lia
   ·rw[ZW (by simpa using Gr)];refine Z3 ⟨rfl,rfl,mid+1,r,rfl,by lia,b2,m4,fun i x y=>?_,b5⟩;have:=up i (lo+mid) x (by lia) (by lia);lia
  case a2=>
   rintro c q_ s' ⟨rfl,rfl,l,r,rfl,b1,b4,b5⟩;dsimp only;refine Z1 (xL H' ?_);intro Fh H3;have g:∀ i,(bubble q (lo+k)<|lo+k - (lo+l))[i]?=if i=lo+l then q[lo+k]? else if lo+l<i/\i<=lo+k then q[i - 1]? else q[i]?:=fun i=>by
    have:=getElem?_bubble (xs:=q) (src:=lo+k) (by rw[hq.size];lia) (lo+k - (lo+l)) (by lia) i
    rwa [show lo+k - (lo+k - (lo+l))=lo+l by lia] at this
   have ky:∀ i,z_ key (bubble q (lo+k)<|lo+k - (lo+l)) i=if i=lo+l then z_ key q (lo+k) else if lo+l<i/\i<=lo+k then z_ key q (i - 1) else z_ key q i:=fun i=>by
    have g:=g i;by_cases e:i=lo+l
    ·rw[ZZ e] at g ⊢;exact gq g
    ·rw[ZW e] at g ⊢;by_cases e2:lo+l<i/\i<=lo+k
     ·rw[ZZ e2] at g ⊢;exact gq g
     ·rw[ZW e2] at g ⊢;exact gq g
   refine Z3 ⟨rfl,rfl,by lia,_,hq.Qk _ _,H3,fun i hi=>by rw[g,ZW (by lia),ZW (by lia)];exact fr i hi,pd fun j x y=>?_⟩;rw[ky,ky];by_cases c1:j - 1=lo+l
   ·rw[ZZ c1,ZW (by lia),ZZ (by lia)];exact b5 (j - 1) (by lia) (by lia)
   ·rw[ZW c1];by_cases c2:j=lo+l
    ·rw[ZZ c2,ZW (by lia)];exact b4 (j - 1) (by lia) (by lia)
    ·rw[ZW c2];by_cases c3:lo+l<j - 1
     ·rw[ZZ (by lia),ZZ (by lia)];exact up _ _ (by lia) (by lia) (by lia)
     ·rw[ZW (by lia),ZW (by lia)];exact up _ _ (by lia) (by lia) (by lia)
end
section
variable{prog:Program}{w:World}{A:Around}{E:Value->Shared->Prop}{κ:SortKind}{it:Array Keyed}{key:Nat->Int}{n:Nat}{s:Shared}{pend:Array (Nat×Nat×Nat)}
def aQ(key:Nat->Int)(p:Array Nat):Nat->List (Nat×Nat×Nat)->Nat->Prop
 | a,[],b=>a=b
 | a,(x,l,_)::t,b=>x=a/\0<l/\cx key p x l/\aQ key p (a+l) t b
variable{p:Array Nat}
theorem aQ.le:∀ {t:List (Nat×Nat×Nat)}{a b:Nat},aQ key p a t b->a+t.length<=b
 | [],a,b,h=>by rw[show b=a from h.symm];exact ZR _
 | (x,l,_)::t,a,b,h=>by
  have:=h.2.2.2.le;have:=h.2.1;rw[ZC];lia
theorem aQ.congr{q:Array Nat}:∀ {t:List (Nat×Nat×Nat)}{a b:Nat},aQ key p a t b->(∀ i,a<=i->i<b->z_ key q i=z_ key p i)->aQ key q a t b
 | [],a,b,h,_=>h
 | (x,l,_)::t,a,b,h,g=>by
  have:=h.2.2.2.le;obtain⟨rfl,h2,h3,h4⟩:=h;refine⟨rfl,h2,fun i j hi Ff hj=>?_,h4.congr fun i a b=>g i (by lia) b⟩;rw[g i hi (by lia),g j (by lia) (by lia)];exact h3 i j hi Ff hj
theorem aQ.app{p:Array Nat}:∀ {t u:List (Nat×Nat×Nat)}{a b:Nat},aQ key p a (t++u) b↔∃ c,aQ key p a t c/\aQ key p c u b
 | [],u,a,b=>⟨fun h=>⟨a,rfl,h⟩,fun ⟨c,e,h⟩=>by rw[show a=c from e];exact h⟩
 | (x,l,z)::t,u,a,b=>by
  show (x=a/\0<l/\cx key p x l/\aQ key p (a+l) (t++u) b)↔_;rw[aQ.app];constructor
  ·rintro⟨h1,h2,h3,c,h4,h5⟩;exact⟨c,⟨h1,h2,h3,h4⟩,h5⟩
  ·rintro⟨c,⟨h1,h2,h3,h4⟩,h5⟩;exact⟨h1,h2,h3,c,h4,h5⟩
theorem xO{α:Type}{l:List α}{i:Nat}(h:i+1<l.length):∃ l1 x y l2,l=l1++x::y::l2/\l1.length=i:=by
 refine⟨l.take i,l[i]'(by lia),l[i+1],l.drop<|i+2,?_,by rw[Zf];lia⟩;have e1:=Zg (l:=l) (i:=i) (by lia);have e2:=Zg (l:=l) (i:=i+1) h;rw[<- e2,<- e1,ZA]
theorem MR(l:List Nat)(i:Nat):z_ key l.toArray i=key (l.getD i 0):=by unfold z_;rw[d9]
theorem lN(hc:cj n key (kas_cmp prog w A κ it) s){p:Array Nat}(hp:Rg n p){st:SortSt}(H:Hd κ it pend st p){lo i:Nat}(hi:i+1<pend.size)(R:aQ key p 0 pend.toList lo)(P_:lo<=n){Q:Bool->SortSt->Shared->Prop}(h:∀ EK p' e_,Rg n p'->Hd κ it EK e_ p'->EK.size+1=pend.size->aQ key p' 0 EK.toList lo->(∀ i,lo<=i->z_ key p' i=z_ key p i)->Q true e_ s):kasC (model prog w) A E (mergeAt' i) Q st s:=by
 obtain⟨l1,⟨sa,na,pw⟩,⟨sb,nb,pw2⟩,l2,e,rfl⟩:=xO (l:=pend.toList) (i:=i) (by simpa using hi);rw[e] at R;obtain⟨c,R1,rfl,Qt,A1,rfl,Qu,A2,R2⟩:=aQ.app.mp R;have b2:=R2.le;have pe:pend=(l1++(sa,na,pw)::(sa+na,nb,pw2)::l2).toArray:=by rw[<- e]
 have Qw:p.size=n:=hp.size;have Qx:∀ x∈p.toList,x<n:=fun x hx=>Zp.mp (hp.mem_iff.mp hx);have gk:∀ i,z_ key p i=key (p.toList.getD i 0):=fun i=>MR p.toList i;have pl:p.toList.length=n:=by rw[Zw,Qw]
 have Jk:∀ a m,a+m<=n->cx key p a m->DD key ((p.toList.drop a).take m):=fun a m hz h=>by
  refine YU.mpr fun i j hi hj Ff=>?_;have G_:=hi;have Jl:=hj;rw[Zf,Zd,pl] at G_ Jl;have:=h (a+i) (a+j) (by lia) (by lia) (by lia);rw[gk,gk] at this;rw[Ww,Xx,Ww,Xx];rw[Z6,Z6,ZL (by lia),ZL (by lia)] at this;exact this
 refine xJ hc (lp:=p.toList) Qx (i:=l1.length) (sa:=sa) (na:=na) (nb:=nb) (pw:=pw) (pw2:=pw2) H.k (by rw[H.a];apply X9;simp) H.f (by rw[H.p,pe];simp) (by rw[H.p,pe];simp) Qt Qu (by lia) (Jk _ _ (by lia) A1) (Jk _ _ (by lia) A2) ?_;intro mid e_ k1 f1 p1 m1 m2 a1;have ml:mid.length=na+nb:=by rw[m1.length_eq,Zf,Zd,pl];lia
 have IJ:p.toList.take sa++(p.toList.drop sa).take (na+nb)++p.toList.drop (sa+(na+nb))=p.toList:=by rw[gr,ZA]
 have IG:Rg n (p.toList.take sa++mid++p.toList.drop (sa+(na+nb))).toArray:=by
  show (p.toList.take sa++mid++p.toList.drop (sa+(na+nb))).Perm (range n);refine List.Perm.trans (ZI _<|ZQ _ m1) ?_;rw[IJ];exact hp
 have tl:(p.toList.take sa).length=sa:=by rw[Zf,pl];lia
 have Qy:∀ i,i<sa->z_ key (p.toList.take sa++mid++p.toList.drop (sa+(na+nb))).toArray i=z_ key p i:=fun i hi=>by
  rw[MR,gk];congr 1;rw[Z6,Z6,Z7,Y4 (by lia),YF,ZZ hi]
 have Pj:∀ i,sa+(na+nb)<=i->z_ key (p.toList.take sa++mid++p.toList.drop (sa+(na+nb))).toArray i=z_ key p i:=fun i hi=>by
  rw[MR,gk];congr 1;rw[Z6,Z6,YY (by rw[ZH];lia),YR,ZH,tl,ml];congr 2;lia
 have Pk:∀ i,sa<=i->i<sa+(na+nb)->z_ key (p.toList.take sa++mid++p.toList.drop (sa+(na+nb))).toArray i=key (mid.getD (i - sa) 0):=fun i h1 h2=>by
  rw[MR];congr 1;rw[Z6,Z6,Z7,YY (by lia),tl,Y4 (by lia)]
 have Qz:((l1++(sa,na,pw)::(sa+na,nb,pw2)::l2).toArray.setIfInBounds l1.length (sa,na+nb,pw)).eraseIdxIfInBounds (l1.length+1)=(l1++(sa,na+nb,pw)::l2).toArray:=by
  rw[WC,List.set_append_right _ _<|ZR _,Nat.sub_self,List.set_cons_zero];rw[Xn,List.eraseIdx_append_of_length_le (by lia),show l1.length+1 - l1.length=1 by lia];rfl
 refine h ((l1++(sa,na+nb,pw)::l2).toArray) _ e_ IG ⟨k1,by rw[a1];apply X9;simp,by rw[p1,H.p,pe,Qz],f1⟩ (by rw[pe];simp;lia) ?_ (fun i hi=>Pj i (by lia));have QA:aQ key p (sa+(na+nb)) l2 lo:=by rw[<- W5];exact R2
 refine aQ.app.mpr ⟨sa,R1.congr fun i _ b=>Qy i b,rfl,by lia,fun i j h1 h2 h3=>?_,QA.congr fun i a b=>Pj i a⟩
 ·rw[Pk i h1 (by lia),Pk j (by lia) h3];exact fJ m2 (by lia) (by lia)
end
section
variable{prog:Program}{w:World}{A:Around}{E:Value->Shared->Prop}{κ:SortKind}{it:Array Keyed}{key:Nat->Int}{n:Nat}{s:Shared}{pend:Array (Nat×Nat×Nat)}
variable{p:Array Nat}
theorem aQ.same:∀ {t u:List (Nat×Nat×Nat)}{a b:Nat},aQ key p a t b->(t.map fun x=>(x.1,x.2.1))=(u.map fun x=>(x.1,x.2.1))->aQ key p a u b
 | [],[],a,b,h,_=>h
 | [],_::_,a,b,h,e=>by cases e
 | _::_,[],a,b,h,e=>by cases e
 | (x,l,z)::t,(x',l',z')::u,a,b,h,e=>by
  rw[ZF,ZF] at e;injection e with e1 e2;injection e1 with e3 e4;dsimp only at e3 e4;subst e3;subst e4;exact⟨h.1,h.2.1,h.2.2.1,h.2.2.2.same e2⟩
theorem pf(xs:Array (Nat×Nat×Nat))(i z:Nat):(xs.toList.map fun x=>(x.1,x.2.1))=((xs.modify i fun x=>(x.1,x.2.1,z)).toList.map fun x=>(x.1,x.2.1)):=by
 apply Yk;intro j;rw[Zq,Zq,Zt,Zt,Array.getElem?_modify];split
 ·rw[Option.map_map];rfl
 ·rfl
theorem cx.congr{q:Array Nat}{lo m:Nat}(h:cx key p lo m)(g:∀ i,lo<=i->z_ key q i=z_ key p i):cx key q lo m:=fun i j a b c=>by
 rw[g i a,g j (by lia)];exact h i j a b c
variable{Q:Unit->SortSt->Shared->Prop}
theorem xP(hc:cj n key (kas_cmp prog w A κ it) s)(inj:∀ i j,i<n->j<n->key i=key j->i=j)(h2:2<=n)(hG:∀ p' e_,Rg n p'->Up key p' n->arrOf e_=p'.map (kas_item it)->failedOf e_=none->Q () e_ s):kasC (model prog w) A E sortRuns' Q (kas_st κ it (range n).toArray) s:=by
 rw[sortRuns'_eq];refine Z1 (X4 ?_);dsimp only;have hsz:(arrOf<|kas_st κ it (range n).toArray).size=n:=by
  show ((range n).toArray.map<|kas_item it).size=n;simp
 simp only[hsz];refine Z1 (cn (Q':=fun c e_ s'=>s=s'/\c=(none,n)/\∃ pend p,Rg n p/\Hd κ it pend e_ p/\aQ key p 0 pend.toList n)
  (Za (bM (fun x c e_ s'=>s=s'/\∃ lo pend p,c=(none,lo)/\x<=lo/\lo<=n/\Rg n p/\Hd κ it pend e_ p/\aQ key p 0 pend.toList lo) ?step _ 0 _ _ _ ?fin ⟨rfl,0,#[],(range n).toArray,rfl,ZR _,by lia,ZG _,⟨rfl,rfl,rfl,rfl⟩,rfl⟩)) ?after)
 case fin=>
  rintro c e_ s' ⟨rfl,lo,pend,p,rfl,a,b,d,e,f⟩;have:lo=n:=by lia
  subst this;exact⟨rfl,rfl,pend,p,d,e,f⟩
 case after=>
  rintro c e_ s' ⟨rfl,rfl,pend,p,hp,H,R⟩;dsimp only;refine Z1 (cn (Q':=fun c e_ s'=>s=s'/\c=(none,())/\∃ p,Rg n p/\Up key p n/\arrOf e_=p.map (kas_item it)/\failedOf e_=none)
   (Za (bM (fun x c e_ s'=>s=s'/\c=(none,())/\∃ pend p,Rg n p/\Hd κ it pend e_ p/\aQ key p 0 pend.toList n/\pend.size+x<=n) ?s2 _ 0 _ _ _ ?f2 ⟨rfl,rfl,pend,p,hp,H,R,by have:=R.le;rw[Zw] at this;lia⟩)) ?a2)
  case a2=>
   rintro c e_ s' ⟨rfl,rfl,p,a,b,c,d⟩;exact Z3 (hG p _ a b c d)
  case f2=>
   rintro c e_ s' ⟨rfl,rfl,pend,p,hp,H,R,hx⟩;have e:pend.toList=[]:=YT (by rw[Zw];lia);rw[e] at R;have:0=n:=R;lia
  case s2=>
   rintro x c e_ s' ⟨rfl,rfl,pend,p,hp,H,R,hx⟩;refine Z1 (X4 ?_);by_cases e:(pendingOf e_).size<=1
   ·rw[ZZ e];refine Z3 ⟨rfl,rfl,p,hp,?_,H.a,H.f⟩;rw[H.p] at e;have el:pend.toList.length<=1:=by rw[Zw];exact e
    match hl:pend.toList,el with
    | [],_=>
     rw[hl] at R;have:0=n:=R;lia
    | [(x,l,z)],_=>
     rw[hl] at R;obtain⟨rfl,_,a3,a4⟩:=R;have:0+l=n:=a4;exact fun i j Ff hj=>a3 i j (Ys _) Ff (by lia)
    | _::_::_,h=>exact absurd h (by simp)
   ·rw[ZW e];rw[H.p] at e;have QB:∀ idx,idx+1<pend.size->kasC (model prog w) A E (mergeAt' idx) (fun b q_ s2=>b=true/\s=s2/\∃ pend p,Rg n p/\Hd κ it pend q_ p/\aQ key p 0 pend.toList n/\pend.size+(x+1)<=n) e_ s:=fun idx NW=>
     lN hc hp H NW R (ZR _) fun EK p' Lp a b c d fr=>⟨rfl,rfl,EK,p',a,b,d,by lia⟩;refine Z1 (cn (QB _ ?_) ?_)
    ·rw[H.p];have:∀ (c:Prop) [Decidable c],(if c then pend.size - 2 - 1 else pend.size - 2)+1<pend.size:=fun c _=>by split<;>lia
     exact this _
    ·rintro b q_ s2 ⟨rfl,rfl,hh⟩;rw[ZW (by decide)];exact Z3 ⟨rfl,rfl,hh⟩
 case step=>
  rintro x c e_ s' ⟨rfl,lo,pend,p,rfl,x1,x2,hp,H,R⟩;dsimp only;by_cases c1:lo >= n
  ·rw[ZZ c1];have:lo=n:=by lia
   subst this;exact Z3 ⟨rfl,rfl,pend,p,hp,H,R⟩
  rw[ZW c1];refine Z1 (xM hc inj hp (by lia) (by lia) H ?_);intro m p1 u_ m1 m2 Lq H1 QC A1;have A1:=pd A1;have R1:aQ key p1 0 pend.toList lo:=R.congr fun i _ b=>gq (QC i b);dsimp only;by_cases c2:m<minRun' n n 0
  ·rw[ZZ c2];refine Z1 (WK<|YL ?_);have mm:m<=min (n - lo) (minRun' n n 0):=by lia
   have mn:min (n - lo) (minRun' n n 0)<=n - lo:=by lia
   generalize min (n - lo) (minRun' n n 0)=FJ at mm mn ⊢;refine Z1 (xN hc Lq (by lia) m1 mm A1 H1 ?_);intro p2 q_ G9 H2 QD A2;have R2:aQ key p2 0 pend.toList lo:=R1.congr fun i _ b=>gq (QD i b);rw[ZW (by decide)];refine Z1 (X4 ?_);rcases QE:(pendingOf q_).back? with _ | ⟨s1,n1,z1⟩
   ·dsimp only;refine Z1 (YN ?_);refine Z3 ⟨rfl,lo+FJ,pend.push (lo,FJ,0),p2,rfl,by lia,by lia,G9,⟨H2.k,H2.a,by show (pendingOf q_).push _=_;rw[H2.p],H2.f⟩,?_⟩;rw[Xs];exact aQ.app.mpr ⟨lo,R2,rfl,by lia,A2,rfl⟩
   ·dsimp only;refine Z1 (cn (Q':=fun c e_ s'=>s=s'/\c=(none,())/\∃ pend p,Rg n p/\Hd κ it pend e_ p/\aQ key p 0 pend.toList lo/\cx key p lo (FJ))
     (Za<|bM (fun x c e_ s'=>s=s'/\c=(none,())/\∃ pend p,Rg n p/\Hd κ it pend e_ p/\aQ key p 0 pend.toList lo/\cx key p lo (FJ)) ?_ _ 0 _ _ _ (fun _ _ _ z=>z) ⟨rfl,rfl,pend,p2,G9,H2,R2,A2⟩) ?_)
    ·rintro y c e_ s' ⟨rfl,rfl,pend,p,hp,H,R,A⟩;refine Z1 (X4 ?_);by_cases e:(pendingOf e_).size > 1
     ·rw[ZZ e];rcases hg:(pendingOf e_)[(pendingOf e_).size - 2]? with _ | ⟨a,b,Lr⟩
      ·dsimp only;exact Z3 ⟨rfl,rfl,pend,p,hp,H,R,A⟩
      ·dsimp only;split
       ·exact Z3 ⟨rfl,rfl,pend,p,hp,H,R,A⟩
       ·refine Z1 (lN hc hp H (by rw[H.p] at e ⊢;lia) R (by lia) ?_);intro EK p' Lp a b c d fr;rw[ZW (by decide)];exact Z3 ⟨rfl,rfl,EK,p',a,b,d,A.congr fr⟩
     ·rw[ZW e];dsimp only;exact Z3 ⟨rfl,rfl,pend,p,hp,H,R,A⟩
    ·rintro c e_ s' ⟨rfl,rfl,pend,p,hp,H,R,A⟩;dsimp only;refine Z1 (YN ?_);refine Z1 (YN ?_);refine Z3 ⟨rfl,lo+FJ,(pend.modify (pend.size - 1) _).push (lo,FJ,0),p,rfl,by lia,by lia,hp,⟨H.k,H.a,by show ((pendingOf e_).modify ((pendingOf e_).size - 1) _).push _=_;rw[H.p],H.f⟩,?_⟩;rw[Xs];exact aQ.app.mpr ⟨lo,R.same<|pf _ _ _,rfl,by lia,A,rfl⟩
  ·rw[ZW c2];have G9:=Lq;have H2:=H1;have R2:=R1;have A2:=A1;revert G9 H2 R2 A2;generalize p1=p2;generalize u_=q_;intro G9 H2 R2 A2;refine Z1 (X4 ?_);rcases QE:(pendingOf q_).back? with _ | ⟨s1,n1,z1⟩
   ·dsimp only;refine Z1 (YN ?_);refine Z3 ⟨rfl,lo+m,pend.push (lo,m,0),p2,rfl,by lia,by lia,G9,⟨H2.k,H2.a,by show (pendingOf q_).push _=_;rw[H2.p],H2.f⟩,?_⟩;rw[Xs];exact aQ.app.mpr ⟨lo,R2,rfl,by lia,A2,rfl⟩
   ·dsimp only;refine Z1 (cn (Q':=fun c e_ s'=>s=s'/\c=(none,())/\∃ pend p,Rg n p/\Hd κ it pend e_ p/\aQ key p 0 pend.toList lo/\cx key p lo (m))
     (Za<|bM (fun x c e_ s'=>s=s'/\c=(none,())/\∃ pend p,Rg n p/\Hd κ it pend e_ p/\aQ key p 0 pend.toList lo/\cx key p lo (m)) ?_ _ 0 _ _ _ (fun _ _ _ z=>z) ⟨rfl,rfl,pend,p2,G9,H2,R2,A2⟩) ?_)
    ·rintro y c e_ s' ⟨rfl,rfl,pend,p,hp,H,R,A⟩;refine Z1 (X4 ?_);by_cases e:(pendingOf e_).size > 1
     ·rw[ZZ e];rcases hg:(pendingOf e_)[(pendingOf e_).size - 2]? with _ | ⟨a,b,Lr⟩
      ·dsimp only;exact Z3 ⟨rfl,rfl,pend,p,hp,H,R,A⟩
      ·dsimp only;split
       ·exact Z3 ⟨rfl,rfl,pend,p,hp,H,R,A⟩
       ·refine Z1 (lN hc hp H (by rw[H.p] at e ⊢;lia) R (by lia) ?_);intro EK p' Lp a b c d fr;rw[ZW (by decide)];exact Z3 ⟨rfl,rfl,EK,p',a,b,d,A.congr fr⟩
     ·rw[ZW e];dsimp only;exact Z3 ⟨rfl,rfl,pend,p,hp,H,R,A⟩
    ·rintro c e_ s' ⟨rfl,rfl,pend,p,hp,H,R,A⟩;dsimp only;refine Z1 (YN ?_);refine Z1 (YN ?_);refine Z3 ⟨rfl,lo+m,(pend.modify (pend.size - 1) _).push (lo,m,0),p,rfl,by lia,by lia,hp,⟨H.k,H.a,by show ((pendingOf e_).modify ((pendingOf e_).size - 1) _).push _=_;rw[H.p],H.f⟩,?_⟩;rw[Xs];exact aQ.app.mpr ⟨lo,R.same<|pf _ _ _,rfl,by lia,A,rfl⟩
theorem xQ(hc:cj n key (kas_cmp prog w A κ it) s)(inj:∀ i j,i<n->j<n->key i=key j->i=j)(h2:2<=n)(up:n<1001\/∀ j,1<=j->j<n->key (j - 1)<=key j)(hG:∀ p' e_,Rg n p'->Up key p' n->arrOf e_=p'.map (kas_item it)->failedOf e_=none->Q () e_ s):kasC (model prog w) A E sortRuns' Q (kas_st κ it (range n).toArray) s:=xP hc inj h2 hG
end
end L2
namespace L2
open PySem PySem.Spec PyProof.Rows
section
variable{X:Cx}{pins:List (Addr×Obj)}{σ:St}{H:Hp}{s:Shared}{h':Heap}
variable{ch:List Addr}{t':Nat}
theorem Inv.Ls{T:Addr}{xs:List V}(I:Inv X pins σ H s)(E7:∀ b∈ch,dy X pins H b)(k:∀ b o,b∉ch->s.heap.get? b=some o->h'.get? b=some o)(hT:s.heap.objs.size<=T)(new:bo X.prog X.w (upd H T<|.tup xs) h' T (.tup xs)):Inv X pins σ (upd H T<|.tup xs) { s with heap:=h',toks:=t' }:=by
 have fT:H T=none:=I.m_.fresh hT;have nT:∀ b o,s.heap.get? b=some o->b≠T:=fun b o e=>Zx (Zy (ZO e) hT);have nc:∀ b u,H b=some u->b∉ch:=fun b u e z=>by rw[(E7 b z).1] at e;cases e
 refine I.step (g':=s.gens) (d':=s.drawn) (ch:=ch) (fun b hb=>⟨(E7 b hb).2.2.2.1,(E7 b hb).2.1,(E7 b hb).2.2.2.2.1,(E7 b hb).2.2.2.2.2⟩) (fun b o _ _ hc e _=>k b o hc e) (fun b o _ _ hc e _=>⟨o.slots,k b o hc e⟩)
  (fun b o _ e n=>by rw[aE (nT b o e)];exact n) (fun b o hc e=>⟨o,k b o hc e⟩) (fun b ys e=>by rw[aE (ce e fT)];exact e) (fun b o u e=>by rw[aE (ce e fT)];exact e)
  (fun b ps e=>⟨#[],by rw[aE (ce e fT),e];simp⟩) (fun m hm=>?_) (fun a o e=>?_) I.bare
 ·obtain⟨o,es,ep,ho,r⟩:=hm;exact⟨o,es,ep,k _ o (fun z=>(E7 _ z).2.1 rfl) ho,r⟩
 ·by_cases ha:a=T
  ·subst ha;rw[bp] at e;cases e;exact new
  ·rw[aE ha] at e;refine (I.m_ a o e).EI (fun b u hb q=>k b u ?_ q) (fun b q=>by rw[aE (ce q fT)];exact q) fun b ys q=>by rw[aE (ce q fT)];exact q
   rcases hb with z | z
   ·rw[z];exact nc a o e
   ·exact nc b _ z
theorem Inv.Lu(I:Inv X pins σ H s)(E7:∀ b∈ch,dy X pins H b)(k:∀ b o,b∉ch->s.heap.get? b=some o->h'.get? b=some o):Inv X pins σ H { s with heap:=h',toks:=t' }:=by
 have nc:∀ b u,H b=some u->b∉ch:=fun b u e z=>by rw[(E7 b z).1] at e;cases e
 refine I.step (g':=s.gens) (d':=s.drawn) (ch:=ch) (fun b hb=>⟨(E7 b hb).2.2.2.1,(E7 b hb).2.1,(E7 b hb).2.2.2.2.1,(E7 b hb).2.2.2.2.2⟩) (fun b o _ _ hc e _=>k b o hc e) (fun b o _ _ hc e _=>⟨o.slots,k b o hc e⟩)
  (fun b o _ _ n=>n) (fun b o hc e=>⟨o,k b o hc e⟩) (fun b ys e=>e) (fun b o u e=>e) (fun b ps e=>⟨#[],by rw[e];simp⟩) (fun m hm=>?_) (fun a o e=>?_) I.bare
 ·obtain⟨o,es,ep,ho,r⟩:=hm;exact⟨o,es,ep,k _ o (fun z=>(E7 _ z).2.1 rfl) ho,r⟩
 ·refine (I.m_ a o e).EI (fun b u hb q=>k b u ?_ q) (fun b q=>q) fun b ys q=>q;rcases hb with z | z
  ·rw[z];exact nc a o e
  ·exact nc b _ z
end
section
variable{prog:Program}{w:World}{A:Around}{E:Value->Shared->Prop}{s:Shared}
variable{it t:Addr}{i:Nat}{items:Array Value}{Q:Value->Shared->Prop}
theorem lO{x:Value}(hit:s.heap.IsTupleIter it t i)(ht:s.heap.IsTuple t items)(hx:items[i]?=some x)(q:∀ h',h'.IsTupleIter it t (i+1)->Heap.SameBut it s.heap h'->Q x { s with heap:=h' }):wpAny (model prog w) A (Builtin.SmallTypes.nextOf<|.ref it) Q E s:=by
 obtain⟨o,f1,f2,f3⟩:=id hit;obtain⟨ol,g1,_,nl,g2⟩:=ht;unfold Builtin.SmallTypes.nextOf;refine Z9 (YQ (name:=Str.ofString "__next__") hit.typeIs Yq<|Y2 Yq hit.typeIs F.entry_tuple_iterator_next ?z<|WT _)
 case z=>
  show wpAny _ _ (field (.ref it) 0 >>= _) _ _ s;refine Z9 (YC f1 f3 (x:=.ref t) rfl ?_);show wpAny _ _ (if (Value.ref t == Value.none)=true then _ else _) _ _ s;rw[ZW (show ¬ (Value.ref t == Value.none)=true by intro z;cases z)];show wpAny _ _ (field (.ref it) 1 >>= _) _ _ s;refine Z9 (YC f1 f3 (x:=.int i 0) rfl ?_);show wpAny _ _ (seqItems? (.ref t) >>= _) _ _ s;refine Z9 (YK g1 g2 ?_);simp only[Xy,hx];refine Z9 (WF f1 f3 (by simp) (ZU ⟨x,rfl,ZU (q _ ⟨_,YG _ f1<|Obj.isFreed_of_fields<|XL f3 _,(Obj.cls_mapFields ..).trans f2,by rw[XL f3];simp[rawInt]⟩<|Zh ..)⟩))
theorem pg(hh:A.handled=none)(hit:s.heap.IsTupleIter it t i)(ht:s.heap.IsTuple t items)(hx:items[i]?=none)(q:∀ h' e,Heap.ExtBut it s.heap h'->(∃ o,h'.get? e=some o/\o.cls=.type "StopIteration")->E (.ref e) { s with heap:=h' }):wpAny (model prog w) A (Builtin.SmallTypes.nextOf<|.ref it) Q E s:=by
 obtain⟨o,f1,f2,f3⟩:=id hit;obtain⟨ol,g1,_,nl,g2⟩:=ht;unfold Builtin.SmallTypes.nextOf;refine Z9 (YQ (name:=Str.ofString "__next__") hit.typeIs Yq<|Y2 Yq hit.typeIs F.entry_tuple_iterator_next ?z<|WT _)
 case z=>
  show wpAny _ _ (field (.ref it) 0 >>= _) _ _ s;refine Z9 (YC f1 f3 (x:=.ref t) rfl ?_);show wpAny _ _ (if (Value.ref t == Value.none)=true then _ else _) _ _ s;rw[ZW (show ¬ (Value.ref t == Value.none)=true by intro z;cases z)];show wpAny _ _ (field (.ref it) 1 >>= _) _ _ s;refine Z9 (YC f1 f3 (x:=.int i 0) rfl ?_);show wpAny _ _ (seqItems? (.ref t) >>= _) _ _ s;refine Z9 (YK g1 g2 ?_);simp only[Xy,hx];refine Z9 (YL (Z9 (WF f1 f3 (by simp) ?_)));show wpAny _ _ (newExc (.type "StopIteration") [] >>= _) _ _ _;apply Z9;simp only[newExc,newTuple];refine Z9 (YA (Z9 (m:=firstArgMember _ _) (wpAny_of_eq (a:=Value.none) (by first | rfl | (simp only[firstArgMember];rfl)) (YA ?_ (by size_fits)))) (by size_fits));simp only[raiseNew];apply Z9;apply wpAny_handled;rw[show A.in1.handled=none from hh];refine Z9 (m:=pure _) (ZU<|wpAny_throw ?_);exact q _ _ (((Zh ..).extBut.push _).push _) ⟨_,ZE _ rfl,rfl⟩
end
section
variable{prog:Program}{w:World}{A:Around}{E:Value->Shared->Prop}{s:Shared}
variable{h h':Heap}{a:Addr}
theorem cZ{t:Addr}{i:Nat}(x:h.IsTupleIter a t i)(k:∀ o,h.get? a=some o->h'.get? a=some o):h'.IsTupleIter a t i:=let ⟨o,e,r⟩:=x;⟨o,k o e,r⟩
variable{xs:Array Value}
theorem gw(x:h.IsTuple a xs)(k:∀ o,h.get? a=some o->h'.get? a=some o):h'.IsTuple a xs:=let ⟨o,e,r⟩:=x;⟨o,k o e,r⟩
variable{a b:Value}{k1 k2:Nat}{ys:Array Value}
theorem xR{z TI TO i1 i2 l1 l2:Addr}{x y:Value}{Q:Value->Shared->Prop}(D:ZipApart z TI TO i1 i2 l1 l2)(hz:IsZip s.heap z TI TO .none)(NX:IsPair s.heap TI (.ref i1) (.ref i2))(NY:IsPair s.heap TO a b)(h1:s.heap.IsTupleIter i1 l1 k1)(h2:s.heap.IsTupleIter i2 l2 k2)(MT:s.heap.IsTuple l1 xs)(Ij:s.heap.IsTuple l2 ys)(hx:xs[k1]?=some x)(hy:ys[k2]?=some y)(hQ:∀ h',IsZip h' z TI TO (rawInt s.heap.objs.size)->IsPair h' TO x y->h'.IsTupleIter i1 l1 (k1+1)->h'.IsTupleIter i2 l2 (k2+1)->IsPair h' s.heap.objs.size x y->
   (∀ c o,c≠z->c≠TO->c≠i1->c≠i2->s.heap.get? c=some o->h'.get? c=some o)->Q (.ref s.heap.objs.size) { s with heap:=h' }):
  wpAny (model prog w) A (Builtin.«zip.__next__» ⟨[.ref z],[]⟩) (fun fin s'=>∃ v,fin=.done (.ret v)/\Q v s') E s:=by
 show wpAny _ _ (field (.ref z) 2 >>= _) _ _ _;refine Z9 (YC hz rfl (x:=.bool false) rfl ?_);show wpAny _ _ (field (.ref z) 3 >>= _) _ _ _;refine Z9 (YC hz rfl (x:=.ref TI) rfl<|Z9<|YK NX rfl ?_);show wpAny _ _ (Builtin.SmallTypes.ownedTupleIsFree (.ref z) >>= _) _ _ _;apply Z9;unfold Builtin.SmallTypes.ownedTupleIsFree;refine Z9 (YC hz rfl (x:=.none) rfl<|ZU ?_);simp only[Wx];refine Z9 (YL (Z9 (YC hz rfl (x:=.ref TO) rfl (Z9 (Yp hz (by simp) fun j1 z1 s1=>?_)))));replace z1:IsZip j1 z TI TO .ellipsis:=z1;apply Z9;simp only[Wm,List.zipIdx_nil,WW,List.forIn_nil];refine Z9 (Z9<|Wr ?_);show wpAny _ _ (Builtin.SmallTypes.nextOf (.ref i1) >>= _) _ _ _;refine Z9 (lO (s:={ s with heap:=j1 }) (cZ h1 fun o e=>s1.extBut _ o D.i1z e) (gw MT fun o e=>s1.extBut _ o D.l1z e) hx fun j2 a2 s2=>ZU ?_);have o2:IsPair j2 TO a b:=s2.extBut _ _ D.TOi1 (s1.extBut _ _ D.TOz NY);refine Z9 (YK (s:={ s with heap:=j2 }) o2 rfl<|Z9<|W0 (s:={ s with heap:=j2 }) o2 fun j3 o3 s3=>?_);replace o3:IsPair j3 TO x b:=o3;refine Z9 (wpAny_letGo<|ZU<|Z9<|Z9<|Wr ?_);show wpAny _ _ (Builtin.SmallTypes.nextOf (.ref i2) >>= _) _ _ _;refine Z9 (lO (s:={ s with heap:=j3 }) (cZ h2 fun o e=>s3.extBut _ o D.TOi2.symm<|s2.extBut _ o D.i12.symm<|s1.extBut _ o D.i2z e) (gw Ij fun o e=>s3.extBut _ o D.l2TO<|s2.extBut _ o D.l2i1<|s1.extBut _ o D.l2z e) hy fun j4 a4 s4=>ZU ?_);have o4:IsPair j4 TO x b:=s4.extBut _ _ D.TOi2 o3;refine Z9 (YK (s:={ s with heap:=j4 }) o4 rfl<|Z9<|W0 (s:={ s with heap:=j4 }) o4 fun j5 o5 s5=>?_);replace o5:IsPair j5 TO x y:=o5;refine Z9 (wpAny_letGo<|ZU<|ZU<|Z9<|YK (s:={ s with heap:=j5 }) o5 rfl<|Z9<|wpAny_newTuple ?_);have hsz:j5.objs.size=s.heap.objs.size:=by rw[s5.1,s4.1,s3.1,s2.1,s1.1]
 have z5:IsZip j5 z TI TO .ellipsis:=s5.extBut _ _ D.TOz.symm (s4.extBut _ _ D.i2z.symm<|s3.extBut _ _ D.TOz.symm<|s2.extBut _ _ D.i1z.symm z1);have k5:∀ c o,c≠z->c≠TO->c≠i1->c≠i2->s.heap.get? c=some o->j5.get? c=some o:=fun c o c1 c2 c3 c4 e=>s5.extBut _ _ c2 (s4.extBut _ _ c4<|s3.extBut _ _ c2<|s2.extBut _ _ c3<|s1.extBut _ _ c1 e);have b1:j5.IsTupleIter i1 l1 (k1+1):=cZ a2 fun o e=>s5.extBut _ o D.TOi1.symm (s4.extBut _ o D.i12<|s3.extBut _ o D.TOi1.symm e);have b2:j5.IsTupleIter i2 l2 (k2+1):=cZ a4 fun o e=>s5.extBut _ o D.TOi2.symm e;have Pl:z<j5.objs.size:=ZO z5;show wpAny _ _ (Builtin.SmallTypes.ownedTupleHandOut (.ref z) (.ref j5.objs.size) >>= _) _ _ _;apply Z9;unfold Builtin.SmallTypes.ownedTupleHandOut;have z6:IsZip (j5.push { cls:=.type "tuple",data:=.seq #[x,y] }) z TI TO .ellipsis:=Z2 _ z5;refine Z9 (Yp z6 (by simp) fun j7 z7 s7=>?_);replace z7:IsZip j7 z TI TO (rawInt j5.objs.size):=z7;refine Yp z7 (by simp) fun j8 z8 s8=>?_;replace z8:IsZip j8 z TI TO (rawInt j5.objs.size):=z8;have up:∀ c o,c≠z->j5.get? c=some o->j8.get? c=some o:=fun c o c1 e=>s8.extBut _ _ c1 (s7.extBut _ _ c1<|Z2 _ e);have t8:IsPair j8 j5.objs.size x y:=s8.extBut _ _ (WN Pl) (s7.extBut _ _ (WN Pl)<|ZE _ rfl);rw[hsz] at z8 t8;refine ZU ⟨_,rfl,?_⟩;show Q (.ref j5.objs.size) _;rw[hsz];exact hQ j8 z8 (up _ _ D.TOz o5) (cZ b1 fun o e=>up _ o D.i1z e) (cZ b2 fun o e=>up _ o D.i2z e) t8 fun c o c1 c2 c3 c4 e=>up c o c1 (k5 c o c1 c2 c3 c4 e)
theorem xS{z TI TO i1 i2 l1 l2:Addr}{Q:PySem.Fin->Shared->Prop}(hh:A.handled=none)(D:ZipApart z TI TO i1 i2 l1 l2)(hz:IsZip s.heap z TI TO .none)(NX:IsPair s.heap TI (.ref i1) (.ref i2))(NY:IsPair s.heap TO a b)(h1:s.heap.IsTupleIter i1 l1 k1)(h2:s.heap.IsTupleIter i2 l2 k2)(MT:s.heap.IsTuple l1 xs)(Ij:s.heap.IsTuple l2 ys)(HG:xs[k1]?=none\/ys[k2]?=none)(hE:∀ h' e,(∀ c o,c≠z->c≠TO->c≠i1->c≠i2->s.heap.get? c=some o->h'.get? c=some o)->(∃ o,h'.get? e=some o/\o.cls=.type "StopIteration")->E (.ref e) { s with heap:=h' }):
  wpAny (model prog w) A (Builtin.«zip.__next__» ⟨[.ref z],[]⟩) Q E s:=by
 show wpAny _ _ (field (.ref z) 2 >>= _) _ _ _;refine Z9 (YC hz rfl (x:=.bool false) rfl ?_);show wpAny _ _ (field (.ref z) 3 >>= _) _ _ _;refine Z9 (YC hz rfl (x:=.ref TI) rfl<|Z9<|YK NX rfl ?_);show wpAny _ _ (Builtin.SmallTypes.ownedTupleIsFree (.ref z) >>= _) _ _ _;apply Z9;unfold Builtin.SmallTypes.ownedTupleIsFree;refine Z9 (YC hz rfl (x:=.none) rfl<|ZU ?_);simp only[Wx];refine Z9 (YL (Z9 (YC hz rfl (x:=.ref TO) rfl (Z9 (Yp hz (by simp) fun j1 z1 s1=>?_)))));replace z1:IsZip j1 z TI TO .ellipsis:=z1;apply Z9;simp only[Wm,List.zipIdx_nil,WW,List.forIn_nil];refine Z9 (Z9<|Wr ?_);show wpAny _ _ (Builtin.SmallTypes.nextOf (.ref i1) >>= _) _ _ _;cases hx:xs[k1]? with
 | none=>
  refine Z9 (pg (s:={ s with heap:=j1 }) hh (cZ h1 fun o e=>s1.extBut _ o D.i1z e) (gw MT fun o e=>s1.extBut _ o D.l1z e) hx fun j2 e s2 ⟨oe,e1,e2⟩=>?_);have z2:IsZip j2 z TI TO .ellipsis:=s2 _ _ D.i1z.symm z1;have ez:e≠z:=fun q=>by subst q;rw[z2] at e1;cases e1;simp at e2
  refine Yp z2 (by simp) fun j3 _ s3=>hE j3 e (fun c o c1 _ c3 _ q=>s3.extBut _ _ c1<|s2 _ _ c3<|s1.extBut _ _ c1 q) ⟨oe,s3.extBut _ _ ez e1,e2⟩
 | some x=>
  have hy:ys[k2]?=none:=by
   rcases HG with h | h
   ·rw[hx] at h;cases h
   ·exact h
  refine Z9 (lO (s:={ s with heap:=j1 }) (cZ h1 fun o e=>s1.extBut _ o D.i1z e) (gw MT fun o e=>s1.extBut _ o D.l1z e) hx fun j2 a2 s2=>ZU ?_);have o2:IsPair j2 TO a b:=s2.extBut _ _ D.TOi1 (s1.extBut _ _ D.TOz NY);refine Z9 (YK (s:={ s with heap:=j2 }) o2 rfl<|Z9<|W0 (s:={ s with heap:=j2 }) o2 fun j3 o3 s3=>?_);refine Z9 (wpAny_letGo<|ZU<|Z9<|Z9<|Wr ?_);show wpAny _ _ (Builtin.SmallTypes.nextOf (.ref i2) >>= _) _ _ _;refine Z9 (pg (s:={ s with heap:=j3 }) hh (cZ h2 fun o e=>s3.extBut _ o D.TOi2.symm<|s2.extBut _ o D.i12.symm<|s1.extBut _ o D.i2z e) (gw Ij fun o e=>s3.extBut _ o D.l2TO<|s2.extBut _ o D.l2i1<|s1.extBut _ o D.l2z e) hy fun j4 e s4 ⟨oe,e1,e2⟩=>?_);have z4:IsZip j4 z TI TO .ellipsis:=s4 _ _ D.i2z.symm (s3.extBut _ _ D.TOz.symm<|s2.extBut _ _ D.i1z.symm z1);have ez:e≠z:=fun q=>by subst q;rw[z4] at e1;cases e1;simp at e2
  refine Yp z4 (by simp) fun j5 _ s5=>hE j5 e (fun c o c1 c2 c3 c4 q=>s5.extBut _ _ c1<|s4 _ _ c4<|s3.extBut _ _ c2<|s2.extBut _ _ c3<|s1.extBut _ _ c1 q) ⟨oe,s5.extBut _ _ ez e1,e2⟩
end
variable{s:Shared}{r':R2}{caps fx fix:List Nat}{own ps:List Str}{iter tg c e b a:Expr}{body:List Stmt}{E:Ends}{st:Stmt}{j n ek:Nat}{σ1 σ:St}{fd:FuncData}{vs xs:List V}{ds:List Im}{C B A R F2 F1 G F:List Addr}{Q:VK}{x:Str}{r es:List Expr}{t':TT}{X:Cx}{H2 H1 H' H:Hp}{v:V}{p:Addr}{pos:Pos}{K:PySem.W.Frag}
def HM(h:Heap)(l1 l2:Addr):Heap:=((((h.push { cls:=.type "tuple_iterator",data:=.fields #[.ref l1,.int 0 0] }).push { cls:=.type "tuple_iterator",data:=.fields #[.ref l2,.int 0 0] }).push
 { cls:=.type "tuple",data:=.seq #[.ref h.objs.size,.ref (h.push { cls:=.type "tuple_iterator",data:=.fields #[.ref l1,.int 0 0] }).objs.size] }).push { cls:=.type "tuple",data:=.seq #[.none,.none] })
theorem xT(l1 l2 : Addr)(xs ys : Array Value):
    Meets (Builtin.«zip.__new__» ⟨[.type "zip", .ref l1, .ref l2], []⟩) (fun _ R s => s.heap.IsTuple l1 xs /\ s.heap.IsTuple l2 ys /\
      R (.ok<|.ret<|.ref (HM s.heap l1 l2).objs.size) { s with heap := (HM s.heap l1 l2).push { cls := .type "zip", data := .fields #[.none, .bool false, .bool false, .ref ((s.heap.push { cls := .type "tuple_iterator", data := .fields #[.ref l1, .int 0 0] }).push { cls := .type "tuple_iterator", data := .fields #[.ref l2, .int 0 0] }).objs.size,
        .ref (((s.heap.push { cls := .type "tuple_iterator", data := .fields #[.ref l1, .int 0 0] }).push { cls := .type "tuple_iterator", data := .fields #[.ref l2, .int 0 0] }).push
  { cls := .type "tuple", data := .seq #[.ref s.heap.objs.size, .ref (s.heap.push { cls := .type "tuple_iterator", data := .fields #[.ref l1, .int 0 0] }).objs.size] }).objs.size] } }) :=
  .of_wp fun prog w A R s h => by
    obtain ⟨hp, g, d, tk, os⟩ := s;obtain ⟨q1, q2, h⟩ := h;have Lv := sub_zip;have m1 : Heap.IsTuple (Shared.heap ⟨hp, g, d, tk, os⟩) l1 xs := q1;have m2 : Heap.IsTuple (Shared.heap ⟨hp.push { cls := .type "tuple_iterator", data := .fields #[.ref l1, .int 0 0] }, g, d, tk, os⟩) l2 ys := gw q2 fun o e => Z2 _ e
    wp_walk using wpAny_pyIter_tuple m1, wpAny_pyIter_tuple m2
    exact ⟨_, rfl, h⟩
def MU(K:PySem.W.Frag)(a b:Addr):It:=
 ⟨fun i H=>∃ xs ys x y,DG K H a xs/\DG K H b ys/\xs[i]?=some x/\ys[i]?=some y,
  fun i H v H'=>∃ T x y,H T=none/\v=.ref T/\H'=upd H T (.tup [x,y])/\(∀ xs,DG K H a xs->xs[i]?=some x)/\(∀ ys,DG K H b ys->ys[i]?=some y),
  fun i H=>∃ xs ys,DG K H a xs/\DG K H b ys/\(xs.length<=i\/ys.length<=i)⟩
def ph(a b z TI TO i1 i2:Addr)(i:Nat)(h:Heap):Prop:=IsZip h z TI TO .none/\IsPair h TI (.ref i1) (.ref i2)/\(∃ p q,IsPair h TO p q)/\h.IsTupleIter i1 a i/\h.IsTupleIter i2 b i
theorem xU{P:Program}{w:World}(a b z TI TO i1 i2:Addr)(D:ZipApart z TI TO i1 i2 a b):
  Turn P w K (.Tuple es ek pos) (MU K a b) [z,TI,TO,i1,i2] z (ph a b z TI TO i1 i2) where
 mem:=by simp
 obj:=fun i h st c hc=>by
  obtain⟨h1,h2,⟨p,q,h3⟩,⟨o4,e4,_,d4⟩,⟨o5,e5,_,d5⟩⟩:=st;simp only[ZT,XY,Wa] at hc;rcases hc with rfl | rfl | rfl | rfl | rfl
  ·exact⟨_,h1,fun v e=>by cases e⟩
  ·exact⟨_,h2,fun v e=>by cases e⟩
  ·exact⟨_,h3,fun v e=>by cases e⟩
  ·exact⟨_,e4,fun v e=>by rw[d4] at e;cases e⟩
  ·exact⟨_,e5,fun v e=>by rw[d5] at e;cases e⟩
 keep:=fun i h h' st k=>by
  obtain⟨h1,h2,⟨p,q,h3⟩,h4,h5⟩:=st;exact⟨k z (by simp) _ h1,k TI (by simp) _ h2,⟨p,q,k TO (by simp) _ h3⟩,cZ h4 fun o e=>k i1 (by simp) o e,cZ h5 fun o e=>k i2 (by simp) o e⟩
 item:=by
  intro X hP hw hK hc i pins s σ H E I hf st hg;subst hP hw hK;obtain⟨xs,ys,x,y,q1,q2,x1,y1⟩:=hg;obtain⟨f_,rv,p,hz⟩:=I.tuple q1;obtain⟨Ey,MV,p2,KA⟩:=I.tuple q2;obtain⟨u,hu,ru⟩:=rv.get x1;obtain⟨u2,QF,QG⟩:=MV.get y1;have there:=st;obtain⟨h1,h2,⟨pa,pb,h3⟩,h4,h5⟩:=st;have hT:s.TypeIs (.ref z) "zip" := ⟨_,h1,rfl⟩;unfold pyNext;refine Z9 (W3 (YQ (name:=Str.ofString "__next__") hT WS (Y2 WS hT F.entry_zip_next
   (xR (Q:=fun v s'=>wpAny (model X.prog X.w) X.A (pure<|some v) (fun r s1=>∃ u,r=some u/\wpAny (model X.prog X.w) X.A (letOwnedTupleGo (.Tuple es ek pos) (.ref z) u) (fun _ s2=>∃ x H',Inv X pins σ H' s2/\aw x u/\(MU X.K a b).KW i H x H'/\ph a b z TI TO i1 i2 (i+1) s2.heap/\∀ b∈[z,TI,TO,i1,i2],H' b=none) E s1) E s')
    D h1 h2 h3 h4 h5 (show s.heap.IsTuple a f_.toArray from p) (show s.heap.IsTuple b Ey.toArray from p2) (x:=u) (y:=u2) (by simpa using hu) (by simpa using QF) fun h' g1 g2 g3 g4 g5 kk=>ZU ⟨_,rfl,?_⟩) (F.args_zip_next_1 _))));refine wpAny_letOwnedTupleGo_zip g1 fun J6 QH sb=>?_;have lt:∀ c∈[z,TI,TO,i1,i2],c<s.heap.objs.size:=fun c hc=>by
   obtain⟨h1,h2,⟨p,q,h3⟩,⟨o4,e4,_⟩,⟨o5,e5,_⟩⟩:=there;simp only[ZT,XY,Wa] at hc;rcases hc with rfl | rfl | rfl | rfl | rfl
   ·exact ZO h1
   ·exact ZO h2
   ·exact ZO h3
   ·exact ZO e4
   ·exact ZO e5
  have kp:∀ c o,c∉[z,TI,TO,i1,i2]->s.heap.get? c=some o->J6.get? c=some o:=fun c o hc e=>by
   simp only[ZT,XY,Wa,not_or] at hc;exact sb.extBut _ _ hc.1 (kk c o hc.1 hc.2.2.1 hc.2.2.2.1 hc.2.2.2.2 e)
  have zT:s.heap.objs.size≠z:=WN (lt z (by simp));have fT:H s.heap.objs.size=none:=I.m_.fresh (ZR _);refine⟨.ref s.heap.objs.size,upd H s.heap.objs.size<|.tup [x,y],I.Ls (t':=s.toks) hf kp (ZR _) ⟨by show 2<=sizeLine;decide,[u,u2],.cons ru<|.cons QG .nil,?_⟩,rfl,⟨_,x,y,fT,rfl,rfl,fun zs hz=>?_,fun zs hz=>?_⟩,?_,fun c hc=>?_⟩
  ·exact⟨_,sb.extBut _ _ zT g5,rfl,0,rfl⟩
  ·rw[I.ER hz q1];exact x1
  ·rw[I.ER hz q2];exact y1
  ·exact⟨QH,sb.extBut _ _ D.TIz<|kk _ _ D.TIz D.TITO D.TIi1 D.TIi2 h2,⟨_,_,sb.extBut _ _ D.TOz g2⟩,cZ g3 fun o e=>sb.extBut _ o D.i1z e,cZ g4 fun o e=>sb.extBut _ o D.i2z e⟩
  ·rw[aE (Zx<|lt c hc)];exact (hf c hc).1
 done:=by
  intro X hP hw hK hc i pins s σ H E I hf st hg;subst hP hw hK;obtain⟨xs,ys,q1,q2,HG⟩:=hg;obtain⟨f_,rv,p,hz⟩:=I.tuple q1;obtain⟨Ey,MV,p2,KA⟩:=I.tuple q2;obtain⟨h1,h2,⟨pa,pb,h3⟩,h4,h5⟩:=st;have hT:s.TypeIs (.ref z) "zip" := ⟨_,h1,rfl⟩;have l1:=rv.length;have l2:=MV.length;unfold pyNext;refine Z9 (W3 (YQ (name:=Str.ofString "__next__") hT WS (Y2 WS hT F.entry_zip_next
   (xS (I.ok.hd hc) D h1 h2 h3 h4 h5 (show s.heap.IsTuple a f_.toArray from p) (show s.heap.IsTuple b Ey.toArray from p2) (by
    rcases HG with h | h
    ·exact .inl (by simp;lia)
    ·exact .inr (by simp;lia)) fun h' e kk ⟨o,ho,QI⟩=>?_) (F.args_zip_next_1 _))))
  refine Z9 (Xh (T := "StopIteration") (b:=true) ⟨o,ho,QI⟩ isSubtype_stop<|ZU ⟨rfl,I.Lu (t':=s.toks) hf fun c o hc e=>?_⟩);simp only[ZT,XY,Wa,not_or] at hc;exact kk c o hc.1 hc.2.2.1 hc.2.2.2.1 hc.2.2.2.2 e
 self:=fun _ _ _ _ _ st h=>wpAny_pyIter_zip st.1 h
section
variable{X:Cx}
def xV(K:PySem.W.Frag)(ta:TA):TI:=fun σ H R=>ta σ H fun vs H1=>∃ a b,vs=[.ref a,.ref b]/\(∃ xs,DG K H1 a xs)/\(∃ ys,DG K H1 b ys)/\R (MU K a b) H1
theorem xW{ta:TA}{p:Pos}{ps:Pos}(hg:Gl X "zip")(hm:X.mg "zip" = none)(ha:PA X [a,b] ta)(hs:starEach [a,b] X.env=[(false,eval a X.env),(false,eval b X.env)]:=by rfl)(Io:starEach [b] X.env=[(false,eval b X.env)]:=by rfl):
  PI X (.Tuple es ek ps) (.Call (.Name "zip" p) [a,b] [] pos) (xV X.K ta):=by
 intro pins s σ H R I h;refine Call_ (ig I hg hm boot_zip (X1 (B_ (ha pos pins s σ H _ I h) fun us s1 ⟨vs,H1,I1,r1,q1⟩=>?_) (by rw[hs,Io]) (by rw[Io];rfl)));obtain⟨l1,l2,e,⟨xs,hx⟩,⟨ys,hy⟩,q⟩:=q1;subst e;cases r1 with
 | cons r rr=>
  cases rr with
  | cons r' rr=>
   cases rr;cases r;cases r';obtain⟨f_,rv,p,hz⟩:=I1.tuple hx;obtain⟨Ey,MV,p2,KA⟩:=I1.tuple hy;have NV:l1<s1.heap.objs.size:=by obtain⟨o,e,_⟩:=p;exact ZO e
   have QJ:l2<s1.heap.objs.size:=by obtain⟨o,e,_⟩:=p2;exact ZO e
   refine callType_new F.called_zip (by decide) (F.typeCall_zip_2 _ _) (F.newCall_zip_2 _ _) (fun obj=>F.args_object_init_3 obj _ _) F.entry_zip_new (xT l1 l2 f_.toArray Ey.toArray) ⟨p,p2,?_⟩;have z1:(s1.heap.push { cls:=.type "tuple_iterator",data:=.fields #[.ref l1,.int 0 0] }).objs.size=s1.heap.objs.size+1:=Xz ..;have z2:((s1.heap.push { cls:=.type "tuple_iterator",data:=.fields #[.ref l1,.int 0 0] }).push { cls:=.type "tuple_iterator",data:=.fields #[.ref l2,.int 0 0] }).objs.size=s1.heap.objs.size+2:=by rw[Xz,z1]
   have z3:(((s1.heap.push { cls:=.type "tuple_iterator",data:=.fields #[.ref l1,.int 0 0] }).push { cls:=.type "tuple_iterator",data:=.fields #[.ref l2,.int 0 0] }).push
    { cls:=.type "tuple",data:=.seq #[.ref s1.heap.objs.size,.ref (s1.heap.push { cls:=.type "tuple_iterator",data:=.fields #[.ref l1,.int 0 0] }).objs.size] }).objs.size=s1.heap.objs.size+3:=by rw[Xz,z2]
   have z4:(HM s1.heap l1 l2).objs.size=s1.heap.objs.size+4:=by unfold HM;rw[Xz,z3]
   show _/\_;refine⟨⟨_,ZE _ rfl,rfl⟩,wpAny_pyIter_zip (TI:=s1.heap.objs.size+2) (TO:=s1.heap.objs.size+3) (f0:=.none) ?_ ?_⟩
   ·rw[z2,z3];exact ZE _ rfl
   ·rw[z2,z3,z4];have g5:((HM s1.heap l1 l2).push { cls:=.type "zip",data:=.fields #[.none,.bool false,.bool false,.ref<|s1.heap.objs.size+2,.ref<|s1.heap.objs.size+3] }).get? (s1.heap.objs.size+4)=some { cls:=.type "zip",data:=.fields #[.none,.bool false,.bool false,.ref<|s1.heap.objs.size+2,.ref<|s1.heap.objs.size+3] }:=by rw[<- z4];exact ZE _ rfl
    have g4:((HM s1.heap l1 l2).push { cls:=.type "zip",data:=.fields #[.none,.bool false,.bool false,.ref<|s1.heap.objs.size+2,.ref<|s1.heap.objs.size+3] }).get? (s1.heap.objs.size+3)=some { cls:=.type "tuple",data:=.seq #[.none,.none] }:=by
     rw[<- z3];exact Z2 _ (ZE _ rfl)
    have g3:((HM s1.heap l1 l2).push { cls:=.type "zip",data:=.fields #[.none,.bool false,.bool false,.ref<|s1.heap.objs.size+2,.ref<|s1.heap.objs.size+3] }).get? (s1.heap.objs.size+2)=some { cls:=.type "tuple",data:=.seq #[.ref s1.heap.objs.size,.ref<|s1.heap.objs.size+1] }:=by
     rw[<- z2,<- z1];exact Z2 _ (Z2 _<|ZE _ rfl)
    have g2:((HM s1.heap l1 l2).push { cls:=.type "zip",data:=.fields #[.none,.bool false,.bool false,.ref<|s1.heap.objs.size+2,.ref<|s1.heap.objs.size+3] }).get? (s1.heap.objs.size+1)=some { cls:=.type "tuple_iterator",data:=.fields #[.ref l2,.int 0 0] }:=by
     rw[<- z1];exact Z2 _ (Z2 _<|Z2 _<|ZE _ rfl)
    have g1:((HM s1.heap l1 l2).push { cls:=.type "zip",data:=.fields #[.none,.bool false,.bool false,.ref<|s1.heap.objs.size+2,.ref<|s1.heap.objs.size+3] }).get? s1.heap.objs.size=some { cls:=.type "tuple_iterator",data:=.fields #[.ref l1,.int 0 0] }:=
     Z2 _ (Z2 _<|Z2 _<|Z2 _<|ZE _ rfl);have kp:∀ c o,s1.heap.get? c=some o->((HM s1.heap l1 l2).push { cls:=.type "zip",data:=.fields #[.none,.bool false,.bool false,.ref<|s1.heap.objs.size+2,.ref<|s1.heap.objs.size+3] }).get? c=some o:=fun c o e=>
     Z2 _ (Z2 _<|Z2 _<|Z2 _<|Z2 _ e);generalize ((HM s1.heap l1 l2).push { cls:=.type "zip",data:=.fields #[.none,.bool false,.bool false,.ref<|s1.heap.objs.size+2,.ref<|s1.heap.objs.size+3] })=h5 at g1 g2 g3 g4 g5 kp ⊢;have D:ZipApart (s1.heap.objs.size+4) (s1.heap.objs.size+2) (s1.heap.objs.size+3) s1.heap.objs.size (s1.heap.objs.size+1) l1 l2:=PySem.W.ktu_apart _ _ _ NV QJ;refine⟨_,_,_,_,H1,rfl,I1.kept (t':=s1.toks) kp,xU l1 l2 _ _ _ _ _ D,⟨g5,g3,⟨_,_,g4⟩,⟨_,g1,rfl,rfl⟩,⟨_,g2,rfl,rfl⟩⟩,fun c hc=>?_,q⟩;have:s1.heap.objs.size<=c:=by
     simp only[ZT,XY,Wa] at hc;rcases hc with rfl | rfl | rfl | rfl | rfl
     ·exact Xc _ _
     ·exact Xc _ _
     ·exact Xc _ _
     ·exact ZR _
     ·exact Xc _ _
    exact I1.IA this (I1.m_.fresh this)
end
def pi(K:PySem.W.Frag)(H:Hp)(x:V)(T:String)(b:Bool):Prop:=
 (∃ i,x=.int i/\((T = "int" /\ b=true)\/(T = "tuple" /\ b=false)\/(T = "str" /\ b=false)\/(T = "bool" /\ b=false)\/(T = "list" /\ b=false)))\/
 (∃ i,x=.bl i/\((T = "bool" /\ b=true)\/(T = "int" /\ b=true)\/(T = "tuple" /\ b=false)\/(T = "str" /\ b=false)\/(T = "list" /\ b=false)))\/
 (∃ i,x=.str i/\((T = "str" /\ b=true)\/(T = "int" /\ b=false)\/(T = "tuple" /\ b=false)\/(T = "bool" /\ b=false)\/(T = "list" /\ b=false)))\/
 (∃ a xs,x=.ref a/\DG K H a xs/\((T = "tuple" /\ b=true)\/(T = "int" /\ b=false)\/(T = "str" /\ b=false)\/(T = "bool" /\ b=false)\/(T = "list" /\ b=false)))\/
 (∃ a xs,x=.ref a/\D7 K H a xs/\((T = "list" /\ b=true)\/(T = "int" /\ b=false)\/(T = "str" /\ b=false)\/(T = "bool" /\ b=false)\/(T = "tuple" /\ b=false)))
section
variable{X:Cx}
theorem xX:bb X (.builtin "isinstance") (fun xs H Q=>∃ x T b,xs=[x,.ty T]/\pi X.K H x T b/\Q (.bl b) H):=by
 intro pins s σ H xs us Q I r h;obtain⟨x,T,b,rfl,hi,q⟩:=h;cases r with
 | cons r rr=>
  cases rr with
  | cons r' rr=>
   cases rr;cases r';have f0:∀ {b:Bool},Q (.bl b) H->EP X pins σ Q (.bool b) s:=fun {b} q=>⟨.bl b,H,I,rfl,q⟩;have f1:∀ {b:Bool},Q (.bl b) H->EP X pins σ Q (.bool b) { s with toks:=s.toks+1 }:=fun {b} q=>⟨.bl b,H,I.tok _,rfl,q⟩;rcases hi with ⟨i,rfl,hi⟩ | ⟨i,rfl,hi⟩ | ⟨i,rfl,hi⟩ | ⟨a,xs,rfl,hs,hi⟩ | ⟨a,xs,rfl,hs,hi⟩
   ·obtain⟨t,rfl⟩:=r;rcases hi with ⟨rfl,rfl⟩ | ⟨rfl,rfl⟩ | ⟨rfl,rfl⟩ | ⟨rfl,rfl⟩ | ⟨rfl,rfl⟩
    ·exact IsiPair.int_int (f0 q)
    ·exact IsiPair.int_tuple (f1 q)
    ·exact IsiPair.int_str (f1 q)
    ·exact IsiPair.int_bool (f1 q)
    ·exact IsiPair.int_list (f1 q)
   ·cases r;rcases hi with ⟨rfl,rfl⟩ | ⟨rfl,rfl⟩ | ⟨rfl,rfl⟩ | ⟨rfl,rfl⟩ | ⟨rfl,rfl⟩
    ·exact IsiPair.bool_bool (f0 q)
    ·exact IsiPair.bool_int (f0 q)
    ·exact IsiPair.bool_tuple (f1 q)
    ·exact IsiPair.bool_str (f1 q)
    ·exact IsiPair.bool_list (f1 q)
   ·obtain⟨t,rfl⟩:=r;rcases hi with ⟨rfl,rfl⟩ | ⟨rfl,rfl⟩ | ⟨rfl,rfl⟩ | ⟨rfl,rfl⟩ | ⟨rfl,rfl⟩
    ·exact IsiPair.str_str (f0 q)
    ·exact IsiPair.str_int (f1 q)
    ·exact IsiPair.str_tuple (f1 q)
    ·exact IsiPair.str_bool (f1 q)
    ·exact IsiPair.str_list (f1 q)
   ·cases r;obtain⟨f_,rv,⟨o,ho,hc,_⟩,hz⟩:=I.tuple hs;rcases hi with ⟨rfl,rfl⟩ | ⟨rfl,rfl⟩ | ⟨rfl,rfl⟩ | ⟨rfl,rfl⟩ | ⟨rfl,rfl⟩
    ·exact IsiPair.tuple_tuple ho hc (f0 q)
    ·exact IsiPair.tuple_int ho hc (f1 q)
    ·exact IsiPair.tuple_str ho hc (f1 q)
    ·exact IsiPair.tuple_bool ho hc (f1 q)
    ·exact IsiPair.tuple_list ho hc (f1 q)
   ·cases r;obtain⟨f_,rv,p,hz⟩:=I.list hs;obtain⟨o,ho,hc,_⟩:=p.isList;rcases hi with ⟨rfl,rfl⟩ | ⟨rfl,rfl⟩ | ⟨rfl,rfl⟩ | ⟨rfl,rfl⟩ | ⟨rfl,rfl⟩
    ·exact IsiPair.list_list ho hc (f0 q)
    ·exact IsiPair.list_int ho hc (f1 q)
    ·exact IsiPair.list_str ho hc (f1 q)
    ·exact IsiPair.list_bool ho hc (f1 q)
    ·exact IsiPair.list_tuple ho hc (f1 q)
theorem pj:∀ {bs:List Bool}{us:List Value},az (bs.map V.bl) us->∀ (i:Nat) (v:Value),us[i]?=some v->∃ b,bs[i]?=some b/\v=Value.bool b:=by
 intro bs us r i v h;have hl:=r.length;rw[Z4] at hl;have hi:i<bs.length:=by rw[hl];exact (Zz.mp h).1
 obtain⟨u,hu,ru⟩:=r.get (i:=i) (x:=V.bl bs[i]) (by simp[hi]);rw[h] at hu;cases hu;exact⟨bs[i],by simp[hi],ru⟩
theorem xY(hc:X.calm=true):bb X (.builtin "all") (fun xs H Q=>∃ l bs,xs=[.ref l]/\H l=some (.lst<|List.map V.bl bs)/\Q (.bl<|bs.all id) H):=by
 intro pins s σ H xs us Q I r h;obtain⟨l,bs,rfl,hl,q⟩:=h;obtain⟨u,rfl,ru⟩:=cK r;cases ru;obtain⟨z,f_,n,rv,e⟩:=I.m_ l _ hl;have Jm:s.heap.IsList l f_.toArray:=⟨_,e,rfl,n,rfl⟩;refine call_all_walk (Xr Jm ⟨s.heap.objs.size,[s.heap.objs.size,l],[s.heap.objs.size],f_.toArray.size,_,_,fun i=>(bs[i]?).getD true,rfl,Walks.list (A:=X.A.in1) (I.ok.hd hc) _ l (Zx<|ZO e) f_.toArray,
  ⟨⟨_,ZE _ rfl,rfl,rfl⟩,Jm.push _⟩,fun i v s' Q' E' hP hQ=>?_,fun h' tk hk=>?_⟩)
 ·obtain⟨b,eb,rfl⟩:=pj rv i v (by simpa using hP);simp only[eb,Xb] at hQ;exact YB hQ
 ·have el:f_.toArray.size=bs.length:=by
   have:=rv.length;rw[Z4] at this;rw[ZS,this]
  rw[el,LSm.range_all];exact⟨.bl _,H,I.kept<|LSm.kept_iter hk,rfl,q⟩
theorem xZ:Ex X (binaryOp .Mult) (rI IntMulOk fun i j=>.int<|i * j):=MJ fun _ _ _ _ _ _ _ hc q=>mul_int q hc
end
inductive Vl where
 | im (d:Im)
 | jk
 | fz (ds:List Im)
 | lst (ds:List Im)
 | dK (kvs:List (Key×Im))
 | dT (kvs:List (List Im×Im))
 | EA (xs:List Vl)
 | KF (ks:List (List Im)) (xs:List Vl)
 | KG (xs:List Vl)
 | obj (C:Addr) (ns:List Str) (xs:List Vl)
variable{op:List Vl->Option Vl}{f:Vl->Vl->Option Vl}{o:Option Vl}{d:Vl}
abbrev SD:=List (Option Vl)
variable{D' D:SD}{h:List Vl->SD->Option SD}
abbrev Ev{κ:Type}(H:Hp):List (κ×Im)->List (κ×V)->Prop:=Paired fun p q=>p.1=q.1/\DK H p.2 q.2
theorem Ev.mono{κ:Type}{l:List (κ×Im)}{m:List (κ×V)}(t:GX H H')(h:Ev H l m):Ev H' l m:=Paired.Iy h fun _ _ z=>⟨z.1,z.2.mono t⟩
structure DC(H H':Hp):Prop where
 tup:GX H H'
 Es:∀ a o u,H a=some (.Es o u)->H' a=some (.Es o u)
mutual
def Own(H:Hp):Vl->V->List Addr->Prop
 | .im d,v,F=>DK H d v/\F=[]
 | .jk,_,F=>F=[]
 | .fz ds,v,F=>∃ a xs o,v=.ref a/\H a=some (.Es o<|.lst xs)/\ar H ds xs/\F=[]
 | .lst ds,v,F=>∃ a xs,v=.ref a/\H a=some (.lst xs)/\ar H ds xs/\F=[a]
 | .dK kvs,v,F=>∃ a Eh,v=.ref a/\H a=some (.dK Eh)/\Ev H kvs Eh/\F=[a]
 | .dT kvs,v,F=>∃ a Eh,v=.ref a/\H a=some (.dT Eh)/\Ev H kvs Eh/\F=[a]
 | .EA ds,v,F=>∃ a xs G,v=.ref a/\H a=some (.lst xs)/\aK H ds xs G/\F=a::G
 | .KF ks ds,v,F=>∃ a Eh G,v=.ref a/\H a=some (.dT Eh)/\Eh.map (·.1)=ks/\aK H ds (Eh.map (·.2)) G/\F=a::G
 | .KG ds,v,F=>∃ a xs,v=.ref a/\H a=some (.tup xs)/\aK H ds xs F
 | .obj C ns ds,v,F=>∃ a dx fs G,v=.ref a/\H a=some (.ins C dx fs)/\fs.map (·.1)=ns/\aK H ds (fs.map (·.2)) G/\F=a::G
def aK(H:Hp):List Vl->List V->List Addr->Prop
 | [],vs,F=>vs=[]/\F=[]
 | d::ds,vs,F=>∃ v r F1 F2,vs=v::r/\Own H d v F1/\aK H ds r F2/\F=F1++F2
end
mutual
theorem Own.mono{H H':Hp}(t:DC H H'):∀ {d:Vl}{v:V}{F:List Addr},Own H d v F->(∀ a∈F,∀ o,H a=some o->H' a=some o)->Own H' d v F
 | .im d,v,F,h,_=>⟨h.1.mono t.tup,h.2⟩
 | .jk,v,F,h,_=>h
 | .fz ds,v,F,h,_=>by
  obtain⟨a,xs,o,rfl,h1,h2,rfl⟩:=h;exact⟨a,xs,o,rfl,t.Es _ _ _ h1,h2.mono t.tup,rfl⟩
 | .lst ds,v,F,h,k=>by
  obtain⟨a,xs,rfl,h1,h2,rfl⟩:=h;exact⟨a,xs,rfl,k a (.head _) _ h1,h2.mono t.tup,rfl⟩
 | .dK kvs,v,F,h,k=>by
  obtain⟨a,xs,rfl,h1,h2,rfl⟩:=h;exact⟨a,xs,rfl,k a (.head _) _ h1,h2.mono t.tup,rfl⟩
 | .dT kvs,v,F,h,k=>by
  obtain⟨a,xs,rfl,h1,h2,rfl⟩:=h;exact⟨a,xs,rfl,k a (.head _) _ h1,h2.mono t.tup,rfl⟩
 | .EA ds,v,F,h,k=>by
  obtain⟨a,xs,G,rfl,h1,h2,rfl⟩:=h;exact⟨a,xs,G,rfl,k a (.head _) _ h1,aK.mono t h2 fun b hb=>k b<|.tail _ hb,rfl⟩
 | .KF ks ds,v,F,h,k=>by
  obtain⟨a,xs,G,rfl,h1,hk,h2,rfl⟩:=h;exact⟨a,xs,G,rfl,k a (.head _) _ h1,hk,aK.mono t h2 fun b hb=>k b<|.tail _ hb,rfl⟩
 | .KG ds,v,F,h,k=>by
  obtain⟨a,xs,rfl,h1,h2⟩:=h;exact⟨a,xs,rfl,t.tup a xs h1,aK.mono t h2 k⟩
 | .obj C ns ds,v,F,h,k=>by
  obtain⟨a,dx,fs,G,rfl,h1,hk,h2,rfl⟩:=h;exact⟨a,dx,fs,G,rfl,k a (.head _) _ h1,hk,aK.mono t h2 fun b hb=>k b<|.tail _ hb,rfl⟩
theorem aK.mono{H H':Hp}(t:DC H H'):∀ {ds:List Vl}{vs:List V}{F:List Addr},aK H ds vs F->(∀ a∈F,∀ o,H a=some o->H' a=some o)->aK H' ds vs F
 | [],vs,F,h,_=>h
 | d::ds,vs,F,h,k=>by
  obtain⟨v,r,F1,F2,rfl,h1,h2,rfl⟩:=h;exact⟨v,r,F1,F2,rfl,Own.mono t h1 fun a ha=>k a<|ZJ _ ha,aK.mono t h2 fun a ha=>k a<|ZN _ ha,rfl⟩
end
def FV(H:Hp)(a:Addr):Prop:=∃ o,H a=some o/\(∀ xs,o≠.tup xs)/\∀ p u,o≠.Es p u
mutual
theorem Own.chg{H:Hp}:∀ {d:Vl}{v:V}{F:List Addr},Own H d v F->∀ a∈F,FV H a
 | .im d,v,F,h,a,ha=>by rw[h.2] at ha;cases ha
 | .jk,v,F,h,a,ha=>by rw[show F=[] from h] at ha;cases ha
 | .fz ds,v,F,h,b,hb=>by
  obtain⟨a,xs,o,rfl,h1,h2,rfl⟩:=h;cases hb
 | .lst ds,v,F,h,b,hb=>by
  obtain⟨a,xs,rfl,h1,h2,rfl⟩:=h;rw[ZX.mp hb];exact⟨_,h1,(fun _ e=>by cases e),(fun _ _ e=>by cases e)⟩
 | .dK kvs,v,F,h,b,hb=>by
  obtain⟨a,xs,rfl,h1,h2,rfl⟩:=h;rw[ZX.mp hb];exact⟨_,h1,(fun _ e=>by cases e),(fun _ _ e=>by cases e)⟩
 | .dT kvs,v,F,h,b,hb=>by
  obtain⟨a,xs,rfl,h1,h2,rfl⟩:=h;rw[ZX.mp hb];exact⟨_,h1,(fun _ e=>by cases e),(fun _ _ e=>by cases e)⟩
 | .EA ds,v,F,h,b,hb=>by
  obtain⟨a,xs,G,rfl,h1,h2,rfl⟩:=h;rcases ZT.mp hb with rfl | hb
  ·exact⟨_,h1,(fun _ e=>by cases e),(fun _ _ e=>by cases e)⟩
  ·exact aK.chg h2 b hb
 | .KF ks ds,v,F,h,b,hb=>by
  obtain⟨a,xs,G,rfl,h1,hk,h2,rfl⟩:=h;rcases ZT.mp hb with rfl | hb
  ·exact⟨_,h1,(fun _ e=>by cases e),(fun _ _ e=>by cases e)⟩
  ·exact aK.chg h2 b hb
 | .KG ds,v,F,h,b,hb=>by
  obtain⟨a,xs,rfl,h1,h2⟩:=h;exact aK.chg h2 b hb
 | .obj C ns ds,v,F,h,b,hb=>by
  obtain⟨a,dx,fs,G,rfl,h1,hk,h2,rfl⟩:=h;rcases ZT.mp hb with rfl | hb
  ·exact⟨_,h1,(fun _ e=>by cases e),(fun _ _ e=>by cases e)⟩
  ·exact aK.chg h2 b hb
theorem aK.chg{H:Hp}:∀ {ds:List Vl}{vs:List V}{F:List Addr},aK H ds vs F->∀ a∈F,FV H a
 | [],vs,F,h,a,ha=>by rw[h.2] at ha;cases ha
 | d::ds,vs,F,h,a,ha=>by
  obtain⟨v,r,F1,F2,rfl,h1,h2,rfl⟩:=h;rcases ZD.mp ha with ha | ha
  ·exact Own.chg h1 a ha
  ·exact aK.chg h2 a ha
end
theorem aK.length{H:Hp}:∀ {ds:List Vl}{vs:List V}{F:List Addr},aK H ds vs F->ds.length=vs.length
 | [],vs,F,h=>by rw[h.1];rfl
 | d::ds,vs,F,h=>by
  obtain⟨v,r,F1,F2,rfl,h1,h2,rfl⟩:=h;rw[ZC,ZC,h2.length]
theorem ar.length{H:Hp}:∀ {ds:List Im}{vs:List V},ar H ds vs->ds.length=vs.length
 | [],vs,h=>by rw[show vs=[] from h];rfl
 | d::ds,vs,h=>by
  obtain⟨v,r,rfl,h1,h2⟩:=h;rw[ZC,ZC,h2.length]
def eI(H:Hp):Option Vl->Option V->List Addr->Prop
 | none,_,F=>F=[]
 | some d,x,F=>∃ v,x=some v/\Own H d v F
def ak(H:Hp):SD->St->List Addr->Prop
 | [],σ,F=>σ=[]/\F=[]
 | o::D,σ,F=>∃ x r F1 F2,σ=x::r/\eI H o x F1/\ak H D r F2/\F=F1++F2
structure p_(H:Hp)(F:List Addr)(H':Hp)(F':List Addr):Prop where
 keep:∀ a o,H a=some o->a∉F->H' a=some o
 sub:∀ a∈F',a∈F\/H a=none
 nd:F'.Nodup
 tup:DC H H'
 grow:∀ a o,H a=some o->∃ o',H' a=some o'
theorem eI.mono(t:DC H H'):∀ {o:Option Vl}{x:Option V}{F:List Addr},eI H o x F->(∀ a∈F,∀ o,H a=some o->H' a=some o)->eI H' o x F
 | none,_,_,h,_=>h
 | some d,x,F,h,k=>by
  obtain⟨v,rfl,h⟩:=h;exact⟨v,rfl,h.mono t k⟩
theorem ak.mono{H H':Hp}(t:DC H H'):∀ {D:SD}{σ:St}{F:List Addr},ak H D σ F->(∀ a∈F,∀ o,H a=some o->H' a=some o)->ak H' D σ F
 | [],σ,F,h,_=>h
 | o::D,σ,F,h,k=>by
  obtain⟨x,r,F1,F2,rfl,h1,h2,rfl⟩:=h;exact⟨x,r,F1,F2,rfl,h1.mono t fun a ha=>k a<|ZJ _ ha,ak.mono t h2 fun a ha=>k a<|ZN _ ha,rfl⟩
theorem eI.chg:∀ {o:Option Vl}{x:Option V}{F:List Addr},eI H o x F->∀ a∈F,FV H a
 | none,_,F,h,a,ha=>by rw[show F=[] from h] at ha;cases ha
 | some d,x,F,h,a,ha=>by
  obtain⟨v,rfl,h⟩:=h;exact h.chg a ha
theorem ak.chg{H:Hp}:∀ {D:SD}{σ:St}{F:List Addr},ak H D σ F->∀ a∈F,FV H a
 | [],σ,F,h,a,ha=>by rw[h.2] at ha;cases ha
 | o::D,σ,F,h,a,ha=>by
  obtain⟨x,r,F1,F2,rfl,h1,h2,rfl⟩:=h;rcases ZD.mp ha with ha | ha
  ·exact h1.chg a ha
  ·exact ak.chg h2 a ha
theorem ak.len{H:Hp}:∀ {D:SD}{σ:St}{F:List Addr},ak H D σ F->D.length=σ.length
 | [],σ,F,h=>by rw[h.1];rfl
 | o::D,σ,F,h=>by
  obtain⟨x,r,F1,F2,rfl,h1,h2,rfl⟩:=h;rw[ZC,ZC,ak.len h2]
def Vl.cp:Vl->Bool
 | .im _=>true
 | .fz _=>true
 | _=>false
theorem Own.cp(h:Own H d v F)(c:d.cp=true):F=[]:=by
 cases d with
 | im d=>exact h.2
 | fz ds=>obtain⟨a,xs,o,rfl,h1,h2,rfl⟩:=h;rfl
 | _=>cases c
theorem ak.out{H:Hp}:∀ {D:SD}{σ:St}{F:List Addr}{i:Nat}{d:Vl},ak H D σ F->D[i]?=some (some d)->∃ v F1 F2,σ[i]?=some (some v)/\Own H d v F1/\ak H (D.set i<|some .jk) σ F2/\(F2++F1).Perm F
 | [],σ,F,i,d,h,e=>by simp at e
 | o::D,σ,F,0,d,h,e=>by
  obtain⟨x,r,F1,F2,rfl,h1,h2,rfl⟩:=h;simp at e;subst e;obtain⟨v,rfl,h1⟩:=h1;exact⟨v,F1,F2,rfl,h1,⟨some v,r,[],F2,rfl,⟨v,rfl,rfl⟩,h2,rfl⟩,Z0⟩
 | o::D,σ,F,i+1,d,h,e=>by
  obtain⟨x,r,F1,F2,rfl,h1,h2,rfl⟩:=h;obtain⟨v,G1,G2,g1,g2,g3,g4⟩:=ak.out (i:=i) h2 (by simpa using e);refine⟨v,G1,F1++G2,by simpa using g1,g2,⟨x,r,F1,G2,rfl,h1,g3,rfl⟩,?_⟩;rw[Z7];exact ZQ _ g4
theorem ak.put{H:Hp}:∀ {D:SD}{σ:St}{F:List Addr}{i:Nat}{d:Vl}{v:V}{G:List Addr},ak H D σ F->Own H d v G->i<D.length->∃ F1 F2,ak H (D.set i<|some d) (σ.set i<|some v) F1/\(F1++F2).Perm (F++G)
 | [],σ,F,i,d,v,G,h,w,l=>by simp at l
 | o::D,σ,F,0,d,v,G,h,w,l=>by
  obtain⟨x,r,F1,F2,rfl,h1,h2,rfl⟩:=h;refine⟨G++F2,F1,⟨some v,r,G,F2,rfl,⟨v,rfl,w⟩,h2,rfl⟩,?_⟩;refine Z0.trans ?_;rw[Z7];exact ZQ _ Z0
 | o::D,σ,F,i+1,d,v,G,h,w,l=>by
  obtain⟨x,r,F1,F2,rfl,h1,h2,rfl⟩:=h;obtain⟨G1,G2,g1,g2⟩:=ak.put (i:=i) h2 w (by simpa using l);refine⟨F1++G1,G2,⟨x,_,F1,G1,rfl,h1,g1,rfl⟩,?_⟩;rw[Z7,Z7];exact ZQ _ g2
theorem ak.cp{i:Nat}(h:ak H D σ F)(e:D[i]?=some (some d))(c:d.cp=true):∃ v,σ[i]?=some (some v)/\Own H d v []:=by
 obtain⟨v,F1,F2,g1,g2,_⟩:=h.out e;obtain rfl:=g2.cp c;exact⟨v,g1,g2⟩
theorem x5{i:Nat}(h:σ[i]?=some (some v)):σ.set i (some v)=σ:=by
 refine Yk fun j=>?_;by_cases e:i=j
 ·subst e;rw[h,Yb (Zz.mp h).1]
 ·rw[YZ e]
theorem ak.back{i:Nat}(h:ak H D σ F)(w:Own H d v G)(hv:σ[i]?=some (some v)):∃ F1 F2,ak H (D.set i<|some d) σ F1/\(F1++F2).Perm (F++G):=by
 have l:i<D.length:=by rw[h.len];exact (Zz.mp hv).1
 obtain⟨F1,F2,h1,h2⟩:=h.put (i:=i) w l;rw[x5 hv] at h1;exact⟨F1,F2,h1,h2⟩
theorem DC.of(f:ic H H')(g:∀ a o u,H a=some (.Es o u)->H' a=some (.Es o u)):DC H H':=⟨⟨f,g⟩,g⟩
theorem x6(H:Hp):DC H H:=⟨⟨fun _ _ e=>e,fun _ _ _ e=>e⟩,fun _ _ _ e=>e⟩
theorem DC.trans(a:DC H H1)(b:DC H1 H2):DC H H2:=⟨⟨fun x xs e=>b.tup.t x xs<|a.tup.t x xs e,fun x o u e=>b.Es x o u<|a.Es x o u e⟩,fun x o u e=>b.Es x o u<|a.Es x o u e⟩
theorem p_.refl{H:Hp}{F F':List Addr}(h:F'.Nodup)(s:∀ a∈F',a∈F):p_ H F H F':=⟨fun _ _ e _=>e,fun a ha=>.inl<|s a ha,h,x6 H,fun _ o e=>⟨o,e⟩⟩
theorem p_.perm{F':List Addr}(h:F.Nodup)(p:F'.Perm F):p_ H F H F':=p_.refl ((p.nodup_iff).mpr h) fun a ha=>p.mem_iff.mp ha
theorem p_.trans(a:p_ H F H1 (F1++R))(b:p_ H1 F1 H2 F2)(cr:∀ x∈R,FV H1 x):p_ H F H2 (F2++R):=by
 have nd:=ZP.mp a.nd;have al:∀ x∈F2,x∉R:=fun x hx hr=>by
  rcases b.sub x hx with h | h
  ·exact nd.2.2 x h x hr rfl
  ·obtain⟨o,e,_⟩:=cr x hr;rw[e] at h;cases h
 refine⟨fun x o e hx=>?_,fun x hx=>?_,ZP.mpr ⟨b.nd,nd.2.1,fun x hx y hy e=>al x hx<|e ▸ hy⟩,a.tup.trans b.tup,fun x o e=>let ⟨o',e'⟩:=a.grow x o e;b.grow x o' e'⟩
 ·refine b.keep x o (a.keep x o e hx) fun h1=>?_;rcases a.sub x (ZJ _ h1) with h | h
  ·exact hx h
  ·rw[e] at h;cases h
 ·rcases ZD.mp hx with hx | hx
  ·rcases b.sub x hx with h | h
   ·exact a.sub x (ZJ _ h)
   ·refine .inr ?_;cases e:H x with
    | none=>rfl
    | some o=>
     obtain⟨o',e'⟩:=a.grow x o e;rw[e'] at h;cases h
  ·exact a.sub x (ZN _ hx)
theorem aF.tupS(s:aF H H'):DC H H':=⟨⟨fun a xs e=>s a _ e,fun a o u e=>s a _ e⟩,fun a o u e=>s a _ e⟩
theorem pk{a b:Addr}{o u:HO}(e:H b=some o)(h:H a=none):L2.upd H a u b=some o:=by rw[aE (ce e h)];exact e
theorem aF.upd(s:aF H H'){a:Addr}{o:HO}(h:H' a=none):aF H (L2.upd H' a o):=fun b u e=>pk (s b u e) h
abbrev M(α:Type):=SD->Option (α×SD)
variable{ge:M Vl}{gc k:M Bool}
inductive Opd where
 | sl (i:Nat)
 | vl (d:Vl)
variable{gb ga:M Opd}{g:M (List Opd)}
def rsl(D:SD):Opd->Option Vl
 | .sl i=>(D[i]?).getD none
 | .vl d=>some d
def dA(H:Hp)(σ:St):Opd->V->List Addr->Prop
 | .sl i,v,R=>σ[i]?=some (some v)/\R=[]
 | .vl d,v,R=>Own H d v R
def tV(g:M Vl):TE:=fun σ H Q=>∃ D F r D',ak H D σ F/\F.Nodup/\g D=some (r,D')/\∀ v H' F' R,ak H' D' σ F'->Own H' r v R->p_ H F H' (F'++R)->Q v H'
def tO(g:M Opd):TE:=fun σ H Q=>∃ D F r D',ak H D σ F/\F.Nodup/\g D=some (r,D')/\∀ v H' F' R,ak H' D' σ F'->dA H' σ r v R->p_ H F H' (F'++R)->Q v H'
def Ho(g:M Bool):TT:=fun σ H Q=>∃ D F b D',ak H D σ F/\F.Nodup/\g D=some (b,D')/\∀ H' F',ak H' D' σ F'->p_ H F H' F'->Q b H'
def VE(X:Cx)(e:Expr)(g:M Vl):Prop:=∀ ⦃p⦄,Nn X e (tV g) p
def VO(X:Cx)(e:Expr)(g:M Opd):Prop:=∀ ⦃p⦄,Nn X e (tO g) p
def VT(X:Cx)(e:Expr)(g:M Bool):Prop:=∀ ⦃p⦄,O1 X e (Ho g) p
theorem aT{t t':TE}(h:PE X e t)(i:∀ σ H Q,t' σ H Q->t σ H Q):PE X e t':=fun pins s σ H Q I hw=>h pins s σ H Q I (i σ H Q hw)
theorem lP{t:TT}(h:PT X e t)(i:∀ σ H Q,t' σ H Q->t σ H Q):PT X e t':=fun pins s σ H Q I hw=>h pins s σ H Q I (i σ H Q hw)
theorem dA.mono{r:Opd}(h:dA H σ r v R)(t:DC H H')(k:∀ a∈R,∀ o,H a=some o->H' a=some o):dA H' σ r v R:=by
 cases r with
 | sl i=>exact h
 | vl d=>exact Own.mono t h k
theorem dA.chg{r:Opd}(h:dA H σ r v R):∀ a∈R,FV H a:=by
 cases r with
 | sl i=>intro a ha;rw[h.2] at ha;cases ha
 | vl d=>exact Own.chg h
def FG(H:Hp)(d:Vl)(v:V):Prop:=∃ R,Own H d v R
theorem dA.read{r:Opd}(h:dA H σ r v R)(st:ak H D σ F)(e:rsl D r=some d):FG H d v:=by
 cases r with
 | vl d'=>cases e;exact⟨R,h⟩
 | sl i=>
  have e':D[i]?=some (some d):=by
   have:(D[i]?).getD none=some d:=e;cases q:D[i]? with
   | none=>rw[q] at this;cases this
   | some o=>rw[q] at this;rw[show o=some d from this]
  obtain⟨v',F1,F2,g1,g2,_⟩:=st.out e';rw[h.1] at g1;cases g1;exact⟨F1,g2⟩
@[simp] def bu(i:Nat):M Vl:=fun D=>match D[i]? with
 | some (some d)=>if d.cp=true then some (d,D) else some (d,D.set i<|some .jk)
 | _=>none
def eC(d:Im):M Vl:=fun D=>some (.im d,D)
@[simp] def oSl(i:Nat):M Opd:=fun D=>match D[i]? with
 | some (some _)=>some (.sl i,D)
 | _=>none
@[simp] def oV(g:M Vl):M Opd:=fun D=>(g D).map fun p=>(.vl p.1,p.2)
section
variable{X:Cx}
variable{i:Nat}
theorem c5(h:PE X e (fC i)):VE X e (bu i):=by
 refine aT h fun σ H Q ⟨D,F,r,D',st,nd,hg,q⟩=>?_;unfold bu at hg;split at hg
 ·rename_i d hd;split at hg
  ·rename_i hc;cases hg;obtain⟨v,h1,h2⟩:=st.cp hd hc;exact⟨v,h1,q v H F [] st h2 (by rw[ZY];exact p_.perm nd (ZG _))⟩
  ·cases hg;obtain⟨v,F1,F2,h1,h2,h3,h4⟩:=st.out hd;exact⟨v,h1,q v H F2 F1 h3 h2<|p_.perm nd h4⟩
 ·cases hg
theorem x8(h:PE X e (fC i)):VO X e (oSl i):=by
 refine aT h fun σ H Q ⟨D,F,r,D',st,nd,hg,q⟩=>?_;unfold oSl at hg;split at hg
 ·rename_i d hd;cases hg;obtain⟨v,F1,F2,h1,h2,h3,h4⟩:=st.out hd;exact⟨v,h1,q v H F [] st ⟨h1,rfl⟩ (by rw[ZY];exact p_.perm nd (ZG _))⟩
 ·cases hg
theorem ae{g:M Vl}(h:VE X e g):VO X e (oV g):=by
 refine aT h fun σ H Q ⟨D,F,r,D',st,nd,hg,q⟩=>?_;unfold oV at hg;obtain⟨⟨r',D1⟩,h1,h2⟩:=Z5.mp hg;cases h2;exact⟨D,F,r',_,st,nd,h1,q⟩
theorem jD{d:Im}(h:PE X e (tC v))(hd:∀ H,DK H d v):VE X e (eC d):=by
 refine aT h fun σ H Q ⟨D,F,r,D',st,nd,hg,q⟩=>?_;cases hg;exact q v H F [] st ⟨hd H,rfl⟩ (by rw[ZY];exact p_.perm nd (ZG _))
theorem eJ{i:Int}{j pos}:VE X (.Constant (.int i) j pos) (eC<|.int i):=jD uU fun _=>rfl
theorem cy{b:Bool}{j pos}:VE X (.Constant (.bool b) j pos) (eC<|.bl b):=jD uV fun _=>rfl
theorem fN{j pos}:VE X (.Constant .none j pos) (eC .i_):=jD uW fun _=>rfl
theorem cz{j pos}:VE X (.Constant (.str x) j pos) (eC<|.str x):=jD nW fun _=>rfl
theorem two{D1 D2:SD}{x y:Opd}{K:V->V->Hp->Prop}(st:ak H D σ F)(nd:F.Nodup)(ha:ga D=some (x,D1))(hb:gb D1=some (y,D2))(k:∀ v u H' F' R1 R2,ak H' D2 σ F'->dA H' σ x v R1->dA H' σ y u R2->p_ H F H' ((F'++R2)++R1)->K v u H'):tO ga σ H fun v H1=>tO gb σ H1 fun u H2=>K v u H2:=by
 refine⟨D,F,x,D1,st,nd,ha,fun v H1 F1 R1 u_ o1 s1=>⟨D1,F1,y,D2,u_,(ZP.mp s1.nd).1,hb,fun u H2 F2 R2 q_ o2 s2=>?_⟩⟩;refine k v u H2 F2 R1 R2 q_ (o1.mono s2.tup fun a ha o e=>s2.keep a o e fun h=>?_) o2 (s1.trans s2 o1.chg);exact (ZP.mp s1.nd).2.2 a h a ha rfl
theorem p_.new{R':List Addr}(a:p_ H F H1 (F1++R))(s:aF H1 H2)(nd:R'.Nodup)(fr:∀ x∈R',H1 x=none)(c:∀ x∈F1,FV H1 x):p_ H F H2 (F1++R'):=by
 refine⟨fun x o e hx=>s _ _<|a.keep x o e hx,fun x hx=>?_,ZP.mpr ⟨(ZP.mp a.nd).1,nd,fun x hx y hy e=>?_⟩,a.tup.trans s.tupS,fun x o e=>let ⟨o',e'⟩:=a.grow x o e;⟨o',s _ _ e'⟩⟩
 ·rcases ZD.mp hx with hx | hx
  ·exact a.sub x (ZJ _ hx)
  ·refine .inr ?_;cases e:H x with
   | none=>rfl
   | some o=>
    obtain⟨o',e'⟩:=a.grow x o e;rw[fr x hx] at e';cases e'
 ·subst e;obtain⟨o,e,_⟩:=c x hx;rw[fr x hy] at e;cases e
def FW(X:Cx)(f:Value->Value->Sem Value)(op:Vl->Vl->Option Vl):Prop:=
 Ex X f fun x y H Q=>∃ d1 d2 d,FG H d1 x/\FG H d2 y/\op d1 d2=some d/\∀ v H' R,aF H H'->Own H' d v R->R.Nodup->(∀ a∈R,H a=none)->Q v H'
@[simp] def ad(op:Vl->Vl->Option Vl)(ga gb:M Opd):M Vl:=fun D=>(ga D).bind fun p=>(gb p.2).bind fun q=>(rsl q.2 p.1).bind fun d1=>(rsl q.2 q.1).bind fun d2=>(op d1 d2).map fun d=>(d,q.2)
theorem jE{op:Vl->Vl->Option Vl}(h:tV (ad op ga gb) σ H Q):
  tO ga σ H fun x H1=>tO gb σ H1 fun y H2=>∃ d1 d2 d,FG H2 d1 x/\FG H2 d2 y/\op d1 d2=some d/\∀ v H' R,aF H2 H'->Own H' d v R->R.Nodup->(∀ a∈R,H2 a=none)->Q v H':=by
 obtain⟨D,F,r,D',st,nd,hg,q⟩:=h;unfold ad at hg;obtain⟨⟨x,D1⟩,ha,hg⟩:=Z8.mp hg;obtain⟨⟨y,D2⟩,hb,hg⟩:=Z8.mp hg;obtain⟨d1,h1,hg⟩:=Z8.mp hg;obtain⟨d2,h2,hg⟩:=Z8.mp hg;obtain⟨d,h3,hg⟩:=Z5.mp hg;cases hg;refine two st nd ha hb fun v u H2 F2 R1 R2 q_ o1 o2 s2=>⟨d1,d2,_,o1.read q_ h1,o2.read q_ h2,h3,fun w H3 R s3 ow NZ fr=>?_⟩;rw[Z7] at s2;exact q w H3 F2 R (q_.mono s3.tupS fun a _ o e=>s3 a o e) ow (s2.new s3 NZ fr q_.chg)
theorem av{op:Operator}(ho:FW X (binaryOp op) f)(ha:VO X a ga)(hb:VO X b gb):VE X (.BinOp a op b pos) (ad f ga gb):=
 aT (vO ho ha hb) fun _ _ _ h=>jE h
variable{op:CmpOp}
theorem cC(ho:FW X (compareOp op) f)(ha:VO X a ga)(hb:VO X b gb)(hm:behindInMarks op b=false):VE X (.Compare a [op] [b] pos) (ad f ga gb):=
 aT (v7 ho ha hb hm) fun _ _ _ h=>jE h
theorem pp(ho:G7 X (fun x y H Q=>∃ d1 d2 d,FG H d1 x/\FG H d2 y/\f d1 d2=some d/\∀ v H' R,aF H H'->Own H' d v R->R.Nodup->(∀ a∈R,H a=none)->Q v H'))(ha:VO X a ga)(hb:VO X b gb)(hs:ls b):VE X (.Subscript a b pos) (ad f ga gb):=
 aT (wG ho ha hb hs) fun _ _ _ h=>jE h
@[simp] def asB:Vl->Option Bool
 | .im (.bl b)=>some b
 | _=>none
@[simp] def kB(g:M Vl):M Bool:=fun D=>(g D).bind fun p=>(asB p.1).map fun b=>(b,p.2)
theorem pq{b:Bool}(h:asB d=some b):d=.im (.bl b):=by
 unfold asB at h;split at h
 ·cases h;rfl
 ·cases h
theorem bO(ho:FW X (compareOp op) f)(ha:VO X a ga)(hb:VO X b gb)(hm:behindInMarks op b=false):VT X (.Compare a [op] [b] pos) (kB<|ad f ga gb):=by
 refine lP (we ho ha hb hm) fun σ H Q ⟨D,F,c,D',st,nd,hg,q⟩=>?_;refine jE ⟨D,F,.im<|.bl c,D',st,nd,?_,fun v H' F' R e_ ow s=>⟨c,ow.1,q H' F' e_ (by rw[ow.2,ZY] at s;exact s)⟩⟩;obtain⟨p,h1,h2⟩:=Z8.mp hg;obtain⟨c',h3,h4⟩:=Z5.mp h2;cases h4;rw[h1,<- pq h3]
@[simp] def cS(g:M Bool):M Bool:=fun D=>(g D).map fun p=>(!p.1,p.2)
variable{g:M Bool}
theorem jF(h:VT X a g):VT X (.UnaryOp .Not a pos) (cS g):=by
 refine lP (u6 h) fun σ H Q ⟨D,F,c,D',st,nd,hg,q⟩=>?_;obtain⟨p,h1,h2⟩:=Z5.mp hg;cases h2;exact⟨D,F,p.1,_,st,nd,h1,q⟩
@[simp] def cD(g h:M Bool):M Bool:=fun D=>(g D).bind fun p=>if p.1=true then h p.2 else some (false,p.2)
@[simp] def kOr(g h:M Bool):M Bool:=fun D=>(g D).bind fun p=>if p.1=true then some (true,p.2) else h p.2
variable{Q:Bool->Hp->Prop}{h:M Bool}
theorem pu(w:Ho (cD g h) σ H Q):nZ (Ho g) (Ho h) σ H Q:=by
 obtain⟨D,F,c,D',st,nd,hg,q⟩:=w;obtain⟨⟨b,D1⟩,h1,h2⟩:=Z8.mp hg;refine⟨D,F,b,D1,st,nd,h1,fun H1 F1 u_ s1=>?_⟩;cases b with
 | true=>
  rw[ZZ rfl];rw[ZZ rfl] at h2;exact⟨D1,F1,c,D',u_,s1.nd,h2,fun H2 F2 q_ s2=>q H2 F2 q_ (by
   have:=p_.trans (R:=[]) (by rw[ZY];exact s1) s2 (fun x hx=>nomatch hx)
   rwa [ZY] at this)⟩
 | false=>
  rw[ZW ZK] at h2 ⊢;cases h2;exact q H1 F1 u_ s1
theorem pz(w:Ho (kOr g h) σ H Q):O5 (Ho g) (Ho h) σ H Q:=by
 obtain⟨D,F,c,D',st,nd,hg,q⟩:=w;obtain⟨⟨b,D1⟩,h1,h2⟩:=Z8.mp hg;refine⟨D,F,b,D1,st,nd,h1,fun H1 F1 u_ s1=>?_⟩;cases b with
 | false=>
  rw[ZW ZK] at h2 ⊢;exact⟨D1,F1,c,D',u_,s1.nd,h2,fun H2 F2 q_ s2=>q H2 F2 q_ (by
   have:=p_.trans (R:=[]) (by rw[ZY];exact s1) s2 (fun x hx=>nomatch hx)
   rwa [ZY] at this)⟩
 | true=>
  rw[ZZ rfl] at h2 ⊢;cases h2;exact q H1 F1 u_ s1
def VW(X:Cx)(e:Expr)(g:M Bool):Prop:=∀ ⦃p⦄,O2 X e (Ho g) p
theorem pA{t:TT}(h:PW X e t)(i:∀ σ H Q,t' σ H Q->t σ H Q):PW X e t':=fun wh pins s σ H Q I hw=>h wh pins s σ H Q I (i σ H Q hw)
theorem pB(h:VT X a g):VW X (.BoolOp .And [a] pos) g:=uY h
theorem pC(h:VT X a g):VW X (.BoolOp .Or [a] pos) g:=uZ h
theorem pE(h:VT X a g)(hb:VW X (.BoolOp .And (b::r) pos) k):VW X (.BoolOp .And (a::b::r) pos) (cD g k):=pA (u0 h hb) fun _ _ _ w=>pu w
theorem pF(h:VT X a g)(hb:VW X (.BoolOp .Or (b::r) pos) k):VW X (.BoolOp .Or (a::b::r) pos) (kOr g k):=pA (u5 h hb) fun _ _ _ w=>pz w
theorem VW.vt(h:VW X e g):VT X e g:=PW.pt h
@[simp] def eB(g:M Bool):M Vl:=fun D=>(g D).map fun p=>(.im<|.bl p.1,p.2)
theorem iy(h:VE X e (eB g)):PE X e fun σ H Q=>Ho g σ H fun b H'=>Q (.bl b) H':=by
 refine aT h fun σ H Q ⟨D,F,c,D',st,nd,hg,q⟩=>⟨D,F,.im<|.bl c,D',st,nd,by unfold eB;rw[hg];rfl,fun v H' F' R e_ ow s=>?_⟩;rw[show v=.bl c from ow.1];exact q H' F' e_ (by rw[ow.2,ZY] at s;exact s)
theorem lQ(h:PE X e fun σ H Q=>Ho g σ H fun b H'=>Q (.bl b) H'):VE X e (eB g):=by
 refine aT h fun σ H Q ⟨D,F,r,D',st,nd,hg,q⟩=>?_;obtain⟨p,h1,h2⟩:=Z5.mp hg;cases h2;exact⟨D,F,p.1,_,st,nd,h1,fun H' F' e_ s=>q _ H' F' [] e_ ⟨rfl,rfl⟩ (by rw[ZY];exact s)⟩
theorem dL{g:M Vl}(h:VE X e g):VE X e (eB<|kB g):=by
 refine aT h fun σ H Q ⟨D,F,r,D',st,nd,hg,q⟩=>?_;obtain⟨p,h1,h2⟩:=Z5.mp hg;obtain⟨p',h3,h4⟩:=Z8.mp h1;obtain⟨c,h5,h6⟩:=Z5.mp h4;cases h6;cases h2;exact⟨D,F,p'.1,_,st,nd,h3,by rw[pq h5];exact q⟩
theorem x9(h:VE X a (eB g)):VE X (.UnaryOp .Not a pos) (eB<|cS g):=by
 refine lQ (aT (vd<|iy h) fun σ H Q ⟨D,F,c,D',st,nd,hg,q⟩=>?_);obtain⟨p,h1,h2⟩:=Z5.mp hg;cases h2;exact⟨D,F,p.1,_,st,nd,h1,fun H' F' e_ s=>⟨_,rfl,q H' F' e_ s⟩⟩
theorem jG{op}{g:M Vl}(h:VE X a g):VE X (.BoolOp op [a] pos) g:=va h
theorem lR(h:VE X a (eB g))(hb:VE X (.BoolOp .And (b::r) pos) (eB k)):VE X (.BoolOp .And (a::b::r) pos) (eB<|cD g k):=by
 refine lQ (aT (vb (iy h)<|iy hb) fun σ H Q w=>?_);have:=pu w;obtain⟨D,F,c,D',st,nd,hg,q⟩:=this;exact⟨D,F,c,D',st,nd,hg,fun H' F' e_ s=>⟨c,rfl,q H' F' e_ s⟩⟩
theorem pG(h:VE X a (eB g))(hb:VE X (.BoolOp .Or (b::r) pos) (eB k)):VE X (.BoolOp .Or (a::b::r) pos) (eB<|kOr g k):=by
 refine lQ (aT (vc (iy h)<|iy hb) fun σ H Q w=>?_);have:=pz w;obtain⟨D,F,c,D',st,nd,hg,q⟩:=this;exact⟨D,F,c,D',st,nd,hg,fun H' F' e_ s=>⟨c,rfl,q H' F' e_ s⟩⟩
theorem p_.seq(a:p_ H F H1 F1)(b:p_ H1 F1 H2 F2):p_ H F H2 F2:=by
 have:=p_.trans (R:=[]) (by rw[ZY];exact a) b (fun x hx=>nomatch hx)
 rwa [ZY] at this
end
def dM(H:Hp)(σ:St):List Opd->List V->List Addr->Prop
 | [],vs,R=>vs=[]/\R=[]
 | o::os,vs,R=>∃ v r R1 R2,vs=v::r/\dA H σ o v R1/\dM H σ os r R2/\R=R1++R2
def tA(g:M (List Opd)):TA:=fun σ H Q=>∃ D F r D',ak H D σ F/\F.Nodup/\g D=some (r,D')/\∀ vs H' F' R,ak H' D' σ F'->dM H' σ r vs R->p_ H F H' (F'++R)->Q vs H'
def VA(X:Cx)(es:List Expr)(g:M (List Opd)):Prop:=∀ ⦃p⦄,O3 X es (tA g) p
theorem pH{t t':TA}(h:PA X es t)(i:∀ σ H Q,t' σ H Q->t σ H Q):PA X es t':=fun pos pins s σ H Q I hw=>h pos pins s σ H Q I (i σ H Q hw)
def aNil:M (List Opd):=fun D=>some ([],D)
@[simp] def aa(g:M Opd)(h:M (List Opd)):M (List Opd):=fun D=>(g D).bind fun p=>(h p.2).map fun q=>(p.1::q.1,q.2)
theorem p_.Ek(s:p_ H F H' A)(p:A.Perm B):p_ H F H' B:=⟨s.keep,fun a ha=>s.sub a<|p.mem_iff.mpr ha,(p.nodup_iff).mp s.nd,s.tup,s.grow⟩
theorem p_.less(s:p_ H F H' A)(p:(B++C).Perm A):p_ H F H' B:=
 ⟨s.keep,fun a ha=>s.sub a<|p.mem_iff.mp<|ZJ _ ha,(ZP.mp<|(p.nodup_iff).mpr s.nd).1,s.tup,s.grow⟩
section
variable{X:Cx}
theorem dB:VA X [] aNil:=by
 refine pH ij fun σ H Q ⟨D,F,r,D',st,nd,hg,q⟩=>?_;cases hg;exact q [] H F [] st ⟨rfl,rfl⟩ (by rw[ZY];exact p_.perm nd (ZG _))
theorem ah{g:M Opd}{h:M (List Opd)}(he:VO X e g)(hr:VA X es h)(hs:starEach (e::es) X.env=(false,eval e X.env)::starEach es X.env:=by rfl):VA X (e::es) (aa g h):=by
 refine pH (dJ he hr hs) fun σ H Q ⟨D,F,r,D',st,nd,hg,q⟩=>?_;obtain⟨⟨x,D1⟩,h1,h2⟩:=Z8.mp hg;obtain⟨⟨ys,D2⟩,h3,h4⟩:=Z5.mp h2;cases h4;refine⟨D,F,x,D1,st,nd,h1,fun v H1 F1 R1 u_ o1 s1=>⟨D1,F1,ys,_,u_,(ZP.mp s1.nd).1,h3,fun vs H2 F2 R2 q_ o2 s2=>?_⟩⟩;refine q (v::vs) H2 F2 (R1++R2) q_ ⟨v,vs,R1,R2,rfl,o1.mono s2.tup fun a ha o e=>s2.keep a o e fun h=>?_,o2,rfl⟩ ((s1.trans s2 o1.chg).Ek ?_)
 ·exact (ZP.mp s1.nd).2.2 a h a ha rfl
 ·rw[Z7];exact ZQ _ Z0
end
def dh(D:SD):List Opd->Option (List Vl)
 | []=>some []
 | o::os=>(rsl D o).bind fun d=>(dh D os).map fun ds=>d::ds
def eM(H:Hp):List Vl->List V->Prop
 | [],vs=>vs=[]
 | d::ds,vs=>∃ v r,vs=v::r/\FG H d v/\eM H ds r
theorem dM.read{H:Hp}{D:SD}{σ:St}{F:List Addr}(st:ak H D σ F):∀ {os:List Opd}{vs:List V}{R:List Addr}{ds:List Vl},dM H σ os vs R->dh D os=some ds->eM H ds vs
 | [],_,_,_,h,e=>by cases e;exact h.1
 | o::os,_,_,_,h,e=>by
  obtain⟨v,r,R1,R2,rfl,h1,h2,rfl⟩:=h;obtain⟨d,e1,e2⟩:=Z8.mp e;obtain⟨ds,e3,e4⟩:=Z5.mp e2;cases e4;exact⟨v,r,rfl,h1.read st e1,dM.read st h2 e3⟩
def bg:List Opd->SD->Option (List Vl×SD)
 | [],D=>some ([],D)
 | .vl d::os,D=>(bg os D).map fun p=>(d::p.1,p.2)
 | .sl i::os,D=>(bu i D).bind fun p=>(bg os p.2).map fun q=>(p.1::q.1,q.2)
theorem pI{i:Nat}(st:ak H D σ F)(h:bu i D=some (d,D')):∃ v F1 R,σ[i]?=some (some v)/\Own H d v R/\ak H D' σ F1/\(F1++R).Perm F:=by
 unfold bu at h;split at h
 ·rename_i e hd;split at h
  ·rename_i hc;cases h;obtain⟨v,h1,h2⟩:=st.cp hd hc;exact⟨v,F,[],h1,h2,st,by rw[ZY]⟩
  ·cases h;obtain⟨v,F1,F2,h1,h2,h3,h4⟩:=st.out hd;exact⟨v,F2,F1,h1,h2,h3,h4⟩
 ·cases h
theorem dN:(A++(B++C)).Perm (B++(A++C)):=by
 rw[<- Z7,<- Z7];exact ZI _ Z0
theorem eO{H:Hp}{σ:St}:∀ {os:List Opd}{vs:List V}{R F:List Addr}{D D':SD}{ds:List Vl},ak H D σ F->dM H σ os vs R->bg os D=some (ds,D')->∃ F1 R1,ak H D' σ F1/\aK H ds vs R1/\(F1++R1).Perm (F++R)
 | [],_,_,F,_,_,_,st,h,e=>by
  cases e;exact⟨F,[],st,⟨h.1,rfl⟩,by rw[h.2]⟩
 | .vl d::os,_,_,F,D,_,_,st,h,e=>by
  obtain⟨v,r,R1,R2,rfl,h1,h2,rfl⟩:=h;rw[bg] at e;obtain⟨p,e3,e4⟩:=Z5.mp e;cases e4;obtain⟨F1,R3,g1,g2,g3⟩:=eO (D':=p.2) (ds:=p.1) st h2 e3;exact⟨F1,R1++R3,g1,⟨v,r,R1,R3,rfl,h1,g2,rfl⟩,dN.trans<|(ZQ _ g3).trans dN⟩
 | .sl i::os,_,_,F,D,_,_,st,h,e=>by
  obtain⟨v,r,R1,R2,rfl,⟨h1,rfl⟩,h2,rfl⟩:=h;rw[bg] at e;obtain⟨⟨d,D1⟩,e1,e2⟩:=Z8.mp e;obtain⟨p,e3,e4⟩:=Z5.mp e2;cases e4;obtain⟨v',F1,R3,g1,g2,g3,g4⟩:=pI st e1;rw[h1] at g1;cases g1;obtain⟨F2,R4,k1,k2,k3⟩:=eO (D':=p.2) (ds:=p.1) g3 h2 e3;refine⟨F2,R3++R4,k1,⟨v,r,R3,R4,rfl,g2,k2,rfl⟩,dN.trans<|(ZQ _ k3).trans ?_⟩;rw[<- Z7];exact ZI _ (Z0.trans g4)
@[simp] def wb:List Opd->List Vl->SD->SD
 | .sl i::os,d::ds,D=>wb os ds (match D[i]? with | some (some .jk)=>D.set i (some d) | _=>D)
 | .vl _::os,_::ds,D=>wb os ds D
 | _,_,D=>D
theorem jH{H H0:Hp}{σ:St}:∀ {os:List Opd}{ds:List Vl}{vs:List V}{R F S:List Addr}{D:SD},ak H D σ F->dM H0 σ os vs S->aK H ds vs R->∃ F1 R1,ak H (wb os ds D) σ F1/\(F1++R1).Perm (F++R)
 | [],ds,_,R,F,_,D,st,_,_=>⟨F,R,by unfold wb;exact st,ZG _⟩
 | .vl _::os,[],_,R,F,_,D,st,_,_=>⟨F,R,by unfold wb;exact st,ZG _⟩
 | .sl _::os,[],_,R,F,_,D,st,_,_=>⟨F,R,by unfold wb;exact st,ZG _⟩
 | .vl _::os,d::ds,_,R,F,_,D,st,h,w=>by
  obtain⟨v,r,S1,S2,rfl,h1,h2,rfl⟩:=h;obtain⟨v',r',R1,R2,e,w1,w2,rfl⟩:=w;cases e;obtain⟨F1,R3,g1,g2⟩:=jH (D:=D) st h2 w2;refine⟨F1,R1++R3,by rw[wb];exact g1,dN.trans<|(ZQ _ g2).trans dN⟩
 | .sl i::os,d::ds,_,R,F,_,D,st,h,w=>by
  obtain⟨v,r,S1,S2,rfl,⟨h1,_⟩,h2,rfl⟩:=h;obtain⟨v',r',R1,R2,e,w1,w2,rfl⟩:=w;cases e;rw[wb];split
  ·obtain⟨F1,G,g1,g2⟩:=st.back w1 h1;obtain⟨F2,R3,k1,k2⟩:=jH g1 h2 w2;refine⟨F2,R3++G,k1,?_⟩;rw[<- Z7,<- Z7];refine (ZI _ k2).trans ?_;rw[Z7];refine (ZQ _ Z0).trans ?_;rw[<- Z7];exact ZI _ g2
  ·obtain⟨F1,R3,g1,g2⟩:=jH st h2 w2;exact⟨F1,R1++R3,g1,dN.trans<|(ZQ _ g2).trans dN⟩
def ims:List Vl->Option (List Im)
 | []=>some []
 | .im d::ds=>(ims ds).map fun r=>d::r
 | _::_=>none
@[simp] def mkT(ds:List Vl):Vl:=match ims ds with
 | some is=>.im (.tup is)
 | none=>.KG ds
@[simp] def mkL(ds:List Vl):Vl:=match ims ds with
 | some is=>.lst is
 | none=>.EA ds
theorem lS{H:Hp}:∀ {ds:List Vl}{vs:List V}{R:List Addr}{is:List Im},aK H ds vs R->ims ds=some is->ar H is vs/\R=[]
 | [],_,_,_,h,e=>by cases e;exact h
 | .im d::ds,_,_,_,h,e=>by
  obtain⟨v,r,R1,R2,rfl,⟨h1,rfl⟩,h2,rfl⟩:=h;rw[ims] at e;obtain⟨p,e3,e4⟩:=Z5.mp e;cases e4;obtain⟨g1,rfl⟩:=lS h2 e3;exact⟨⟨v,r,rfl,h1,g1⟩,rfl⟩
 | .jk::_,_,_,_,_,e=>by rw[ims] at e;cases e;all_goals (intro _ z;cases z)
 | .fz _::_,_,_,_,_,e=>by rw[ims] at e;cases e;all_goals (intro _ z;cases z)
 | .lst _::_,_,_,_,_,e=>by rw[ims] at e;cases e;all_goals (intro _ z;cases z)
 | .dK _::_,_,_,_,_,e=>by rw[ims] at e;cases e;all_goals (intro _ z;cases z)
 | .dT _::_,_,_,_,_,e=>by rw[ims] at e;cases e;all_goals (intro _ z;cases z)
 | .EA _::_,_,_,_,_,e=>by rw[ims] at e;cases e;all_goals (intro _ z;cases z)
 | .KF _ _::_,_,_,_,_,e=>by rw[ims] at e;cases e;all_goals (intro _ z;cases z)
 | .KG _::_,_,_,_,_,e=>by rw[ims] at e;cases e;all_goals (intro _ z;cases z)
 | .obj _ _ _::_,_,_,_,_,e=>by rw[ims] at e;cases e;all_goals (intro _ z;cases z)
@[simp] def aA(g:M (List Opd)):M Vl:=fun D=>(g D).bind fun p=>(bg p.1 p.2).bind fun q=>if q.1.length<=100000 then some (mkT q.1,q.2) else none
@[simp] def a9(g:M (List Opd)):M Vl:=fun D=>(g D).bind fun p=>(bg p.1 p.2).bind fun q=>if q.1.length<=100000 then some (mkL q.1,q.2) else none
theorem ya{ds:List Vl}(s:aF H H')(h:aK H ds vs R)(e:H' p=some (.tup vs)):∃ R',Own H' (mkT ds) (.ref p) R'/\R'=R:=by
 unfold mkT;split
 ·rename_i is hi;obtain⟨g1,rfl⟩:=lS h hi;exact⟨[],⟨⟨p,vs,rfl,e,g1.mono s.tupS.tup⟩,rfl⟩,rfl⟩
 ·exact⟨R,⟨p,vs,rfl,e,h.mono s.tupS fun a _ o q=>s a o q⟩,rfl⟩
theorem yb{ds:List Vl}(s:aF H H')(h:aK H ds vs R)(e:H' p=some (.lst vs)):Own H' (mkL ds) (.ref p) (p::R):=by
 unfold mkL;split
 ·rename_i is hi;obtain⟨g1,rfl⟩:=lS h hi;exact⟨p,vs,rfl,e,g1.mono s.tupS.tup,rfl⟩
 ·exact⟨p,vs,R,rfl,e,h.mono s.tupS fun a _ o q=>s a o q,rfl⟩
theorem eQ(h:n<=100000):n<=sizeLine:=Zo h (by decide)
theorem p_.add{o:HO}(a:p_ H F H1 A)(fr:H1 p=none)(c:∀ x∈A,FV H1 x):p_ H F (upd H1 p o) (A++[p]):=by
 have s:aF H1 (upd H1 p o):=(aF.refl H1).upd fr;have:=p_.new (R:=[]) (R':=[p]) (by rw[ZY];exact a) s (ZB _ _) (fun x hx=>by rw[ZX.mp hx];exact fr) c;exact this
theorem p_.same(a:p_ H F H1 A)(s:aF H1 H2):p_ H F H2 A:=
 ⟨fun x o e hx=>s _ _<|a.keep x o e hx,a.sub,a.nd,a.tup.trans s.tupS,fun x o e=>let ⟨o',e'⟩:=a.grow x o e;⟨o',s _ _ e'⟩⟩
section
variable{X:Cx}
theorem aP{x1}(h:VA X es g):VE X (.Tuple es x1 pos) (aA g):=by
 refine aT (om h) fun σ H Q ⟨D,F,r,D',st,nd,hg,q⟩=>?_;obtain⟨⟨os,D1⟩,h1,h2⟩:=Z8.mp hg;obtain⟨⟨ds,D2⟩,h3,h4⟩:=Z8.mp h2;refine⟨D,F,os,D1,st,nd,h1,fun vs H1 F1 R1 u_ o1 s1=>?_⟩;obtain⟨F2,R2,q_,ow,pm⟩:=eO u_ o1 h3;split at h4
 ·rename_i hl;cases h4;have Gq:vs.length<=100000:=by rw[<- ow.length];exact hl
  refine⟨eQ Gq,fun p hp=>?_⟩;have s:aF H1 (upd H1 p<|.tup vs):=(aF.refl H1).upd hp;obtain⟨R',g1,rfl⟩:=ya s ow bp;exact q _ _ F2 R' (q_.mono s.tupS fun a _ o e=>s a o e) g1 ((s1.Ek pm.symm).same s)
 ·cases h4
theorem bG(h:VA X es g):VE X (.List es pos) (a9 g):=by
 refine aT (wy h) fun σ H Q ⟨D,F,r,D',st,nd,hg,q⟩=>?_;obtain⟨⟨os,D1⟩,h1,h2⟩:=Z8.mp hg;obtain⟨⟨ds,D2⟩,h3,h4⟩:=Z8.mp h2;refine⟨D,F,os,D1,st,nd,h1,fun vs H1 F1 R1 u_ o1 s1=>?_⟩;obtain⟨F2,R2,q_,ow,pm⟩:=eO u_ o1 h3;split at h4
 ·rename_i hl;cases h4;have Gq:vs.length<=100000:=by rw[<- ow.length];exact hl
  refine⟨eQ Gq,fun p hp=>?_⟩;have s:aF H1 (upd H1 p<|.lst vs):=(aF.refl H1).upd hp;have g1:=yb s ow (p:=p) bp;refine q _ _ F2 (p::R2) (q_.mono s.tupS fun a _ o e=>s a o e) g1 (((s1.Ek pm.symm).add hp fun x hx=>?_).Ek ?_)
  ·rcases ZD.mp hx with hx | hx
   ·exact q_.chg x hx
   ·exact ow.chg x hx
  ·rw[Z7];exact ZQ _ Z0
 ·cases h4
def cU(X:Cx)(f:Value)(op:List Vl->Option Vl):Prop:=
 bb X f fun xs H Q=>∃ ds d,eM H ds xs/\op ds=some d/\∀ v H' R,aF H H'->Own H' d v R->R.Nodup->(∀ a∈R,H a=none)->Q v H'
@[simp] def ay(op:List Vl->Option Vl)(g:M (List Opd)):M Vl:=fun D=>(g D).bind fun p=>(dh p.2 p.1).bind fun ds=>(op ds).map fun d=>(d,p.2)
theorem pJ(h:tV (ay op g) σ H Q):
  tA g σ H fun xs H1=>∃ ds d,eM H1 ds xs/\op ds=some d/\∀ v H' R,aF H1 H'->Own H' d v R->R.Nodup->(∀ a∈R,H1 a=none)->Q v H':=by
 obtain⟨D,F,r,D',st,nd,hg,q⟩:=h;obtain⟨⟨os,D1⟩,h1,h2⟩:=Z8.mp hg;obtain⟨ds,h3,h4⟩:=Z8.mp h2;obtain⟨d,h5,h6⟩:=Z5.mp h4;cases h6;refine⟨D,F,os,D1,st,nd,h1,fun vs H1 F1 R1 u_ o1 s1=>⟨ds,_,o1.read u_ h3,h5,fun v H2 R s2 ow NZ fr=>?_⟩⟩;exact q v H2 F1 R (u_.mono s2.tupS fun a _ o e=>s2 a o e) ow (s1.new s2 NZ fr u_.chg)
variable{p:Pos}
theorem bw{id:String}(hc:cU X (.builtin id) op)(hg:Gl X x)(hm:X.mg x=none)(hv:bootBuiltins x=some (.builtin id))(ha:VA X (e::es) g)(hn:x ≠ "__name__" := by decide)(FQ:(x == ("__debug__" : Str))=false:=by decide)(he:starEach (e::es) X.env=(false,eval e X.env)::starEach es X.env:=by rfl)(E3:(backTo pos<|starEach es X.env).any (·.1)=false:=by rfl):
  VE X (.Call (.Name x p) (e::es) [] pos) (ay op g):=aT (ju hc hg hm hv ha hn FQ he E3) fun _ _ _ h=>pJ h
theorem di{T:String}(hc:cU X (.type T) op)(hg:Gl X x)(hm:X.mg x=none)(hv:bootBuiltins x=some (.type T))(ha:VA X (e::es) g)(hn:x ≠ "__name__" := by decide)(FQ:(x == ("__debug__" : Str))=false:=by decide)(he:starEach (e::es) X.env=(false,eval e X.env)::starEach es X.env:=by rfl)(E3:(backTo pos<|starEach es X.env).any (·.1)=false:=by rfl):
  VE X (.Call (.Name x p) (e::es) [] pos) (ay op g):=aT (wB hc hg hm hv ha hn FQ he E3) fun _ _ _ h=>pJ h
abbrev Fn:=List Vl->Option (Vl×List Vl)
def GS(n:Nat)(G:Fn):Sp:=fun vs H Q _=>vs.length=n/\∃ ds F r outs,aK H ds vs F/\F.Nodup/\G ds=some (r,outs)/\∀ v H' R R',Own H' r v R->aK H' outs vs R'->p_ H F H' (R++R')->Q v H'
@[simp] def am(n:Nat)(G:Fn)(g:M (List Opd)):M Vl:=fun D=>(g D).bind fun p=>if p.1.length=n then (bg p.1 p.2).bind fun q=>(G q.1).map fun r=>(r.1,wb p.1 r.2 q.2) else none
theorem dM.length{H:Hp}{σ:St}:∀ {os:List Opd}{vs:List V}{R:List Addr},dM H σ os vs R->os.length=vs.length
 | [],_,_,h=>by rw[h.1];rfl
 | o::os,_,_,h=>by
  obtain⟨v,r,R1,R2,rfl,h1,h2,rfl⟩:=h;rw[ZC,ZC,dM.length h2]
theorem pK{G:Fn}{E:XK}(h:tV (am n G g) σ H Q):lq (GS n G) [] E (tA g) σ H Q:=by
 obtain⟨D,F,r,D',st,nd,hg,q⟩:=h;obtain⟨⟨os,D1⟩,h1,h2⟩:=Z8.mp hg;split at h2
 ·rename_i hn;obtain⟨⟨ds,D2⟩,h3,h4⟩:=Z8.mp h2;obtain⟨⟨r',outs⟩,h5,h6⟩:=Z5.mp h4;cases h6;refine⟨D,F,os,D1,st,nd,h1,fun vs H1 F1 R1 u_ o1 s1=>?_⟩;obtain⟨F2,R2,q_,ow,pm⟩:=eO u_ o1 h3;have s2:=s1.Ek (pm.symm.trans Z0);rw[ZY];refine⟨by rw[<- o1.length];exact hn,ds,R2,_,outs,ow,(ZP.mp s2.nd).1,h5,fun v H3 R R' w1 w2 s3=>?_⟩;have s4:=s2.trans s3 q_.chg;have MW:∀ a∈F2,a∉R2:=fun a ha hb=>(ZP.mp s2.nd).2.2 a hb a ha rfl;have Fh:ak H3 D2 σ F2:=q_.mono s3.tup fun a ha o e=>s3.keep a o e (MW a ha);obtain⟨F3,R3,FD,Lw⟩:=jH Fh o1 w2;refine q v H3 F3 R FD w1 (s4.less (C:=R3) ?_);refine List.Perm.trans ?_ Z0;rw[Z7];refine (ZQ _ Z0).trans ?_;rw[<- Z7];refine (ZI _ Lw).trans ?_;rw[Z7];exact ZQ _ Z0
 ·cases h2
end
section
variable{X:Cx}
variable{k:Nat}
theorem pL{G:Fn}{f:Addr}{p:Pos}(F:Eg X.prog X.w X.K X.mg X.base FS k f fd ps (GS n G))(hr:A_ k X.A)(hg:Gl X x)(hm:X.mg x=some (.ref f))(hk:PySem.W.keepIn X.K (.ref f)=true)(hb:cf X.K fd ps [])(ha:VA X (e::es) g)(FQ:(x == ("__debug__" : Str))=false:=by decide)(he:starEach (e::es) X.env=(false,eval e X.env)::starEach es X.env:=by rfl)(E3:(backTo pos<|starEach es X.env).any (·.1)=false:=by rfl):
  VE X (.Call (.Name x p) (e::es) [] pos) (am n G g):=aT (wA F hr hg hm hk hb .nil xn ha FQ he E3) fun _ _ _ h=>pK h
inductive Fl where
 | nx | rt (d:Vl) | bk | ct
abbrev MS:=SD->Option (Fl×SD)
def aG(fix:List Nat)(σ σ':St):Prop:=σ'.length=σ.length/\∀ i∈fix,σ'[i]?=σ[i]?
theorem aG.refl{fix:List Nat}{σ:St}:aG fix σ σ:=⟨rfl,fun _ _=>rfl⟩
theorem aG.trans{σ2:St}(a:aG fix σ σ1)(b:aG fix σ1 σ2):aG fix σ σ2:=⟨b.1.trans a.1,fun i hi=>(b.2 i hi).trans<|a.2 i hi⟩
theorem aG.set{v:Option V}(h:j∉fix):aG fix σ (σ.set j v):=⟨XN,fun i hi=>YZ fun e=>h (by rw[e];exact hi)⟩
def Lx(fix:List Nat)(E:Ends)(σ:St)(H:Hp)(F:List Addr)(D':SD):Fl->Prop
 | .nx=>∀ σ' H' F',aG fix σ σ'->ak H' D' σ' F'->p_ H F H' F'->E.nx σ' H'
 | .bk=>∀ σ' H' F',aG fix σ σ'->ak H' D' σ' F'->p_ H F H' F'->E.bk σ' H'
 | .ct=>∀ σ' H' F',aG fix σ σ'->ak H' D' σ' F'->p_ H F H' F'->E.ct σ' H'
 | .rt d=>∀ v σ' H' F' R,aG fix σ σ'->ak H' D' σ' F'->Own H' d v R->p_ H F H' (F'++R)->E.rt v H'
def tS(fix:List Nat)(g:MS):TS:=fun E σ H=>∃ D F fl D',ak H D σ F/\F.Nodup/\g D=some (fl,D')/\Lx fix E σ H F D' fl
def VS(X:Cx)(fix:List Nat)(st:Stmt)(g:MS):Prop:=∀ ⦃p⦄,O4 X st (tS fix g) p
def F9(X:Cx)(fix:List Nat)(Gs:List Stmt)(g:MS):Prop:=∀ ⦃p⦄,nU X Gs (tS fix g) p
variable{t':TS}
theorem dO{t:TS}(h:PS X st t)(i:∀ E σ H,t' E σ H->t E σ H):PS X st t':=fun pins s σ H D I hw=>h pins s σ H D I (i D σ H hw)
theorem fO{st:List Stmt}{t:TS}(h:FN X st t)(i:∀ E σ H,t' E σ H->t E σ H):FN X st t':=fun pins s σ H D I hw=>h pins s σ H D I (i D σ H hw)
theorem Lx.on{fl:Fl}(h:Lx fix E σ H F D' fl)(fx:aG fix σ σ1)(s:p_ H F H1 F1):Lx fix E σ1 H1 F1 D' fl:=by
 cases fl with
 | nx=>exact fun σ' H' F' f st s'=>h σ' H' F' (fx.trans f) st (s.seq s')
 | bk=>exact fun σ' H' F' f st s'=>h σ' H' F' (fx.trans f) st (s.seq s')
 | ct=>exact fun σ' H' F' f st s'=>h σ' H' F' (fx.trans f) st (s.seq s')
 | rt d=>exact fun v σ' H' F' R f st ow s'=>h v σ' H' F' R (fx.trans f) st ow (s.seq s')
def sNil:MS:=fun D=>some (.nx,D)
@[simp] def aj(g h:MS):MS:=fun D=>(g D).bind fun p=>match p.1 with
 | .nx=>h p.2
 | fl=>some (fl,p.2)
theorem bP:F9 X fix [] sNil:=by
 refine fO vf fun E σ H ⟨D,F,fl,D',st,nd,hg,q⟩=>?_;cases hg;exact q σ H F aG.refl st (p_.perm nd<|ZG _)
variable{g:MS}
theorem aC(h:VS X fix st g):F9 X fix [st] g:=vg h
theorem yc{h:MS}(w:tS fix (aj g h) E σ H):n4 (tS fix g) (tS fix h) E σ H:=by
 obtain⟨D,F,fl,D',st,nd,hg,q⟩:=w;obtain⟨⟨f1,D1⟩,h1,h2⟩:=Z8.mp hg;cases f1 with
 | nx=>exact⟨D,F,.nx,D1,st,nd,h1,fun σ' H' F' fx e_ s=>⟨D1,F',fl,D',e_,s.nd,h2,q.on fx s⟩⟩
 | bk=>cases h2;exact⟨D,F,.bk,D1,st,nd,h1,q⟩
 | ct=>cases h2;exact⟨D,F,.ct,D1,st,nd,h1,q⟩
 | rt d=>cases h2;exact⟨D,F,.rt d,D1,st,nd,h1,q⟩
theorem aq{Gs:List Stmt}{h:MS}(h1:VS X fix st g)(h2:F9 X fix Gs h):F9 X fix (st::Gs) (aj g h):=fO (ii h1 h2) fun _ _ _ w=>yc w
def HN:MS:=fun _=>none
theorem yd:VS X fix st HN:=dO vo fun _ _ _ ⟨_,_,_,_,_,_,h,_⟩=>by cases h
@[simp] def dj(g:M Vl):MS:=fun D=>(g D).map fun p=>(.nx,p.2)
variable{g:M Vl}
theorem gx(h:VE X e g)(hs:swapsWith e none pos.line X.env=pure false:=by rfl):VS X fix (.Expr e pos) (dj g):=by
 refine dO (vj h hs) fun E σ H ⟨D,F,fl,D',st,nd,hg,q⟩=>?_;obtain⟨⟨r,D1⟩,h1,h2⟩:=Z5.mp hg;cases h2;exact⟨D,F,r,_,st,nd,h1,fun v H' F' R e_ ow s=>q σ H' F' aG.refl e_<|s.less<|ZG _⟩
@[simp] def aI(g:M Vl):MS:=fun D=>(g D).map fun p=>(.rt p.1,p.2)
theorem aU(h:VE X e g):VS X fix (.Return (some e) pos) (aI g):=by
 refine dO (vm h) fun E σ H ⟨D,F,fl,D',st,nd,hg,q⟩=>?_;obtain⟨⟨r,D1⟩,h1,h2⟩:=Z5.mp hg;cases h2;exact⟨D,F,r,_,st,nd,h1,fun v H' F' R e_ ow s=>q v σ H' F' R aG.refl e_ ow s⟩
@[simp] def sIf(c:M Bool)(a b:MS):MS:=fun D=>(c D).bind fun p=>if p.1=true then a p.2 else b p.2
variable{gb:MS}
theorem bQ{a b:List Stmt}{ga:MS}(hc:VT X c gc)(ha:F9 X fix a ga)(hb:F9 X fix b gb):VS X fix (.If c a b pos) (sIf gc ga gb):=by
 refine dO (n5 hc ha hb) fun E σ H ⟨D,F,fl,D',st,nd,hg,q⟩=>?_;obtain⟨⟨t,D1⟩,h1,h2⟩:=Z8.mp hg;refine⟨D,F,t,D1,st,nd,h1,fun H1 F1 u_ s1=>?_⟩;cases t with
 | true=>
  rw[ZZ rfl] at h2 ⊢;exact⟨D1,F1,fl,D',u_,s1.nd,h2,q.on aG.refl s1⟩
 | false=>
  rw[ZW ZK] at h2 ⊢;exact⟨D1,F1,fl,D',u_,s1.nd,h2,q.on aG.refl s1⟩
@[simp] def ao(i:Nat)(g:M Vl):MS:=fun D=>(g D).bind fun p=>if i<p.2.length then some (.nx,p.2.set i<|some p.1) else none
variable{i:Nat}
theorem aD{pos':Pos}(hN:X.N.Nodup)(hi:X.N[i]?=some x)(hx:Loc X.env.scope x)(he:VE X e g)(hf:i∉fix)(hs:swapsWith e (some<|.Name x pos') pos.line X.env=pure false:=by rfl)(Hx:X.fn x=true\/X.env.scope.names.lookup x=some .local:=by first | exact .inl rfl | exact .inr rfl | assumption):VS X fix (.Assign [.Name x pos'] e pos) (ao i g):=by
 refine dO (n9 hN hi hx he hs Hx) fun E σ H ⟨D,F,fl,D',st,nd,hg,q⟩=>?_;obtain⟨⟨r,D1⟩,h1,h2⟩:=Z8.mp hg;split at h2
 ·rename_i hl;cases h2;refine⟨D,F,r,_,st,nd,h1,fun v H1 F1 R u_ ow s1=>?_⟩;obtain⟨F2,R2,q_,pm⟩:=u_.put (i:=i) ow hl;exact q _ H1 F2 (aG.set hf) q_ (s1.less pm)
 ·cases h2
abbrev MG:=Vl->SD->Option SD
def tG(fix:List Nat)(g:MG):TG:=fun v σ H Q=>∃ D F d R D',ak H D σ F/\Own H d v R/\(F++R).Nodup/\g d D=some D'/\∀ σ' H' F',aG fix σ σ'->ak H' D' σ' F'->p_ H (F++R) H' F'->Q σ' H'
def VG(X:Cx)(fix:List Nat)(e:Expr)(g:MG):Prop:=∀ ⦃p⦄,O6 X e (tG fix g) p
theorem lT{t t':TG}(h:PG X e t)(i:∀ v σ H Q,t' v σ H Q->t v σ H Q):PG X e t':=fun pins s σ H x v Q I r hw=>h pins s σ H x v Q I r (i x σ H Q hw)
@[simp] def gN(i:Nat):MG:=fun d D=>if i<D.length then some (D.set i<|some d) else none
theorem ba(hN:X.N.Nodup)(hi:X.N[i]?=some x)(hx:Loc X.env.scope x)(hf:i∉fix)(Hx:X.fn x=true\/X.env.scope.names.lookup x=some .local:=by first | exact .inl rfl | exact .inr rfl | assumption):VG X fix (.Name x pos) (gN i):=by
 refine lT (vp hN hi hx Hx) fun v σ H Q ⟨D,F,d,R,D',st,ow,nd,hg,q⟩=>?_;unfold gN at hg;split at hg
 ·rename_i hl;cases hg;obtain⟨F2,R2,q_,pm⟩:=st.put (i:=i) ow hl;exact q _ H F2 (aG.set hf) q_ ((p_.perm nd<|ZG _).less pm)
 ·cases hg
def QK(fix:List Nat)(g:List Vl->SD->Option SD):Ii:=fun vs σ H Q=>∃ D F ds R D',ak H D σ F/\aK H ds vs R/\(F++R).Nodup/\g ds D=some D'/\∀ σ' H' F',aG fix σ σ'->ak H' D' σ' F'->p_ H (F++R) H' F'->Q σ' H'
def MX(X:Cx)(fix:List Nat)(es:List Expr)(g:List Vl->SD->Option SD):Prop:=∀ ⦃p⦄,n6 X es (QK fix g) p
@[simp] def gNil':List Vl->SD->Option SD
 | [],D=>some D
 | _,_=>none
@[simp] def cE(g:MG)(h:List Vl->SD->Option SD):List Vl->SD->Option SD
 | d::ds,D=>(g d D).bind (h ds)
 | _,_=>none
theorem pM{t t':Ii}(h:Ku X es t)(i:∀ v σ H Q,t' v σ H Q->t v σ H Q):Ku X es t':=fun pins s σ H xs vs Q I r hw=>h pins s σ H xs vs Q I r (i xs σ H Q hw)
theorem jI:MX X fix [] gNil':=by
 refine pM vu fun vs σ H Q ⟨D,F,ds,R,D',st,ow,nd,hg,q⟩=>?_;cases ds with
 | cons d ds=>cases hg
 | nil=>
  cases hg;exact⟨ow.1,q σ H F aG.refl st<|(p_.perm nd<|ZG _).less<|ZG _⟩
theorem eR{g:MG}(h1:VG X fix e g)(h2:MX X fix es h)(hs:(assignEach (e::es) X.env).map (·.2)=assign e X.env::(assignEach es X.env).map (·.2):=by rfl):MX X fix (e::es) (cE g h):=by
 refine pM (vw h1 h2 hs) fun vs σ H Q ⟨D,F,ds,R,D',st,ow,nd,hg,q⟩=>?_;cases ds with
 | nil=>cases hg
 | cons d ds=>
  obtain⟨v,r,R1,R2,rfl,w1,w2,rfl⟩:=ow;obtain⟨D1,g1,g2⟩:=Z8.mp (show (g d D).bind (h ds)=some D' from hg);have HP:((F++R1)++R2).Nodup:=by rw[Z7];exact nd
  refine⟨v,r,rfl,D,F,d,R1,D1,st,w1,(ZP.mp HP).1,g1,fun σ1 H1 F1 fx u_ s1=>?_⟩;have MW:∀ a∈R2,a∉F++R1:=fun a ha hb=>(ZP.mp HP).2.2 a hb a ha rfl;have QL:aK H1 ds r R2:=w2.mono s1.tup fun a ha o e=>s1.keep a o e (MW a ha);have s2:p_ H (F++(R1++R2)) H1 (F1++R2):=by
   refine⟨fun a o e ha=>s1.keep a o e fun h=>ha ?_,fun a ha=>?_,ZP.mpr ⟨s1.nd,(ZP.mp HP).2.1,fun a ha b hb e=>?_⟩,s1.tup,s1.grow⟩
   ·rw[<- Z7];exact ZJ _ h
   ·rcases ZD.mp ha with ha | ha
    ·rcases s1.sub a ha with h | h
     ·left;rw[<- Z7];exact ZJ _ h
     ·exact .inr h
    ·left;rw[<- Z7];exact ZN _ ha
   ·subst e;rcases s1.sub a ha with h | h
    ·exact MW a hb h
    ·obtain⟨o,e,_⟩:=w2.chg a hb;rw[e] at h;cases h
  exact⟨D1,F1,ds,R2,D',u_,QL,s2.nd,g2,fun σ2 H2 F2 J7 q_ s3=>q σ2 H2 F2 (fx.trans J7) q_<|s2.seq s3⟩
@[simp] def gT(n:Nat)(h:List Vl->SD->Option SD):MG:=fun d D=>match d with
 | .im (.tup is)=>if is.length=n then h (is.map .im) D else none
 | .KG ds=>if ds.length=n then h ds D else none
 | _=>none
theorem pN{H:Hp}:∀ {is:List Im}{vs:List V},ar H is vs->aK H (is.map .im) vs []
 | [],vs,h=>⟨h,rfl⟩
 | d::is,vs,h=>by
  obtain⟨v,r,rfl,h1,h2⟩:=h;exact⟨v,r,[],[],rfl,⟨h1,rfl⟩,pN h2,rfl⟩
theorem jJ(hc:X.calm=true)(hs:MX X fix es h)(hn:(assignEach es X.env).length=n:=by rfl)(FP:(assignEach es X.env).findIdx? (·.1)=none:=by rfl):VG X fix (.Tuple es k pos) (gT n h):=by
 refine lT (vy hc hs hn FP) fun v σ H Q ⟨D,F,d,R,D',st,ow,nd,hg,q⟩=>?_;unfold gT at hg;split at hg
 ·rename_i is;split at hg
  ·rename_i hl;obtain⟨⟨a,xs,rfl,h1,h2⟩,rfl⟩:=ow;exact⟨a,xs,rfl,DG.of h1,by rw[<- h2.length];exact hl,D,F,_,[],D',st,pN h2,nd,hg,q⟩
  ·cases hg
 ·rename_i ds;split at hg
  ·rename_i hl;obtain⟨a,xs,rfl,h1,h2⟩:=ow;exact⟨a,xs,rfl,DG.of h1,by rw[<- h2.length];exact hl,D,F,_,R,D',st,h2,nd,hg,q⟩
  ·cases hg
 ·cases hg
@[simp] def b7(g:M Vl)(h:MG):MS:=fun D=>(g D).bind fun p=>(h p.1 p.2).map fun D'=>(.nx,D')
theorem ee{h:MG}(he:VE X e g)(hg:VG X fix tg h)(hs:swapsWithSole [tg] e pos.line X.env=pure false:=by rfl)(hw:swappedStores [tg] e X.env=pure none:=by rfl)(h1:(assignEach [tg] X.env).map (·.2)=[assign tg X.env]:=by rfl):VS X fix (.Assign [tg] e pos) (b7 g h):=by
 refine dO (vB he hg hs hw h1) fun E σ H ⟨D,F,fl,D',st,nd,Fm,q⟩=>?_;obtain⟨⟨r,D1⟩,g1,g2⟩:=Z8.mp Fm;obtain⟨D2,g3,g4⟩:=Z5.mp g2;cases g4;exact⟨D,F,r,D1,st,nd,g1,fun v H1 F1 R u_ ow s1=>⟨D1,F1,r,R,_,u_,ow,s1.nd,g3,fun σ' H' F' fx e_ s2=>q σ' H' F' fx e_<|s1.seq s2⟩⟩
@[simp] def ef(i j:Nat)(g:M (List Opd)):MS:=fun D=>(g D).bind fun p=>(bg p.1 p.2).bind fun q=>match q.1 with
 | [d1,d2]=>if i<q.2.length/\j<q.2.length then some (.nx,(q.2.set i<|some d1).set j<|some d2) else none
 | _=>none
theorem jK{y:Str}{g:M (List Opd)}{px py pt pos:Pos}{kt k2 JJ}(hc:X.calm=true)(hN:X.N.Nodup)(hi:X.N[i]?=some x)(hj:X.N[j]?=some y)(Ff:i≠j)(hx:X.env.scope.names.lookup x=some .local)(hy:X.env.scope.names.lookup y=some .local)(ha:VA X [a,b] g)(QM:i∉fix)(QN:j∉fix)(hw:swappedStores [.Tuple [.Name x px,.Name y py] kt pt] (.Tuple [a,b] k2 JJ) X.env=pure (some [x,y]))(hs:swapsWithSole [.Tuple [.Name x px,.Name y py] kt pt] (.Tuple [a,b] k2 JJ) pos.line X.env=pure false:=by rfl):
  VS X fix (.Assign [.Tuple [.Name x px,.Name y py] kt pt] (.Tuple [a,b] k2 JJ) pos) (ef i j g):=by
 refine dO (vD hc hN hi hj Ff hx hy ha hw hs) fun E σ H ⟨D,F,fl,D',st,nd,hg,q⟩=>?_;obtain⟨⟨os,D1⟩,h1,h2⟩:=Z8.mp hg;obtain⟨⟨ds,D2⟩,h3,h4⟩:=Z8.mp h2;refine⟨D,F,os,D1,st,nd,h1,fun vs H1 F1 R1 u_ o1 s1=>?_⟩;obtain⟨F2,R2,q_,ow,pm⟩:=eO u_ o1 h3;dsimp only at h4;split at h4
 ·rename_i d1 d2 e;split at h4
  ·rename_i hl;cases h4;obtain⟨v,r,A,B,rfl,w1,w2,rfl⟩:=ow;obtain⟨u,r',A',B',rfl,w3,⟨rfl,rfl⟩,rfl⟩:=w2;obtain⟨F3,G3,Fh,Ly⟩:=q_.put (i:=i) w1 hl.1;obtain⟨F4,G4,FD,Lw⟩:=Fh.put (i:=j) w3 (by rw[XN];exact hl.2);refine⟨v,u,rfl,q _ H1 F4 ((aG.set QM).trans<|aG.set QN) FD<|(s1.Ek pm.symm).less (C:=G4++G3) ?_⟩;rw[<- Z7,ZY,<- Z7];refine (ZI G3 Lw).trans ?_;rw[Z7];refine (ZQ F3 Z0).trans ?_;rw[<- Z7];exact ZI _ Ly
  ·cases h4
 ·cases h4
def dP(c:M Bool)(b:MS):Nat->MS
 | 0=>fun _=>none
 | n+1=>fun D=>(c D).bind fun p=>if p.1=true then (b p.2).bind fun q=>match q.1 with
  | .nx=>dP c b n q.2
  | .ct=>dP c b n q.2
  | .bk=>some (.nx,q.2)
  | .rt d=>some (.rt d,q.2) else some (.nx,p.2)
theorem pO(n:Nat)(hp:PassesOwn (model X.prog X.w) X.A X.env X.xe)(hc:VT X c gc)(hb:F9 X fix body gb):VS X fix (.While c body [] pos) (dP gc gb n):=by
 refine dO (vF hp hc hb) fun E σ H ⟨D,F,fl,D',st,nd,hg,q⟩=>?_;refine⟨fun m σ' H'=>∃ Dd F',ak H' Dd σ' F'/\aG fix σ σ'/\p_ H F H' F'/\dP gc gb m Dd=some (fl,D'),⟨n,D,F,st,aG.refl,p_.perm nd<|ZG _,hg⟩,?_⟩;rintro m σ1 H1 ⟨D1,F1,u_,Lz,s1,w⟩;cases m with
 | zero=>cases w
 | succ m=>
  rw[dP] at w;obtain⟨⟨t,D2⟩,w1,w2⟩:=Z8.mp w;refine⟨D1,F1,t,D2,u_,s1.nd,w1,fun H2 F2 q_ s2=>?_⟩;cases t with
  | false=>
   rw[ZW ZK] at w2 ⊢;cases w2;exact q σ1 H2 F2 Lz q_ (s1.seq s2)
  | true=>
   rw[ZZ rfl] at w2 ⊢;obtain⟨⟨f,D3⟩,w3,w4⟩:=Z8.mp w2;refine⟨fun σ' H'=>∃ Dd F',ak H' Dd σ' F'/\aG fix σ σ'/\p_ H F H' F'/\dP gc gb m Dd=some (fl,D'),fun σ' H' h=>⟨m,Nat.lt_succ_self m,h⟩,D2,F2,f,D3,q_,s2.nd,w3,?_⟩;cases f with
   | nx=>exact fun σ' H' F' fx e_ s'=>⟨D3,F',e_,Lz.trans fx,(s1.seq s2).seq s',w4⟩
   | ct=>exact fun σ' H' F' fx e_ s'=>⟨D3,F',e_,Lz.trans fx,(s1.seq s2).seq s',w4⟩
   | bk=>
    cases w4;exact fun σ' H' F' fx e_ s'=>q σ' H' F' (Lz.trans fx) e_ ((s1.seq s2).seq s')
   | rt d=>
    cases w4;exact fun v σ' H' F' R fx e_ ow s'=>q v σ' H' F' R (Lz.trans fx) e_ ow ((s1.seq s2).seq s')
structure Gh(J:It)(H:Hp)(R:List Addr)(ds:List Im):Prop where
 go:∀ H',DC H H'->(∀ a∈R,∀ o,H a=some o->H' a=some o)->∀ (i:Nat) (d:Im),ds[i]?=some d->J.go i H'/\∀ x Jn,J.KW i H' x Jn->aF H' Jn/\DK Jn d x
 stop:∀ H',DC H H'->(∀ a∈R,∀ o,H a=some o->H' a=some o)->J.stop ds.length H'
def iz(H:Hp)(σ:St)(R:List Addr):Option (Nat×Vl)->Prop
 | none=>True
 | some (i,d)=>∃ v,σ[i]?=some (some v)/\Own H d v R
def tI(g:M (List Im×Option (Nat×Vl))):TI:=fun σ H Rk=>∃ D F r D',ak H D σ F/\F.Nodup/\g D=some (r,D')/\∀ J H' F' R,ak H' D' σ F'->Gh J H' R r.1->iz H' σ R r.2->(∀ a∈R,FV H' a)->p_ H F H' (F'++R)->Rk J H'
def VI(X:Cx)(tg iter:Expr)(g:M (List Im×Option (Nat×Vl))):Prop:=∀ ⦃p⦄,O8 X tg iter (tI g) p
theorem lU{t t':TI}(h:PI X tg iter t)(i:∀ σ H R,t' σ H R->t σ H R):PI X tg iter t':=fun pins s σ H R I hw=>h pins s σ H R I (i σ H R hw)
def bj(tg:MG)(b:MS):List Im->MS
 | []=>fun D=>some (.nx,D)
 | x::r=>fun D=>(tg (.im x) D).bind fun D1=>(b D1).bind fun q=>match q.1 with
  | .nx=>bj tg b r q.2
  | .ct=>bj tg b r q.2
  | .bk=>some (.nx,q.2)
  | .rt d=>some (.rt d,q.2)
@[simp] def rst:Option (Nat×Vl)->SD->SD
 | none,D=>D
 | some (i,d),D=>match D[i]? with
  | some (some .jk)=>D.set i (some d)
  | _=>D
@[simp] def bC(g:M (List Im×Option (Nat×Vl)))(tg:MG)(b:MS):MS:=fun D=>(g D).bind fun p=>(bj tg b p.1.1 p.2).map fun q=>(q.1,rst p.1.2 q.2)
theorem lV{o:Option (Nat×Vl)}(st:ak H D σ F)(h:iz H σ R o):∃ F1 G,ak H (rst o D) σ F1/\(F1++G).Perm (F++R):=by
 cases o with
 | none=>exact⟨F,R,st,ZG _⟩
 | some p=>
  obtain⟨i,d⟩:=p;obtain⟨v,h1,h2⟩:=h;unfold rst;dsimp only;split
  ·exact st.back h2 h1
  ·exact⟨F,R,st,ZG _⟩
def fP(fx:List Nat):Option (Nat×Vl)->Prop
 | none=>True
 | some (i,_)=>i∈fx
theorem ye{g:M (List Im×Option (Nat×Vl))}{gt:MG}(hp:PassesOwn (model X.prog X.w) X.A X.env X.xe)(hc:X.calm=true)(hi:VI X tg iter g)(hg:VG X fx tg gt)(hb:F9 X fx body gb)(hf:∀ i∈fix,i∈fx)(hs:∀ D r D',g D=some (r,D')->fP fx r.2)(Pm:PS X (.For tg iter body [] pos) (oa (tI g) (tG fx gt)<|tS fx gb)):VS X fix (.For tg iter body [] pos) (bC g gt gb):=by
 refine dO Pm fun E σ H ⟨D,F,fl,D',st,nd,Fm,q⟩=>?_;obtain⟨⟨⟨ds,o⟩,D1⟩,h1,h2⟩:=Z8.mp Fm;obtain⟨⟨f,D2⟩,h3,h4⟩:=Z5.mp h2;cases h4;refine⟨D,F,(ds,o),D1,st,nd,h1,fun J H1 F1 R u_ it ln cR s1=>?_⟩;have QO:fP fx o:=hs D _ _ h1;have MY:=ZP.mp s1.nd;have keepR:∀ {H2:Hp}{F2:List Addr},p_ H1 F1 H2 F2->∀ a∈R,∀ u,H1 a=some u->H2 a=some u:=fun s a ha u e=>s.keep a u e fun h=>MY.2.2 a h a ha rfl;have LC:∀ {H2:Hp}{F2:List Addr}{σ2:St},p_ H1 F1 H2 F2->aG fx σ σ2->iz H2 σ2 R o:=fun {H2 F2 σ2} s f=>by
  cases o with
  | none=>trivial
  | some p=>
   obtain⟨i,d⟩:=p;obtain⟨v,e1,e2⟩:=ln;exact⟨v,(f.2 i QO).trans e1,e2.mono s.tup<|keepR s⟩
 have Pn:∀ {σ2:St},aG fx σ σ2->aG fix σ σ2:=fun f=>⟨f.1,fun i hi=>f.2 i<|hf i hi⟩;have leave:∀ {σ2:St}{H2:Hp}{F2:List Addr}{D2:SD},Lx fix E σ H F (rst o D2) .nx->aG fx σ σ2->ak H2 D2 σ2 F2->p_ H1 F1 H2 F2->E.nx σ2 H2:=fun {σ2 H2 F2 D2} q f q_ s2=>by
  obtain⟨F3,G,Fh,pm⟩:=lV q_ (LC s2 f);exact q σ2 H2 F3 (Pn f) Fh ((s1.trans s2 cR).less pm)
 refine⟨fun i m σ' H'=>m+i=ds.length/\∃ Dd F',aG fx σ σ'/\ak H' Dd σ' F'/\p_ H1 F1 H' F'/\bj gt gb (ds.drop i) Dd=some (f,D2),⟨ds.length,rfl,D1,F1,aG.refl,u_,p_.perm MY.1<|ZG _,h3⟩,?_⟩;rintro i m σ' H' ⟨hm,Dd,F',LD,e_,s',hw⟩;by_cases FC:i<ds.length
 ·obtain⟨N0,hy⟩:=it.go H' s'.tup (keepR s') i ds[i] (by simp[FC]);rw[Zg FC,bj] at hw;obtain⟨D3,w1,w2⟩:=Z8.mp hw;obtain⟨⟨f2,D4⟩,w3,w4⟩:=Z8.mp w2;refine .inr ⟨N0,fun σ2 H2=>(m - 1)+(i+1)=ds.length/\∃ Dd F',aG fx σ σ2/\ak H2 Dd σ2 F'/\p_ H1 F1 H2 F'/\bj gt gb (ds.drop<|i+1) Dd=some (f,D2),fun σ2 H2 h=>⟨m - 1,by lia,h⟩,fun x H2 hx=>?_⟩;obtain⟨sm,N1⟩:=hy x H2 hx;have q_:=e_.mono sm.tupS fun a _ o e=>sm a o e;have s2:=s'.same sm;refine⟨Dd,F',.im ds[i],[],D3,q_,⟨N1,rfl⟩,by rw[ZY];exact s2.nd,w1,fun σ3 H3 F3 IM Fh sg=>?_⟩;have s3:p_ H1 F1 H3 F3:=s2.seq (by rw[ZY] at sg;exact sg);refine⟨D3,F3,f2,D4,Fh,s3.nd,w3,?_⟩;cases f2 with
  | nx=>exact fun σ4 H4 F4 J8 FD s4=>⟨by lia,D4,F4,(LD.trans IM).trans J8,FD,s3.seq s4,w4⟩
  | ct=>exact fun σ4 H4 F4 J8 FD s4=>⟨by lia,D4,F4,(LD.trans IM).trans J8,FD,s3.seq s4,w4⟩
  | bk=>
   cases w4;exact fun σ4 H4 F4 J8 FD s4=>leave q ((LD.trans IM).trans J8) FD (s3.seq s4)
  | rt d=>
   cases w4;intro v σ4 H4 F4 R4 J8 FD QP s4;have s5:=s3.seq s4;have f5:=(LD.trans IM).trans J8;obtain⟨F5,G5,E8,IN⟩:=lV (R:=R) FD (LC s5 f5);refine q v σ4 H4 F5 R4 (Pn f5) E8 QP ((s1.trans s5 cR).less (C:=G5) ?_);rw[Z7];refine (ZQ F5 Z0).trans ?_;rw[<- Z7];refine (ZI R4 IN).trans ?_;rw[Z7,Z7];exact ZQ _ Z0
 ·have hi:i=ds.length:=by lia
  subst hi;refine .inl ⟨it.stop H' s'.tup<|keepR s',?_⟩;rw[X8 (ZR _)] at hw;cases hw;exact leave q LD e_ s'
end
section
variable{X:Cx}
variable{gt:MG}
theorem dC{g:M (List Im×Option (Nat×Vl))}{gb:MS}(hp:PassesOwn (model X.prog X.w) X.A X.env X.xe)(hc:X.calm=true)(hi:VI X tg iter g)(hg:VG X fx tg gt)(hb:F9 X fx body gb)(hf:∀ i∈fix,i∈fx)(hs:∀ D r D',g D=some (r,D')->fP fx r.2)(MZ:∀ x,foldedSetIterable iter X.env x=pure x:=by intro _;rfl):VS X fix (.For tg iter body [] pos) (bC g gt gb):=
 ye hp hc hi hg hb hf hs (vM hp hc hi hg hb MZ)
def QQ(K:PySem.W.Frag)(tl:TE):TI:=fun σ H R=>tl σ H fun x H1=>∃ a,x=.ref a/\(((∃ xs,D7 K H1 a xs)/\R (KY K a) H1)\/((∃ xs,DG K H1 a xs)/\R (ME K a) H1))
variable{l:Expr}
theorem yf{tl:TE}(hl:PE X l tl):PI X tg l (QQ X.K tl):=by
 intro pins s σ H R I h;refine B_ (hl pins s σ H _ I h) fun v s1 ⟨x,H1,I1,r1,q1⟩=>?_;obtain⟨a,e,q⟩:=q1;subst e;cases r1;rcases q with ⟨⟨xs,hq⟩,q⟩ | ⟨⟨xs,hq⟩,q⟩
 ·obtain⟨f_,rv,p,hz⟩:=I1.list hq;refine Xr p.isList ?_;refine⟨s1.heap.objs.size,[s1.heap.objs.size],_,_,H1,rfl,I1.kept (t':=s1.toks) fun b o e=>Z2 _ e,vG a _,⟨_,ZE _ rfl,rfl,rfl⟩,fun b hb=>?_,q⟩;have e:b=s1.heap.objs.size:=by simpa using hb
  subst e;exact I1.IA (ZR _) (I1.m_.fresh<|ZR _)
 ·obtain⟨f_,rv,p,hz⟩:=I1.tuple hq;refine wpAny_pyIter_tuple (show s1.heap.IsTuple a f_.toArray from p) ?_;refine⟨s1.heap.objs.size,[s1.heap.objs.size],_,_,H1,rfl,I1.kept (t':=s1.toks) fun b o e=>Z2 _ e,vH a _,⟨_,ZE _ rfl,rfl,rfl⟩,fun b hb=>?_,q⟩;have e:b=s1.heap.objs.size:=by simpa using hb
  subst e;exact I1.IA (ZR _) (I1.m_.fresh<|ZR _)
theorem ar.get{H:Hp}:∀ {ds:List Im}{vs:List V}{i:Nat}{d:Im},ar H ds vs->ds[i]?=some d->∃ v,vs[i]?=some v/\DK H d v
 | [],_,_,_,_,e=>by simp at e
 | d::ds,_,0,_,h,e=>by
  obtain⟨v,r,rfl,h1,h2⟩:=h;simp at e;subst e;exact⟨v,rfl,h1⟩
 | d::ds,_,i+1,_,h,e=>by
  obtain⟨v,r,rfl,h1,h2⟩:=h;obtain⟨u,g1,g2⟩:=ar.get (i:=i) h2 (by simpa using e);exact⟨u,by simpa using g1,g2⟩
variable{a:Addr}
theorem yg(h:H a=some (.lst xs))(hd:ar H ds xs):Gh (KY K a) H [a] ds where
 go:=fun H' t k i d e=>by
  obtain⟨v,g1,g2⟩:=hd.get e;have h':=D7.of (K:=K) (k a (.head _) _ h);refine⟨⟨xs,v,h',g1⟩,fun x Jn ⟨e1,e2⟩=>?_⟩;subst e1;rw[e2 xs h'] at g1;cases g1;exact⟨aF.refl _,g2.mono t.tup⟩
 stop:=fun H' t k=>⟨xs,D7.of<|k a (.head _) _ h,by rw[<- hd.length];exact ZR _⟩
theorem yh{o:Obj}(h:H a=some (.Es o<|.lst xs))(hd:ar H ds xs):Gh (KY K a) H [] ds where
 go:=fun H' t k i d e=>by
  obtain⟨v,g1,g2⟩:=hd.get e;have h':D7 K H' a xs:=.inl (.inr ⟨o,t.Es _ _ _ h⟩);refine⟨⟨xs,v,h',g1⟩,fun x Jn ⟨e1,e2⟩=>?_⟩;subst e1;rw[e2 xs h'] at g1;cases g1;exact⟨aF.refl _,g2.mono t.tup⟩
 stop:=fun H' t k=>⟨xs,.inl<|.inr ⟨o,t.Es _ _ _ h⟩,by rw[<- hd.length];exact ZR _⟩
theorem yi(h:H a=some (.tup xs))(hd:ar H ds xs):Gh (ME K a) H [] ds where
 go:=fun H' t k i d e=>by
  obtain⟨v,g1,g2⟩:=hd.get e;have h':=DG.of (K:=K) (t.tup a _ h);refine⟨⟨xs,v,h',g1⟩,fun x Jn ⟨e1,e2⟩=>?_⟩;subst e1;rw[e2 xs h'] at g1;cases g1;exact⟨aF.refl _,g2.mono t.tup⟩
 stop:=fun H' t k=>⟨xs,DG.of<|t.tup a _ h,by rw[<- hd.length];exact ZR _⟩
abbrev MI:=M (List Im×Option (Nat×Vl))
@[simp] def dD(d:Vl):Option (List Im):=match d with
 | .im (.tup ds)=>some ds
 | .lst ds=>some ds
 | .fz ds=>some ds
 | _=>none
@[simp] def aX(g:M Opd):MI:=fun D=>(g D).bind fun p=>match p.1 with
 | .vl d=>(dD d).map fun ds=>((ds,none),p.2)
 | .sl i=>(bu i p.2).bind fun q=>(dD q.1).map fun ds=>((ds,if q.1.cp=true then none else some (i,q.1)),q.2)
theorem pP(w:Own H d v R)(e:dD d=some ds):
  ∃ a,v=.ref a/\(((∃ xs,D7 K H a xs)/\Gh (KY K a) H R ds)\/((∃ xs,DG K H a xs)/\Gh (ME K a) H R ds)):=by
 unfold dD at e;split at e
 ·cases e;obtain⟨⟨a,xs,rfl,h1,h2⟩,rfl⟩:=w;exact⟨a,rfl,.inr ⟨⟨xs,DG.of h1⟩,yi h1 h2⟩⟩
 ·cases e;obtain⟨a,xs,rfl,h1,h2,rfl⟩:=w;exact⟨a,rfl,.inl ⟨⟨xs,D7.of h1⟩,yg h1 h2⟩⟩
 ·cases e;obtain⟨a,xs,o,rfl,h1,h2,rfl⟩:=w;exact⟨a,rfl,.inl ⟨⟨xs,.inl<|.inr ⟨o,h1⟩⟩,yh h1 h2⟩⟩
 ·cases e
theorem cV{g:M Opd}(h:VO X l g):VI X tg l (aX g):=by
 refine lU (yf h) fun σ H Rk ⟨D,F,r,D',st,nd,hg,q⟩=>?_;obtain⟨⟨x,D1⟩,h1,h2⟩:=Z8.mp hg;refine⟨D,F,x,D1,st,nd,h1,fun v H1 F1 R u_ o1 s1=>?_⟩;cases x with
 | vl d=>
  obtain⟨ds,h3,h4⟩:=Z5.mp h2;cases h4;obtain⟨a,rfl,hh⟩:=pP (K:=X.K) o1 h3;refine⟨a,rfl,?_⟩;rcases hh with ⟨hx,it⟩ | ⟨hx,it⟩
  ·exact .inl ⟨hx,q _ H1 F1 R u_ it trivial (Own.chg o1) s1⟩
  ·exact .inr ⟨hx,q _ H1 F1 R u_ it trivial (Own.chg o1) s1⟩
 | sl i=>
  obtain⟨⟨d,D2⟩,h3,h4⟩:=Z8.mp h2;obtain⟨ds,h5,h6⟩:=Z5.mp h4;cases h6;obtain⟨v',F2,R2,g1,g2,g3,g4⟩:=pI u_ h3;obtain⟨o1,rfl⟩:=o1;rw[o1] at g1;cases g1;rw[ZY] at s1;have s2:=s1.Ek g4.symm;obtain⟨a,rfl,hh⟩:=pP (K:=X.K) g2 h5;have ln:iz H1 σ R2 (if d.cp=true then none else some (i,d)):=by
   split
   ·trivial
   ·exact⟨_,o1,g2⟩
  refine⟨a,rfl,?_⟩;rcases hh with ⟨hx,it⟩ | ⟨hx,it⟩
  ·exact .inl ⟨hx,q _ H1 F2 R2 g3 it ln g2.chg s2⟩
  ·exact .inr ⟨hx,q _ H1 F2 R2 g3 it ln g2.chg s2⟩
theorem yj{g:M Vl}:∀ D r D',aX (oV g) D=some (r,D')->fP fx r.2:=by
 intro D r D' h;obtain⟨⟨x,D1⟩,h1,h2⟩:=Z8.mp h;unfold oV at h1;obtain⟨p,h3,h4⟩:=Z5.mp h1;cases h4;obtain⟨ds,h5,h6⟩:=Z5.mp h2;cases h6
 trivial
variable{i:Nat}
theorem jL(hi:i∈fx):∀ D r D',aX (oSl i) D=some (r,D')->fP fx r.2:=by
 intro D r D' h;obtain⟨⟨x,D1⟩,h1,h2⟩:=Z8.mp h;unfold oSl at h1;split at h1
 ·cases h1;obtain⟨⟨d,D2⟩,h3,h4⟩:=Z8.mp h2;obtain⟨ds,h5,h6⟩:=Z5.mp h4;cases h6;show fP fx (if d.cp=true then none else some (i,d));split
  ·trivial
  ·exact hi
 ·cases h1
def bx(lo:Int)(n:Nat):List Im:=(range n).map fun (k:Nat)=>Im.int (lo+(k:Int))
theorem yk{lo:Int}:Gh (MF lo n) H [] (bx lo n) where
 go:=fun H' t k i d e=>by
  have hi:i<n:=by
   have:=(Zz.mp e).1
   rwa [bx,Z4,Y5] at this
  refine⟨hi,fun x Jn ⟨e1,e2⟩=>?_⟩;subst e1;rw[bx,Zq,List.getElem?_range hi] at e;cases e;exact⟨aF.refl _,e2⟩
 stop:=fun H' t k=>by
  show n<=_;rw[bx,Z4,Y5];exact ZR _
def jM(i:Int):Prop := -1000000<=i/\i<=1000000
instance (i:Int):Decidable (jM i):=inferInstanceAs (Decidable<|_/\_)
@[simp] def iR1(g:M (List Opd)):MI:=fun D=>(g D).bind fun p=>(dh p.2 p.1).bind fun ds=>match ds with
 | [.im (.int j)]=>if jM j then some ((bx 0 j.toNat,none),p.2) else none
 | _=>none
theorem pQ{d:Im}(h:eM H [.im d] vs):∃ v,vs=[v]/\DK H d v:=by
 obtain⟨v,r,rfl,⟨R,h1,_⟩,h2⟩:=h;cases (show r=[] from h2);exact⟨v,rfl,h1⟩
theorem yl{d e:Im}(h:eM H [.im d,.im e] vs):∃ v u,vs=[v,u]/\DK H d v/\DK H e u:=by
 obtain⟨v,r,rfl,⟨R,h1,_⟩,h2⟩:=h;obtain⟨u,rfl,h3⟩:=pQ h2;exact⟨v,u,rfl,h1,h3⟩
theorem eS{a:Expr}{p:Pos}(hg:Gl X "range")(hm:X.mg "range" = none)(ha:VA X [a] g)(hs:starEach [a] X.env=[(false,eval a X.env)]:=by rfl):VI X tg (.Call (.Name "range" p) [a] [] pos) (iR1 g):=by
 refine lU (vL hg hm ha hs) fun σ H Rk ⟨D,F,r,D',st,nd,Fm,q⟩=>?_;obtain⟨⟨os,D1⟩,h1,h2⟩:=Z8.mp Fm;obtain⟨ds,h3,h4⟩:=Z8.mp h2;refine⟨D,F,os,D1,st,nd,h1,fun vs H1 F1 R1 u_ o1 s1=>?_⟩;have rd:=o1.read u_ h3;split at h4
 ·rename_i j;split at h4
  ·rename_i hj;cases h4;obtain⟨v,rfl,e⟩:=pQ rd;cases (show v=.int j from e);exact⟨j,rfl,by have:=hj.1;lia,by have:=hj.2;lia,q _ H1 F1 [] u_ yk trivial (fun a ha=>nomatch ha) (by rw[ZY];exact s1.less (ZG _))⟩
  ·cases h4
 ·cases h4
theorem gy:∀ D r D',iR1 g D=some (r,D')->fP fx r.2:=by
 intro D r D' h;obtain⟨⟨os,D1⟩,h1,h2⟩:=Z8.mp h;obtain⟨ds,h3,h4⟩:=Z8.mp h2;split at h4
 ·split at h4
  ·cases h4;trivial
  ·cases h4
 ·cases h4
def M0(X:Cx)(ifs:List Expr)(g:M Bool):Prop:=∀ ⦃p⦄,oR X ifs (Ho g) p
def kYes:M Bool:=fun D=>some (true,D)
theorem eT:M0 X [] kYes:=by
 intro pins s σ H Q I ⟨D,F,b,D',st,nd,hg,q⟩;cases hg;exact xu pins s σ H Q I (q H F st<|p_.perm nd<|ZG _)
theorem jN{g:M Bool}(h:VT X c g):M0 X [c] g:=xv h
@[simp] def dQ(caps:List Nat)(D:SD):SD:=caps.map fun i=>D.getD i none
def dR:List Nat->SD->SD
 | [],D=>D
 | i::r,D=>dR r (match D[i]? with | some (some _)=>D.set i (some .jk) | _=>D)
@[simp] def c6:List Nat->SD->SD->SD
 | i::r,o::C,D=>c6 r C (D.set i o)
 | _,_,D=>D
def cq(own : Nat)(tg : MG)(c : M Bool)(e : M Vl): List Im -> List Im -> SD -> Option (List Im × SD)
  | [], acc, C => some (acc, C)
  | x :: r, acc, C => (tg (.im x)<|replicate own none ++ C).bind fun D1 => (c D1).bind fun p => if p.1 = true then (e p.2).bind fun q => match q.1 with
      | .im d => if acc.length < 100000 then cq own tg c e r (acc ++ [d]) (q.2.drop own) else none
      | _ => none
    else cq own tg c e r acc (p.2.drop own)
@[simp] def aV(own:Nat)(caps:List Nat)(gi:MI)(tg:MG)(c:M Bool)(e:M Vl):M Vl:=fun D=>(gi D).bind fun p=>(cq own tg c e p.1.1 []<|dQ caps p.2).map fun q=>(.lst q.1,rst p.1.2<|c6 caps q.2 p.2)
def iA(own n:Nat):List Nat:=(range n).map (·+own)
theorem ym(h:D[i]?=some o):D.getD i none=o:=by rw[Z6,h];rfl
theorem ak.void(st:ak H D σ F)(i:Nat):∃ F1 F2,ak H (match D[i]? with | some (some _)=>D.set i (some .jk) | _=>D) σ F1/\eI H (D.getD i none) (σ.getD i none) F2/\(F1++F2).Perm F:=by
 split
 ·rename_i d hd;obtain⟨v,F1,F2,h1,h2,h3,h4⟩:=st.out hd;refine⟨F2,F1,h3,?_,h4⟩;rw[ym hd,Z6,h1];exact⟨v,rfl,h2⟩
 ·rename_i hn;refine⟨F,[],st,?_,by rw[ZY]⟩;have:D.getD i none=none:=by
   rw[Z6];cases e:D[i]? with
   | none=>rfl
   | some o=>
    cases o with
    | none=>rfl
    | some d=>exact absurd e (hn d)
  rw[this];exact rfl
theorem pR{H:Hp}{σ:St}:∀ {caps:List Nat}{D:SD}{F:List Addr},caps.Nodup->ak H D σ F->∃ F1 F2,ak H (dR caps D) σ F1/\ak H (dQ caps D) (caps.map fun i=>σ.getD i none) F2/\(F1++F2).Perm F
 | [],D,F,_,st=>⟨F,[],st,⟨rfl,rfl⟩,by rw[ZY]⟩
 | i::r,D,F,nd,st=>by
  obtain⟨F1,F2,h1,h2,h3⟩:=st.void i;have hn:=Zl.mp nd;obtain⟨F3,F4,g1,g2,g3⟩:=pR (caps:=r) hn.2 h1;refine⟨F3,F2++F4,g1,⟨_,_,F2,F4,rfl,h2,?_,rfl⟩,dN.trans<|(ZQ _ g3).trans<|Z0.trans h3⟩;have e:dQ r (match D[i]? with | some (some _)=>D.set i (some .jk) | _=>D)=dQ r D:=by
   unfold dQ;refine XW fun j hj=>?_;split
   ·rw[Z6,Z6,YZ];rintro rfl;exact hn.1 hj
   ·rfl
  rw[e] at g2;exact g2
theorem ak.N2(st:ak H D σ F)(h:eI H o (σ.getD i none) G):∃ F1 F2,ak H (D.set i o) σ F1/\(F1++F2).Perm (F++G):=by
 cases o with
 | some d=>
  obtain⟨v,e,w⟩:=h;refine st.back w ?_;rw[Z6] at e;cases q:σ[i]? with
  | none=>rw[q] at e;cases e
  | some x=>rw[q] at e;rw[show x=some v from e]
 | none=>
  cases (show G=[] from h);rw[ZY];by_cases hi:i<D.length
  ·cases q:D[i]? with
   | none=>exact absurd (List.getElem?_eq_none_iff.mp q) (by lia)
   | some x=>
    cases x with
    | none=>
     refine⟨F,[],?_,by rw[ZY]⟩;have:D.set i none=D:=by
      refine Yk fun j=>?_;by_cases e:i=j
      ·subst e;rw[q,Yb hi]
      ·rw[YZ e]
     rw[this];exact st
    | some d=>
     obtain⟨v,F1,F2,h1,h2,h3,h4⟩:=st.out q;have gen:∀ {D:SD}{σ:St}{F:List Addr}{i:Nat},ak H D σ F->∃ F1 F2,ak H (D.set i none) σ F1/\(F1++F2).Perm F:=by
      intro D;induction D with
      | nil=>intro σ F i st;exact⟨F,[],by simpa using st,by rw[ZY]⟩
      | cons o D ih=>
       intro σ F i st;obtain⟨x,r,A,B,rfl,s1,s2,rfl⟩:=st;cases i with
       | zero=>exact⟨B,A,⟨x,r,[],B,rfl,rfl,s2,rfl⟩,Z0⟩
       | succ i=>
        obtain⟨C,E,c1,c2⟩:=ih (i:=i) s2;refine⟨A++C,E,⟨x,r,A,C,rfl,s1,c1,rfl⟩,?_⟩;rw[Z7];exact ZQ _ c2
     exact gen st
  ·refine⟨F,[],?_,by rw[ZY]⟩;rw[List.set_eq_of_length_le (by lia)];exact st
theorem pS{H:Hp}{σ:St}:∀ {caps:List Nat}{C D:SD}{F G:List Addr},ak H D σ F->ak H C (caps.map fun i=>σ.getD i none) G->∃ F1 F2,ak H (c6 caps C D) σ F1/\(F1++F2).Perm (F++G)
 | [],C,D,F,G,st,_=>⟨F,G,by cases C<;>exact st,ZG _⟩
 | i::r,[],D,F,G,st,h=>⟨F,G,st,ZG _⟩
 | i::r,o::C,D,F,G,st,h=>by
  obtain⟨x,t,G1,G2,e,h1,h2,rfl⟩:=h;cases e;obtain⟨F1,A,g1,g2⟩:=st.N2 h1;obtain⟨F2,B,k1,k2⟩:=pS (caps:=r) (C:=C) g1 h2;refine⟨F2,B++A,k1,?_⟩;rw[<- Z7,<- Z7];refine (ZI A k2).trans ?_;rw[Z7];refine (ZQ F1 Z0).trans ?_;rw[<- Z7];exact ZI _ g2
theorem yn:∀ {caps:List Nat}{C D:SD},caps.length=C.length->caps.Nodup->c6 caps C (dR caps D)=c6 caps C D:=by
 have comm:∀ {r:List Nat}{C D:SD}{i:Nat}{o:Option Vl},i∉r->c6 r C (D.set i o)=(c6 r C D).set i o:=by
  intro r;induction r with
  | nil=>intro C D i o _;cases C<;>rfl
  | cons j r ih=>
   intro C D i o h;cases C with
   | nil=>rfl
   | cons c C=>
    have hj:i≠j:=fun e=>h (by rw[e];exact .head _);show c6 r C ((D.set i o).set j c)=(c6 r C<|D.set j c).set i o;rw[Wt _ _ hj,ih fun z=>h<|.tail _ z]
 have HQ:∀ {r:List Nat}{D:SD}{i:Nat}{o:Option Vl},i∉r->dR r (D.set i o)=(dR r D).set i o:=by
  intro r;induction r with
  | nil=>intro D i o _;rfl
  | cons j r ih=>
   intro D i o h;have hj:i≠j:=fun e=>h (by rw[e];exact .head _);show dR r (match (D.set i o)[j]? with | some (some _)=>(D.set i o).set j (some .jk) | _=>D.set i o)=(dR r (match D[j]? with | some (some _)=>D.set j (some .jk) | _=>D)).set i o;rw[YZ hj];cases D[j]? with
   | none=>exact ih fun z=>h (.tail _ z)
   | some q=>
    cases q with
    | none=>exact ih fun z=>h (.tail _ z)
    | some d=>
     show dR r ((D.set i o).set j<|some .jk)=_;rw[Wt _ _ hj];exact ih fun z=>h (.tail _ z)
 intro caps;induction caps with
 | nil=>intro C D _ _;cases C<;>rfl
 | cons i r ih=>
  intro C D hl nd;have hn:=Zl.mp nd;cases C with
  | nil=>cases hl
  | cons c C=>
   have Gq:r.length=C.length:=by simpa using hl
   show c6 r C ((dR r (match D[i]? with | some (some _)=>D.set i (some .jk) | _=>D)).set i c)=c6 r C (D.set i c);split
   ·rw[HQ hn.1,Wf,<- HQ hn.1,ih Gq hn.2]
   ·rw[<- HQ hn.1,ih Gq hn.2]
theorem pT{H:Hp}{D:SD}{r:St}{F:List Addr}(h:ak H D r F):∀ {own:List Str},ak H (replicate own.length none++D) (own.map (fun _=>none)++r) F
 | []=>h
 | x::own=>⟨none,_,[],F,rfl,rfl,pT h (own:=own),rfl⟩
theorem lW{H:Hp}:∀ {n:Nat}{D:SD}{σ:St}{F:List Addr},ak H D σ F->∃ F1 F2,ak H (D.drop n) (σ.drop n) F1/\(F1++F2).Perm F
 | 0,D,σ,F,h=>⟨F,[],h,by rw[ZY]⟩
 | n+1,[],σ,F,h=>by
  cases h.1;exact⟨[],F,⟨rfl,rfl⟩,ZG _⟩
 | n+1,o::D,σ,F,h=>by
  obtain⟨x,r,A,B,rfl,h1,h2,rfl⟩:=h;obtain⟨F1,F2,g1,g2⟩:=lW (n:=n) h2;exact⟨F1,F2++A,g1,by rw[<- Z7];exact (ZI A g2).trans Z0⟩
theorem p_.both(a:p_ H F H1 (F1++R)):p_ H F H1 F1:=a.less (ZG _)
theorem ar.snoc:∀ {ds:List Im}{vs:List V}{d:Im}{v:V},ar H ds vs->DK H d v->ar H (ds++[d]) (vs++[v])
 | [],vs,d,v,h,w=>by cases (show vs=[] from h);exact⟨v,[],rfl,w,rfl⟩
 | e::ds,vs,d,v,h,w=>by
  obtain⟨u,r,rfl,h1,h2⟩:=h;exact⟨u,r++[v],rfl,h1,h2.snoc w⟩
variable{gi:MI}
theorem pU(nd:caps.Nodup)(h:tV (aV own.length caps gi gt gc ge) σ H Q):
  jB own caps (tI gi) (fun _=>tG (iA own.length caps.length) gt) (fun _=>Ho gc) (fun _=>tV ge) σ H Q:=by
 obtain⟨D,F,r,D',st,QR,Fm,q⟩:=h;obtain⟨⟨⟨xs,o⟩,D1⟩,h1,h2⟩:=Z8.mp Fm;obtain⟨⟨ds,C'⟩,h3,h4⟩:=Z5.mp h2;cases h4;refine⟨D,F,(xs,o),D1,st,QR,h1,fun J H1 F1 R u_ it ln cR s1 Y=>?_⟩;obtain⟨Fo,Fc,so,sc,pm⟩:=pR nd u_;have s2:p_ H F H1 (Fc++(Fo++R)):=s1.Ek (by
  refine (ZI R pm.symm).trans ?_;rw[Z7];exact dN)
 have Ip:=ZP.mp s2.nd;have cO:∀ x∈Fo++R,FV H1 x:=fun x hx=>by
  rcases ZD.mp hx with hx | hx
  ·exact so.chg x hx
  ·exact cR x hx
 have GT:∀ {H2:Hp}{F2:List Addr},p_ H1 Fc H2 F2->∀ a∈Fo++R,∀ u,H1 a=some u->H2 a=some u:=fun s a ha u e=>s.keep a u e fun h=>Ip.2.2 a h a ha rfl;refine⟨fun i m ys H'=>m+i=xs.length/\∃ acc C J9,ak H' C (caps.map fun i=>σ.getD i none) J9/\C.length=caps.length/\p_ H1 Fc H' J9/\ar H' acc ys/\cq own.length gt gc ge (xs.drop i) acc C=some (ds,C'),
  ⟨xs.length,rfl,[],dQ caps D1,Fc,sc,by rw[dQ,Z4],p_.perm Ip.1<|ZG _,rfl,h3⟩,?_⟩;rintro i m ys H' ⟨hm,acc,C,J9,sC,lC,s',Po,hw⟩;by_cases FC:i<xs.length
 ·obtain⟨N0,hy⟩:=it.go H' s'.tup (fun a ha=>GT s' a<|ZN _ ha) i xs[i] (by simp[FC]);rw[Zg FC,cq] at hw;obtain⟨D3,w1,w2⟩:=Z8.mp hw;obtain⟨⟨b,D4⟩,w3,w4⟩:=Z8.mp w2;refine .inr ⟨N0,fun Pp H2=>(m - 1)+(i+1)=xs.length/\∃ acc C J9,ak H2 C (caps.map fun i=>σ.getD i none) J9/\C.length=caps.length/\p_ H1 Fc H2 J9/\ar H2 acc Pp/\cq own.length gt gc ge (xs.drop<|i+1) acc C=some (ds,C'),fun Pp H2 h=>⟨m - 1,by lia,h⟩,fun x H2 hx=>?_⟩;obtain⟨sm,N1⟩:=hy x H2 hx;have QS:=sC.mono sm.tupS fun a _ o e=>sm a o e;have Pq:=s'.same sm;have IO:=Po.mono sm.tupS.tup;refine⟨replicate own.length none++C,J9,.im xs[i],[],D3,pT QS,⟨N1,rfl⟩,by rw[ZY];exact Pq.nd,w1,fun σ3 H3 F3 IM Fh sg=>⟨fun j v hj=>?_,?_⟩⟩
  ·
   have hlen:own.length<=j:=by
    by_cases QT:j<own.length
    ·rw[dz,Y4 (by simpa using QT),Zq] at hj;cases e:own[j]? with
     | none=>rw[e] at hj;cases hj
     | some z=>rw[e] at hj;cases hj
    ·lia
   have QU:j<own.length+caps.length:=by
    have:=(Zz.mp hj).1
    rwa [dz,ZH,Z4,Z4] at this
   have hm:j∈iA own.length caps.length:=Zi.mpr ⟨j - own.length,Zp.mpr (by lia),by lia⟩;exact (IM.2 j hm).trans hj
  ·have s3:p_ H1 Fc H3 F3:=Pq.seq (by rw[ZY] at sg;exact sg);have IO:=IO.mono sg.tup.tup;have HR:σ3.drop own.length=caps.map fun i=>σ.getD i none:=by
    have Sk:=Fh.len;refine Yk fun j=>?_;by_cases hj:j<caps.length
    ·have hm:j+own.length∈iA own.length caps.length:=Zi.mpr ⟨j,Zp.mpr hj,rfl⟩;have:=IM.2 _ hm;rw[YR,V6,this,dz,YY (by simp),Z4,Nat.add_sub_cancel]
    ·have l1:σ3.length<=own.length+caps.length:=by
      rw[IM.1,dz,ZH,Z4,Z4];exact ZR _
     rw[Xl (by rw[Zd];lia),Xl (by rw[Z4];lia)]
   have lσ:σ3.length=own.length+caps.length:=by rw[IM.1,dz,ZH,Z4,Z4]
   refine⟨D3,F3,b,D4,Fh,s3.nd,w3,fun H4 F4 FD s4=>?_⟩;have s5:=s3.seq s4;dsimp only at w4 ⊢;cases b with
   | false=>
    rw[ZW ZK] at w4 ⊢;obtain⟨F5,G5,E8,IN⟩:=lW (n:=own.length) FD;rw[HR] at E8;exact⟨by lia,acc,D4.drop own.length,F5,E8,by rw[Zd,FD.len,lσ];lia,s5.less IN,IO.mono s4.tup.tup,w4⟩
   | true=>
    rw[ZZ rfl] at w4 ⊢;obtain⟨⟨v,D5⟩,w5,w6⟩:=Z8.mp w4;dsimp only at w6;split at w6
    ·rename_i d;split at w6
     ·rename_i hl;refine⟨D4,F4,.im d,D5,FD,s5.nd,w5,fun u H5 F5 R5 E8 ow s6=>?_⟩;obtain⟨iu,rfl⟩:=ow;rw[ZY] at s6;have Gd:=(IO.mono s4.tup.tup).mono s6.tup.tup;refine⟨WA (show ys.length<=100000 by rw[<- Gd.length];lia) (by decide),?_⟩;obtain⟨F6,G6,Pr,QV⟩:=lW (n:=own.length) E8;rw[HR] at Pr;exact⟨by lia,acc++[d],D5.drop own.length,F6,Pr,by rw[Zd,E8.len,lσ];lia,(s5.seq s6).less QV,Gd.snoc iu,w6⟩
     ·cases w6
    ·cases w6
 ·have hi:i=xs.length:=by lia
  subst hi;refine .inl ⟨it.stop H' s'.tup<|fun a ha=>GT s' a<|ZN _ ha,fun Dn Ps=>?_⟩;rw[X8 (ZR _),cq] at hw;cases hw;have QW:ak H' (dR caps D1) σ Fo:=so.mono s'.tup fun a ha=>GT s' a (ZJ _ ha);obtain⟨F4,G4,FD,Lw⟩:=pS QW sC;rw[yn (by rw[lC]) nd] at FD;have QX:iz H' σ R o:=by
   cases o with
   | none=>trivial
   | some p=>
    obtain⟨i,d⟩:=p;obtain⟨v,e1,e2⟩:=ln;exact⟨v,e1,e2.mono s'.tup fun a ha=>GT s' a<|ZN _ ha⟩
  obtain⟨F5,G5,E8,IN⟩:=lV (R:=R) FD QX;have sm:aF H' (upd H' Dn<|.lst ys):=(aF.refl H').upd Ps;have s5:p_ H F H' F5:=(s2.trans s' cO).less (C:=G5++G4) (by
   rw[<- Z7];refine (ZI G4 IN).trans ?_;rw[Z7];refine (ZQ F4 Z0).trans ?_;rw[<- Z7];refine (ZI R Lw).trans ?_;rw[Z7];exact dN)
  exact q _ _ F5 [Dn] (E8.mono sm.tupS fun a _ o e=>sm a o e) ⟨Dn,ys,rfl,bp,Po.mono sm.tupS.tup,rfl⟩ (s5.add Ps E8.chg)
theorem dS{elt:Expr}{ifs:List Expr}{scope:Scope}(hc:X.calm=true)(S:r_ X scope own caps)(nd:caps.Nodup)(hi:VI X tg iter gi)(hg:∀ Y,VG (X.FT (bL X own caps) scope Y) (iA own.length caps.length) tg gt)(ht:∀ Y,M0 (X.FT (bL X own caps) scope Y) ifs gc)(he:∀ Y,VE (X.FT (bL X own caps) scope Y) elt ge)(hs:∀ x,foldedSetIterable iter X.env x=pure x:=by intro _;rfl):VE X (.ListComp elt [⟨tg,iter,ifs,0⟩] scope pos) (aV own.length caps gi gt gc ge):=
 aT (xy hc S hi hg ht he hs) fun σ H Q h=>pU nd h
end
@[simp] def c7(fix:List Nat):List Vl->SD->Nat->List Vl
 | d::ds,o::D,j=>(if d.cp=true then d else if j∈fix then o.getD .jk else .jk)::c7 fix ds D (j+1)
 | d::ds,[],j=>(if d.cp=true then d else .jk)::c7 fix ds [] (j+1)
 | [],_,_=>[]
@[simp] def aM(n m:Nat)(fix:List Nat)(g:MS):Fn:=fun ds=>if ds.length=n then match g (ds.map some++replicate (m - n) none) with
 | some (.rt r,D)=>some (r,c7 fix ds D 0)
 | some (.nx,D)=>some (.im .i_,c7 fix ds D 0)
 | _=>none else none
theorem jO{H:Hp}:∀ {ds:List Vl}{vs:List V}{F:List Addr}{m:Nat},aK H ds vs F->ak H (ds.map some++replicate m none) (vs.map some++replicate m none) F
 | [],vs,F,m,h=>by
  obtain⟨rfl,rfl⟩:=h;show ak H (replicate m none) (replicate m none) [];induction m with
  | zero=>exact⟨rfl,rfl⟩
  | succ m ih=>exact⟨none,_,[],[],rfl,rfl,ih,rfl⟩
 | d::ds,vs,F,m,h=>by
  obtain⟨v,r,F1,F2,rfl,h1,h2,rfl⟩:=h;exact⟨some v,_,F1,F2,rfl,⟨v,rfl,h1⟩,jO h2,rfl⟩
theorem jP{H H':Hp}{fix:List Nat}(t:DC H H'):∀ {ds:List Vl}{vs:List V}{F0:List Addr}{D:SD}{σ:St}{F:List Addr}{j0:Nat},aK H ds vs F0->ak H' D σ F->(∀ (j:Nat) (v:V),(j0+j)∈fix->vs[j]?=some v->σ[j]?=some (some v))->
  ∃ R G,aK H' (c7 fix ds D j0) vs R/\(R++G).Perm F
 | [],vs,F0,D,σ,F,j0,h,st,_=>⟨[],F,by unfold c7;exact⟨h.1,rfl⟩,ZG _⟩
 | d::ds,vs,F0,[],σ,F,j0,h,st,k=>by
  obtain⟨v,r,A,B,rfl,h1,h2,rfl⟩:=h;obtain⟨rfl,rfl⟩:=st;obtain⟨R,G,g1,g2⟩:=jP (D:=[]) (σ:=[]) (F:=[]) (j0:=j0+1) t h2 ⟨rfl,rfl⟩ fun j v hj hv=>by
   have:=k (j+1) v (by rw[show j0+(j+1)=j0+1+j by lia];exact hj) (by simpa using hv);simp at this
  rw[c7];refine⟨R,G,⟨v,r,[],R,rfl,?_,g1,rfl⟩,g2⟩;split
  ·rename_i hc;have:=h1.mono t fun a ha=>by rw[h1.cp hc] at ha;cases ha
   rw[h1.cp hc] at this;exact this
  ·exact rfl
 | d::ds,vs,F0,o::D,σ,F,j0,h,st,k=>by
  obtain⟨v,r,A,B,rfl,h1,h2,rfl⟩:=h;obtain⟨x,s,C,E,rfl,s1,s2,rfl⟩:=st;obtain⟨R,G,g1,g2⟩:=jP (D:=D) (σ:=s) (j0:=j0+1) t h2 s2 fun j v hj hv=>by
   have:=k (j+1) v (by rw[show j0+(j+1)=j0+1+j by lia];exact hj) (by simpa using hv);simpa using this
  rw[c7];split
  ·rename_i hc;have hm:=h1.mono t fun a ha=>by rw[h1.cp hc] at ha;cases ha
   rw[h1.cp hc] at hm;refine⟨R,G++C,⟨v,r,[],R,rfl,hm,g1,rfl⟩,?_⟩;rw[<- Z7];exact (ZI C g2).trans Z0
  ·split
   ·rename_i hf;have hx:x=some v:=by
     have:=k 0 v hf rfl;simpa using this
    subst hx;cases o with
    | none=>
     refine⟨R,G++C,⟨v,r,[],R,rfl,rfl,g1,rfl⟩,?_⟩;rw[<- Z7];exact (ZI C g2).trans Z0
    | some e=>
     obtain⟨v',e1,w⟩:=s1;cases e1;refine⟨C++R,G,⟨v,r,C,R,rfl,w,g1,rfl⟩,?_⟩;rw[Z7];exact ZQ _ g2
   ·refine⟨R,G++C,⟨v,r,[],R,rfl,rfl,g1,rfl⟩,?_⟩;rw[<- Z7];exact (ZI C g2).trans Z0
section
variable{P:Program}{w:World}{K:PySem.W.Frag}{mg:Str->Option Value}{base:Heap}
theorem Pt{qual:Str}{f:Addr}{N:List Str}{k:Nat}{g:MS}(F:Fi K x qual st f fd)(S:j_ N ps (au st))(hn:ps.length=n)(Pu:∀ i∈fix,i<n)(hb:∀ (o_:Value) (A:Around) (outer:List Env) (s:Shared) (H:Hp) (E:XK),A_ k (A.deeper<|envOfC qual (au st) s.heap.objs.size f o_)->F9 (bZ FS P w K mg base N qual (au st) f o_ A outer s H E).JG fix (bA st) g):
  Eg P w K mg base FS (k+1) f fd ps (GS n<|aM n N.length fix g):=by
 refine F.ok S (fun vs H Q E h=>h.1.trans hn.symm) (fun o_ A outer s H vs Q E hr h=>⟨_,hb o_ A outer s H E hr,?_⟩);obtain⟨hl,ds,F0,r,outs,ow,nd,hg,q⟩:=h;have N3:ds.length=n:=ow.length.trans hl;unfold aM at hg;rw[ZZ N3] at hg;have st:=jO (m:=N.length - n) ow;have es:ci N vs=vs.map some++replicate (N.length - n) none:=by unfold ci;rw[hl]
 rw[es];have fin:∀ {σ':St}{H':Hp}{F':List Addr}{D':SD}{v:V}{R:List Addr},c7 fix ds D' 0=outs->aG fix (vs.map some++replicate (N.length - n) none) σ'->ak H' D' σ' F'->Own H' r v R->p_ H F0 H' (F'++R)->Q v H':=fun {σ' H' F' D' v R} eo fx e_ wr s'=>by
  obtain⟨R2,G,g1,g2⟩:=jP (fix:=fix) (j0:=0) s'.tup ow e_ fun j v hj hv=>by
   rw[V5] at hj;rw[fx.2 j hj,Y4 (by rw[Z4];exact (Zz.mp hv).1),Zq,hv];rfl
  rw[eo] at g1;refine q v H' R R2 wr g1 (s'.less (C:=G) ?_);rw[Z7];exact (ZQ R g2).trans Z0
 split at hg
 ·rename_i r' D' e;cases hg;exact⟨_,F0,.rt r,D',st,nd,e,fun v σ' H' F' R fx e_ wr s'=>fin rfl fx e_ wr s'⟩
 ·rename_i D' e;cases hg;exact⟨_,F0,.nx,D',st,nd,e,fun σ' H' F' fx e_ s'=>fin rfl fx e_ ⟨rfl,rfl⟩ (by rw[ZY];exact s')⟩
 ·cases hg
end
def Out(H:Hp)(d:Vl)(Q:VK):Prop:=∀ v H' R,aF H H'->Own H' d v R->R.Nodup->(∀ a∈R,H a=none)->Q v H'
theorem Out.Pv{d:Im}(q:Out H (.im d) Q)(s:aF H H')(h:DK H' d v):Q v H':=q v H' [] s ⟨h,rfl⟩ XA (fun a ha=>nomatch ha)
theorem Out.i{d:Im}(q:Out H (.im d) Q)(h:DK H d v):Q v H:=q.Pv (aF.refl H) h
theorem Out.l(q:Out H (.lst ds) Q)(hp:H p=none)(h:ar H ds xs):Q (.ref p) (upd H p<|.lst xs):=by
 have s:aF H (upd H p<|.lst xs):=(aF.refl H).upd hp;exact q _ _ [p] s ⟨p,xs,rfl,bp,h.mono s.tupS.tup,rfl⟩ (ZB _ _) fun a ha=>by rw[ZX.mp ha];exact hp
theorem Out.t(q:Out H (.im<|.tup ds) Q)(hp:H p=none)(h:ar H ds xs):Q (.ref p) (upd H p<|.tup xs):=by
 have s:aF H (upd H p<|.tup xs):=(aF.refl H).upd hp;exact q.Pv s ⟨p,xs,rfl,bp,h.mono s.tupS.tup⟩
section
variable{X:Cx}
theorem Ex.imp{f:Value->Value->Sem Value}{r:R2}(h:Ex X f r)(i:∀ x y H Q,r' x y H Q->r x y H Q):Ex X f r':=fun pins s σ H x y v u Q I rx ry hh=>h pins s σ H x y v u Q I rx ry (i x y H Q hh)
theorem bb.imp{f:Value}{r r':List V->Hp->VK->Prop}(h:bb X f r)(i:∀ xs H Q,r' xs H Q->r xs H Q):bb X f r':=fun pins s σ H xs us Q I rx hh=>h pins s σ H xs us Q I rx (i xs H Q hh)
theorem G7.imp{r:R2}(h:G7 X r)(i:∀ x y H Q,r' x y H Q->r x y H Q):G7 X r':=fun e1 e2 pins s σ H x y v u Q I rx ry hh=>h e1 e2 pins s σ H x y v u Q I rx ry (i x y H Q hh)
theorem FG.i{d:Im}(h:FG H (.im d) v):DK H d v:=h.elim fun _ w=>w.1
end
abbrev Op2:=Vl->Vl->Option Vl
@[simp] def c8(C:Int->Int->Bool)(g:Int->Int->Im):Op2:=fun a b=>match a,b with
 | .im (.int i),.im (.int j)=>if C i j=true then some (.im<|g i j) else none
 | _,_=>none
theorem pV{C:Int->Int->Bool}{g:Int->Int->Im}{a b:Vl}(h:c8 C g a b=some d):∃ i j,a=.im (.int i)/\b=.im (.int j)/\C i j=true/\d=.im (g i j):=by
 unfold c8 at h;split at h
 ·rename_i i j;split at h
  ·rename_i hc;cases h;exact⟨i,j,rfl,rfl,hc,rfl⟩
  ·cases h
 ·cases h
section
variable{X:Cx}
variable{f:Value->Value->Sem Value}{g:Int->Int->V}{h:Int->Int->Im}
theorem jQ{C:Int->Int->Prop}{B:Int->Int->Bool}(o:Ex X f (rI C g))(hB:∀ i j,B i j=true->C i j)(hg:∀ H i j,DK H (h i j)<|g i j):FW X f (c8 B h):=
 o.imp fun x y H Q ⟨d1,d2,d,r1,r2,e,q⟩=>by
  obtain⟨i,j,rfl,rfl,hc,rfl⟩:=pV e;exact⟨i,j,r1.i,r2.i,hB i j hc,Out.i q<|hg H i j⟩
theorem jR(o:Ex X f (Jc g))(hg:∀ H i j,DK H (h i j)<|g i j):FW X f (c8 (fun _ _=>true) h):=
 o.imp fun x y H Q ⟨d1,d2,d,r1,r2,e,q⟩=>by
  obtain⟨i,j,rfl,rfl,hc,rfl⟩:=pV e;exact⟨i,j,r1.i,r2.i,Out.i q<|hg H i j⟩
@[simp] def vSub:Op2:=c8 (fun _ _=>true) fun i j=>.int (i - j)
def dE(i j:Int):Bool:=!(decide (Builtin.Int.intBits i > shortFactorBits) && decide (Builtin.Int.intBits j > shortFactorBits) && Builtin.Int.intTooBig (Builtin.Int.intBits i+Builtin.Int.intBits j))
@[simp] def vMul:Op2:=c8 dE fun i j=>.int (i * j)
@[simp] def vDiv:Op2:=c8 (fun _ j=>decide (0<j/\j<1073741824)) fun i j=>.int (i / j)
@[simp] def vMod:Op2:=c8 (fun _ j=>decide (0<j)) fun i j=>.int (i % j)
@[simp] def vPow:Op2:=c8 (fun i j=>decide (0<=j/\j<=1000000/\i.natAbs<2 ^ 64)) fun i j=>.int (i ^ j.toNat)
@[simp] def vLt:Op2:=c8 (fun _ _=>true) fun i j=>.bl (decide (i<j))
@[simp] def vLe:Op2:=c8 (fun _ _=>true) fun i j=>.bl (decide (i<=j))
@[simp] def vGt:Op2:=c8 (fun _ _=>true) fun i j=>.bl (decide (j<i))
@[simp] def vGe:Op2:=c8 (fun _ _=>true) fun i j=>.bl (decide (j<=i))
theorem dU:FW X (binaryOp .Sub) vSub:=jR vT fun _ _ _=>rfl
theorem c9:FW X (binaryOp .Mult) vMul:=jQ xZ (fun i j h=>by unfold dE at h;unfold IntMulOk;rw[Yl] at h;rw[h];exact ZK) fun _ _ _=>rfl
theorem iB:FW X (binaryOp .FloorDiv) vDiv:=jQ vU (fun i j h=>show 0<j/\j<1073741824 from Zk h) fun _ _ _=>rfl
theorem dW:FW X (binaryOp .Mod) vMod:=jQ vV (fun i j h=>Zk h) fun _ _ _=>rfl
theorem jS:FW X (binaryOp .Pow) vPow:=jQ vW (fun i j h=>show 0<=j/\j<=1000000/\i.natAbs<2 ^ 64 from Zk h) fun _ _ _=>rfl
theorem yo:FW X (compareOp .Lt) vLt:=jR vZ fun _ _ _=>rfl
theorem pW:FW X (compareOp .Gt) vGt:=jR v3 fun _ _ _=>rfl
theorem yp:FW X (compareOp .GtE) vGe:=jR v4 fun _ _ _=>rfl
theorem yq:Ex X (binaryOp .Add) (fun x y H Q=>∃ a b ys,x=.ref a/\y=.ref b/\DG X.K H a []/\DG X.K H b ys/\Q (.ref b) H):=by
 intro pins s σ H x y v u Q I rx ry h;obtain⟨a,b,ys,rfl,rfl,ha,hb,q⟩:=h;cases rx;cases ry;obtain⟨f_,r1,p1,_⟩:=I.tuple ha;obtain⟨Ey,r2,p2,_⟩:=I.tuple hb;have e:f_=[]:=r1.E9.mpr rfl;subst e;obtain⟨⟨cls,dd,data,sl⟩,ho,hc,n,hd⟩:=id p1;obtain⟨⟨Nx,HD,data2,Kv⟩,JN,JO,n2,hd2⟩:=id p2;simp only at hc hd JO hd2;subst hc hd JO hd2;exact concat_meets ⟨_,ho,rfl⟩ ⟨_,JN,rfl⟩ Wo seq_tuple_add XC XJ (XV _ _) (tuple_addW0 a b _ _ n n2 dd HD sl Kv rfl) ⟨ho,JN,.ref b,H,I,rfl,q⟩
@[simp] def vAdd:Op2:=fun a b=>match a,b with
 | .im (.int i),.im (.int j)=>some (.im<|.int<|i+j)
 | .im (.tup x),.im (.tup y)=>if x.length+y.length<=100000 then some (.im<|.tup<|x++y) else none
 | .lst x,.lst y=>if x.length+y.length<=100000 then some (.lst<|x++y) else none
 | .im (.str x),.im (.str y)=>if x.length+y.length<=100000 then some (.im<|.str<|x++y) else none
 | _,_=>none
theorem ar.app:∀ {a b:List Im}{x y:List V},ar H a x->ar H b y->ar H (a++b) (x++y)
 | [],b,x,y,h,k=>by cases (show x=[] from h);exact k
 | d::a,b,x,y,h,k=>by
  obtain⟨v,r,rfl,h1,h2⟩:=h;exact⟨v,r++y,rfl,h1,h2.app k⟩
theorem ar.nil{H:Hp}{a:List Im}(h:ar H a []):a=[]:=by
 cases a with
 | nil=>rfl
 | cons d a=>obtain⟨_,_,e,_⟩:=h;cases e
theorem bf:FW X (binaryOp .Add) vAdd:=by
 refine (vS.or<|yq.or<|wF.or<|wY.or wl).imp fun x y H Q ⟨d1,d2,d,r1,r2,e,q⟩=>?_;unfold vAdd at e;split at e
 ·cases e;exact .inl ⟨_,_,r1.i,r2.i,Out.i q rfl⟩
 ·rename_i a b;split at e
  ·rename_i hl;cases e;obtain⟨p,xs,rfl,h1,h2⟩:=r1.i;obtain⟨p',ys,rfl,h3,h4⟩:=r2.i;refine .inr ?_;by_cases hx:xs=[]
   ·subst hx;cases h2.nil;exact .inl ⟨p,p',ys,rfl,rfl,DG.of h1,DG.of h3,Out.i q ⟨p',ys,rfl,h3,h4⟩⟩
   ·refine .inr (.inl ⟨p,p',xs,ys,rfl,rfl,DG.of h1,DG.of h3,hx,eQ (by rw[<- h2.length,<- h4.length];exact hl),fun hy=>?_,fun hy n hn=>Out.t q hn<|h2.app h4⟩);subst hy;cases h4.nil;rw[ZY] at q;exact Out.i q ⟨p,xs,rfl,h1,h2⟩
  ·cases e
 ·rename_i a b;split at e
  ·rename_i hl;cases e;obtain⟨_,p,xs,rfl,h1,h2,_⟩:=r1;obtain⟨_,p',ys,rfl,h3,h4,_⟩:=r2;exact .inr (.inr (.inr (.inl ⟨p,p',xs,ys,rfl,rfl,h1,h3,eQ (by rw[<- h2.length,<- h4.length];exact hl),fun n hn=>Out.l q hn<|h2.app h4⟩)))
  ·cases e
 ·rename_i a b;split at e
  ·rename_i hl;cases e;exact .inr (.inr<|.inr<|.inr ⟨a,b,r1.i,r2.i,eQ hl,Out.i q rfl⟩)
  ·cases e
 ·cases e
theorem yr(n:Nat){A:Around}{x y:Im}{u v:Value}(kx:Im.pl n x=true)(ky:Im.pl n y=true)(hu:A.units+n+2<cLine)(hx:Ew s.heap x u)(hy:Ew s.heap y v):SeqAt.RcAt A s u v (aB x y):=by
 cases x with
 | i_=>
  cases (show u=.none from hx);cases y with
  | i_=>cases (show v=.none from hy);exact SeqAt.RcAt.none_none
  | bl b=>cases (show v=.bool b from hy);exact SeqAt.RcAt.none_bool b
  | int j=>obtain⟨t,rfl⟩:=hy;exact SeqAt.RcAt.none_int j t
  | str z=>obtain⟨t,rfl⟩:=hy;exact SeqAt.RcAt.none_str z t
  | tup ds=>obtain⟨a,o,items,m,rfl,h1,h2,h3,_⟩:=hy;exact SeqAt.RcAt.none_tuple ⟨o,h1,h2,m,h3⟩ (by lia)
  | fn a=>cases n<;>cases ky
  | fl a=>cases n<;>cases ky
  | fd=>cases n<;>cases ky
 | bl b=>
  cases (show u=.bool b from hx);cases y with
  | i_=>cases (show v=.none from hy);exact SeqAt.RcAt.bool_none b
  | bl c=>cases (show v=.bool c from hy);exact SeqAt.RcAt.bool_bool b c
  | int j=>obtain⟨t,rfl⟩:=hy;exact SeqAt.RcAt.bool_int b j t
  | str z=>obtain⟨t,rfl⟩:=hy;exact SeqAt.RcAt.bool_str b z t
  | tup ds=>obtain⟨a,o,items,m,rfl,h1,h2,h3,_⟩:=hy;exact SeqAt.RcAt.bool_tuple b ⟨o,h1,h2,m,h3⟩ (by lia)
  | fn a=>cases n<;>cases ky
  | fl a=>cases n<;>cases ky
  | fd=>cases n<;>cases ky
 | int i=>
  obtain⟨t0,rfl⟩:=hx;cases y with
  | i_=>cases (show v=.none from hy);exact SeqAt.RcAt.int_none i t0
  | bl c=>cases (show v=.bool c from hy);exact SeqAt.RcAt.int_bool i t0 c
  | int j=>obtain⟨t,rfl⟩:=hy;exact SeqAt.RcAt.int_int i t0 j t
  | str z=>obtain⟨t,rfl⟩:=hy;exact SeqAt.RcAt.int_str i t0 z t
  | tup ds=>obtain⟨a,o,items,m,rfl,h1,h2,h3,_⟩:=hy;exact SeqAt.RcAt.int_tuple i t0 ⟨o,h1,h2,m,h3⟩ (by lia)
  | fn a=>cases n<;>cases ky
  | fl a=>cases n<;>cases ky
  | fd=>cases n<;>cases ky
 | str i=>
  obtain⟨t0,rfl⟩:=hx;cases y with
  | i_=>cases (show v=.none from hy);exact SeqAt.RcAt.str_none i t0
  | bl c=>cases (show v=.bool c from hy);exact SeqAt.RcAt.str_bool i t0 c
  | int j=>obtain⟨t,rfl⟩:=hy;exact SeqAt.RcAt.str_int i t0 j t
  | str z=>obtain⟨t,rfl⟩:=hy;exact SeqAt.RcAt.str_str i t0 z t
  | tup ds=>obtain⟨a,o,items,m,rfl,h1,h2,h3,_⟩:=hy;exact SeqAt.RcAt.str_tuple i t0 ⟨o,h1,h2,m,h3⟩ (by lia)
  | fn a=>cases n<;>cases ky
  | fl a=>cases n<;>cases ky
  | fd=>cases n<;>cases ky
 | fn a=>cases n<;>cases kx
 | fl a=>cases n<;>cases kx
 | fd=>cases n<;>cases kx
 | tup ds=>
  cases n with
  | zero=>cases kx
  | succ n=>
  obtain⟨a,o,items,m,rfl,h1,h2,h3,h4⟩:=hx;have ta:s.heap.IsTuple a items:=⟨o,h1,h2,m,h3⟩;cases y with
  | i_=>cases (show v=.none from hy);exact SeqAt.RcAt.tuple_none ta (by lia)
  | bl c=>cases (show v=.bool c from hy);exact SeqAt.RcAt.tuple_bool c ta (by lia)
  | int j=>obtain⟨t,rfl⟩:=hy;exact SeqAt.RcAt.tuple_int j t ta (by lia)
  | str z=>obtain⟨t,rfl⟩:=hy;exact SeqAt.RcAt.tuple_str z t ta (by lia)
  | fn a=>cases ky
  | fl a=>cases ky
  | fd=>cases ky
  | tup es=>
   obtain⟨b,o',y_,m',rfl,g1,g2,g3,g4⟩:=hy;have tb:s.heap.IsTuple b y_:=⟨o',g1,g2,m',g3⟩;have l1:=h4.length;have l2:=g4.length;have l3:items.toList.length=items.size:=by simp
   have l4:y_.toList.length=y_.size:=by simp
   rw[l3] at l1;rw[l4] at l2;have q:=SeqAt.RcAt.tuples (A:=A) (e:=fun j=>aB (ds.getD j .i_)<|es.getD j .i_) ta tb (by lia) fun j j1 j2=>by
    obtain⟨d1,e1,r1⟩:=h4.get (j:=j) (v:=items[j]) (by rw[Zt];simp[j1]);obtain⟨d2,e2,r2⟩:=g4.get (j:=j) (v:=y_[j]) (by rw[Zt];simp[j2]);rw[Z6,e1,Z6,e2];exact cJ n (dw kx e1) (dw ky e2) (by show A.units+1+n+1<cLine;lia) r1 r2
   rw[<- l1,<- l2,hX (ds:=ds) (es:=es) (fun j x y a b=>by rw[Z6,a,Z6,b];rfl)] at q;rw[aB];exact q
@[simp] def vEq:Op2:=fun a b=>match a,b with
 | .im x,.im y=>if (Im.pl 8 x && Im.pl 8 y)=true then some (.im<|.bl<|aB x y) else none
 | .lst x,.lst y=>if (Im.pls 8 x && Im.pls 8 y)=true then some (.im<|.bl<|bE x y) else none
 | _,_=>none
theorem lX:∀ {x y:List Im},x.length≠y.length->bE x y=false
 | [],[],h=>absurd rfl h
 | [],_::_,_=>rfl
 | _::_,[],_=>rfl
 | a::x,b::y,h=>by
  rw[bE,lX (fun e=>h (by rw[ZC,ZC,e])),Bool.and_false]
theorem gz{pins:List (Addr×Obj)}(I:Inv X pins σ H s){a:Addr}{xs:List V}{ds:List Im}(h1:H a=some (.lst xs))(h2:ar H ds xs):∃ f_:List Value,s.heap.IsList a f_.toArray/\aO s.heap ds f_/\f_.length=ds.length:=by
 obtain⟨z,f_,n,rv,e⟩:=I.m_ a _ h1;have:=h2.FB I.m_ rv;exact⟨f_,⟨_,e,rfl,n,rfl⟩,this,this.length.symm⟩
theorem dX(hu:X.A.units+20<cLine):FW X (compareOp .Eq) vEq:=by
 intro pins s σ H x y v u Q I rx ry ⟨d1,d2,d,r1,r2,e,q⟩;unfold vEq at e;split at e
 ·rename_i a b;split at e
  ·rename_i hp;cases e;rw[ZV] at hp;exact yr 8 hp.1 hp.2 (by lia) (r1.i.FB I.m_ rx) (r2.i.FB I.m_ ry) X.prog X.w _ _ ⟨.bl _,H,I,rfl,Out.i q rfl⟩
  ·cases e
 ·rename_i a b;split at e
  ·rename_i hp;cases e;rw[ZV] at hp;obtain⟨_,p,xs,rfl,h1,h2,_⟩:=r1;obtain⟨_,p',ys,rfl,h3,h4,_⟩:=r2;cases rx;cases ry;obtain⟨i1,l1,v1,n1⟩:=gz I h1 h2;obtain⟨i2,l2,v2,n2⟩:=gz I h3 h4;by_cases hl:a.length=b.length
   ·have:=SeqAt.RcAt.lists (A:=X.A) (e:=fun j=>aB (a.getD j .i_)<|b.getD j .i_) l1 l2 (by rw[ZS,ZS,n1,n2];exact hl) (by lia) fun j j1 j2=>by
     obtain⟨d1,e1,r1⟩:=v1.get (j:=j) (v:=i1.toArray[j]) (by simp at j1;simp[j1]);obtain⟨d2,e2,r2⟩:=v2.get (j:=j) (v:=i2.toArray[j]) (by simp at j2;simp[j2]);rw[Z6,e1,Z6,e2];exact cJ 8 (dw hp.1 e1) (dw hp.2 e2) (by show X.A.units+1+8+1<cLine;lia) r1 r2
    refine this X.prog X.w _ _ ⟨.bl _,H,I,rfl,?_⟩;have e5:=hX (ds:=a) (es:=b) (e:=fun j=>aB (a.getD j .i_)<|b.getD j .i_) (fun j x y a b=>by rw[Z6,a,Z6,b];rfl);rw[<- hl,Nat.min_self,Yr,Bool.and_true] at e5;rw[ZS,n1,e5];exact Out.i q rfl
   ·refine SeqAt.RcAt.lists_lengths (A:=X.A) l1 l2 (by rw[ZS,ZS,n1,n2];simpa using hl) (by lia) X.prog X.w _ _ ⟨.bl _,H,I,rfl,?_⟩;rw[lX hl] at q;exact Out.i q rfl
  ·cases e
 ·cases e
end
section
variable{X:Cx}
theorem yt(n:Nat){A:Around}{x y:Im}{u v:Value}(kx:Im.pl n x=true)(ky:Im.pl n y=true)(hu:A.units+n+2<cLine)(hx:Ew s.heap x u)(hy:Ew s.heap y v):SeqAt.RcNeAt A s u v (!aB x y):=by
 cases x with
 | i_=>
  cases (show u=.none from hx);cases y with
  | i_=>cases (show v=.none from hy);exact SeqAt.RcNeAt.none_none
  | bl b=>cases (show v=.bool b from hy);exact SeqAt.RcNeAt.none_bool b
  | int j=>obtain⟨t,rfl⟩:=hy;exact SeqAt.RcNeAt.none_int j t
  | str z=>obtain⟨t,rfl⟩:=hy;exact SeqAt.RcNeAt.none_str z t
  | tup ds=>obtain⟨a,o,items,m,rfl,h1,h2,h3,_⟩:=hy;exact SeqAt.RcNeAt.none_tuple ⟨o,h1,h2,m,h3⟩ (by lia)
  | fn a=>cases n<;>cases ky
  | fl a=>cases n<;>cases ky
  | fd=>cases n<;>cases ky
 | bl b=>
  cases (show u=.bool b from hx);cases y with
  | i_=>cases (show v=.none from hy);exact SeqAt.RcNeAt.bool_none b
  | bl c=>cases (show v=.bool c from hy);exact SeqAt.RcNeAt.bool_bool b c
  | int j=>obtain⟨t,rfl⟩:=hy;exact SeqAt.RcNeAt.bool_int b j t
  | str z=>obtain⟨t,rfl⟩:=hy;exact SeqAt.RcNeAt.bool_str b z t
  | tup ds=>obtain⟨a,o,items,m,rfl,h1,h2,h3,_⟩:=hy;exact SeqAt.RcNeAt.bool_tuple b ⟨o,h1,h2,m,h3⟩ (by lia)
  | fn a=>cases n<;>cases ky
  | fl a=>cases n<;>cases ky
  | fd=>cases n<;>cases ky
 | int i=>
  obtain⟨t0,rfl⟩:=hx;cases y with
  | i_=>cases (show v=.none from hy);exact SeqAt.RcNeAt.int_none i t0
  | bl c=>cases (show v=.bool c from hy);exact SeqAt.RcNeAt.int_bool i t0 c
  | int j=>obtain⟨t,rfl⟩:=hy;exact SeqAt.RcNeAt.int_int i t0 j t
  | str z=>obtain⟨t,rfl⟩:=hy;exact SeqAt.RcNeAt.int_str i t0 z t
  | tup ds=>obtain⟨a,o,items,m,rfl,h1,h2,h3,_⟩:=hy;exact SeqAt.RcNeAt.int_tuple i t0 ⟨o,h1,h2,m,h3⟩ (by lia)
  | fn a=>cases n<;>cases ky
  | fl a=>cases n<;>cases ky
  | fd=>cases n<;>cases ky
 | str i=>
  obtain⟨t0,rfl⟩:=hx;cases y with
  | i_=>cases (show v=.none from hy);exact SeqAt.RcNeAt.str_none i t0
  | bl c=>cases (show v=.bool c from hy);exact SeqAt.RcNeAt.str_bool i t0 c
  | int j=>obtain⟨t,rfl⟩:=hy;exact SeqAt.RcNeAt.str_int i t0 j t
  | str z=>obtain⟨t,rfl⟩:=hy;exact SeqAt.RcNeAt.str_str i t0 z t
  | tup ds=>obtain⟨a,o,items,m,rfl,h1,h2,h3,_⟩:=hy;exact SeqAt.RcNeAt.str_tuple i t0 ⟨o,h1,h2,m,h3⟩ (by lia)
  | fn a=>cases n<;>cases ky
  | fl a=>cases n<;>cases ky
  | fd=>cases n<;>cases ky
 | fn a=>cases n<;>cases kx
 | fl a=>cases n<;>cases kx
 | fd=>cases n<;>cases kx
 | tup ds=>
  cases n with
  | zero=>cases kx
  | succ n=>
  obtain⟨a,o,items,m,rfl,h1,h2,h3,h4⟩:=hx;have ta:s.heap.IsTuple a items:=⟨o,h1,h2,m,h3⟩;cases y with
  | i_=>cases (show v=.none from hy);exact SeqAt.RcNeAt.tuple_none ta (by lia)
  | bl c=>cases (show v=.bool c from hy);exact SeqAt.RcNeAt.tuple_bool c ta (by lia)
  | int j=>obtain⟨t,rfl⟩:=hy;exact SeqAt.RcNeAt.tuple_int j t ta (by lia)
  | str z=>obtain⟨t,rfl⟩:=hy;exact SeqAt.RcNeAt.tuple_str z t ta (by lia)
  | fn a=>cases ky
  | fl a=>cases ky
  | fd=>cases ky
  | tup es=>
   obtain⟨b,o',y_,m',rfl,g1,g2,g3,g4⟩:=hy;have tb:s.heap.IsTuple b y_:=⟨o',g1,g2,m',g3⟩;have l1:=h4.length;have l2:=g4.length;have l3:items.toList.length=items.size:=by simp
   have l4:y_.toList.length=y_.size:=by simp
   rw[l3] at l1;rw[l4] at l2;have q:=SeqAt.RcNeAt.tuples (A:=A) (e:=fun j=>aB (ds.getD j .i_)<|es.getD j .i_) ta tb (by lia) fun j j1 j2=>by
    obtain⟨d1,e1,r1⟩:=h4.get (j:=j) (v:=items[j]) (by rw[Zt];simp[j1]);obtain⟨d2,e2,r2⟩:=g4.get (j:=j) (v:=y_[j]) (by rw[Zt];simp[j2]);rw[Z6,e1,Z6,e2];exact cJ n (dw kx e1) (dw ky e2) (by show A.units+1+n+1<cLine;lia) r1 r2
   rw[<- l1,<- l2,hX (ds:=ds) (es:=es) (fun j x y a b=>by rw[Z6,a,Z6,b];rfl)] at q;rw[aB];exact q
@[simp] def vNe:Op2:=fun a b=>match a,b with
 | .im x,.im y=>if (Im.pl 8 x && Im.pl 8 y)=true then some (.im<|.bl<|!aB x y) else none
 | .lst x,.lst y=>if (Im.pls 8 x && Im.pls 8 y)=true then some (.im<|.bl<|!bE x y) else none
 | _,_=>none
theorem gC(hu:X.A.units+20<cLine):FW X (compareOp .NotEq) vNe:=by
 intro pins s σ H x y v u Q I rx ry ⟨d1,d2,d,r1,r2,e,q⟩;unfold vNe at e;split at e
 ·rename_i a b;split at e
  ·rename_i hp;cases e;rw[ZV] at hp;exact yt 8 hp.1 hp.2 (by lia) (r1.i.FB I.m_ rx) (r2.i.FB I.m_ ry) X.prog X.w _ _ ⟨.bl _,H,I,rfl,Out.i q rfl⟩
  ·cases e
 ·rename_i a b;split at e
  ·rename_i hp;cases e;rw[ZV] at hp;obtain⟨_,p,xs,rfl,h1,h2,_⟩:=r1;obtain⟨_,p',ys,rfl,h3,h4,_⟩:=r2;cases rx;cases ry;obtain⟨i1,l1,v1,n1⟩:=gz I h1 h2;obtain⟨i2,l2,v2,n2⟩:=gz I h3 h4;by_cases hl:a.length=b.length
   ·have:=SeqAt.RcNeAt.lists (A:=X.A) (e:=fun j=>aB (a.getD j .i_)<|b.getD j .i_) l1 l2 (by rw[ZS,ZS,n1,n2];exact hl) (by lia) fun j j1 j2=>by
     obtain⟨d1,e1,r1⟩:=v1.get (j:=j) (v:=i1.toArray[j]) (by simp at j1;simp[j1]);obtain⟨d2,e2,r2⟩:=v2.get (j:=j) (v:=i2.toArray[j]) (by simp at j2;simp[j2]);rw[Z6,e1,Z6,e2];exact cJ 8 (dw hp.1 e1) (dw hp.2 e2) (by show X.A.units+1+8+1<cLine;lia) r1 r2
    refine this X.prog X.w _ _ ⟨.bl _,H,I,rfl,?_⟩;have e5:=hX (ds:=a) (es:=b) (e:=fun j=>aB (a.getD j .i_)<|b.getD j .i_) (fun j x y a b=>by rw[Z6,a,Z6,b];rfl);rw[<- hl,Nat.min_self,Yr,Bool.and_true] at e5;rw[ZS,n1,e5];exact Out.i q rfl
   ·refine SeqAt.RcNeAt.lists_lengths (A:=X.A) l1 l2 (by rw[ZS,ZS,n1,n2];simpa using hl) (by lia) X.prog X.w _ _ ⟨.bl _,H,I,rfl,?_⟩;rw[lX hl] at q;exact Out.i q rfl
  ·cases e
 ·cases e
@[simp] def oIs(n:Bool):Op2:=fun a b=>match a,b with
 | .im x,.im .i_=>some (.im<|.bl<|n != decide (x=.i_))
 | .im (.bl x),.im (.bl y)=>some (.im<|.bl<|n != (x == y))
 | _,_=>none
theorem yu{d:Im}(h:DK H d v):decide (v=.i_)=decide (d=.i_):=by
 cases d with
 | i_=>cases (show v=.i_ from h);rfl
 | bl b=>cases (show v=.bl b from h);rfl
 | int b=>cases (show v=.int b from h);rfl
 | str b=>cases (show v=.str b from h);rfl
 | fn b=>cases (show v=.ref b from h);rfl
 | tup ds=>obtain⟨a,xs,rfl,_⟩:=h;rfl
 | fl ds=>obtain⟨a,xs,o,rfl,_⟩:=h;rfl
 | fd=>obtain⟨a,o,rfl,_⟩:=h;rfl
theorem yw:Ex X (compareOp .Is) (fun x y H Q=>∃ a b,x=.bl a/\y=.bl b/\Q (.bl<|a == b) H):=by
 intro pins s σ H x y v u Q I rx ry ⟨a,b,e1,e2,q⟩;subst e1 e2;cases rx;cases ry;refine wpAny_is_plain (by cases a<;>cases b<;>rfl) ⟨.bl<|a == b,H,I,?_,q⟩;cases a<;>cases b<;>rfl
theorem pX:FW X (compareOp .Is) (oIs false):=by
 refine (v6.or yw).imp fun x y H Q ⟨d1,d2,d,r1,r2,e,q⟩=>?_;unfold oIs at e;split at e
 ·rename_i a;cases e;refine .inl ⟨r2.i,?_⟩;rw[yu r1.i];refine Out.i q ?_;show _=_;rw[Bool.false_bne]
 ·cases e;refine .inr ⟨_,_,r1.i,r2.i,Out.i q ?_⟩;show _=_;rw[Bool.false_bne]
 ·cases e
def bD{κ:Type}[DecidableEq κ](kvs:List (κ×Im))(k:κ):Option Im:=(kvs.find? fun p=>decide (p.1=k)).map (·.2)
theorem gD{κ:Type}[DecidableEq κ]{H:Hp}{k:κ}:∀ {kvs:List (κ×Im)}{Eh:List (κ×V)},Ev H kvs Eh->(∀ d,bD kvs k=some d->∃ v,cw Eh k=some v/\DK H d v)/\(bD kvs k=none->cw Eh k=none)
 | _,_,.nil=>⟨(fun d e=>by cases e),(fun _=>rfl)⟩
 | _,_,.cons (a:=p) (b:=q) h t=>by
  obtain⟨h1,h2⟩:=gD (k:=k) t;by_cases e:p.1=k
  ·have e':q.1=k:=h.1.symm.trans e;refine⟨fun d hd=>?_,fun hn=>?_⟩
   ·have:∀ r,bD (p::r) k=some p.2:=fun r=>by simp[bD,YI,e]
    rw[this] at hd;cases hd;exact⟨q.2,jv e',h.2⟩
   ·have:∀ r,bD (p::r) k=some p.2:=fun r=>by simp[bD,YI,e]
    rw[this] at hn;cases hn
  ·have e':¬ q.1=k:=fun z=>e (h.1.trans z);have:∀ r,bD (p::r) k=bD r k:=fun r=>by simp[bD,YI,e]
   rw[this,jw e'];exact⟨h1,h2⟩
@[simp] def vIx:Op2:=fun a b=>match a,b with
 | .im (.tup ds),.im (.int i)=>(FR ds i).map .im
 | .lst ds,.im (.int i)=>(FR ds i).map .im
 | .fz ds,.im (.int i)=>(FR ds i).map .im
 | .dT kvs,.im (.tup k)=>if Im.keys 7 k=true then (bD kvs k).map .im else none
 | .dK kvs,.im (.int i)=>(bD kvs<|.inl i).map .im
 | .dK kvs,.im (.str i)=>(bD kvs<|.inr i).map .im
 | _,_=>none
theorem yx(hu:X.A.units+20<cLine):G7 X (fun x y H Q=>∃ a v,x=.ref a/\bW H a y (some v)/\Q v H):=by
 intro value slice pins s σ H x y v u Q I rx ry ⟨a,z,e,g,q⟩ hs;subst e;cases rx;exact tail_any (xc I g) PySem.F.slot_dict_getitem.lookup (w9 hu I g ry fun w' s3 I3 Hz=>⟨z,H,I3,Hz,q⟩) hs
theorem lY{i:Int}{d:Im}(h:ar H ds xs)(e:FR ds i=some d):∃ v,FR xs i=some v/\DK H d v:=by
 unfold FR at e ⊢;rw[<- h.length];obtain⟨j,e1,e2⟩:=Z8.mp e;obtain⟨v,g1,g2⟩:=h.get e2;exact⟨v,by rw[e1];exact g1,g2⟩
theorem pY(hu:X.A.units+20<cLine):G7 X (fun x y H Q=>∃ d1 d2 d,FG H d1 x/\FG H d2 y/\vIx d1 d2=some d/\∀ v H' R,aF H H'->Own H' d v R->R.Nodup->(∀ a∈R,H a=none)->Q v H'):=by
 refine (wJ.or<|wK.or<|yx hu).imp fun x y H Q ⟨d1,d2,d,r1,r2,e,q⟩=>?_;unfold vIx at e;split at e
 ·obtain⟨d',e1,e2⟩:=Z5.mp e;cases e2;obtain⟨p,xs,rfl,h1,h2⟩:=r1.i;obtain⟨v,g1,g2⟩:=lY h2 e1;exact .inr (.inl ⟨p,xs,_,v,rfl,r2.i,DG.of h1,g1,Out.i q g2⟩)
 ·obtain⟨d',e1,e2⟩:=Z5.mp e;cases e2;obtain⟨_,p,xs,rfl,h1,h2,_⟩:=r1;obtain⟨v,g1,g2⟩:=lY h2 e1;exact .inl ⟨p,xs,_,v,rfl,r2.i,D7.of h1,g1,Out.i q g2⟩
 ·obtain⟨d',e1,e2⟩:=Z5.mp e;cases e2;obtain⟨_,p,xs,o,rfl,h1,h2,_⟩:=r1;obtain⟨v,g1,g2⟩:=lY h2 e1;exact .inl ⟨p,xs,_,v,rfl,r2.i,.inl<|.inr ⟨o,h1⟩,g1,Out.i q g2⟩
 ·rename_i kvs k;split at e
  ·rename_i hk;obtain⟨d',e1,e2⟩:=Z5.mp e;cases e2;obtain⟨_,p,Eh,rfl,h1,h2,_⟩:=r1;obtain⟨v,g1,g2⟩:=(gD h2).1 d' e1;obtain⟨b,xs,rfl,k1,k2⟩:=r2.i;exact .inr (.inr ⟨p,v,rfl,by rw[<- g1];exact bW.t h1 ⟨hk,b,xs,rfl,k1,k2⟩,Out.i q g2⟩)
  ·cases e
 ·rename_i kvs i;obtain⟨d',e1,e2⟩:=Z5.mp e;cases e2;obtain⟨_,p,Eh,rfl,h1,h2,_⟩:=r1;obtain⟨v,g1,g2⟩:=(gD h2).1 d' e1;refine .inr (.inr ⟨p,v,rfl,?_,Out.i q g2⟩);rw[show y=kV (.inl i) from r2.i,<- g1];exact bW.k h1
 ·rename_i kvs i;obtain⟨d',e1,e2⟩:=Z5.mp e;cases e2;obtain⟨_,p,Eh,rfl,h1,h2,_⟩:=r1;obtain⟨v,g1,g2⟩:=(gD h2).1 d' e1;refine .inr (.inr ⟨p,v,rfl,?_,Out.i q g2⟩);rw[show y=kV (.inr i) from r2.i,<- g1];exact bW.k h1
 ·cases e
end
end L2
namespace HT
open PySem PySem.Spec PyProof.Rows
section
variable{prog:Program}{w:World}{A:Around}{E:Value->Shared->Prop}{s:Shared}
end
end HT
namespace L2
open PySem PySem.Spec PyProof.Rows
section
variable{X:Cx}
@[simp] def lZ(g:M Vl):M Vl:=fun D=>(g D).bind fun p=>match p.1 with
 | .im (.int i)=>some (.im<|.int<|-i,p.2)
 | _=>none
theorem pZ{a:Expr}{g:M Vl}{pos:Pos}(h:VE X a g):VE X (.UnaryOp .USub a pos) (lZ g):=by
 refine aT (vP vX h) fun σ H Q ⟨D,F,r,D',st,nd,hg,q⟩=>?_;obtain⟨⟨x,D1⟩,h1,h2⟩:=Z8.mp hg;refine⟨D,F,x,D1,st,nd,h1,fun v H1 F1 R u_ ow s1=>?_⟩;dsimp only at h2;split at h2
 ·rename_i i;cases h2;exact⟨i,ow.1,q _ H1 F1 [] u_ ⟨rfl,rfl⟩ (by rw[ZY];exact s1.both)⟩
 ·cases h2
def yy:M (Option Int):=fun D=>some (none,D)
variable{H:Hp}
theorem ar.take:∀ {ds:List Im}{xs:List V} (n:Nat),ar H ds xs->ar H (ds.take n) (xs.take n)
 | ds,xs,0,h=>rfl
 | [],xs,n+1,h=>by cases (show xs=[] from h);exact rfl
 | d::ds,xs,n+1,h=>by
  obtain⟨v,r,rfl,h1,h2⟩:=h;exact⟨v,_,rfl,h1,h2.take n⟩
abbrev OpN:=List Vl->Option Vl
@[simp] def vLen:OpN:=fun ds=>match ds with
 | [.im (.tup x)]=>some (.im<|.int x.length)
 | [.lst x]=>some (.im<|.int x.length)
 | [.fz x]=>some (.im<|.int x.length)
 | [.EA x]=>some (.im<|.int x.length)
 | [.dK x]=>some (.im<|.int x.length)
 | [.im (.str x)]=>if x.length<=100000 then some (.im<|.int x.length) else none
 | _=>none
variable{vs:List V}
theorem bR{d:Vl}(h:eM H [d] vs):∃ v,vs=[v]/\FG H d v:=by
 obtain⟨v,r,rfl,h1,h2⟩:=h;cases (show r=[] from h2);exact⟨v,rfl,h1⟩
theorem qd{d e:Vl}(h:eM H [d,e] vs):∃ v u,vs=[v,u]/\FG H d v/\FG H e u:=by
 obtain⟨v,r,rfl,h1,h2⟩:=h;obtain⟨u,rfl,h3⟩:=bR h2;exact⟨v,u,rfl,h1,h3⟩
theorem Ev.length{κ:Type}{H:Hp}{l:List (κ×Im)}{m:List (κ×V)}(h:Ev H l m):l.length=m.length:=Yj h
theorem iC:cU X (.builtin "len") vLen:=by
 refine (wN.or<|wO.or xp).imp fun xs H Q ⟨ds,d,rd,e,q⟩=>?_;unfold vLen at e;split at e
 ·cases e;obtain⟨v,rfl,h⟩:=bR rd;obtain⟨p,xs,rfl,h1,h2⟩:=h.i;exact .inl ⟨p,xs,rfl,.inr<|DG.of h1,by rw[<- h2.length];exact Out.i q rfl⟩
 ·cases e;obtain⟨v,rfl,_,p,xs,rfl,h1,h2,_⟩:=bR rd;exact .inl ⟨p,xs,rfl,.inl<|D7.of h1,by rw[<- h2.length];exact Out.i q rfl⟩
 ·cases e;obtain⟨v,rfl,_,p,xs,o,rfl,h1,h2,_⟩:=bR rd;exact .inl ⟨p,xs,rfl,.inl<|.inl<|.inr ⟨o,h1⟩,by rw[<- h2.length];exact Out.i q rfl⟩
 ·cases e;obtain⟨v,rfl,_,p,xs,G,rfl,h1,h2,_⟩:=bR rd;exact .inl ⟨p,xs,rfl,.inl<|D7.of h1,by rw[<- h2.length];exact Out.i q rfl⟩
 ·cases e;obtain⟨v,rfl,_,p,Eh,rfl,h1,h2,_⟩:=bR rd;exact .inr (.inr ⟨p,Eh,rfl,h1,by rw[<- h2.length];exact Out.i q rfl⟩)
 ·split at e
  ·rename_i hl;cases e;obtain⟨v,rfl,h⟩:=bR rd;cases (show v=_ from h.i);exact .inr (.inl ⟨_,rfl,eQ hl,Out.i q rfl⟩)
  ·cases e
 ·cases e
@[simp] def vTuple:OpN:=fun ds=>match ds with
 | [d]=>(dD d).map fun x=>.im (.tup x)
 | _=>none
@[simp] def vList:OpN:=fun ds=>match ds with
 | [d]=>(dD d).map .lst
 | _=>none
theorem gE:cU X (.type "tuple") vTuple:=by
 refine wQ.imp fun xs H Q ⟨ds,d,rd,e,q⟩=>?_;unfold vTuple at e;split at e
 ·obtain⟨x,e1,e2⟩:=Z5.mp e;cases e2;obtain⟨v,rfl,h⟩:=bR rd;unfold dD at e1;split at e1
  ·cases e1;obtain⟨p,xs,rfl,h1,h2⟩:=h.i;exact⟨p,xs,rfl,.inr ⟨DG.of h1,Out.i q ⟨p,xs,rfl,h1,h2⟩⟩⟩
  ·cases e1;obtain⟨_,p,xs,rfl,h1,h2,_⟩:=h;exact⟨p,xs,rfl,.inl ⟨D7.of h1,fun l hl=>Out.t q hl h2⟩⟩
  ·cases e1;obtain⟨_,p,xs,o,rfl,h1,h2,_⟩:=h;exact⟨p,xs,rfl,.inl ⟨.inl<|.inr ⟨o,h1⟩,fun l hl=>Out.t q hl h2⟩⟩
  ·cases e1
 ·cases e
theorem yz:cU X (.type "list") vList:=by
 refine wP.imp fun xs H Q ⟨ds,d,rd,e,q⟩=>?_;unfold vList at e;split at e
 ·obtain⟨x,e1,e2⟩:=Z5.mp e;cases e2;obtain⟨v,rfl,h⟩:=bR rd;unfold dD at e1;split at e1
  ·cases e1;obtain⟨p,xs,rfl,h1,h2⟩:=h.i;exact⟨p,xs,rfl,.inr<|DG.of h1,fun l hl=>Out.l q hl h2⟩
  ·cases e1;obtain⟨_,p,xs,rfl,h1,h2,_⟩:=h;exact⟨p,xs,rfl,.inl<|D7.of h1,fun l hl=>Out.l q hl h2⟩
  ·cases e1;obtain⟨_,p,xs,o,rfl,h1,h2,_⟩:=h;exact⟨p,xs,rfl,.inl<|.inl<|.inr ⟨o,h1⟩,fun l hl=>Out.l q hl h2⟩
  ·cases e1
 ·cases e
@[simp] def vInt:OpN:=fun ds=>match ds with
 | [.im (.int i)]=>some (.im<|.int i)
 | [.im (.bl b)]=>some (.im<|.int<|if b then 1 else 0)
 | _=>none
theorem l6:cU X (.type "int") vInt:=by
 refine wu.imp fun xs H Q ⟨ds,d,rd,e,q⟩=>?_;unfold vInt at e;split at e
 ·cases e;obtain⟨v,rfl,h⟩:=bR rd;cases (show v=_ from h.i);exact .inl ⟨_,rfl,Out.i q rfl⟩
 ·cases e;obtain⟨v,rfl,h⟩:=bR rd;cases (show v=_ from h.i);exact .inr ⟨_,rfl,Out.i q rfl⟩
 ·cases e
@[simp] def vAbs:OpN:=fun ds=>match ds with
 | [.im (.int i)]=>some (.im<|.int<|if i<0 then -i else i)
 | _=>none
theorem qe:cU X (.builtin "abs") vAbs:=by
 refine wm.imp fun xs H Q ⟨ds,d,rd,e,q⟩=>?_;unfold vAbs at e;split at e
 ·cases e;obtain⟨v,rfl,h⟩:=bR rd;cases (show v=_ from h.i);exact⟨_,rfl,Out.i q rfl⟩
 ·cases e
@[simp] def vMax2:OpN:=fun ds=>match ds with
 | [.im (.int i),.im<|.int j]=>some (.im<|.int<|if j > i then j else i)
 | _=>none
@[simp] def vMin2:OpN:=fun ds=>match ds with
 | [.im (.int i),.im<|.int j]=>some (.im<|.int<|if j<i then j else i)
 | _=>none
theorem l7(hc:X.calm=true):cU X (.builtin "max") vMax2:=by
 refine (wn hc).imp fun xs H Q ⟨ds,d,rd,e,q⟩=>?_;unfold vMax2 at e;split at e
 ·cases e;obtain⟨v,u,rfl,h,k⟩:=qd rd;cases (show v=_ from h.i);cases (show u=_ from k.i);exact⟨_,_,rfl,Out.i q rfl⟩
 ·cases e
theorem l8(hc:X.calm=true):cU X (.builtin "min") vMin2:=by
 refine (wo hc).imp fun xs H Q ⟨ds,d,rd,e,q⟩=>?_;unfold vMin2 at e;split at e
 ·cases e;obtain⟨v,u,rfl,h,k⟩:=qd rd;cases (show v=_ from h.i);cases (show u=_ from k.i);exact⟨_,_,rfl,Out.i q rfl⟩
 ·cases e
@[simp] def bls:List Im->Option (List Bool)
 | []=>some []
 | .bl b::ds=>(bls ds).map fun r=>b::r
 | _::_=>none
theorem l9{H:Hp}:∀ {ds:List Im}{xs:List V}{bs:List Bool},ar H ds xs->bls ds=some bs->xs=bs.map V.bl
 | [],xs,bs,h,e=>by cases e;exact h
 | .bl b::ds,xs,bs,h,e=>by
  obtain⟨v,r,rfl,h1,h2⟩:=h;rw[bls] at e;obtain⟨p,e1,e2⟩:=Z5.mp e;cases e2;cases (show v=.bl b from h1);rw[l9 h2 e1];rfl
 | .i_::_,_,_,_,e=>by cases e
 | .int _::_,_,_,_,e=>by cases e
 | .str _::_,_,_,_,e=>by cases e
 | .tup _::_,_,_,_,e=>by cases e
 | .fn _::_,_,_,_,e=>by cases e
 | .fl _::_,_,_,_,e=>by cases e
 | .fd::_,_,_,_,e=>by cases e
@[simp] def vAll:OpN:=fun ds=>match ds with
 | [.lst x]=>(bls x).map fun bs=>.im (.bl<|bs.all id)
 | _=>none
@[simp] def vAny:OpN:=fun ds=>match ds with
 | [.lst x]=>(bls x).map fun bs=>.im (.bl<|bs.any id)
 | _=>none
theorem ma(hc:X.calm=true):cU X (.builtin "all") vAll:=by
 refine (xY hc).imp fun xs H Q ⟨ds,d,rd,e,q⟩=>?_;unfold vAll at e;split at e
 ·obtain⟨x,e1,e2⟩:=Z5.mp e;cases e2;obtain⟨v,rfl,_,p,xs,rfl,h1,h2,_⟩:=bR rd;rw[l9 h2 e1] at h1;exact⟨p,x,rfl,h1,Out.i q rfl⟩
 ·cases e
end
section
variable{X:Cx}
theorem yA(hc:X.calm=true):bb X (.builtin "any") (fun xs H Q=>∃ l bs,xs=[.ref l]/\H l=some (.lst<|List.map V.bl bs)/\Q (.bl<|bs.any id) H):=by
 intro pins s σ H xs us Q I r h;obtain⟨l,bs,rfl,hl,q⟩:=h;obtain⟨u,rfl,ru⟩:=cK r;cases ru;obtain⟨z,f_,n,rv,e⟩:=I.m_ l _ hl;have Jm:s.heap.IsList l f_.toArray:=⟨_,e,rfl,n,rfl⟩;refine call_any_walk (Xr Jm ⟨s.heap.objs.size,[s.heap.objs.size,l],[s.heap.objs.size],f_.toArray.size,_,_,fun i=>(bs[i]?).getD false,rfl,Walks.list (A:=X.A.in1) (I.ok.hd hc) _ l (Zx<|ZO e) f_.toArray,
  ⟨⟨_,ZE _ rfl,rfl,rfl⟩,Jm.push _⟩,fun i v s' Q' E' hP hQ=>?_,fun h' tk hk=>?_⟩)
 ·obtain⟨b,eb,rfl⟩:=pj rv i v (by simpa using hP);simp only[eb,Xb] at hQ;exact YB hQ
 ·have el:f_.toArray.size=bs.length:=by
   have:=rv.length;rw[Z4] at this;rw[ZS,this]
  rw[el,LSm.range_any];exact⟨.bl _,H,I.kept<|LSm.kept_iter hk,rfl,q⟩
theorem yB(hc:X.calm=true):cU X (.builtin "any") vAny:=by
 refine (yA hc).imp fun xs H Q ⟨ds,d,rd,e,q⟩=>?_;unfold vAny at e;split at e
 ·obtain⟨x,e1,e2⟩:=Z5.mp e;cases e2;obtain⟨v,rfl,_,p,xs,rfl,h1,h2,_⟩:=bR rd;rw[l9 h2 e1] at h1;exact⟨p,x,rfl,h1,Out.i q rfl⟩
 ·cases e
@[simp] def md(T:String)(d:Vl):Option Bool:=
 if T = "int" then match d with
  | .im (.int _)=>some true
  | .im (.bl _)=>some true
  | .im (.str _)=>some false
  | .im (.tup _)=>some false
  | .im .i_=>some false
  | .lst _=>some false
  | .im (.fl _)=>some false
  | .im .fd=>some false
  | .dT _=>some false
  | .dK _=>some false
  | _=>none
 else if T = "bool" then match d with
  | .im (.int _)=>some false
  | .im (.bl _)=>some true
  | .im (.str _)=>some false
  | .im (.tup _)=>some false
  | .im .i_=>some false
  | .lst _=>some false
  | .im (.fl _)=>some false
  | .im .fd=>some false
  | .dT _=>some false
  | .dK _=>some false
  | _=>none
 else if T = "str" then match d with
  | .im (.int _)=>some false
  | .im (.bl _)=>some false
  | .im (.str _)=>some true
  | .im (.tup _)=>some false
  | .im .i_=>some false
  | .lst _=>some false
  | .im (.fl _)=>some false
  | .im .fd=>some false
  | .dT _=>some false
  | .dK _=>some false
  | _=>none
 else if T = "tuple" then match d with
  | .im (.int _)=>some false
  | .im (.bl _)=>some false
  | .im (.str _)=>some false
  | .im (.tup _)=>some true
  | .im .i_=>some false
  | .lst _=>some false
  | .im (.fl _)=>some false
  | .im .fd=>some false
  | .dT _=>some false
  | .dK _=>some false
  | _=>none
 else none
variable{pins:List (Addr×Obj)}{H:Hp}{s:Shared}
theorem eU{σ:St}(I:Inv X pins σ H s){a:Addr}(h:(∃ k,H a=some (.dT k))\/∃ k,H a=some (.dK k)):∃ o,s.heap.get? a=some o/\o.cls=.type "dict" := by
 rcases h with ⟨k,h⟩ | ⟨k,h⟩
 ·obtain⟨_,_,xs,_,o,es,ep,h1,h2,_⟩:=(show bo X.prog X.w H s.heap a (.dT k) from I.m_ a _ h);exact⟨o,h1,h2.1⟩
 ·obtain⟨_,_,vs,_,o,es,ep,h1,h2,_⟩:=(show bo X.prog X.w H s.heap a (.dK k) from I.m_ a _ h);exact⟨o,h1,h2.1⟩
theorem jT{σ:St}(I:Inv X pins σ H s){a:Addr}{p:Obj}(h:H a=some (.Es p<|.dT [])):∃ o,s.heap.get? a=some o/\o.cls=.type "dict" := by
 obtain⟨_,_,_,xs,_,o,es,ep,h1,h2,_⟩:=(show bo X.prog X.w H s.heap a (.Es p<|.dT []) from I.m_ a _ h);exact⟨o,h1,h2.1⟩
theorem yC:bb X (.builtin "isinstance") (fun xs H Q=>∃ x T d b,xs=[x,.ty T]/\FG H d x/\md T d=some b/\Q (.bl b) H):=by
 intro pins s σ H xs us Q I r h;obtain⟨x,T,d,b,rfl,rd,hi,q⟩:=h;have r0:=r;cases r with
 | cons r rr=>
  cases rr with
  | cons r' rr=>
   cases rr;cases r';have f1:∀ {b:Bool},Q (.bl b) H->EP X pins σ Q (.bool b) { s with toks:=s.toks+1 }:=fun {b} q=>⟨.bl b,H,I.tok _,rfl,q⟩;have dI:∀ {a:Addr},(∃ o,s.heap.get? a=some o/\o.cls=.type "dict")->(T = "int" \/ T = "bool" \/ T = "str" \/ T = "tuple")->b=false->wpAny (model X.prog X.w) X.A (call (.builtin "isinstance") [.ref a,.type T]) (EP X pins σ Q) X.xe s:=by
    rintro a ⟨o,ho,hc⟩ hT rfl;rcases hT with rfl | rfl | rfl | rfl
    ·exact IsiPair.dict_int ho hc (f1 q)
    ·exact IsiPair.dict_bool ho hc (f1 q)
    ·exact IsiPair.dict_str ho hc (f1 q)
    ·exact IsiPair.dict_tuple ho hc (f1 q)
   have nI:(T = "int" \/ T = "bool" \/ T = "str" \/ T = "tuple")->b=false->wpAny (model X.prog X.w) X.A (call (.builtin "isinstance") [.none,.type T]) (EP X pins σ Q) X.xe s:=by
    rintro hT rfl;rcases hT with rfl | rfl | rfl | rfl
    ·exact IsiPair.NoneType_int (f1 q)
    ·exact IsiPair.NoneType_bool (f1 q)
    ·exact IsiPair.NoneType_str (f1 q)
    ·exact IsiPair.NoneType_tuple (f1 q)
   have cI:pi X.K H x T b->wpAny (model X.prog X.w) X.A (call (.builtin "isinstance") [_,.type T]) (EP X pins σ Q) X.xe s:=fun hh=>xX pins s σ H _ _ Q I r0 ⟨x,T,b,rfl,hh,q⟩;unfold md at hi;split at hi
   ·rename_i hT;subst hT;split at hi
    ·cases hi;exact cI (.inl ⟨_,rd.i,.inl ⟨rfl,rfl⟩⟩)
    ·cases hi;exact cI (.inr<|.inl ⟨_,rd.i,.inr<|.inl ⟨rfl,rfl⟩⟩)
    ·cases hi;exact cI (.inr<|.inr<|.inl ⟨_,rd.i,.inr<|.inl ⟨rfl,rfl⟩⟩)
    ·cases hi;obtain⟨a,xs,e,h1,h2⟩:=rd.i;exact cI (.inr<|.inr<|.inr<|.inl ⟨a,xs,e,DG.of h1,.inr<|.inl ⟨rfl,rfl⟩⟩)
    ·cases hi;cases (show x=.i_ from rd.i);cases r;exact nI (.inl rfl) rfl
    ·cases hi;obtain⟨_,a,xs,e,h1,h2,_⟩:=rd;exact cI (.inr<|.inr<|.inr<|.inr ⟨a,xs,e,D7.of h1,.inr<|.inl ⟨rfl,rfl⟩⟩)
    ·cases hi;obtain⟨a,xs,o,e,h1,h2⟩:=rd.i;exact cI (.inr<|.inr<|.inr<|.inr ⟨a,xs,e,.inl<|.inr ⟨o,h1⟩,.inr<|.inl ⟨rfl,rfl⟩⟩)
    ·cases hi;obtain⟨a,o,rfl,h1⟩:=rd.i;cases r;exact dI (jT I h1) (.inl rfl) rfl
    ·cases hi;obtain⟨_,a,xs,rfl,h1,h2,_⟩:=rd;cases r;exact dI (eU I<|.inl ⟨_,h1⟩) (.inl rfl) rfl
    ·cases hi;obtain⟨_,a,xs,rfl,h1,h2,_⟩:=rd;cases r;exact dI (eU I<|.inr ⟨_,h1⟩) (.inl rfl) rfl
    ·cases hi
   ·split at hi
    ·rename_i hT;subst hT;split at hi
     ·cases hi;exact cI (.inl ⟨_,rd.i,.inr<|.inr<|.inr<|.inl ⟨rfl,rfl⟩⟩)
     ·cases hi;exact cI (.inr<|.inl ⟨_,rd.i,.inl ⟨rfl,rfl⟩⟩)
     ·cases hi;exact cI (.inr<|.inr<|.inl ⟨_,rd.i,.inr<|.inr<|.inr<|.inl ⟨rfl,rfl⟩⟩)
     ·cases hi;obtain⟨a,xs,e,h1,h2⟩:=rd.i;exact cI (.inr<|.inr<|.inr<|.inl ⟨a,xs,e,DG.of h1,.inr<|.inr<|.inr<|.inl ⟨rfl,rfl⟩⟩)
     ·cases hi;cases (show x=.i_ from rd.i);cases r;exact nI (.inr<|.inl rfl) rfl
     ·cases hi;obtain⟨_,a,xs,e,h1,h2,_⟩:=rd;exact cI (.inr<|.inr<|.inr<|.inr ⟨a,xs,e,D7.of h1,.inr<|.inr<|.inr<|.inl ⟨rfl,rfl⟩⟩)
     ·cases hi;obtain⟨a,xs,o,e,h1,h2⟩:=rd.i;exact cI (.inr<|.inr<|.inr<|.inr ⟨a,xs,e,.inl<|.inr ⟨o,h1⟩,.inr<|.inr<|.inr<|.inl ⟨rfl,rfl⟩⟩)
     ·cases hi;obtain⟨a,o,rfl,h1⟩:=rd.i;cases r;exact dI (jT I h1) (.inr<|.inl rfl) rfl
     ·cases hi;obtain⟨_,a,xs,rfl,h1,h2,_⟩:=rd;cases r;exact dI (eU I<|.inl ⟨_,h1⟩) (.inr<|.inl rfl) rfl
     ·cases hi;obtain⟨_,a,xs,rfl,h1,h2,_⟩:=rd;cases r;exact dI (eU I<|.inr ⟨_,h1⟩) (.inr<|.inl rfl) rfl
     ·cases hi
    ·split at hi
     ·rename_i hT;subst hT;split at hi
      ·cases hi;exact cI (.inl ⟨_,rd.i,.inr<|.inr<|.inl ⟨rfl,rfl⟩⟩)
      ·cases hi;exact cI (.inr<|.inl ⟨_,rd.i,.inr<|.inr<|.inr<|.inl ⟨rfl,rfl⟩⟩)
      ·cases hi;exact cI (.inr<|.inr<|.inl ⟨_,rd.i,.inl ⟨rfl,rfl⟩⟩)
      ·cases hi;obtain⟨a,xs,e,h1,h2⟩:=rd.i;exact cI (.inr<|.inr<|.inr<|.inl ⟨a,xs,e,DG.of h1,.inr<|.inr<|.inl ⟨rfl,rfl⟩⟩)
      ·cases hi;cases (show x=.i_ from rd.i);cases r;exact nI (.inr<|.inr<|.inl rfl) rfl
      ·cases hi;obtain⟨_,a,xs,e,h1,h2,_⟩:=rd;exact cI (.inr<|.inr<|.inr<|.inr ⟨a,xs,e,D7.of h1,.inr<|.inr<|.inl ⟨rfl,rfl⟩⟩)
      ·cases hi;obtain⟨a,xs,o,e,h1,h2⟩:=rd.i;exact cI (.inr<|.inr<|.inr<|.inr ⟨a,xs,e,.inl<|.inr ⟨o,h1⟩,.inr<|.inr<|.inl ⟨rfl,rfl⟩⟩)
      ·cases hi;obtain⟨a,o,rfl,h1⟩:=rd.i;cases r;exact dI (jT I h1) (.inr<|.inr<|.inl rfl) rfl
      ·cases hi;obtain⟨_,a,xs,rfl,h1,h2,_⟩:=rd;cases r;exact dI (eU I<|.inl ⟨_,h1⟩) (.inr<|.inr<|.inl rfl) rfl
      ·cases hi;obtain⟨_,a,xs,rfl,h1,h2,_⟩:=rd;cases r;exact dI (eU I<|.inr ⟨_,h1⟩) (.inr<|.inr<|.inl rfl) rfl
      ·cases hi
     ·split at hi
      ·rename_i hT;subst hT;split at hi
       ·cases hi;exact cI (.inl ⟨_,rd.i,.inr<|.inl ⟨rfl,rfl⟩⟩)
       ·cases hi;exact cI (.inr<|.inl ⟨_,rd.i,.inr<|.inr<|.inl ⟨rfl,rfl⟩⟩)
       ·cases hi;exact cI (.inr<|.inr<|.inl ⟨_,rd.i,.inr<|.inr<|.inl ⟨rfl,rfl⟩⟩)
       ·cases hi;obtain⟨a,xs,e,h1,h2⟩:=rd.i;exact cI (.inr<|.inr<|.inr<|.inl ⟨a,xs,e,DG.of h1,.inl ⟨rfl,rfl⟩⟩)
       ·cases hi;cases (show x=.i_ from rd.i);cases r;exact nI (.inr<|.inr<|.inr rfl) rfl
       ·cases hi;obtain⟨_,a,xs,e,h1,h2,_⟩:=rd;exact cI (.inr<|.inr<|.inr<|.inr ⟨a,xs,e,D7.of h1,.inr<|.inr<|.inr<|.inr ⟨rfl,rfl⟩⟩)
       ·cases hi;obtain⟨a,xs,o,e,h1,h2⟩:=rd.i;exact cI (.inr<|.inr<|.inr<|.inr ⟨a,xs,e,.inl<|.inr ⟨o,h1⟩,.inr<|.inr<|.inr<|.inr ⟨rfl,rfl⟩⟩)
       ·cases hi;obtain⟨a,o,rfl,h1⟩:=rd.i;cases r;exact dI (jT I h1) (.inr<|.inr<|.inr rfl) rfl
       ·cases hi;obtain⟨_,a,xs,rfl,h1,h2,_⟩:=rd;cases r;exact dI (eU I<|.inl ⟨_,h1⟩) (.inr<|.inr<|.inr rfl) rfl
       ·cases hi;obtain⟨_,a,xs,rfl,h1,h2,_⟩:=rd;cases r;exact dI (eU I<|.inr ⟨_,h1⟩) (.inr<|.inr<|.inr rfl) rfl
       ·cases hi
      ·cases hi
@[simp] def eV(T:String)(g:M Opd):M Vl:=fun D=>(g D).bind fun p=>(rsl p.2 p.1).bind fun d=>(md T d).map fun b=>(.im<|.bl b,p.2)
variable{e:Expr}{g:M Opd}
theorem gF{T:String}{x:Str}{p p2 pos:Pos}(hg:Gl X "isinstance")(hm:X.mg "isinstance" = none)(hv:bootBuiltins "isinstance" = some (.builtin "isinstance"))(QY:Gl X x)(QZ:X.mg x=none)(Q0:bootBuiltins x=some (.type T))(h:VO X e g)(hn:x ≠ "__name__" := by decide)(hd:(x == ("__debug__" : Str))=false:=by decide)(he:starEach [e,.Name x p2] X.env=(false,eval e X.env)::starEach [.Name x p2] X.env:=by rfl)(Io:starEach [.Name x p2] X.env=(false,eval (.Name x p2) X.env)::starEach [] X.env:=by rfl)(E3:(backTo pos<|starEach [.Name x p2] X.env).any (·.1)=false:=by rfl):VE X (.Call (.Name "isinstance" p) [e,.Name x p2] [] pos) (eV T g):=by
 refine aT (ju yC hg hm hv (dJ h (dJ (nY (v:=.ty T) QY QZ Q0 rfl hn hd) ij Io) he) (by decide) (by decide) he E3) fun σ H Q ⟨D,F,r,D',st,nd,Fm,q⟩=>?_;obtain⟨⟨o,D1⟩,h1,h2⟩:=Z8.mp Fm;obtain⟨d,h3,h4⟩:=Z8.mp h2;obtain⟨b,h5,h6⟩:=Z5.mp h4;cases h6;exact⟨D,F,o,D1,st,nd,h1,fun v H1 F1 R u_ o1 s1=>⟨v,T,d,b,rfl,o1.read u_ h3,h5,q _ H1 F1 [] u_ ⟨rfl,rfl⟩ (by rw[ZY];exact s1.both)⟩⟩
@[simp] def iD:Vl->Option Bool
 | .im .i_=>some false
 | .im (.bl b)=>some b
 | .im (.int i)=>some (i != 0)
 | .im (.str x)=>if x.length<=100000 then some ((x.length:Int) != 0) else none
 | .im (.tup ds)=>some (!ds.isEmpty)
 | .lst ds=>some (!ds.isEmpty)
 | .fz ds=>some (!ds.isEmpty)
 | .dK kvs=>some (!kvs.isEmpty)
 | _=>none
theorem ar.emp{ds:List Im}{xs:List V}(h:ar H ds xs):(!xs.isEmpty)=!ds.isEmpty:=by
 cases ds with
 | nil=>cases (show xs=[] from h);rfl
 | cons d ds=>obtain⟨v,r,rfl,_⟩:=h;rfl
theorem yD{d:Vl}{v:V}{b:Bool}(h:FG H d v)(e:iD d=some b):lh X.K v H b:=by
 unfold iD at e;split at e
 ·cases e;cases (show v=_ from h.i);rfl
 ·cases e;cases (show v=_ from h.i);rfl
 ·cases e;cases (show v=_ from h.i);rfl
 ·split at e
  ·rename_i hl;cases e;cases (show v=_ from h.i);exact⟨eQ hl,rfl⟩
  ·cases e
 ·cases e;obtain⟨p,xs,rfl,h1,h2⟩:=h.i;exact .inr (.inl ⟨xs,DG.of h1,h2.emp.symm⟩)
 ·cases e;obtain⟨_,p,xs,rfl,h1,h2,_⟩:=h;exact .inl ⟨xs,D7.of h1,h2.emp.symm⟩
 ·cases e;obtain⟨_,p,xs,o,rfl,h1,h2,_⟩:=h;exact .inl ⟨xs,.inl<|.inr ⟨o,h1⟩,h2.emp.symm⟩
 ·cases e;obtain⟨_,p,Eh,rfl,h1,h2,_⟩:=h;refine .inr (.inr ⟨Eh,h1,?_⟩);cases h2<;>rfl
 ·cases e
@[simp] def bS(g:M Opd):M Bool:=fun D=>(g D).bind fun p=>(rsl p.2 p.1).bind fun d=>(iD d).map fun b=>(b,p.2)
theorem dF(h:VO X e g)(he:∀ whole,isTrue e X.env whole=(do let v <- whole;standAt e.pos;holding [v] (truthy v)):=by intro _;rfl):VT X e (bS g):=by
 refine lP (wj h he) fun σ H Q ⟨D,F,b,D',st,nd,Fm,q⟩=>?_;obtain⟨⟨o,D1⟩,h1,h2⟩:=Z8.mp Fm;obtain⟨d,h3,h4⟩:=Z8.mp h2;obtain⟨b',h5,h6⟩:=Z5.mp h4;cases h6;exact⟨D,F,o,D1,st,nd,h1,fun v H1 F1 R u_ o1 s1=>⟨_,yD (o1.read u_ h3) h5,q H1 F1 u_ s1.both⟩⟩
end
variable{x_ apos:Pos}{o:Expr}{id T:String}{name:Str}{g:M (List Opd)}{i:Nat}{ty:Vl->Bool}{K:PySem.W.Frag}{o':HO}{a:Addr}{H:Hp}
theorem p_.chg{F F1:List Addr}(ha:a∈F)(c:FV H a)(nd:F1.Nodup)(sb:∀ x∈F1,x∈F):p_ H F (upd H a o') F1:=by
 obtain⟨o,e,ht,hf⟩:=c;refine⟨fun x u ex hx=>?_,fun x hx=>.inl<|sb x hx,nd,DC.of (fun x xs ex=>?_)<|fun x p u ex=>?_,fun x u ex=>?_⟩
 ·rw[aE (fun z=>hx (by rw[z];exact ha))];exact ex
 ·rw[aE]
  ·exact ex
  ·rintro rfl;rw[e] at ex;exact ht xs (Zv ex)
 ·rw[aE]
  ·exact ex
  ·rintro rfl;rw[e] at ex;exact hf p u (Zv ex)
 ·by_cases hx:x=a
  ·subst hx;exact⟨o',bp⟩
  ·exact⟨u,(aE hx).trans ex⟩
theorem DK.Gi(c:FV H a):GX H (upd H a o'):=(p_.chg (F:=[a]) (F1:=[]) (.head _) c XA<|fun x hx=>nomatch hx).tup.tup
def KH(X:Cx)(id:String)(mt:Vl->List Vl->Option (Vl×Vl)):Prop:=
 Kw X id fun x vs H Q=>∃ c ds r c' R S,Own H c x R/\aK H ds vs S/\(R++S).Nodup/\mt c ds=some (r,c')/\∀ v H' R1 R2,Own H' r v R1->Own H' c' x R2->p_ H (R++S) H' (R1++R2)->Q v H'
@[simp] def eg:Vl->Bool
 | .lst _=>true
 | .EA _=>true
 | _=>false
@[simp] def me:Vl->Bool
 | .dK _=>true
 | .dT _=>true
 | .KF _ _=>true
 | _=>false
@[simp] def cu(ty:Vl->Bool)(i:Nat)(mt:Vl->List Vl->Option (Vl×Vl))(g:M (List Opd)):M Vl:=fun D=>match D[i]? with
 | some (some c0)=>if ty c0=true then (g D).bind fun p=>(bg p.1 p.2).bind fun q=>match q.2[i]? with
   | some (some c)=>(mt c q.1).map fun r=>(r.1,q.2.set i<|some r.2)
   | _=>none
  else none
 | _=>none
theorem qf{mt:Vl->List Vl->Option (Vl×Vl)}{σ:St}{Q:VK}(G8:∀ H c x R,Own H c x R->ty c=true->IB K T x H)(h:tV (cu ty i mt g) σ H Q):∃ x,σ[i]?=some (some x)/\IB K T x H/\tA g σ H fun vs H2=>∃ c ds r c' R S,Own H2 c x R/\aK H2 ds vs S/\(R++S).Nodup/\mt c ds=some (r,c')/\∀ v H' R1 R2,Own H' r v R1->Own H' c' x R2->p_ H2 (R++S) H' (R1++R2)->Q v H':=by
 obtain⟨D,F,r,D',st,nd,hg,q⟩:=h;unfold cu at hg;split at hg
 ·rename_i c0 N4;split at hg
  ·rename_i ht;obtain⟨x,A0,B0,hx,w0,_,_⟩:=st.out N4;refine⟨x,hx,G8 H c0 x _ w0 ht,?_⟩;obtain⟨⟨os,D1⟩,h1,h2⟩:=Z8.mp hg;obtain⟨⟨ds,D2⟩,h3,h4⟩:=Z8.mp h2;refine⟨D,F,os,D1,st,nd,h1,fun vs H1 F1 R1 u_ o1 s1=>?_⟩;obtain⟨F2,S,q_,ow,pm⟩:=eO u_ o1 h3;dsimp only at h4;split at h4
   ·rename_i c hc;obtain⟨⟨r',c'⟩,h5,h6⟩:=Z5.mp h4;cases h6;obtain⟨x',R,F3,Gw,w1,Fh,Ly⟩:=q_.out hc;rw[hx] at Gw;cases Gw;have s2:p_ H F H1 ((R++S)++F3):=s1.Ek (pm.symm.trans ((ZI S Ly.symm).trans (by
     rw[Z7];exact Z0)))
    have Ip:=ZP.mp s2.nd;refine⟨c,ds,_,c',R,S,w1,ow,Ip.1,h5,fun v H' A B wa wb s3=>?_⟩;have FD:ak H' (D2.set i<|some .jk) σ F3:=Fh.mono s3.tup fun a ha o e=>s3.keep a o e fun h=>Ip.2.2 a h a ha rfl;obtain⟨F4,G,E8,IN⟩:=FD.back wb hx;rw[Wf] at E8;refine q v H' F4 A E8 wa ((s2.trans s3 Fh.chg).less (C:=G) ?_);rw[Z7];refine (ZQ F4 Z0).trans ?_;rw[<- Z7];refine (ZI A IN).trans ?_;rw[Z7];refine Z0.trans ?_;rw[Z7];refine Z0.trans ?_;rw[Z7,Z7];refine (ZQ A ?_);exact Z0
   ·cases h4
  ·cases hg
 ·cases hg
section
variable{X:Cx}
theorem fQ:∀ (H:Hp) (c:Vl) (x:V) (R:List Addr),Own H c x R->eg c=true->IB K "list" x H:=by
 intro H c x R h e;cases c with
 | lst ds=>obtain⟨a,xs,rfl,h1,_⟩:=h;exact .inl ⟨rfl,xs,D7.of h1⟩
 | EA ds=>obtain⟨a,xs,G,rfl,h1,_⟩:=h;exact .inl ⟨rfl,xs,D7.of h1⟩
 | _=>cases e
theorem qg:∀ (H:Hp) (c:Vl) (x:V) (R:List Addr),Own H c x R->me c=true->IB K "dict" x H:=by
 intro H c x R h e;cases c with
 | dK ds=>obtain⟨a,xs,rfl,h1,_⟩:=h;exact .inr (.inr<|.inl ⟨rfl,.inl ⟨xs,h1⟩⟩)
 | dT ds=>obtain⟨a,xs,rfl,h1,_⟩:=h;exact .inr (.inr<|.inl ⟨rfl,.inr ⟨xs,h1⟩⟩)
 | KF ks ds=>obtain⟨a,xs,G,rfl,h1,_⟩:=h;exact .inr (.inr<|.inl ⟨rfl,.inr ⟨xs,h1⟩⟩)
 | _=>cases e
theorem gG{mt:Vl->List Vl->Option (Vl×Vl)}{e:Expr}{es:List Expr}(G8:∀ H c x R,Own H c x R->ty c=true->IB X.K T x H)(pa:PlainAttrs T)(slot:Slot T name id)(ht:typeOf (.builtin id)=pure (.type "method_descriptor"))(hm:KH X id mt)(ho:PE X o (fC i))(ha:VA X (e::es) g)(Ei:attributeBase o name X.env (eval o X.env)=eval o X.env:=by rfl)(GB:((backTo x_<|starEach (e::es) X.env).all (fun x=>!x.1) && (backToKw x_<|keywordEach [] X.env).all (fun x=>x.1.isSome)
   && decide ((e::es).length+([]:List Keyword).length+(if ([]:List Keyword).isEmpty then 0 else 1)<30))=true:=by rfl)(Ej:(apos.endLine == x_.line)=true:=by rfl)(hs:starEach (e::es) X.env=(false,eval e X.env)::starEach es X.env:=by rfl)(Ez:(backTo x_<|starEach es X.env).any (·.1)=false:=by rfl):
  VE X (.Call (.Attribute o name apos) (e::es) [] x_) (cu ty i mt g):=
 aT (lu pa slot ht hm ho ha Ei GB Ej hs Ez) fun σ H Q h=>by
  obtain⟨x,hx,h1,h2⟩:=qf G8 h;exact⟨x,hx,h1,h2⟩
theorem yE{mt:Vl->List Vl->Option (Vl×Vl)}(G8:∀ H c x R,Own H c x R->ty c=true->IB X.K T x H)(pa:PlainAttrs T)(slot:Slot T name id)(ht:typeOf (.builtin id)=pure (.type "method_descriptor"))(hm:KH X id mt)(ho:PE X o (fC i))(Ei:attributeBase o name X.env (eval o X.env)=eval o X.env:=by rfl)(Ej:(apos.endLine == x_.line)=true:=by rfl):
  VE X (.Call (.Attribute o name apos) [] [] x_) (cu ty i mt aNil):=
 aT (wS pa slot ht hm ho Ei Ej) fun σ H Q h=>by
  obtain⟨x,hx,h1,h2⟩:=qf G8 h;refine⟨x,hx,h1,?_⟩;obtain⟨D,F,r,D',st,nd,hg,q⟩:=h2;cases hg;exact q [] H F [] st ⟨rfl,rfl⟩ (by rw[ZY];exact p_.perm nd (ZG _))
@[simp] def mAppend:Vl->List Vl->Option (Vl×Vl):=fun c ds=>match c,ds with
 | .lst xs,[.im d]=>if xs.length<100000 then some (.im .i_,.lst<|xs++[d]) else none
 | _,_=>none
theorem mf{n:Nat}(h:n<100000):n<sizeLine:=Zy h (by decide)
theorem mh:KH X "list.append" mAppend:=by
 intro pins s σ H x vs v us Q I rx rv ⟨c,ds,r,c',R,S,wc,wd,nd,e,q⟩;unfold mAppend at e;split at e
 ·split at e
  ·rename_i hl;cases e;obtain⟨a,ys,rfl,h1,h2,rfl⟩:=wc;obtain⟨y,t,S1,S2,rfl,⟨hy,rfl⟩,⟨rfl,rfl⟩,rfl⟩:=wd;have c:FV H a:=⟨_,h1,(fun _ e=>by cases e),(fun _ _ e=>by cases e)⟩;refine wV pins s σ H _ _ v us Q I rx rv ⟨a,ys,y,rfl,rfl,h1,mf (by rw[<- h2.length];exact hl),q .i_ _ [] [a] ⟨rfl,rfl⟩ ?_ (p_.chg (.head _) c (ZB _ _) fun x hx=>by simpa using hx)⟩;exact⟨a,_,rfl,bp,(h2.snoc hy).mono<|DK.Gi c,rfl⟩
  ·cases e
 ·cases e
@[simp] def mPop:Vl->List Vl->Option (Vl×Vl):=fun c ds=>match c,ds with
 | .lst xs,[]=>(xs.getLast?).map fun d=>(.im d,.lst xs.dropLast)
 | _,_=>none
theorem ar.last{ds:List Im}{xs:List V}{d:Im}(h:ar H ds xs)(e:ds.getLast?=some d):∃ v,xs[xs.length - 1]?=some v/\DK H d v/\ar H ds.dropLast xs.dropLast:=by
 rw[List.getLast?_eq_getElem?] at e;obtain⟨v,g1,g2⟩:=h.get e;refine⟨v,by rw[<- h.length];exact g1,g2,?_⟩;rw[List.dropLast_eq_take,List.dropLast_eq_take,<- h.length];exact h.take _
theorem yF:KH X "list.pop" mPop:=by
 intro pins s σ H x vs v us Q I rx rv ⟨c,ds,r,c',R,S,wc,wd,nd,e,q⟩;unfold mPop at e;split at e
 ·obtain⟨d,e1,e2⟩:=Z5.mp e;cases e2;obtain⟨a,ys,rfl,h1,h2,rfl⟩:=wc;obtain⟨rfl,rfl⟩:=wd;obtain⟨y,g1,g2,g3⟩:=h2.last e1;have c:FV H a:=⟨_,h1,(fun _ e=>by cases e),(fun _ _ e=>by cases e)⟩;refine wX pins s σ H _ _ v us Q I rx rv ⟨a,ys,y,rfl,rfl,h1,g1,q y _ [] [a] ⟨g2.mono<|DK.Gi c,rfl⟩ ?_ (p_.chg (.head _) c (ZB _ _) fun x hx=>by simpa using hx)⟩;exact⟨a,_,rfl,bp,g3.mono<|DK.Gi c,rfl⟩
 ·cases e
@[simp] def yG:Vl->List Vl->Option (Vl×Vl):=fun c ds=>match c,ds with
 | .lst xs,[.im (.int i)]=>if 0<=i/\i<xs.length then (xs[i.toNat]?).map fun d=>(.im d,.lst<|xs.eraseIdx i.toNat) else none
 | _,_=>none
@[simp] def mExtend:Vl->List Vl->Option (Vl×Vl):=fun c ds=>match c,ds with
 | .lst xs,[.lst ys]=>if xs.length+ys.length<=100000 then some (.im .i_,.lst<|xs++ys) else none
 | _,_=>none
theorem yH:KH X "list.extend" mExtend:=by
 intro pins s σ H x vs v us Q I rx rv ⟨c,ds,r,c',R,S,wc,wd,nd,e,q⟩;unfold mExtend at e;split at e
 ·split at e
  ·rename_i hl;cases e;obtain⟨a,ys,rfl,h1,h2,rfl⟩:=wc;obtain⟨y,t,S1,S2,rfl,⟨b,zs,rfl,h3,h4,rfl⟩,⟨rfl,rfl⟩,rfl⟩:=wd;have c:FV H a:=⟨_,h1,(fun _ e=>by cases e),(fun _ _ e=>by cases e)⟩;refine wW pins s σ H _ _ v us Q I rx rv ⟨a,b,ys,zs,rfl,rfl,h1,h3,eQ (by rw[<- h2.length,<- h4.length];exact hl),q .i_ _ [] [a] ⟨rfl,rfl⟩ ?_ (p_.chg (.head _) c (ZB _ _) fun x hx=>by
    rw[WU] at hx;exact ZJ _ hx)⟩
   exact⟨a,_,rfl,bp,(h2.app h4).mono<|DK.Gi c,rfl⟩
  ·cases e
 ·cases e
def jU(X:Cx)(pt:Vl->Vl->Vl->Option Vl):Prop:=
 kZ X fun o i v H Q=>∃ c k d c' R S,Own H c o R/\Own H k i []/\Own H d v S/\(R++S).Nodup/\pt c k d=some c'/\∀ H' R',Own H' c' o R'->p_ H (R++S) H' R'->Q H'
@[simp] def putV(c k d:Vl):Option Vl:=match c,k,d with
 | .lst xs,.im<|.int i,.im d=>(Je xs.length i).map fun j=>.lst (xs.set j d)
 | _,_,_=>none
theorem ar.set{H:Hp}{d:Im}{v:V}(w:DK H d v):∀ {ds:List Im}{xs:List V} (n:Nat),ar H ds xs->ar H (ds.set n d) (xs.set n v)
 | [],xs,n,h=>by cases (show xs=[] from h);exact rfl
 | e::ds,xs,0,h=>by obtain⟨u,r,rfl,h1,h2⟩:=h;exact⟨v,r,rfl,w,h2⟩
 | e::ds,xs,n+1,h=>by obtain⟨u,r,rfl,h1,h2⟩:=h;exact⟨u,_,rfl,h1,ar.set w n h2⟩
theorem qh:jU X putV:=by
 intro pins s σ H o i v ov iv u Q I ro ri rv ⟨c,k,d,c',R,S,wc,wk,wd,nd,e,q⟩;unfold putV at e;split at e
 ·obtain⟨j,e1,e2⟩:=Z5.mp e;cases e2;obtain⟨a,ys,rfl,h1,h2,rfl⟩:=wc;obtain⟨hd,rfl⟩:=wd;have c:FV H a:=⟨_,h1,(fun _ e=>by cases e),(fun _ _ e=>by cases e)⟩;refine wM pins s σ H _ _ _ ov iv u Q I ro ri rv ⟨a,ys,_,j,rfl,wk.1,h1,by rw[<- h2.length];exact e1,q _ [a] ?_ (p_.chg (.head _) c (ZB _ _) fun x hx=>by simpa using hx)⟩;exact⟨a,_,rfl,bp,(ar.set hd j h2).mono<|DK.Gi c,rfl⟩
 ·cases e
@[simp] def gIx(i:Nat)(gk:M Vl)(pt:Vl->Vl->Vl->Option Vl):MG:=fun d D=>match D[i]? with
 | some (some _)=>(gk D).bind fun p=>if p.1.cp=true then match p.2[i]? with
   | some (some c)=>(pt c p.1 d).map fun c'=>p.2.set i (some c')
   | _=>none
  else none
 | _=>none
theorem gH{fix:List Nat}{k:Expr}{gk:M Vl}{pt:Vl->Vl->Vl->Option Vl}{pos:Pos}(ho:PE X o (fC i))(hk:VE X k gk)(hp:jU X pt)(ha:∀ v,assign (.Subscript o k pos) X.env v=(do
   let ov <- holding [v] (eval o X.env)
   let iv <- holding [v,ov] (eval k X.env)
   standAt pos
   holding [v,ov,iv] (setItem ov iv v)
   release [v,ov,iv] []):=by intro _;rfl):VG X fix (.Subscript o k pos) (gIx i gk pt):=by
 refine lT (vA ho hk hp ha) fun v σ H Q ⟨D,F,d,R,D',st,ow,nd,hg,q⟩=>?_;unfold gIx at hg;split at hg
 ·rename_i c0 N4;obtain⟨x,A0,B0,hx,w0,_,_⟩:=st.out N4;obtain⟨⟨kd,D1⟩,h1,h2⟩:=Z8.mp hg;split at h2
  ·rename_i Q1;refine⟨x,hx,D,F,kd,D1,st,(ZP.mp nd).1,h1,fun kv H1 F1 RK u_ wk s1=>?_⟩;obtain rfl:=wk.cp Q1;rw[ZY] at s1;have Q2:=ZP.mp nd;dsimp only at h2;split at h2
   ·rename_i c hc;obtain⟨c',h5,h6⟩:=Z5.mp h2;cases h6;obtain⟨x',RC,F3,Gw,w1,Fh,Ly⟩:=u_.out hc;rw[hx] at Gw;cases Gw;have Q3:Own H1 d v R:=ow.mono s1.tup fun a ha o e=>s1.keep a o e fun h=>Q2.2.2 a h a ha rfl;have s2:p_ H (F++R) H1 ((RC++R)++F3):=by
     have e0:p_ H (F++R) H (F++R):=p_.perm nd (ZG _);have:=p_.trans (F1:=F) (R:=R) e0 s1 ow.chg;refine this.Ek ((ZI R Ly.symm).trans ?_);rw[Z7];exact Z0
    have Ip:=ZP.mp s2.nd;refine⟨c,kd,d,c',RC,R,w1,wk,Q3,Ip.1,h5,fun H' R' w' s3=>?_⟩;have FD:ak H' (D1.set i<|some .jk) σ F3:=Fh.mono s3.tup fun a ha o e=>s3.keep a o e fun h=>Ip.2.2 a h a ha rfl;obtain⟨F4,G,E8,IN⟩:=FD.back w' hx;rw[Wf] at E8;exact q σ H' F4 aG.refl E8 ((s2.trans s3 Fh.chg).less<|IN.trans Z0)
   ·cases h2
  ·cases h2
 ·cases hg
end
section
variable{prog:Program}{w:World}{A:Around}{E:Value->Shared->Prop}{s:Shared}
end
section
variable{X:Cx}
end
end L2
namespace L2
open PySem PySem.Spec PyProof.Rows PySem.W
variable{ns:List Int}{p:Array Nat}{α:Type}
theorem yI(l:List α)(d:α):(range l.length).map (fun i=>l.getD i d)=l:=by
 apply List.ext_getElem
 ·simp
 ·intro i h1 h2;simp[List.getD,h2]
theorem mo{l:List α}{d:α}(h:Rg l.length p):(p.toList.map fun i=>l.getD i d).Perm l:=by
 have:=List.Perm.map (fun i=>l.getD i d) h;rw[yI] at this;exact this
theorem mq{α β:Type}{F:α->β->Prop}:∀ {l₁:List α}{l₂:List β},l₁.length=l₂.length->(∀ (i:Nat) a b,l₁[i]?=some a->l₂[i]?=some b->F a b)->Paired F l₁ l₂
 | [],[],_,_=>.nil
 | a::l,b::m,h,f=>.cons (f 0 a b rfl rfl) (mq (by simpa using h) fun i x y h1 h2=>f (i+1) x y (by simpa using h1) (by simpa using h2))
 | [],_::_,h,_=>by simp at h
 | _::_,[],h,_=>by simp at h
section
variable{prog:Program}{w:World}{A:Around}{E:Value->Shared->Prop}{s:Shared}{vs:List Value}
theorem qi{B:Addr}{n0:Nat}{P:PySem.Fin->Shared->Prop}(key:Nat->Int)(κ:SortKind)(ho:s.heap.get? B=some (seqObj "list" vs.toArray n0))(s_:2<=vs.length->∀ h6:Heap,(∀ b o,b≠B->s.heap.get? b=some o->h6.get? b=some o)->∀ Q:SortKind->Shared->Prop,Q κ { s with heap:=h6 }->wpAny (model prog w) A (keyKind' vs.toArray) Q E { s with heap:=h6 })(J_:∀ h6:Heap,(∀ b o,b≠B->s.heap.get? b=some o->h6.get? b=some o)->cj vs.length key (kas_cmp prog w A κ<|vs.toArray.zip vs.toArray) { s with heap:=h6 })(inj:∀ i j,i<vs.length->j<vs.length->key i=key j->i=j)(up:vs.length<1001\/∀ j,1<=j->j<vs.length->key (j - 1)<=key j)(hz:vs.length<=1000)(h:∀ (p:Array Nat) (h':Heap),Rg vs.length p->Up key p vs.length->(∀ b o,b≠B->s.heap.get? b=some o->h'.get? b=some o)->(∃ e,h'.get? B=some (seqObj "list" (p.toList.map fun i=>vs.getD i Value.none).toArray e))->
   P (.done<|.ret .none) { s with heap:=h' }):wpAny (model prog w) A (Builtin.«list.sort» ⟨[.ref B],[]⟩) P E s:=by
 have Pw:vs.length<=sizeLine:=Zo hz (by decide);rw[list_sort_plain];have hB:B<s.heap.objs.size:=ZO ho;refine Z9 (listItems_at ho rfl (Z9 (listUpdate_at ho rfl ?_ (hsz:=by rw[ZS];exact Pw) (hsz2:=by show 0<=_;exact Ys _))));have N5:=get?_update_seq ho (fun _=>#[]);generalize N6:(if (#[]:Array Value).size == vs.toArray.size then n0 else n0+1)=e1 at N5;refine Z9 (seqEpoch_at N5 rfl (Z9 (wpAny_newTuple (Z9<|wpAny_newList<|YM ?_) (by simpa using Pw))));have k6:∀ b o,b≠B->s.heap.get? b=some o->(((s.heap.update B<|Obj.mapSeq fun _=>#[]).push<|seqObj "tuple" vs.toArray.toList.toArray 0).push<|seqObj "list" ([]:List Value).toArray 0).get? b=some o:=fun b o hb e=>
  Z2 _ (Z2 _<|(Yu _ _<|Yv hb).trans e);have o6:(((s.heap.update B<|Obj.mapSeq fun _=>#[]).push<|seqObj "tuple" vs.toArray.toList.toArray 0).push<|seqObj "list" ([]:List Value).toArray 0).get? B=some (seqObj "list" #[] e1):=
  Z2 _ (Z2 _ N5);show wpAny (model prog w) A _ P E { s with heap:=((s.heap.update B<|Obj.mapSeq fun _=>#[]).push<|seqObj "tuple" vs.toArray.toList.toArray 0).push (seqObj "list" ([]:List Value).toArray 0) };generalize ((s.heap.update B<|Obj.mapSeq fun _=>#[]).push<|seqObj "tuple" vs.toArray.toList.toArray 0).push (seqObj "list" ([]:List Value).toArray 0)=h6 at k6 o6 ⊢;have fin:∀ (st:SortSt) (p:Array Nat),Rg vs.length p->Up key p vs.length->arrOf st=p.map (kas_item<|vs.toArray.zip vs.toArray)->failedOf st=none->
   wpAny (model prog w) A (do
    let touched:=(<- seqEpoch B) != e1
    Builtin.List.listUpdate (.ref B) fun _=>(arrOf st).map (·.2)
    if let some e:=failedOf st then rule "list.sort.comparison-raised";throw e
    if touched then rule "list.sort.modified";raiseError "ValueError" "list modified during sort"
    ret .none) P E { s with heap:=h6 }:=fun st p r1 r2 r3 r4=>by
  have out:=kat_snds (ks:=vs) (vs:=vs) rfl r3;rw[out,r4];refine Z9 (seqEpoch_at (s:={ s with heap:=h6 }) o6 rfl (Z9 (listUpdate_at (s:={ s with heap:=h6 }) o6 rfl ?_ (hsz:=Ys _) (hsz2:=by
   show (List.toArray<|p.toList.map fun i=>vs.getD i Value.none).size<=_;rw[ZS,Z4,Zw,r1.size];lia))))
  simp only[bne_self_eq_false,Zc,X6];refine ZU (h p _ r1 r2 (fun b o hb e=>(Yu _ _<|Yv hb).trans<|k6 b o hb e) ⟨_,get?_update_seq o6 fun _=>_⟩)
 dsimp only;by_cases h2:vs.toArray.size<2
 ·rw[ZZ h2,ZZ h2];refine Z9 (ZU ?_);rw[StateT.run_pure];apply Z9;apply ZU;have J6:vs.length<2:=by simpa using h2
  refine fin (SortSt.mk' general' (vs.toArray.zip vs.toArray) #[] 7 none) (range vs.length).toArray (ZG _) (fun i j Ff hj=>?_) ?_ rfl
  ·have:i=j:=by lia
   subst this;exact XI _
  ·have:=kas_range (vs.toArray.zip vs.toArray);rw[show (vs.toArray.zip vs.toArray).size=vs.length by simp] at this;exact this.symm
 ·rw[ZW h2,ZW h2];have J6:2<=vs.length:=by simpa using h2
  refine Z9 (s_ J6 h6 k6 _ ?_)
  ·have cm:=J_ h6 k6;have kr:=kas_range (vs.toArray.zip vs.toArray);rw[show (vs.toArray.zip vs.toArray).size=vs.length by simp] at kr;have run:=xQ (E:=E) (Q:=fun _ st s'=>s'={ s with heap:=h6 }/\∃ p,Rg vs.length p/\Up key p vs.length/\arrOf st=p.map (kas_item<|vs.toArray.zip vs.toArray)/\failedOf st=none) cm
    inj J6 up fun p' e_ a b c d=>⟨rfl,p',a,b,c,d⟩;unfold kas_st at run;rw[kr] at run;refine Z9 (Y3 run (fun r s' hr=>?_) fun _ _ e=>e);obtain⟨u,st⟩:=r;obtain⟨rfl,p,r1,r2,r3,r4⟩:=hr;exact fin st p r1 r2 r3 r4
end
section
variable{X:Cx}{pins:List (Addr×Obj)}{σ:L2.St}{H:Hp}{s:Shared}
theorem qj(hc:X.calm=true){a:Addr}{ys:List V}{f_:List Value}{n:Nat}{T:String}{o:Obj}{Q:VK}(key:Nat->Int)(κ:SortKind)(I:Inv X pins σ H s)(rv:az ys f_)(hT:T = "list" \/ T = "tuple")(e:s.heap.get? a=some o)(eC:o.cls=.type T)(eD:o.data=.seq f_.toArray n)(hz:ys.length<=1000)(s_:2<=f_.length->∀ (h6:Heap) (tk:Nat),(∀ b o,s.heap.get? b=some o->h6.get? b=some o)->∀ (A:Around) (E:Value->Shared->Prop) (Q:SortKind->Shared->Prop),Q κ { s with heap:=h6,toks:=tk }->wpAny (model X.prog X.w) A (keyKind' f_.toArray) Q E { s with heap:=h6,toks:=tk })(J_:∀ (h6:Heap) (tk:Nat),(∀ b o,s.heap.get? b=some o->h6.get? b=some o)->cj f_.length key (kas_cmp X.prog X.w X.A.in1.in1 κ<|f_.toArray.zip f_.toArray) { s with heap:=h6,toks:=tk })(inj:∀ i j,i<f_.length->j<f_.length->key i=key j->i=j)(up:f_.length<1001\/∀ j,1<=j->j<f_.length->key (j - 1)<=key j)(q:∀ (p:Array Nat) l,Rg f_.length p->Up key p f_.length->H l=none->Q (.ref l) (upd H l<|.lst<|p.toList.map fun i=>ys.getD i .i_)):
  wpAny (model X.prog X.w) X.A (call (.builtin "sorted") [.ref a]) (EP X pins σ Q) X.xe s:=by
 have hl:ys.length=f_.length:=rv.length;have LE:f_.length<=sizeLine:=Zo (by lia) (show 1000<=sizeLine by decide);refine Calls.call_function_entry kind_sorted plain_sorted entry_sorted (args_sorted1 _) ?z
 case z=>
  unfold Builtin.«sorted»;refine Z9 (m:=checkCount "sorted" 1 1 _) (ZU (Z9 (wpAny_collect_seq a hT e eC eD (fun h' Ka=>?_) (by rw[ZS];exact LE))));show wpAny _ _ (newList f_ >>= _) _ _ _;refine Z9 (wpAny_newList ?_ LE);have oB:(h'.push<|seqObj "list" f_.toArray 0).get? h'.objs.size=some (seqObj "list" f_.toArray 0):=ZE _ rfl;have kB:∀ b o,s.heap.get? b=some o->(h'.push<|seqObj "list" f_.toArray 0).get? b=some o:=fun b o e=>Z2 _ (Ka b o e);have I1:Inv X pins σ H { s with heap:=h' }:=I.kept (t':=s.toks) Ka;have nB:∀ b o,s.heap.get? b=some o->b≠h'.objs.size:=fun b o e=>Zx (ZO<|Ka b o e);refine Z9 (YM<|Y2 slot_list_sort ⟨_,oB,rfl⟩ entry_list_sort ?y<|args_list_sort _)
  case y=>
   refine qi (s:={ s with heap:=h'.push (seqObj "list" f_.toArray 0) }) key κ oB (fun h2 h6 k6 Q hq=>s_ h2 h6 s.toks (fun b o eb=>k6 b o (nB b o eb)<|kB b o eb) _ _ Q hq) (fun h6 k6=>J_ h6 s.toks fun b o eb=>k6 b o (nB b o eb)<|kB b o eb) inj up (by lia) fun p h2 r1 r2 k2 ⟨e9,N7⟩=>⟨_,rfl,ZU ⟨_,rfl,?_⟩⟩;have fB:H h'.objs.size=none:=I1.m_.fresh (ZR _);have N8:∀ b o,h'.get? b=some o->b≠h'.objs.size:=fun b o e=>Zx (ZO e);refine⟨.ref h'.objs.size,upd H h'.objs.size<|.lst<|p.toList.map fun i=>ys.getD i .i_,?_,rfl,q p _ r1 r2 fB⟩;refine I1.laid (t':=s.toks) (fun b u e=>k2 b u (N8 b u e)<|Z2 _ e) (ZR _) ⟨?_,_,e9,?_,N7⟩
   ·rw[Z4,Zw,r1.size];lia
   ·refine mq (by simp) fun i v u h1 h2=>?_;rw[Zq] at h1 h2;cases Kb:p.toList[i]? with
    | none=>rw[Kb] at h1;cases h1
    | some k=>
     rw[Kb] at h1 h2;cases h1;cases h2;have hk:k<f_.length:=Zp.mp (r1.mem_iff.mp<|YX Kb);obtain⟨u,h3,h4⟩:=rv.get (i:=k) (x:=ys[k]'(by lia)) (by simp[show k<ys.length by lia]);rw[ZL hk] at h3;have h3:=Zv h3;simp only[List.getD,ZL hk,ZL (show k<ys.length by lia),Xb];rw[h3];exact h4
end
def gI(ns:List Int)(i:Nat):Int:=ns.getD i 0
theorem qk(nd:ns.Nodup):∀ i j,i<ns.length->j<ns.length->gI ns i=gI ns j->i=j:=fun i j hi hj e=>by
 unfold gI at e;rw[Z6,Z6,ZL hi,ZL hj] at e;have e':ns[i]=ns[j]:=e;rcases Nat.lt_trichotomy i j with h | h | h
 ·exact absurd e' ((YU.mp nd) i j hi hj h)
 ·exact h
 ·exact absurd e'.symm ((YU.mp nd) j i hj hi h)
theorem Q4(hp:Rg ns.length p)(up:Up (gI ns) p ns.length)(nd:ns.Nodup):(p.toList.map fun i=>ns.getD i 0).Pairwise (· < ·):=by
 rw[YU];intro i j hi hj Ff;have hs:=hp.size;have G_:i<ns.length:=by simpa [hs] using hi
 have Jl:j<ns.length:=by simpa [hs] using hj
 have ne:=hp.ne (qk nd) Ff Jl;have le:=up i j (by lia) Jl;have g:∀ k (hk:k<(p.toList.map fun i=>ns.getD i 0).length),(p.toList.map fun i=>ns.getD i 0)[k]=z_ (gI ns) p k:=fun k hk=>by
  have HI:k<p.size:=by simpa using hk
  rw[Xa,Array.getElem_toList];show _=ns.getD (p.getD k 0) 0;simp[Array.getD,HI]
 rw[g i hi,g j hj];lia
section
variable{X:Cx}
theorem jV{H:Hp}:∀ {ns:List Int}{f_:List Value},az (ns.map V.int) f_->∀ (i:Nat),i<ns.length->∃ t,f_[i]?=some (.int (ns.getD i 0) t)
 | n::r,_,.cons a b,0,h=>by obtain⟨t,rfl⟩:=a;exact⟨t,rfl⟩
 | n::r,_,.cons a b,i+1,h=>by
  obtain⟨t,e⟩:=jV (H:=H) b i (by simpa using h);exact⟨t,by simpa using e⟩
theorem yJ(hc:X.calm=true):bb X (.builtin "sorted") (fun xs H Q=>∃ (a:Addr) (ns:List Int),xs=[.ref a]/\H a=some (.lst<|ns.map V.int)/\ns.Nodup/\ns.length<=1000/\
  ∀ l (M1:List Int),H l=none->M1.Perm ns->M1.Pairwise (· < ·)->Q (.ref l) (upd H l<|.lst<|M1.map V.int)):=by
 intro pins s σ H xs us Q I r h;obtain⟨a,ns,rfl,ha,nd,hz,q⟩:=h;obtain⟨u,rfl,ru⟩:=cK r;cases ru;obtain⟨z,f_,n,rv,e⟩:=I.m_ a _ ha;have li:f_.length=ns.length:=by rw[<- rv.length,Z4]
 refine qj hc (gI ns) oneType' I rv (.inl rfl) e rfl rfl (by rw[Z4];exact hz) (fun h2 h6 tk k A E Q hq=>?_) (fun h6 tk k=>?_) (by rw[li];exact qk nd) (.inl (by lia)) fun p l r1 r2 fl=>?_
 ·refine kas_kind (T:=Value.type "int") h2 (fun v hv=>?_) (by decide) (by decide) hq;obtain⟨i,hi⟩:=List.getElem?_of_mem hv;obtain⟨t,ht⟩:=jV (H:=H) rv i (by rw[<- li];exact (Zz.mp hi).1);rw[hi] at ht;cases ht;exact Looks.of_pure rfl
 ·intro i j C hi hj q;obtain⟨t,h1⟩:=jV (H:=H) rv i (by lia);obtain⟨u,h2⟩:=jV (H:=H) rv j (by lia);unfold kas_cmp;rw[kat_item rfl,kat_item rfl,Z6,Z6,h1,h2];show wpAny _ _ (keyLt' oneType' (.int _ t)<|.int _ u) _ _ _;rw[keyLt'_oneType];exact oneLt_int q
 ·rw[li] at r1 r2;have e2:(p.toList.map fun i=>(ns.map V.int).getD i .i_)=(p.toList.map fun i=>ns.getD i 0).map V.int:=by
   rw[YV];refine XW fun k hk=>?_;have HI:k<ns.length:=Zp.mp (r1.mem_iff.mp hk);show (ns.map V.int).getD k .i_=V.int (ns.getD k 0);simp[List.getD,HI]
  rw[e2];exact q l _ fl (mo r1) (Q4 r1 r2 nd)
end
end L2
namespace L2
open PySem PySem.Spec PyProof.Rows
section
variable{X:Cx}
def cW:List Im->List Im->List Im
 | x::xs,y::ys=>.tup [x,y]::cW xs ys
 | _,_=>[]
theorem ql:∀ (xs ys:List Im),(cW xs ys).length=min xs.length ys.length
 | [],ys=>by simp[cW]
 | x::xs,[]=>by simp[cW]
 | x::xs,y::ys=>by simp[cW,ql xs ys]
theorem qm:∀ (xs ys:List Im) (i:Nat) (d:Im),(cW xs ys)[i]?=some d->∃ x y,xs[i]?=some x/\ys[i]?=some y/\d=.tup [x,y]
 | [],ys,i,d,h=>by simp[cW] at h
 | x::xs,[],i,d,h=>by simp[cW] at h
 | x::xs,y::ys,0,d,h=>by simp[cW] at h;exact⟨x,y,rfl,rfl,h.symm⟩
 | x::xs,y::ys,i+1,d,h=>by
  obtain⟨a,b,h1,h2,h3⟩:=qm xs ys i d (by simpa [cW] using h);exact⟨a,b,by simpa using h1,by simpa using h2,h3⟩
@[simp] def iZ(g:M (List Opd)):MI:=fun D=>(g D).bind fun p=>(dh p.2 p.1).bind fun ds=>match ds with
 | [.im (.tup x),.im<|.tup y]=>some ((cW x y,none),p.2)
 | _=>none
theorem yK{K:PySem.W.Frag}{H:Hp}{a b:Addr}{xs ys:List V}{ds es:List Im}(h:H a=some (.tup xs))(hd:ar H ds xs)(h':H b=some (.tup ys))(E6:ar H es ys):Gh (MU K a b) H [] (cW ds es) where
 go:=fun H' t k i d e=>by
  obtain⟨x,y,e1,e2,rfl⟩:=qm ds es i d e;obtain⟨v,g1,g2⟩:=hd.get e1;obtain⟨u,k1,k2⟩:=E6.get e2;have q1:=DG.of (K:=K) (t.tup a _ h);have q2:=DG.of (K:=K) (t.tup b _ h');refine⟨⟨xs,ys,v,u,q1,q2,g1,k1⟩,fun z Jn ⟨T,x',y',f,ez,eH,y1,y2⟩=>?_⟩;subst ez eH;have z1:=y1 xs q1;have z2:=y2 ys q2;rw[g1] at z1;rw[k1] at z2;cases z1;cases z2;have s:aF H' (upd H' T<|.tup [v,u]):=(aF.refl H').upd f;exact⟨s,T,[v,u],rfl,bp,⟨v,[u],rfl,(g2.mono t.tup).mono s.tupS.tup,u,[],rfl,(k2.mono t.tup).mono s.tupS.tup,rfl⟩⟩
 stop:=fun H' t k=>⟨xs,ys,DG.of<|t.tup a _ h,DG.of<|t.tup b _ h',by rw[ql,<- hd.length,<- E6.length];lia⟩
theorem yL{a b:Expr}{g:M (List Opd)}{p pos:Pos}{es:List Expr}{ek:Nat}{ps:Pos}(hg:Gl X "zip")(hm:X.mg "zip" = none)(ha:VA X [a,b] g)(hs:starEach [a,b] X.env=[(false,eval a X.env),(false,eval b X.env)]:=by rfl)(Io:starEach [b] X.env=[(false,eval b X.env)]:=by rfl):
  VI X (.Tuple es ek ps) (.Call (.Name "zip" p) [a,b] [] pos) (iZ g):=by
 refine lU (xW hg hm ha hs Io) fun σ H Rk ⟨D,F,r,D',st,nd,Fm,q⟩=>?_;obtain⟨⟨os,D1⟩,h1,h2⟩:=Z8.mp Fm;obtain⟨ds,h3,h4⟩:=Z8.mp h2;refine⟨D,F,os,D1,st,nd,h1,fun vs H1 F1 R1 u_ o1 s1=>?_⟩;have rd:=o1.read u_ h3;split at h4
 ·cases h4;obtain⟨v,u,rfl,e,e'⟩:=yl rd;obtain⟨a,xs,rfl,k1,k2⟩:=e;obtain⟨b,ys,rfl,k3,k4⟩:=e';exact⟨a,b,rfl,⟨xs,DG.of k1⟩,⟨ys,DG.of k3⟩,q _ H1 F1 [] u_ (yK k1 k2 k3 k4) trivial (fun a ha=>nomatch ha) (by rw[ZY];exact s1.both)⟩
 ·cases h4
@[simp] def CU:OpN:=fun ds=>match ds with
 | [.im (.int i),.im<|.int j,.im<|.int k]=>some (.im<|.int<|min (min i j) k)
 | _=>none
def eZ(lt:Im->Im->Bool)(x:Im):List Im->List Im
 | []=>[x]
 | y::r=>if lt x y=true then x::y::r else y::eZ lt x r
def da(lt:Im->Im->Bool):List Im->List Im
 | []=>[]
 | x::r=>eZ lt x (da lt r)
def ltI:Im->Im->Bool
 | .int i,.int j=>decide (i<j)
 | _,_=>false
def Fp:List Im->Option (List Int)
 | []=>some []
 | .int i::r=>(Fp r).map fun s=>i::s
 | _::_=>none
@[simp] def vSorted:OpN:=fun ds=>match ds with
 | [.lst x]=>(Fp x).bind fun ns=>if ns.Nodup/\ns.length<=1000 then some (.lst<|da ltI x) else none
 | _=>none
def e8(x:Int):List Int->List Int
 | []=>[x]
 | y::r=>if x<y then x::y::r else y::e8 x r
def gJ:List Int->List Int
 | []=>[]
 | x::r=>e8 x (gJ r)
theorem qo(x:Int):∀ l:List Int,eZ ltI (.int x) (l.map .int)=(e8 x l).map .int
 | []=>rfl
 | y::r=>by
  rw[ZF,eZ,e8,ltI];by_cases h:x<y
  ·rw[ZZ (by simpa using h),ZZ h];rfl
  ·rw[ZW (by simpa using h),ZW h,qo x r];rfl
theorem qp:∀ l:List Int,da ltI (l.map .int)=(gJ l).map .int
 | []=>rfl
 | x::r=>by rw[ZF,da,qp r,qo];rfl
theorem mv(x:Int):∀ l:List Int,(e8 x l).Perm (x::l)
 | []=>ZG _
 | y::r=>by
  rw[e8];split
  ·exact ZG _
  ·exact ((mv x r).cons y).trans (List.Perm.swap x y r)
theorem mw:∀ l:List Int,(gJ l).Perm l
 | []=>ZG _
 | x::r=>(mv x _).trans ((mw r).cons x)
theorem qq(x:Int):∀ l:List Int,l.Pairwise (·<=·)->(e8 x l).Pairwise (·<=·)
 | [],_=>ZB _ _
 | y::r,h=>by
  obtain⟨h1,h2⟩:=Zj.mp h;rw[e8];split
  ·rename_i Q5;refine Zj.mpr ⟨fun z hz=>?_,h⟩;rcases ZT.mp hz with rfl | hz
   ·lia
   ·have:=h1 z hz;lia
  ·rename_i Q5;refine Zj.mpr ⟨fun z hz=>?_,qq x r h2⟩;rcases ZT.mp ((mv x r).mem_iff.mp hz) with rfl | hz
   ·lia
   ·exact h1 z hz
theorem qr:∀ l:List Int,(gJ l).Pairwise (·<=·)
 | []=>List.Pairwise.nil
 | x::r=>qq x _ (qr r)
theorem yM{l:List Int}(h:l.Nodup):(gJ l).Pairwise (· < ·):=by
 have h1:=qr l;have h2:(gJ l).Nodup:=(mw l).nodup_iff.mpr h;exact List.Pairwise.imp₂ (fun a b x y=>by lia) h1 h2
theorem qu:∀ {l m:List Int},l.Perm m->l.Pairwise (· < ·)->m.Pairwise (· < ·)->l=m
 | [],m,h,_,_=>h.nil_eq
 | a::l,[],h,_,_=>absurd h.length_eq (by simp)
 | a::l,b::m,h,hl,hm=>by
  have Gq:=Zj.mp hl;have N9:=Zj.mp hm;have e:a=b:=by
   rcases ZT.mp (h.mem_iff.mp<|.head _) with z | z
   ·exact z
   ·rcases ZT.mp (h.mem_iff.mpr<|.head _) with y | y
    ·exact y.symm
    ·have h1:=Gq.1 b y;have h2:=N9.1 a z;lia
  subst e;rw[qu h.cons_inv Gq.2 N9.2]
theorem qv:∀ {x:List Im}{ns:List Int},Fp x=some ns->x=ns.map .int
 | [],ns,h=>by cases h;rfl
 | .int i::r,ns,h=>by
  rw[Fp] at h;obtain⟨s,h1,rfl⟩:=Z5.mp h;rw[qv h1];rfl
 | .i_::_,_,h=>by cases h
 | .bl _::_,_,h=>by cases h
 | .str _::_,_,h=>by cases h
 | .tup _::_,_,h=>by cases h
 | .fn _::_,_,h=>by cases h
 | .fl _::_,_,h=>by cases h
 | .fd::_,_,h=>by cases h
theorem qw{H:Hp}:∀ {ns:List Int}{vs:List V},ar H (ns.map .int) vs->vs=ns.map V.int
 | [],vs,h=>h
 | n::r,vs,h=>by
  obtain⟨v,t,rfl,h1,h2⟩:=h;cases (show v=.int n from h1);rw[qw h2];rfl
theorem qx{H:Hp}:∀ ns:List Int,ar H (ns.map .int) (ns.map V.int)
 | []=>rfl
 | n::r=>⟨.int n,_,rfl,rfl,qx r⟩
theorem yN(hc:X.calm=true)(hu:X.A.units+20<cLine):cU X (.builtin "sorted") vSorted:=by
 refine (yJ hc).imp fun xs H Q ⟨ds,d,rd,e,q⟩=>?_;unfold vSorted at e;split at e
 ·rename_i x;obtain⟨ns,e1,e2⟩:=Z8.mp e;split at e2
  ·rename_i hn;cases e2;obtain⟨v,rfl,_,p,xs,rfl,h1,h2,_⟩:=bR rd;cases qv e1;cases qw h2;refine⟨p,ns,rfl,h1,hn.1,hn.2,fun l M1 fl pm up=>?_⟩;rw[qp] at q;rw[qu (pm.trans (mw ns).symm) up (yM hn.1)];exact Out.l q fl (qx _)
  ·cases e2
 ·cases e
theorem qy(hu:X.A.units+20<cLine):jU X putV:=qh
end
variable{Fq body:List Stmt}{b0 st:Stmt}{IP x_ cp np IQ pos' pos p:Pos}{y x0 qual x:Str}{CM C L e f a:Addr}{q pins:List (Addr×Obj)}{EE:Value->Shared->Prop}{t:TS}{hs:List ExceptHandler}{h0:ExceptHandler}{D:Ends}{R:SD->SD->Prop}{s s0:Shared}{σ:St}{E:XK}{outer l:List Env}{A:Around}{cd a0:Value}{H0 H:Hp}{Q:Unit->Shared->Prop}{vs:Array Value}{oe:Obj}{h' h:Heap}{S:List Addr}{w:World}{P:Program}{m k i n:Nat}{N own ps:List Str}{gc:M Bool}{fix caps:List Nat}{scope:Scope}{ifs es:List Expr}{elt iter tg:Expr}{κ:Type}{G:Fn}{g:M (List Opd)}{K:PySem.W.Frag}
def iE:List (Addr×Obj)->Bool
 | []=>true
 | (_,o)::r=>(match o.data with
  | .seq _ _=>(match o.cls with | .type n=>n != "list" | _=>true)
  | _=>true) && iE r
theorem yO{K:List (Addr×Obj)}{o:Obj}{f_:Array Value}(h:iE K=true)(e:K.lookup a=some o)(hc:o.cls=.type "list")(hd:o.data=.seq f_ n):False:=by
 induction K with
 | nil=>cases e
 | cons p r ih=>
  obtain⟨b,x⟩:=p;rw[iE,ZV] at h;simp only[List.lookup] at e;split at e
  ·cases e;have h1:=h.1;rw[hd] at h1;dsimp only at h1;rw[hc] at h1;exact absurd h1 (by decide)
  ·exact ih h.2 e
theorem qz{H:Hp}:∀ ns:List Int,ar H (ns.map .int) (ns.map V.int)
 | []=>rfl
 | n::r=>⟨.int n,_,rfl,rfl,qz r⟩
theorem yP(hK:iE K=true)(H:Hp)(a:Addr)(ns:List Int)(hO:jA H)(hS:D7 K H a (ns.map V.int))(ht:∃ outs,G [.fz (ns.map .int)]=some (.im<|.bl true,outs)){E:XK}:GS 1 G [.ref a] H (fun v _=>v=.bl true) E:=by
 obtain⟨outs,ht⟩:=ht;have hf:∃ o,H a=some (.Es o<|.lst<|ns.map V.int):=by
  rcases hS with (h | h) | ⟨o,f_,n,h1,h2,h3,h4,_⟩
  ·rcases hO a with e | ⟨o,xs,e⟩
   ·rw[e] at h;cases h
   ·rw[e] at h;cases h
  ·exact h
  ·exact (yO hK h1 h2 h4).elim
 obtain⟨o,ho⟩:=hf;refine⟨rfl,[.fz (ns.map .int)],[],.im<|.bl true,outs,⟨_,_,[],[],rfl,⟨a,_,o,rfl,ho,qz ns,rfl⟩,⟨rfl,rfl⟩,rfl⟩,XA,ht,fun v H' R R' h _ _=>?_⟩;exact h.1
theorem dY{us:List Value}(h:us.length=n+1):∃ a r,us=a::r/\r.length=n:=by
 cases us with
 | nil=>cases h
 | cons a r=>exact⟨a,r,rfl,Nat.succ.inj h⟩
theorem Fi.Kc{fd:FuncData}(F:Fi K x qual st f fd)(h:∀ (kV doc pm:Value) (an:Option Addr) (o_ ct:Value) (a:Value),bindArgs (PySem.W.fnOf x qual (cN st) (bA st) (au st) .none kV doc pm an o_ ct) ⟨[a],[]⟩=pure (ps.zip [a]))(hp:ps.length=1:=by rfl):cf K fd ps []:=
 F.binds fun kV doc pm an o_ ct us hl=>by
  replace hl:=hl.trans hp;obtain⟨a,u1,rfl,h1⟩:=dY hl;obtain rfl:=YT h1;exact h kV doc pm an o_ ct a
theorem Fi.Kd{fd:FuncData}(F:Fi K x qual st f fd)(h:∀ (kV doc pm:Value) (an:Option Addr) (o_ ct:Value) (a b:Value),bindArgs (PySem.W.fnOf x qual (cN st) (bA st) (au st) .none kV doc pm an o_ ct) ⟨[a,b],[]⟩=pure (ps.zip [a,b]))(hp:ps.length=2:=by rfl):cf K fd ps []:=
 F.binds fun kV doc pm an o_ ct us hl=>by
  replace hl:=hl.trans hp;obtain⟨a,u1,rfl,h1⟩:=dY hl;obtain⟨b,u2,rfl,h2⟩:=dY h1;obtain rfl:=YT h2;exact h kV doc pm an o_ ct a b
theorem Fi.Ke{fd:FuncData}(F:Fi K x qual st f fd)(h:∀ (kV doc pm:Value) (an:Option Addr) (o_ ct:Value) (a b c:Value),bindArgs (PySem.W.fnOf x qual (cN st) (bA st) (au st) .none kV doc pm an o_ ct) ⟨[a,b,c],[]⟩=pure (ps.zip [a,b,c]))(hp:ps.length=3:=by rfl):cf K fd ps []:=
 F.binds fun kV doc pm an o_ ct us hl=>by
  replace hl:=hl.trans hp;obtain⟨a,u1,rfl,h1⟩:=dY hl;obtain⟨b,u2,rfl,h2⟩:=dY h1;obtain⟨c,u3,rfl,h3⟩:=dY h2;obtain rfl:=YT h3;exact h kV doc pm an o_ ct a b c
theorem Fi.Kf{fd:FuncData}(F:Fi K x qual st f fd)(h:∀ (kV doc pm:Value) (an:Option Addr) (o_ ct:Value) (a b c d:Value),bindArgs (PySem.W.fnOf x qual (cN st) (bA st) (au st) .none kV doc pm an o_ ct) ⟨[a,b,c,d],[]⟩=pure (ps.zip [a,b,c,d]))(hp:ps.length=4:=by rfl):cf K fd ps []:=
 F.binds fun kV doc pm an o_ ct us hl=>by
  replace hl:=hl.trans hp;obtain⟨a,u1,rfl,h1⟩:=dY hl;obtain⟨b,u2,rfl,h2⟩:=dY h1;obtain⟨c,u3,rfl,h3⟩:=dY h2;obtain⟨d,u4,rfl,h4⟩:=dY h3;obtain rfl:=YT h4;exact h kV doc pm an o_ ct a b c d
section
variable{prog:Program}{w:World}{A:Around}{E:Value->Shared->Prop}{s:Shared}
end
section
variable{X:Cx}
end
section
variable{X:Cx}
end
section
variable{X:Cx}
def iF:Im->Option Key
 | .int i=>some (.inl i)
 | .str x=>some (.inr x)
 | _=>none
@[simp] theorem CV(i:Int):iF (.int i)=some (.inl i):=rfl
@[simp] theorem CW(x:Str):iF (.str x)=some (.inr x):=rfl
def kI:Key->Im
 | .inl i=>.int i
 | .inr x=>.str x
@[simp] theorem CY(i:Int):kI (.inl i)=.int i:=rfl
@[simp] theorem CZ(x:Str):kI (.inr x)=.str x:=rfl
theorem yQ{d:Im}{v:V}{k:Key}(h:DK H d v)(e:iF d=some k):v=kV k:=by
 cases d with
 | int i=>cases e;exact h
 | str x=>cases e;exact h
 | _=>cases e
def dk{κ:Type}[DecidableEq κ](kvs:List (κ×Im))(k:κ)(d:Im):List (κ×Im):=
 if (kvs.any fun kv=>decide (kv.1=k))=true then kvs.map (fun kv=>if kv.1=k then (kv.1,d) else kv) else kvs++[(k,d)]
theorem Ev.any[DecidableEq κ]{H:Hp}{k:κ}{l:List (κ×Im)}{m:List (κ×V)}(h:Ev H l m):(l.any fun kv=>decide (kv.1=k))=(m.any fun kv=>decide (kv.1=k)):=by
 unfold Ev at h;induction h with
 | nil=>rfl
 | cons r _ ih=>rw[X2,X2,ih,r.1]
theorem Ev.upd[DecidableEq κ]{H:Hp}{k:κ}{d:Im}{v:V}(w:DK H d v){l:List (κ×Im)}{m:List (κ×V)}(h:Ev H l m):Ev H (l.map fun kv=>if kv.1=k then (kv.1,d) else kv) (m.map fun kv=>if kv.1=k then (kv.1,v) else kv):=by
 unfold Ev at h;induction h with
 | nil=>exact .nil
 | @cons p q _ _ r _ ih=>
  rw[ZF,ZF];refine .cons ?_ ih;by_cases e:p.1=k
  ·have e':q.1=k:=r.1.symm.trans e;rw[ZZ e,ZZ e'];exact⟨r.1,w⟩
  ·have e':¬ q.1=k:=fun z=>e (r.1.trans z);rw[ZW e,ZW e'];exact r
theorem yR{α β:Type}{F:α->β->Prop}{l:List α}{m:List β}{a:α}{b:β}(h:Paired F l m)(x:F a b):Paired F (l++[a]) (m++[b]):=by
 induction h with
 | nil=>exact .cons x .nil
 | cons r _ ih=>exact .cons r ih
theorem Ev.put[DecidableEq κ]{H:Hp}{k:κ}{d:Im}{v:V}(w:DK H d v){l:List (κ×Im)}{m:List (κ×V)}(h:Ev H l m):Ev H (dk l k d) (br m k v):=by
 unfold dk br;rw[h.any];split
 ·exact h.upd w
 ·exact yR h ⟨rfl,w⟩
@[simp] def eDict0T:M Vl:=fun D=>some (.dT [],D)
theorem jW:VE X (.Dict [] [] pos) eDict0T:=by
 refine aT xf fun σ H Q ⟨D,F,r,D',st,nd,Fm,q⟩ p hp=>?_;cases Fm;have s:aF H (L2.upd H p<|.dT []):=(aF.refl H).upd hp;have s1:p_ H F H (F++[]):=by rw[ZY];exact p_.perm nd (ZG _)
 exact q _ _ F [p] (st.mono s.tupS fun a _ o e=>s a o e) ⟨p,[],rfl,bp,.nil,rfl⟩ (s1.new s (ZB _ _) (fun a ha=>by rw[ZX.mp ha];exact hp) st.chg)
@[simp] def Da(gk gv:M Vl):M Vl:=fun D=>(gk D).bind fun p=>(gv p.2).bind fun q=>match p.1,q.1 with
 | .im k,.im d=>(iF k).map fun k'=>(.dK [(k',d)],q.2)
 | _,_=>none
@[simp] def putA(c k d:Vl):Option Vl:=match c,k,d with
 | .lst xs,.im<|.int i,.im d=>(Je xs.length i).map fun j=>.lst (xs.set j d)
 | .dK kvs,.im k,.im d=>(iF k).bind fun k'=>if kvs.length<100000 then some (.dK<|dk kvs k' d) else none
 | .dT kvs,.im<|.tup k,.im d=>if Im.keys 7 k=true/\kvs.length<100000 then some (.dT<|dk kvs k d) else none
 | _,_,_=>none
theorem jX(hu:X.A.units+20<cLine):jU X putA:=by
 intro pins s σ H o i v ov iv u Q I ro ri rv ⟨c,k,d,c',R,S,wc,wk,wd,nd,e,q⟩;unfold putA at e;split at e
 ·exact qh pins s σ H o i v ov iv u Q I ro ri rv ⟨_,_,_,c',R,S,wc,wk,wd,nd,e,q⟩
 ·obtain⟨k',e1,e2⟩:=Z8.mp e;split at e2
  ·rename_i hl;cases e2;obtain⟨a,ys,rfl,h1,h2,rfl⟩:=wc;obtain⟨hd,rfl⟩:=wd;have c:FV H a:=⟨_,h1,(fun _ e=>by cases e),(fun _ _ e=>by cases e)⟩;cases ro;have hy:=yQ wk.1 e1;subst hy;refine oM hu I (fF.k h1 (by rw[<- h2.length];exact mf hl)) ri rv fun s' I'=>⟨_,I',q _ [a] ?_ (p_.chg (.head _) c (ZB _ _) fun x hx=>by simpa using hx)⟩;exact⟨a,_,rfl,bp,(Ev.put hd h2).mono<|DK.Gi c,rfl⟩
  ·cases e2
 ·split at e
  ·rename_i hl;cases e;obtain⟨a,ys,rfl,h1,h2,rfl⟩:=wc;obtain⟨hd,rfl⟩:=wd;have c:FV H a:=⟨_,h1,(fun _ e=>by cases e),(fun _ _ e=>by cases e)⟩;cases ro;obtain⟨b,xs,rfl,k1,k2⟩:=wk.1;refine oM hu I (fF.t h1 ⟨hl.1,b,xs,rfl,k1,k2⟩ (by rw[<- h2.length];exact mf hl.2)) ri rv fun s' I'=>⟨_,I',q _ [a] ?_ (p_.chg (.head _) c (ZB _ _) fun x hx=>by simpa using hx)⟩;exact⟨a,_,rfl,bp,(Ev.put hd h2).mono<|DK.Gi c,rfl⟩
  ·cases e
 ·cases e
end
section
variable{X:Cx}
def qA:Opd->Vl->Option (Nat×Vl)
 | .sl i,d=>some (i,d)
 | .vl _,_=>none
@[simp] theorem Db(i:Nat)(d:Vl):qA (.sl i) d=some (i,d):=rfl
@[simp] theorem Dc(c d:Vl):qA (.vl c) d=none:=rfl
end
section
variable{prog:Program}{w:World}{A:Around}{E:Value->Shared->Prop}{s:Shared}
end
section
variable{X:Cx}
end
section
variable{X:Cx}
end
section
variable{prog:Program}{w:World}{A:Around}{E:Value->Shared->Prop}{s:Shared}
end
section
variable{prog:Program}{w:World}{A:Around}{E:Value->Shared->Prop}{s:Shared}
end
section
variable{X:Cx}
end
section
variable{X:Cx}
end
section
variable{X:Cx}
end
section
variable{X:Cx}
theorem yS{i0:Nat}{wi:TI}{g:HF->TG}{tt:HF->TT}{te:HF->TE}(hN:X.N.Nodup)(N_:X.N[i0]?=some x0)(Oa:Loc X.env.scope x0)(hc:X.calm=true)(S:r_ X scope own caps)(hi:PI X tg iter wi)(hg:∀ Y,PG (X.FT (bL X own caps) scope Y) tg<|g Y)(ht:∀ Y,K' (X.FT (bL X own caps) scope Y) ifs<|tt Y)(he:∀ Y,PE (X.FT (bL X own caps) scope Y) elt<|te Y)(hs:∀ x,foldedSetIterable iter X.env x=pure x:=by intro _;rfl)(Ob:swapsWith (.ListComp elt [⟨tg,iter,ifs,0⟩] scope pos) (some<|.Name x0 pos') IQ.line X.env=pure true:=by rfl)(LF:X.fn x0=true\/X.env.scope.names.lookup x0=some .local:=by first | exact .inl rfl | exact .inr rfl | assumption):
  PS X (.Assign [.Name x0 pos'] (.ListComp elt [⟨tg,iter,ifs,0⟩] scope pos) IQ) (k8 (jB own caps wi g tt te)<|k7 i0):=by
 intro pins s σ H Dn I h;rw[exec_Assign_Name_used _ _ _ _ Ob];refine Z9 (Wu<|Z9 ?_);show wpAny _ X.A (do let _ <- comprehension (.ListComp elt [⟨tg,iter,ifs,0⟩] scope pos) scope X.env _ (newList []) false (eval iter X.env) (some<|assign (.Name x0 pos') X.env)) _ _ s;refine Z9 (Y3 (oS (use:=some (assign (.Name x0 pos') X.env)) (Qp:=fun _ s'=>SP X pins Dn .next s') hc S hi hg ht he hs I h fun D C H4 s4 m I4 hn f MN MO z p q=>?_) (fun _ s' hq=>ZU<|ZU hq) fun _ _ e=>e);show wpAny _ X.A (assign (.Name x0 pos') X.env<|.ref D) _ _ s4;refine wpAny_assign_Name (kY I4 hN N_ Oa (v:=.ref D) rfl (fun s5 I5 h5=>?_) LF);obtain⟨a,Q6,ha⟩:=h5;have Q7:C≠a:=by
  rcases ha with rfl | ha
  ·exact Yv MN
  ·exact Yv (MO _ _ ha)
 exact⟨m,hn.sameBut Q6 Q7,fun h' sb=>⟨_,_,I5.turned (it:=C) (t':=s5.toks) (fun b o hb e=>(sb.2 b hb).trans e) f (Yv MN) (.inr z) MO p,q⟩⟩
end
section
variable{X:Cx}
theorem qB{gi:MI}{gt:MG}{ge:M Vl}(hN:X.N.Nodup)(N_:X.N[i]?=some x0)(Oa:Loc X.env.scope x0)(hc:X.calm=true)(S:r_ X scope own caps)(nd:caps.Nodup)(hi:VI X tg iter gi)(hg:∀ Y,VG (X.FT (bL X own caps) scope Y) (iA own.length caps.length) tg gt)(ht:∀ Y,M0 (X.FT (bL X own caps) scope Y) ifs gc)(he:∀ Y,VE (X.FT (bL X own caps) scope Y) elt ge)(hf:i∉fix)(hs:∀ x,foldedSetIterable iter X.env x=pure x:=by intro _;rfl)(Ob:swapsWith (.ListComp elt [⟨tg,iter,ifs,0⟩] scope pos) (some<|.Name x0 pos') IQ.line X.env=pure true:=by rfl)(LF:X.fn x0=true\/X.env.scope.names.lookup x0=some .local:=by first | exact .inl rfl | exact .inr rfl | assumption):
  VS X fix (.Assign [.Name x0 pos'] (.ListComp elt [⟨tg,iter,ifs,0⟩] scope pos) IQ) (ao i<|aV own.length caps gi gt gc ge):=by
 refine dO (yS hN N_ Oa hc S hi hg ht he hs Ob LF) fun E σ H ⟨D,F,fl,D',st,HP,Fm,q⟩=>?_;obtain⟨⟨r,D1⟩,h1,h2⟩:=Z8.mp Fm;split at h2
 ·rename_i hl;cases h2;refine pU nd ⟨D,F,r,_,st,HP,h1,fun v H1 F1 R u_ ow s1=>?_⟩;obtain⟨F2,R2,q_,pm⟩:=u_.put (i:=i) ow hl;exact q _ H1 F2 (aG.set hf) q_ (s1.less pm)
 ·cases h2
end
section
variable{X:Cx}
def qC:Vl->Vl
 | .lst x=>.im (.fl x)
 | .dT []=>.im .fd
 | d=>d
@[simp] theorem De(x:List Im):qC (.lst x)=.im (.fl x):=rfl
@[simp] theorem Df(d:Im):qC (.im d)=.im d:=rfl
end
def Raw(K:PySem.W.Frag)(x:Str)(st:Stmt)(f:Addr):Prop:=∃ fd,Fi K x x st f fd/\PySem.W.nsIn K mainGlobals x=some (some<|.ref f)
def EG(K:PySem.W.Frag)(mg:Str->Option Value)(x:Str)(st:Stmt)(f:Addr)(ps:List Str):Prop:=∃ fd,Fi K x x st f fd/\cf K fd ps []/\mg x=some (.ref f)
def DH(P:Program)(w:World)(K:PySem.W.Frag)(mg:Str->Option Value)(base:Heap)(k:Nat)(x:Str)(st:Stmt)(f:Addr)(ps:List Str)(n:Nat)(G:Fn):Prop:=∃ fd,Fi K x x st f fd/\cf K fd ps []/\mg x=some (.ref f)/\Eg P w K mg base FS k f fd ps (GS n G)
theorem yT{oc:Value}{od an:Option Addr}{GQ:Array (Option Value)}{kV doc pm o_ ct:Value}(a:PySem.W.nsIn K mainGlobals x=some (some<|.ref f))(l:K.lookup f=some ⟨oc,od,.func<|PySem.W.fnOf x x (cN st) (bA st) (au st) .none kV doc pm an o_ ct,GQ⟩)(c:PySem.W.codeIn K o_ x=true)(k:PySem.W.keepIn K (.ref f)=true):Raw K x st f:=⟨_,xo l c k,a⟩
section
variable{P:Program}{w:World}{K:PySem.W.Frag}{mg:Str->Option Value}{base h:Heap}{k n:Nat}{x:Str}{st:Stmt}{f:Addr}{ps:List Str}{G:Fn}
theorem Raw.b1(r:Raw K x st f)(X:K.In h)(Gg:h.Ns mainGlobals mg)(hb:∀ (kV doc pm:Value) (an:Option Addr) (o_ ct a:Value),bindArgs (PySem.W.fnOf x x (cN st) (bA st) (au st) .none kV doc pm an o_ ct) ⟨[a],[]⟩=pure (ps.zip [a]))(hp:ps.length=1:=by rfl):EG K mg x st f ps:=
 have ⟨_,U,a⟩:=r
 ⟨_,U,U.Kc hb hp,Y1 X Gg a⟩
theorem Raw.b2(r:Raw K x st f)(X:K.In h)(Gg:h.Ns mainGlobals mg)(hb:∀ (kV doc pm:Value) (an:Option Addr) (o_ ct a b:Value),bindArgs (PySem.W.fnOf x x (cN st) (bA st) (au st) .none kV doc pm an o_ ct) ⟨[a,b],[]⟩=pure (ps.zip [a,b]))(hp:ps.length=2:=by rfl):EG K mg x st f ps:=
 have ⟨_,U,a⟩:=r
 ⟨_,U,U.Kd hb hp,Y1 X Gg a⟩
theorem Raw.b3(r:Raw K x st f)(X:K.In h)(Gg:h.Ns mainGlobals mg)(hb:∀ (kV doc pm:Value) (an:Option Addr) (o_ ct a b c:Value),bindArgs (PySem.W.fnOf x x (cN st) (bA st) (au st) .none kV doc pm an o_ ct) ⟨[a,b,c],[]⟩=pure (ps.zip [a,b,c]))(hp:ps.length=3:=by rfl):EG K mg x st f ps:=
 have ⟨_,U,a⟩:=r
 ⟨_,U,U.Ke hb hp,Y1 X Gg a⟩
theorem Raw.b4(r:Raw K x st f)(X:K.In h)(Gg:h.Ns mainGlobals mg)(hb:∀ (kV doc pm:Value) (an:Option Addr) (o_ ct a b c d:Value),bindArgs (PySem.W.fnOf x x (cN st) (bA st) (au st) .none kV doc pm an o_ ct) ⟨[a,b,c,d],[]⟩=pure (ps.zip [a,b,c,d]))(hp:ps.length=4:=by rfl):EG K mg x st f ps:=
 have ⟨_,U,a⟩:=r
 ⟨_,U,U.Kf hb hp,Y1 X Gg a⟩
theorem DH.fd{fd:FuncData}(C:DH P w K mg base k x st f ps n G)(U:Fi K x x st f fd):Eg P w K mg base FS k f fd ps (GS n G):=by
 obtain⟨Sl,U',_,_,g⟩:=C;obtain⟨oc,od,kV,doc,pm,an,o_,ct,GQ,e,l,_⟩:=U.ex;obtain⟨Sm,Sn,So,Q8,Sq,Sr,Q9,Ss,Q_,e',l',_⟩:=U'.ex;rw[l] at l';cases l';exact g
theorem yU(r:Raw K x st f)(X:K.In h)(Gg:h.Ns mainGlobals mg){fa:Addr}(Oc:mg x=some (.ref fa)){p:Str}(hb:∀ (kV doc pm:Value) (an:Option Addr) (o_ ct:Value) (s:Shared) (v:Value),BindsTo s (PySem.W.fnOf x x (cN st) (bA st) (au st) .none kV doc pm an o_ ct) ⟨[v],[]⟩ [(p,v)])(C:∀ base,DH P w K mg base k x st f [p] n G):
  ∃ fd:FuncData,(∀ (s:Shared) (v:Value),BindsTo s fd ⟨[v],[]⟩ [(p,v)])/\∀ base:Heap,K.In base->base.Ns mainGlobals mg->Eg P w K mg base FS k fa fd [p] (GS n G):=by
 obtain⟨fd,U,a⟩:=r;cases Oc.symm.trans (Y1 X Gg a);refine⟨fd,?_,fun b _ _=>(C b).fd U⟩;obtain⟨oc,od,kV,doc,pm,an,o_,ct,GQ,rfl,l,_⟩:=U.ex;exact hb kV doc pm an o_ ct
theorem bH{g:MS}(F:EG K mg x st f ps)(S:j_ N ps (au st))(hn:ps.length=n)(Pu:∀ i∈fix,i<n)(hb:N.Nodup->∀ (o_:Value) (A:Around) (outer:List Env) (s:Shared) (H:Hp) (E:XK),A_ k (A.deeper<|envOfC x (au st) s.heap.objs.size f o_)->F9 (bZ FS P w K mg base N x (au st) f o_ A outer s H E).JG fix (bA st) g):
  DH P w K mg base (k+1) x st f ps n (aM n N.length fix g):=
 have ⟨_,U,b,m⟩:=F
 ⟨_,U,b,m,Pt U S hn Pu<|hb S.nd⟩
end
section
variable{X:Cx}
variable{e:Expr}
theorem aJ(C:DH X.prog X.w X.K X.mg X.base k x st f ps n G)(hr:A_ m X.A)(hg:Gl X x)(ha:VA X (e::es) g)(hm:k<=m:=by decide)(FQ:(x == ("__debug__" : Str))=false:=by decide)(he:starEach (e::es) X.env=(false,eval e X.env)::starEach es X.env:=by rfl)(E3:(backTo pos<|starEach es X.env).any (·.1)=false:=by rfl):
  VE X (.Call (.Name x p) (e::es) [] pos) (am n G g):=
 have ⟨_,U,b,m,F⟩:=C
 pL F (hr.mono hm) hg m U.kp b ha FQ he E3
theorem ai{i:Int}{j pos}:VO X (.Constant (.int i) j pos) (oV<|eC<|.int i):=ae eJ
theorem vv(i:Nat){x:Str}{pos:Pos}(hN:X.N[i]?=some x:=by rfl)(hv:MA X.env.scope x:=by first | exact Or.inl rfl | exact Or.inr (Or.inl rfl) | exact Or.inr (Or.inr rfl))(hd:(x == ("__debug__" : Str))=false:=by decide)(FO:(x == ("__classdict__" : Str))=false:=by decide):VO X (.Name x pos) (oSl i):=x8 (nV hN hv hd FO)
theorem ag{g:M Opd}(he:VO X e g)(hs:starEach [e] X.env=(false,eval e X.env)::starEach [] X.env:=by rfl):VA X [e] (aa g aNil):=ah he dB hs
theorem bT{a b:Expr}{ga gb:M Opd}(hr:A_ m X.A)(ha:VO X a ga)(hb:VO X b gb)(hs:ls b:=by exact fun _ _=>rfl):VE X (.Subscript a b pos) (ad vIx ga gb):=pp (pY (by have:=hr.un;omega)) ha hb hs
end
theorem DV.gone(x:DV P w H h)(n:h.get? a=none):H a=none:=by
 cases q:H a with
 | none=>rfl
 | some o=>
  have hx:∃ u,h.get? a=some u:=by
   have z:=x a o q;clear q;induction o with
   | lst xs=>obtain⟨_,f_,m,_,e⟩:=z;exact⟨_,e⟩
   | tup xs=>obtain⟨_,f_,_,ob,e,_⟩:=z;exact⟨_,e⟩
   | dK kvs=>obtain⟨_,_,vs,_,ob,es,ep,e,_⟩:=z;exact⟨_,e⟩
   | dT kvs=>obtain⟨_,_,xs,_,ob,es,ep,e,_⟩:=z;exact⟨_,e⟩
   | set S m=>obtain⟨ob,es,ep,t,e,_⟩:=z;exact⟨_,e⟩
   | ins C dx fs=>obtain⟨_,_,_,e,_⟩:=z;exact⟨_,e⟩
   | own _=>exact z
   | xd fs=>obtain⟨mA,⟨o,es,ep,e,_⟩,_⟩:=z;exact⟨_,e⟩
   | My lo hi=>obtain⟨t,u,v,e⟩:=z;exact⟨_,e⟩
   | Es ob u ih=>exact⟨_,z.1⟩
   | IZ ps=>exact⟨_,z⟩
   | met f y=>exact⟨_,z⟩
   | ext φ=>exact z.2.1
  obtain⟨u,e⟩:=hx;rw[n] at e;cases e
section
variable{M:Model}{A:Around}{EE:Value->Shared->Prop}{s:Shared}{P:Program}{w:World}{H:Hp}{base:Heap}{env:Env}{outer:List Env}{L e:Addr}
theorem jY(hl:s.heap.FunFrames base l)(hs:∀ b∈DL l,b∈S):s.heap.FunFrames (PySem.W.hideAll s.heap S) l:=by
 induction l with
 | nil=>trivial
 | cons x r ih=>
  obtain⟨hk,⟨L,o,hf,_,ho,hd⟩,hr⟩:=hl;refine⟨hk,⟨L,o,hf,Y0 S<|hs L ?_,ho,hd⟩,ih hr fun b hb=>hs b ?_⟩
  ·show L∈(x::r).filterMap (·.frame);rw[Yw,hf];exact .head _
  ·show b∈(x::r).filterMap (·.frame);rw[Yw,hf];exact .tail _ hb
theorem jZ(hl:s.heap.FunFrames base l)(hH:∀ b∈S,H b=none){xs:List Addr}(hS:∀ b∈S,b∈DL l\/b∈xs)(m_:DV P w H s.heap)(k1:(PySem.W.hideAll s.heap S).StaysIn h')(k4:∀ b o,s.heap.get? b=some o->(∀ vs,o.data≠.fields vs)->∃ sl,h'.get? b=some { o with slots:=sl }):Un (DL l) xs H H s.heap h'/\DV P w H h':=by
 have keep:∀ b o,s.heap.get? b=some o->b∉S->h'.get? b=some o:=fun b o q n=>k1 b o (Yx S q n);refine⟨⟨fun b o q _ nf nx=>keep b o q fun z=>(hS b z).elim nf nx,fun b o q _ hf _=>?_,fun _ _ _ n _=>n,fun b o q nx=>?_,fun _ _ q=>q,fun _ _ _ q=>q,fun _ ps q=>⟨#[],by rw[q];simp⟩⟩,fun a o q=>?_⟩
 ·obtain⟨_,o',ho,hd⟩:=hl.mem hf;rw[q] at ho;cases ho;exact k4 b o q hd
 ·by_cases hb:b∈S
  ·rcases hS b hb with hf | hx
   ·obtain⟨_,o',ho,hd⟩:=hl.mem hf;rw[q] at ho;cases ho;obtain⟨sl,e1⟩:=k4 b o q hd;exact⟨_,e1⟩
   ·exact absurd hx nx
  ·exact⟨o,keep b o q hb⟩
 ·refine (m_ a o q).EI (fun b u hb hu=>keep b u hu fun z=>?_) (fun _ z=>z) fun _ _ z=>z;rcases hb with rfl | hb
  ·rw[hH b z] at q;cases q
  ·rw[hH b z] at hb;cases hb
def Px(H:Hp)(h0 h:Heap)(e:Addr)(cls a0:Value):Prop:=∃ oe vs T oT ts,h.get? e=some oe/\(oe.cls=cls/\vs[0]?=some a0)/\oe.data=.fields vs/\vs[1]?=some (.ref T)/\h0.get? T=none/\T≠e/\h.get? T=some oT/\oT.data=.fields ts/\ts[3]?=some .none/\H T=none
theorem yV(Od:A.frames=some (env::outer))(hl:s.heap.FunFrames base (env::outer))(hf:env.frame=some L)(he:s.heap.get? e=some oe)(hd:oe.data=.fields vs)(h1:vs[1]?=some .none)(h0:vs[0]?=some a0)(hH:H e=none)(hF:∀ b∈DL (env::outer),H b=none)(m_:DV P w H s.heap)(h:∀ h',Un (DL (env::outer)) [e] H H s.heap h'->DV P w H h'->Px H s.heap h' e oe.cls a0->Q () { s with heap:=h' }):wpAny M A (leaving env<|.ref e) Q EE s:=by
 have hS:∀ b∈e::DL (env::outer),b∈DL (env::outer)\/b∈[e]:=fun b hb=>by
  rcases ZT.mp hb with r | r
  ·rw[r];exact .inr (.head _)
  ·exact .inl r
 refine wpAny_leaving_firstW (base:=PySem.W.hideAll s.heap (e::DL (env::outer))) Od (jY hl fun b hb=>.tail _ hb) hf he (fun b o q=>Yc _ q) (Y0 _<|.head _) hd h1 h0 fun h' ⟨k1,_,k3,k4⟩=>?_;obtain⟨Gu,Gj,T,oT,ts,t1,t2,t3,t4,t5,t6,t7,t8,t9⟩:=k3;obtain⟨u,ho⟩:=jZ (P:=P) (w:=w) hl (fun b hb=>(hS b hb).elim (hF b) fun z=>by rw[ZX.mp z];exact hH) (xs:=[e]) hS m_ k1 k4;have hT:s.heap.get? T=none:=by
  cases q:s.heap.get? T with
  | none=>rfl
  | some o=>
   by_cases hT:T∈e::DL (env::outer)
   ·rcases ZT.mp hT with r | r
    ·exact absurd r t6
    ·obtain⟨_,o',Gz,E6⟩:=hl.mem r;obtain⟨sl,e1⟩:=k4 T o' Gz E6;rw[t7] at e1;cases e1;exact absurd t8 (E6 ts)
   ·rw[Yx _ q hT] at t5;cases t5
 exact h h' u ho ⟨Gu,Gj,T,oT,ts,t1,t2,t3,t4,hT,t6,t7,t8,t9,m_.gone hT⟩
end
theorem Un.out{fs:List Addr}{h0 h1 h2:Heap}(a:Un fs [] H0 H h0 h1)(b:Un (L::fs) [e] H H h1 h2)(hL:∀ c o,h0.get? c=some o->c≠L)(hE:∀ c o,h0.get? c=some o->c≠e):Un fs [] H0 H h0 h2:=by
 have nx:∀ c o,h0.get? c=some o->c∉[e]:=fun c o q z=>hE c o q (ZX.mp z);have nf:∀ c o,h0.get? c=some o->c∉fs->c∉L::fs:=fun c o q n z=>(ZT.mp z).elim (hL c o q) n;have n0:∀ c:Addr,c∉([]:List Addr):=fun c z=>by cases z
 refine⟨fun c o q n hc _=>b.keep c o (a.keep c o q n hc<|n0 c) (a.free c o q n<|n0 c) (nf c o q hc)<|nx c o q,fun c o q n hc _=>?_,fun c o q n _=>a.free c o q n<|n0 c,fun c o q _=>?_,fun c xs q=>b.Ee c xs<|a.Ee c xs q,fun c o u q=>b.D_ c o u<|a.D_ c o u q,fun c ps q=>?_⟩
 ·obtain⟨sl,e1⟩:=a.slot c o q n hc (n0 c);obtain⟨JF,e2⟩:=b.slot c _ e1 (a.free c o q n<|n0 c) (.tail _ hc) (nx c o q);exact⟨JF,e2⟩
 ·obtain⟨o',e1⟩:=a.there c o q (n0 c);exact b.there c o' e1 (nx c o q)
 ·obtain⟨m1,e1⟩:=a.Et c ps q;obtain⟨m2,e2⟩:=b.Et c _ e1;exact⟨m1++m2,by rw[e2,WI]⟩
def IR(P:Program)(w:World):HA:=fun outer H s E ev s'=>∃ (e C:Addr) (a0:Value) (H':Hp),ev=.ref e/\s'.os=s.os/\AllBare s'.gens/\Un (DL outer) [] H H' s.heap s'.heap/\DV P w H' s'.heap/\s.heap.get? e=none/\H' e=none/\Px H' s.heap s'.heap e (.ref C) a0/\E (.ref C) none H'
theorem yW{mg:Str->Option Value}{base:Heap}{t':Nat}(I:Inv (bZ (IR P w) P w K mg base N qual scope f cd A outer s0 H0 E) pins σ H s)(k:∀ b u,s.heap.get? b=some u->h'.get? b=some u)(n:s.heap.get? e=none)(he:h'.get? e=some oe)(hc:oe.cls=.ref C)(hd:oe.data=.fields vs)(h1:vs[1]?=some .none)(h0:vs[0]?=some a0)(wq:E (.ref C) none H):
  (bZ (IR P w) P w K mg base N qual scope f cd A outer s0 H0 E).xe (.ref e) { s with heap:=h',toks:=t' }:=by
 have J:=I.kept (t':=t') k;have hE:H e=none:=I.m_.gone n;refine yV (base:=base) (P:=P) (w:=w) (H:=H) (L:=s0.heap.objs.size) J.ok.frames J.stack rfl he hd h1 h0 hE J.Eo J.m_ fun h2 un ho tr=>?_;rw[hc] at tr;obtain⟨Gu,Gj,T,oT,ts,t1,t2,t3,t4,t5,t6⟩:=tr;have old:∀ c o,s0.heap.get? c=some o->∃ o',s.heap.get? c=some o':=fun c o q=>I.base.there c o q fun z=>by cases z
 refine⟨e,C,a0,H,rfl,J.os,J.bare,?_,ho,?_,hE,⟨Gu,Gj,T,oT,ts,t1,t2,t3,t4,?_,t6⟩,wq⟩
 ·refine Un.out (L:=s0.heap.objs.size) (e:=e) J.base un (fun c o q=>Zx<|ZO q) fun c o q z=>?_;obtain⟨o',e1⟩:=old c o q;rw[z,n] at e1;cases e1
 ·cases q:s0.heap.get? e with
  | none=>rfl
  | some o=>
   obtain⟨o',e1⟩:=old e o q;rw[n] at e1;cases e1
 ·cases q:s0.heap.get? T with
  | none=>rfl
  | some o=>
   obtain⟨o',e1⟩:=old T o q;rw[k T o' e1] at t5;cases t5
theorem yX{bB:List Value}{Py:String}(X:K.In h)(q:PySem.W.excIn K C bB Py=true):∃ bm N nm qn bs LG sn sb ab cl dd k0 k1 k2 k3 k5 mN,h.get? C=some (excClassObj nm qn C N bs bm LG sn sb ab cl dd k0 k1 k2 k3 k5 Py)/\h.Ns N mN/\mN "__init__" = none/\OwnTail h bB bm:=by
 unfold PySem.W.excIn at q;split at q
 ·rename_i dd cd sl lk;split at q
  ·rename_i C' bm k0 k1 k2 k3 nw k5 e1 e2;rw[ZV,ZV,ZV,ZV,ZV] at q;obtain⟨⟨⟨⟨⟨q1,q2⟩,q3⟩,q4⟩,q5⟩,q6⟩:=q;cases WG.mp q1;cases WG.mp q2;obtain⟨nm,bs,mr,nn,qn,LG,sn,sb,ab,cl,dl⟩:=cd;dsimp only at e1 q3 q5 q6;cases dl with
   | true=>cases q3
   | false=>
    subst e1;obtain⟨sl⟩:=sl;dsimp only at e2;subst e2;exact⟨bm,nn,nm,qn,bs,LG,sn,sb,ab,cl,dd,k0,k1,k2,k3,k5,_,X _ _ lk,.of_isNs<|PySem.W.isNs_of_in X q5,PySem.W.nsMap_none_of_in X q5<|WG.mp q6,PySem.W.tail_of_in X q4⟩
  ·cases q
 ·cases q
def M2(X:Cx)(C:Addr):TS:=fun _ σ H=>∀ (pins:List (Addr×Obj)) (s:Shared) (e:Addr) (h':Heap) (oe:Obj) (vs:Array Value) (a0:Value),Inv X pins σ H s->(∀ b u,s.heap.get? b=some u->h'.get? b=some u)->s.heap.get? e=none->h'.get? e=some oe->oe.cls=.ref C->oe.data=.fields vs->vs[1]?=some .none->vs[0]?=some a0->X.xe (.ref e) { s with heap:=h' }
section
variable{X:Cx}
theorem yY{m:Str}{j}(hc:X.calm=true)(hg:Gl X x)(hm:X.mg x=some (.ref C))(q:PySem.W.excIn X.K C [.type "ValueError",.type "Exception",.type "BaseException",.type "object"] "ValueError.__new__" = true)(hd:(x == ("__debug__" : Str))=false:=by decide):
  PS X (.Raise (some<|.Call (.Name x np) [.Constant (.str m) j cp] [] x_) none pos) (M2 X C):=by
 intro pins s σ H D I h;have hb:PE X (.Name x np) (tC<|.ref C):=nX (v:=.ref C) hg hm rfl hd;obtain⟨bm,N,nm,qn,bs,LG,sn,sb,ab,cl,dd,k0,k1,k2,k3,k5,mN,c1,c2,c3,c4⟩:=yX I.mod.JE q;have st:starEach [Expr.Constant (.str m) j cp] X.env=(false,eval (.Constant (.str m) j cp) X.env)::starEach [] X.env:=rfl;refine wpAny_Raise_call_subT (C:=C) (nm:=nm) (q:=qn) (bs:=bs) (hdct:=LG) (sn:=sn) (sub:=sb) (ab:=ab) (col:=cl) (dd:=dd) (k0:=k0) (k1:=k1) (k2:=k2) (k3:=k3) (k5:=k5) (bm:=bm) (N:=N) (mN:=mN) Wz (c4.hasType Wz.hasBase) (I.ok.hd hc) (by rw[st];rfl) c3 (B_ (hb pins s σ H (fun v H1=>v=.ref C/\H1=H) I ⟨rfl,rfl⟩) fun u s1 ⟨v,H1,I1,r,e1,e2⟩=>?_);subst e1 e2;cases r;refine⟨rfl,?_⟩;have pa:PA X [Expr.Constant (.str m) j cp] _:=dJ nW ij;have sp:=pa x_ pins s1 σ H1 (fun vs H2=>vs.length=1/\H2=H1) I1 ⟨rfl,rfl⟩;rw[st] at sp ⊢;refine Calls.evalArgs_plain (B_ sp fun us s2 ⟨vs,H2,I2,rv,l,e2⟩=>?_);subst e2;refine⟨rfl,?_,I2.bk _ _ c1,c2.keeps I2.bk,c4.keeps I2.bk,fun h' ex mk=>?_⟩
 ·show us.length<=sizeLine;rw[<- rv.length,l];decide
 ·obtain⟨t,m1,_,_⟩:=mk.there;exact h pins s2 ex h' _ _ _ I2 mk.keeps mk.new m1 rfl rfl rfl rfl
end
def tQ(fix:List Nat)(Z:St->Hp->Prop)(R:SD->SD->Prop)(σ:St)(H:Hp):Prop:=∃ D F D',ak H D σ F/\F.Nodup/\R D D'/\∀ σ' H' F',aG fix σ σ'->ak H' D' σ' F'->p_ H F H' F'->Z σ' H'
def F_(X:Cx)(fix:List Nat)(Z:St->Hp->Prop)(Gs:List Stmt)(R:SD->SD->Prop):Prop:=FN X Gs fun _ σ H=>tQ fix Z R σ H
def Iq(X:Cx)(fix:List Nat)(Z:St->Hp->Prop)(e:Expr)(R:SD->SD->Prop):Prop:=PE X e fun σ H _=>tQ fix Z R σ H
def Jo(X:Cx)(fix:List Nat)(Z:St->Hp->Prop)(es:List Expr)(R:SD->SD->Prop):Prop:=PA X es fun σ H _=>tQ fix Z R σ H
section
variable{X:Cx}{fix:List Nat}{Z:St->Hp->Prop}{R:SD->SD->Prop}
theorem j6(Gs:List Stmt):FN X Gs fun _ _ _=>False:=fun _ _ _ _ _ _ h=>h.elim
theorem yZ{Gs:List Stmt}{g:MS}(h1:VS X fix st g)(h2:F_ X fix Z Gs R):F_ X fix Z (st::Gs) fun D D'=>∃ D1,g D=some (.nx,D1)/\R D1 D':=
 fO (ii h1 h2) fun E σ H ⟨D,F,D',st,nd,⟨D1,hg,hr⟩,z⟩=>⟨D,F,.nx,D1,st,nd,hg,fun σ' H' F' fx e_ s=>⟨D1,F',D',e_,s.nd,hr,fun σ2 H2 F2 J7 q_ s2=>z σ2 H2 F2 (fx.trans J7) q_<|s.seq s2⟩⟩
theorem y3{c:Expr}{a b rest:List Stmt}(hc:VT X c gc)(ha:F_ X fix Z a R):F_ X fix Z (.If c a b pos::rest) fun D D'=>∃ D1,gc D=some (true,D1)/\R D1 D':=
 fO (ii (n5 hc ha<|j6 b)<|j6 rest) fun E σ H ⟨D,F,D',st,nd,⟨D1,hg,hr⟩,z⟩=>⟨D,F,true,D1,st,nd,hg,fun H' F' e_ s=>⟨D1,F',D',e_,s.nd,hr,fun σ2 H2 F2 J7 q_ s2=>z σ2 H2 F2 J7 q_<|s.seq s2⟩⟩
theorem y4{m:Str}{j}{rest:List Stmt}(hc:X.calm=true)(hg:Gl X x)(hm:X.mg x=some (.ref C))(q:PySem.W.excIn X.K C [.type "ValueError",.type "Exception",.type "BaseException",.type "object"] "ValueError.__new__" = true)(hz:∀ D σ H,Z σ H->M2 X C D σ H)(hd:(x == ("__debug__" : Str))=false:=by decide):
  F_ X fix Z (.Raise (some<|.Call (.Name x np) [.Constant (.str m) j cp] [] x_) none pos::rest) fun D D'=>D'=D:=
 fO (ii (yY hc hg hm q hd)<|j6 rest) fun E σ H ⟨D,F,D',st,nd,e,z⟩=>hz _ σ H (z σ H F aG.refl (by rw[e];exact st)<|p_.perm nd<|ZG _)
theorem y6(es:List Expr):PA X es (fun _ _ _=>False):=fun _ _ _ _ _ _ _ h=>h.elim
variable{e:Expr}
theorem y7(h:Iq X fix Z e R)(hs:starEach (e::es) X.env=(false,eval e X.env)::starEach es X.env:=by rfl):Jo X fix Z (e::es) R:=
 fun pos pins s σ H Q I w=>(dJ h (y6 es) hs) pos pins s σ H Q I w
theorem y8{g:M Opd}(he:VO X e g)(hr:Jo X fix Z es R)(hs:starEach (e::es) X.env=(false,eval e X.env)::starEach es X.env:=by rfl):Jo X fix Z (e::es) fun D D'=>∃ x D1,g D=some (x,D1)/\R D1 D':=by
 intro pos pins s σ H Q I ⟨D,F,D',st,nd,⟨x,D1,hg,Ra⟩,z⟩;refine (dJ he hr hs) pos pins s σ H Q I ⟨D,F,x,D1,st,nd,hg,fun v H1 F1 R1 u_ o1 s1=>⟨D1,F1,D',u_,(ZP.mp s1.nd).1,Ra,fun σ2 H2 F2 fx q_ s2=>?_⟩⟩;exact z σ2 H2 F2 fx q_ ((s1.trans s2 o1.chg).less (C:=R1)<|ZG _)
theorem y9{x1}(h:Jo X fix Z es R):Iq X fix Z (.Tuple es x1 pos) R:=aT (om h) fun _ _ _ w=>w
theorem zc{rest:List Stmt}(hN:X.N.Nodup)(hi:X.N[i]?=some x)(hx:Loc X.env.scope x)(he:Iq X fix Z e R)(hs:swapsWith e (some<|.Name x pos') pos.line X.env=pure false:=by rfl)(Hx:X.fn x=true\/X.env.scope.names.lookup x=some .local:=by first | exact .inl rfl | exact .inr rfl | assumption):F_ X fix Z (.Assign [.Name x pos'] e pos::rest) R:=
 fO (ii (n9 hN hi hx he hs Hx)<|j6 rest) fun _ _ _ w=>w
def M3(n:Nat)(Rr:List Vl->Prop)(C:Addr):Sp:=fun vs H _ E=>vs.length=n/\∃ ds F,aK H ds vs F/\F.Nodup/\Rr ds/\∀ H' F',p_ H F H' F'->E (.ref C) none H'
def Jp(X:Cx)(pins:List (Addr×Obj))(b:Addr):Prop:=X.s₀.heap.get? b=none/\b≠X.env.locals/\(∀ x c,X.env.cells.lookup x=some c->c≠b)/\∀ p∈X.pn++pins,p.1≠b
theorem j9{b:Addr}(I:Inv X pins σ H s)(n:s.heap.get? b=none)(hx:b∉X.ex):Jp X pins b:=by
 refine⟨?_,fun e=>?_,fun x c h e=>?_,fun p hp e=>?_⟩
 ·cases q:X.s₀.heap.get? b with
  | none=>rfl
  | some o=>
   obtain⟨o',e1⟩:=I.base.there b o q hx;rw[n] at e1;cases e1
 ·obtain⟨m,⟨o,es,ep,ho,_⟩,_⟩:=I.loc;rw[<- e,n] at ho;cases ho
 ·obtain⟨v,o,ho,_⟩:=I.cell x c h;rw[e,n] at ho;cases ho
 ·have:=(I.pin p hp).1;rw[e,n] at this;cases this
def Exc(X:Cx)(pins:List (Addr×Obj))(H:Hp)(h:Heap)(e C:Addr)(a0:Value):Prop:=H e=none/\Jp X pins e/\∃ oe vs T oT ts,h.get? e=some oe/\(oe.cls=.ref C/\vs[0]?=some a0)/\oe.data=.fields vs/\vs[1]?=some (.ref T)/\T≠e/\h.get? T=some oT/\oT.data=.fields ts/\ts[3]?=some .none/\H T=none/\Jp X pins T
def KI(X:Cx)(C:Addr)(σ:St)(H':Hp):Prop:=∀ (pins:List (Addr×Obj)) (s':Shared) (e:Addr) (a0:Value),Inv X pins σ H' s'->Exc X pins H' s'.heap e C a0->X.xe (.ref e) s'
theorem zd{Rr:List Vl->Prop}{fd:FuncData}(F:Eg X.prog X.w X.K X.mg X.base (IR X.prog X.w) k f fd ps (M3 n Rr C))(hr:A_ k X.A)(hg:Gl X x)(hm:X.mg x=some (.ref f))(hk:PySem.W.keepIn X.K (.ref f)=true)(hb:cf X.K fd ps [])(hx:X.ex=[])(hz:∀ σ H,Z σ H->KI X C σ H)(ha:VA X (e::es) g)(FQ:(x == ("__debug__" : Str))=false:=by decide)(he:starEach (e::es) X.env=(false,eval e X.env)::starEach es X.env:=by rfl)(E3:(backTo pos<|starEach es X.env).any (·.1)=false:=by rfl):
  Iq X fix Z (.Call (.Name x p) (e::es) [] pos) fun D D'=>∃ os D1 ds,g D=some (os,D1)/\os.length=n/\bg os D1=some (ds,D')/\Rr ds:=by
 intro pins s σ H Q I ⟨D,F0,D',st,nd,⟨os,D1,ds,h1,hn,h3,hR⟩,z⟩;refine Ya (ie I hg hm ?_ FQ);refine WH (h₀:=X.base) I.ok.mod.JE hk (B_ (@ha pos pins s σ H (fun vs H1=>M3 n Rr C vs H1 (fun _ _=>False) fun c _ H'=>c=.ref C/\KI X C σ H') I ⟨D,F0,os,D1,st,nd,h1,fun vs H1 F1 R1 u_ o1 s1=>?_⟩) fun us s1 ⟨vs,H1,I1,r,q⟩=>⟨I1.GZ,?_⟩) he E3
 ·obtain⟨F2,R2,q_,ow,pm⟩:=eO u_ o1 h3;have s2:=s1.Ek (pm.symm.trans Z0);refine⟨by rw[<- o1.length];exact hn,ds,R2,ow,(ZP.mp s2.nd).1,hR,fun H3 F3 s3=>⟨rfl,hz σ H3<|z σ H3 F2 aG.refl ?_ ?_⟩⟩
  ·exact q_.mono s3.tup fun a ha o e=>s3.keep a o e fun hb=>(ZP.mp s2.nd).2.2 a hb a ha rfl
  ·exact (s2.trans s3 q_.chg).less (C:=F3) Z0
 ·have hl:(us++[]).length=ps.length:=by rw[ZY,<- r.length];exact F.len _ _ _ _ q
  have bd:=hb s1 us I1.GZ hl;rw[ZY] at bd;refine wpAny_call (WM (F.run X.A X.stack s1 H1 ⟨us,[]⟩ us vs _ _ hr I1.JL bd r q) fun rs s' hq=>?_);cases rs with
  | error ev=>
   obtain⟨ex,C',a0,H',rfl,K0,bare,un,m_,KR,hE,tr,⟨eC,cat⟩⟩:=hq;cases eC;have nx:∀ b:Addr,b∉X.ex:=fun b z=>by rw[hx] at z;cases z
   obtain⟨oe,Gj,T,oT,ts,t1,t2,t3,t4,t5,t6,t7,t8,t9,tH⟩:=tr;exact cat pins s' ex a0 (I1.Jb (ch:=[]) K0 un m_ bare fun b z=>by cases z) ⟨hE,j9 I1 KR<|nx _,oe,Gj,T,oT,ts,t1,t2,t3,t4,t6,t7,t8,t9,tH,j9 I1 t5<|nx _⟩
  | ok fl=>
   cases fl with
   | ret u=>obtain⟨v,H',_,_,_,_,_,fs⟩:=hq;exact False.elim fs
   | next=>exact False.elim hq
   | brk=>exact False.elim hq
   | cont=>exact False.elim hq
end
section
variable{P:Program}{w:World}{K:PySem.W.Frag}{mg:Str->Option Value}{base:Heap}
theorem ze(D:Ends)(σ:St)(H:Hp)(h:E (.ref C) none H):M2 (bZ (IR P w) P w K mg base N qual scope f cd A outer s0 H0 E) C D σ H:=
 fun pins s e h' oe vs a0 I k n he hc hd h1 h0=>yW (t':=s.toks) I k n he hc hd h1 h0 h
theorem Rb{fd:FuncData}(F:Fi K x qual st f fd)(S:j_ N ps (au st))(hn:ps.length=n)(hb:∀ (o_:Value) (A:Around) (outer:List Env) (s:Shared) (H:Hp) (E:XK),A_ k (A.deeper<|envOfC qual (au st) s.heap.objs.size f o_)->F_ (bZ (IR P w) P w K mg base N qual (au st) f o_ A outer s H E) fix (fun _ H'=>E (.ref C) none H') (bA st) R):
  Eg P w K mg base (IR P w) (k+1) f fd ps (M3 n (fun ds=>∃ D',R (ds.map some++replicate (N.length - n) none) D') C):=by
 obtain⟨oc,od,kV,doc,pm,an,o_,ct,GQ,rfl,lk,FO⟩:=F.ex;refine oE lk FO S (fun vs H Q E h=>h.1.trans hn.symm) fun A outer s H vs Q E hr h=>⟨_,hb o_ A outer s H E hr,?_⟩;obtain⟨hl,ds,F0,ow,nd,⟨D',hR⟩,z⟩:=h;have st:=jO (m:=N.length - n) ow;have es:ci N vs=vs.map some++replicate (N.length - n) none:=by unfold ci;rw[hl]
 rw[es];exact⟨_,F0,D',st,nd,hR,fun _ H' F' _ _ s=>z H' F' s⟩
end
abbrev Cx.hold(X:Cx)(E:Value->Shared->Prop)(ps:List (Addr×Obj)):Cx:={ X with xe:=E,pn:=X.pn++ps }
section
variable{X:Cx}{pins q:List (Addr×Obj)}{σ:St}{H:Hp}{s:Shared}{E:Value->Shared->Prop}
theorem Inv.hold(I:Inv X pins σ H s)(E:Value->Shared->Prop):Inv (X.hold E pins) [] σ H s:=
 ⟨⟨I.ok.mod,I.ok.kind,I.ok.glob,I.ok.blt,I.ok.above,I.ok.inj,I.ok.has,I.ok.Hv,I.ok.hd,I.ok.frames,I.ok.Hw,I.ok.I_,I.ok.bs,I.ok.Gy,I.ok.Fd,I.ok.Fe,I.ok.DT,I.ok.GY⟩,I.os,I.bare,I.base,I.loc,I.cell,I.free,I.DB,fun p hp=>I.pin p (by rw[ZY] at hp;exact hp),I.m_,I.len⟩
theorem Inv.DU(I:Inv (X.hold E pins) q σ H s):Inv X pins σ H s:=
 ⟨⟨I.ok.mod,I.ok.kind,I.ok.glob,I.ok.blt,I.ok.above,I.ok.inj,I.ok.has,I.ok.Hv,I.ok.hd,I.ok.frames,I.ok.Hw,I.ok.I_,I.ok.bs,I.ok.Gy,I.ok.Fd,I.ok.Fe,I.ok.DT,I.ok.GY⟩,I.os,I.bare,I.base,I.loc,I.cell,I.free,I.DB,fun p hp=>I.pin p<|ZJ _ hp,I.m_,I.len⟩
theorem SP.DU{f:Flow}{s':Shared}(h:SP (X.hold E pins) q D f s'):SP X pins D f s':=by
 cases f with
 | next=>obtain⟨σ',H',I,q⟩:=h;exact⟨σ',H',I.DU,q⟩
 | brk=>obtain⟨σ',H',I,q⟩:=h;exact⟨σ',H',I.DU,q⟩
 | cont=>obtain⟨σ',H',I,q⟩:=h;exact⟨σ',H',I.DU,q⟩
 | ret u=>obtain⟨v,σ',H',I,r,q⟩:=h;exact⟨v,σ',H',I.DU,r,q⟩
theorem zf(hb:∀ E p,FN (X.hold E p) body t):PS X (.Try body (h0::hs) [] [] pos) t:=by
 intro pins s σ H D I hw;refine wpAny_Try_except (Y3 (hb _ pins [] s σ H D (I.hold _) hw) (fun f s1 q=>?_) fun e s1 z=>z);have q:=SP.DU q;cases f with
 | next=>exact X5 q
 | brk=>exact q
 | cont=>exact q
 | ret u=>exact q
theorem zg{g:MS}(hb:∀ E p,F9 (X.hold E p) fix body g):VS X fix (.Try body (h0::hs) [] [] pos) g:=zf fun E p=>hb E p
theorem Inv.Jq{T:Addr}(I:Inv X pins σ H s)(u:Un (DL X.stack) [e,T] H H s.heap h')(m_:DV X.prog X.w H h')(n:∀ b∈[e,T],X.s₀.heap.get? b=none/\b≠X.env.locals/\(∀ x c,X.env.cells.lookup x=some c->c≠b)/\∀ p∈X.pn++pins,p.1≠b):
  Inv X pins σ H { s with heap:=h' }:=by
 have ok:({ X with ex:=[e,T]++X.ex }:Cx).Ok:=by
  refine⟨I.ok.mod,I.ok.kind,I.ok.glob,I.ok.blt,I.ok.above,I.ok.inj,I.ok.has,I.ok.Hv,I.ok.hd,I.ok.frames,I.ok.Hw,fun b hb=>?_,I.ok.bs,I.ok.Gy,fun b o q hb=>?_,fun b hb hf=>?_,I.ok.DT,I.ok.GY⟩
  ·rcases ZD.mp hb with z | z
   ·exact⟨(n b z).2.1,(n b z).2.2.1⟩
   ·exact I.ok.I_ b z
  ·rcases ZD.mp hb with z | z
   ·have:=(n b z).1;rw[(I.ok.bs b o q).1] at this;cases this
   ·exact I.ok.Fd b o q z
  ·rcases ZD.mp hb with z | z
   ·obtain⟨_,o,ho,_⟩:=I.ok.DT.mem hf;rw[(n b z).1] at ho;cases ho
   ·exact I.ok.Fe b z hf
 have J:Inv { X with ex:=[e,T]++X.ex } pins σ H s:=⟨ok,I.os,I.bare,I.base.mono (fun _ z=>z) fun b z=>ZN _ z,I.loc,I.cell,I.free,I.DB,I.pin,I.m_,I.len⟩;have J2:=J.call (g':=s.gens) (t':=s.toks) (d':=s.drawn) u m_ J.bare fun b hb=>⟨.inl<|ZJ _ hb,(n b hb).2⟩;have nx:∀ b o,X.s₀.heap.get? b=some o->b∉X.ex->b∉[e,T]++X.ex:=fun b o q hx hb=>by
  rcases ZD.mp hb with z | z
  ·rw[(n b z).1] at q;cases q
  ·exact hx z
 have b2:=J2.base;exact⟨I.ok,J2.os,J2.bare,⟨fun b o q a c d=>b2.keep b o q a c<|nx b o q d,fun b o q a c d=>b2.slot b o q a c<|nx b o q d,fun b o q a d=>b2.free b o q a<|nx b o q d,fun b o q d=>b2.there b o q<|nx b o q d,b2.Ee,b2.D_,b2.Et⟩,J2.loc,J2.cell,J2.free,J2.DB,J2.pin,J2.m_,J2.len⟩
theorem zh{M:Model}{Q:Shared->Prop}(I:Inv X pins σ H s)(x:Exc X pins H s.heap e C a0)(hA:A.frames=some X.stack)(FP:X.stack=X.env::outer)(hf:X.env.frame=some L)(hx:X.ex=[])(h:∀ h',Inv X pins σ H { s with heap:=h' }->Exc X pins H h' e C a0->Q { s with heap:=h' }):wpAny M A (noteFrame (.ref e) X.env) (fun _ s2=>wpAny M A (setFlight (.ref e) none) (fun _ s3=>Q s3) EE s2) EE s:=by
 obtain⟨hE,fE,oe,vs,T,oT,ts,t1,t2,t3,t4,t6,t7,t8,t9,tH,fT⟩:=x;have hl:s.heap.FunFrames X.base (X.env::outer):=FP ▸ I.stack;have hF:∀ b∈DL (X.env::outer),H b=none:=fun b hb=>I.Eo b (FP ▸ hb);have hS:∀ b∈e::T::DL (X.env::outer),b∈DL (X.env::outer)\/b∈[e,T]:=fun b hb=>by
  rcases ZT.mp hb with r | r
  ·rw[r];exact .inr (.head _)
  ·rcases ZT.mp r with r | r
   ·rw[r];exact .inr (.tail _<|.head _)
   ·exact .inl r
 have hH:∀ b∈e::T::DL (X.env::outer),H b=none:=fun b hb=>by
  rcases ZT.mp hb with r | r
  ·rw[r];exact hE
  ·rcases ZT.mp r with r | r
   ·rw[r];exact tH
   ·exact hF b r
 refine wpAny_noteFrame_onW (base:=PySem.W.hideAll s.heap (e::T::DL (X.env::outer))) (hA.trans (by rw[FP])) (jY hl fun b hb=>.tail _<|.tail _ hb) hf ⟨oe,vs,T,oT,ts,t1,t2,t3,t4,Y0 _<|.tail _<|.head _,t6,t7,t8,t9⟩ (fun b o q=>Yc _ q) (Y0 _<|.head _) fun h2 ⟨k1,k2,k3,k4⟩=>?_;refine wpAny_setFlight_noneW (s:={ s with heap:=h2 }) k1 k2 k3 fun h3 j1 _ j3 j4=>?_;have k5:∀ b o,s.heap.get? b=some o->(∀ vs,o.data≠.fields vs)->∃ sl,h3.get? b=some { o with slots:=sl }:=fun b o q d=>by
  obtain⟨sl,e1⟩:=k4 b o q d;exact⟨sl,j4 b _ e1 d⟩
 obtain⟨u,ho⟩:=jZ (P:=X.prog) (w:=X.w) (xs:=[e,T]) hl hH hS I.m_ j1 k5;have J:Inv X pins σ H { s with heap:=h3 }:=I.Jq (FP ▸ u) ho fun b hb=>by
  rcases ZT.mp hb with r | r
  ·rw[r];exact fE
  ·rw[ZX.mp r];exact fT
 obtain⟨Gu,Gj,T',Ir,Hb,q1,q2,q3,q4,q5,q6,q7,q8,q9⟩:=j3;have LJ:H T'=none/\Jp X pins T':=by
  by_cases z:T'=T
  ·rw[z];exact⟨tH,fT⟩
  ·have n:s.heap.get? T'=none:=by
    cases q:s.heap.get? T' with
    | none=>rfl
    | some o=>
     by_cases hm:T'∈e::T::DL (X.env::outer)
     ·rcases ZT.mp hm with r | r
      ·exact absurd r q6
      ·rcases ZT.mp r with r | r
       ·exact absurd r z
       ·obtain⟨_,o',Gz,E6⟩:=hl.mem r;obtain⟨sl,e1⟩:=k5 T' o' Gz E6;rw[q7] at e1;cases e1;exact absurd q8 (E6 Hb)
     ·rw[Yx _ q hm] at q5;cases q5
   exact⟨I.m_.gone n,j9 I n (by rw[hx];exact W9)⟩
 exact h h3 J ⟨hE,fE,Gu,Gj,T',Ir,Hb,q1,q2,q3,q4,q6,q7,q8,q9,LJ.1,LJ.2⟩
end
section
variable{X:Cx}{pins:List (Addr×Obj)}{σ:St}{H:Hp}{s:Shared}
variable{n:Str}
theorem ka{M:Model}(I:Inv X pins σ H s)(hN:X.N.Nodup)(hi:X.N[i]?=some n)(hk:X.env.kindOf n=some .local)(h:∀ s',Inv X pins (σ.set i none) H s'->Q () s'):wpAny M A (do bindName X.env n .none;unbindBehindTheSuite X.env n pos) Q EE s:=by
 obtain⟨m,hn,hl⟩:=id I.loc;have Oe:∀ b o,X.s₀.heap.get? b=some o->b≠X.env.locals:=fun b o e=>Zx (Zy (ZO e) I.ok.above);refine wpAny_nameGoes_keeps hk hn (by rw[I.ok.kind];rfl) fun h' v KR hs=>h _ ?_;refine⟨I.ok,I.os,I.bare,⟨fun b o e a c d=>(hs.2 b<|Oe b o e).trans<|I.base.keep b o e a c d,fun b o e a c d=>?_,I.base.free,fun b o e d=>?_,I.base.Ee,I.base.D_,I.base.Et⟩,⟨_,KR,fun j y v' e1 e2 e3=>?_⟩,fun y c e=>?_,I.free,I.DB,fun p hp=>?_,fun b ob e=>?_,by rw[XN];exact I.len⟩
 ·obtain⟨sl,e1⟩:=I.base.slot b o e a c d;exact⟨sl,(hs.2 b<|Oe b o e).trans e1⟩
 ·obtain⟨o',e1⟩:=I.base.there b o e d;exact⟨o',(hs.2 b<|Oe b o e).trans e1⟩
 ·by_cases hj:j=i
  ·rw[hj,Xt] at e2;rw[ZZ rfl] at e2;split at e2<;>cases e2
  ·rw[YZ (Yv hj)] at e2;obtain⟨u',r',q⟩:=hl j y v' e1 e2 e3;refine⟨u',r',?_⟩;rcases q with ⟨k,e⟩ | ⟨k,c,e,z⟩
   ·have ny:y≠n:=fun z=>hj (kX hN e1<|z ▸ hi);exact .inl ⟨k,(ZW ny).trans e⟩
   ·exact .inr ⟨k,c,e,z.sameBut hs<|I.Iz y c e⟩
 ·obtain⟨w',z⟩:=I.cell y c e;exact⟨w',z.sameBut hs<|I.Iz y c e⟩
 ·obtain⟨e,n',ne,nf,d⟩:=I.pin p hp;exact⟨(hs.2 p.1 ne).trans e,n',ne,nf,d⟩
 ·refine (I.m_ b ob e).EI (fun c u hc q=>(hs.2 c fun z=>?_).trans q) (fun _ q=>q) fun _ _ q=>q;rcases hc with r | r
  ·rw[<- r,z,I.free] at e;cases e
  ·rw[z,I.free] at r;cases r
theorem zi{M:Model}(I:Inv X pins σ H s)(x:Exc X pins H s.heap e C a0)(FP:X.stack=X.env::outer)(hx:X.ex=[])(h:∀ h',Inv X pins σ H { s with heap:=h' }->Exc X pins H h' e C a0->Q () { s with heap:=h' }):wpAny M A (setFlight (.ref e) none) Q EE s:=by
 obtain⟨hE,fE,oe,vs,T,oT,ts,t1,t2,t3,t4,t6,t7,t8,t9,tH,fT⟩:=x;have hl:s.heap.FunFrames X.base (X.env::outer):=FP ▸ I.stack;have hF:∀ b∈DL (X.env::outer),H b=none:=fun b hb=>I.Eo b (FP ▸ hb);have hS:∀ b∈e::T::DL (X.env::outer),b∈DL (X.env::outer)\/b∈[e,T]:=fun b hb=>by
  rcases ZT.mp hb with r | r
  ·rw[r];exact .inr (.head _)
  ·rcases ZT.mp r with r | r
   ·rw[r];exact .inr (.tail _<|.head _)
   ·exact .inl r
 have hH:∀ b∈e::T::DL (X.env::outer),H b=none:=fun b hb=>by
  rcases ZT.mp hb with r | r
  ·rw[r];exact hE
  ·rcases ZT.mp r with r | r
   ·rw[r];exact tH
   ·exact hF b r
 refine wpAny_setFlight_noneW (base:=PySem.W.hideAll s.heap (e::T::DL (X.env::outer))) (fun b o q=>Yc _ q) (jY hl fun b hb=>.tail _<|.tail _ hb) ⟨oe,vs,T,oT,ts,t1,t2,t3,t4,Y0 _<|.tail _<|.head _,t6,t7,t8,t9⟩ fun h3 j1 _ j3 j4=>?_;have k5:∀ b o,s.heap.get? b=some o->(∀ vs,o.data≠.fields vs)->∃ sl,h3.get? b=some { o with slots:=sl }:=fun b o q d=>⟨o.slots,j4 b o q d⟩;obtain⟨u,ho⟩:=jZ (P:=X.prog) (w:=X.w) (xs:=[e,T]) hl hH hS I.m_ j1 k5;have J:Inv X pins σ H { s with heap:=h3 }:=I.Jq (FP ▸ u) ho fun b hb=>by
  rcases ZT.mp hb with r | r
  ·rw[r];exact fE
  ·rw[ZX.mp r];exact fT
 obtain⟨Gu,Gj,T',Ir,Hb,q1,q2,q3,q4,q5,q6,q7,q8,q9⟩:=j3;have LJ:H T'=none/\Jp X pins T':=by
  by_cases z:T'=T
  ·rw[z];exact⟨tH,fT⟩
  ·have n:s.heap.get? T'=none:=by
    cases q:s.heap.get? T' with
    | none=>rfl
    | some o=>
     by_cases hm:T'∈e::T::DL (X.env::outer)
     ·rcases ZT.mp hm with r | r
      ·exact absurd r q6
      ·rcases ZT.mp r with r | r
       ·exact absurd r z
       ·obtain⟨_,o',Gz,E6⟩:=hl.mem r;obtain⟨sl,e1⟩:=k5 T' o' Gz E6;rw[q7] at e1;cases e1;exact absurd q8 (E6 Hb)
     ·rw[Yx _ q hm] at q5;cases q5
   exact⟨I.m_.gone n,j9 I n (by rw[hx];exact W9)⟩
 exact h h3 J ⟨hE,fE,Gu,Gj,T',Ir,Hb,q1,q2,q3,q4,q6,q7,q8,q9,LJ.1,LJ.2⟩
abbrev Cx.FX(X:Cx)(ps:List (Addr×Obj))(e:Addr)(oe:Obj):Cx:={ X with A:=X.A.mark (some<|.ref e),calm:=false,xe:=fun _ _=>False,pn:=X.pn++(ps++[(e,oe)]) }
theorem Inv.FX(I:Inv X pins σ H s)(x:Exc X pins H s.heap e C a0)(he:s.heap.get? e=some oe):Inv (X.FX pins e oe) [] σ H s:=by
 obtain⟨hE,fE,Gu,vs,T,oT,ts,t1,t2,t3,_⟩:=x;rw[he] at t1;cases t1;refine⟨⟨I.ok.mod,I.ok.kind,I.ok.glob,I.ok.blt,I.ok.above,I.ok.inj,I.ok.has,I.ok.Hv,fun z=>(by cases z),I.ok.frames,I.ok.Hw,I.ok.I_,I.ok.bs,I.ok.Gy,I.ok.Fd,I.ok.Fe,I.ok.DT,I.ok.GY⟩,I.os,I.bare,I.base,I.loc,I.cell,I.free,I.DB,fun p hp=>?_,I.m_,I.len⟩;have hp:p∈X.pn++(pins++[(e,oe)]):=by rw[ZY] at hp;exact hp
 rw[<- Z7] at hp;rcases ZD.mp hp with z | z
 ·exact I.pin p z
 ·rw[ZX.mp z];refine⟨he,hE,fE.2.1,fun hf=>?_,fun v hv=>?_⟩
  ·obtain⟨_,o,ho,_⟩:=I.ok.DT.mem hf;rw[fE.1] at ho;cases ho
  ·rw[t3] at hv;cases hv
theorem Inv.FY(ok:X.Ok)(I:Inv (X.FX pins e oe) q σ H s):Inv X pins σ H s:=
 ⟨ok,I.os,I.bare,I.base,I.loc,I.cell,I.free,I.DB,fun p hp=>I.pin p (ZJ _ (show p∈X.pn++(pins++[(e,oe)]) by rw[<- Z7];exact ZJ _ hp)),I.m_,I.len⟩
theorem Exc.same(x:Exc X pins H h e C a0)(hs:Heap.SameBut a h h')(n:∀ b,Jp X pins b->b≠a):Exc X pins H h' e C a0:=by
 obtain⟨hE,fE,oe,vs,T,oT,ts,t1,t2,t3,t4,t6,t7,t8,t9,tH,fT⟩:=x;exact⟨hE,fE,oe,vs,T,oT,ts,(hs.2 e<|n e fE).trans t1,t2,t3,t4,t6,(hs.2 T<|n T fT).trans t7,t8,t9,tH,fT⟩
theorem zj{rest:List ExceptHandler}(I:Inv X pins σ H s)(x:Exc X pins H s.heap e C a0)(FP:X.stack=X.env::outer)(hx:X.ex=[])(hg:Gl X y)(hm:X.mg y=some (.ref CM))(hq:PySem.W.exmOne X.K (.ref C) (.ref CM)=some true)(hN:X.N.Nodup)(hi:X.N[i]?=some n)(hk:X.env.kindOf n=some .local)(hs:∀ oe:Obj,oe.cls=.ref C->FN (X.FX pins e oe) (b0::Fq) t)(ht:t { nx:=fun σ' H'=>D.nx (σ'.set i none) H',rt:=D.rt,bk:=fun σ' H'=>D.bk (σ'.set i none) H',ct:=fun σ' H'=>D.ct (σ'.set i none) H' } (σ.set i<|some<|.ref e) H)(hd:(y == ("__debug__" : Str))=false:=by decide):
  wpAny (model X.prog X.w) X.A (handleBy (.ref e) X.env (.ExceptHandler (some<|.Name y np) (some n) (b0::Fq) IP::rest)) (SP X pins D) EE s:=by
 refine wpAny_handleBy_cons (codeAny_handlers_test ?_) (by intro q;cases q);obtain⟨oe,he,hc⟩:∃ oe,s.heap.get? e=some oe/\oe.cls=.ref C:=by
  obtain⟨_,_,oe,_,_,_,_,t1,t2,_⟩:=x;exact⟨oe,t1,t2.1⟩
 have S:=I.FX x he;refine ie S hg hm ?_ hd;have LT:PySem.W.Looks (model X.prog X.w) s.heap (typeOf<|.ref e) (.ref C):=hc ▸ ((XX he).andThen .now);refine PySem.W.exm_one (M:=model X.prog X.w) I.GZ LT hq _ _ _ s (fun b o q=>q) ?_;refine codeAny_handlers_suite_as (zi I x FP hx fun h' J xj=>?_);refine kY (v:=.ref e) J hN hi (.inl hk) rfl (fun s2 J2 ⟨a,sm,ha⟩=>?_) (.inr hk);have x2:=xj.same sm fun b fb=>by
  rcases ha with z | z
  ·rw[z];exact fb.2.1
  ·exact fun w=>fb.2.2.1 n a z w.symm
 obtain⟨Rc,M4,JO⟩:∃ oe,s2.heap.get? e=some oe/\oe.cls=.ref C:=by
  obtain⟨_,_,oe,_,_,_,_,t1,t2,_⟩:=x2;exact⟨oe,t1,t2.1⟩
 refine Y3 (hs Rc JO [] s2 _ H _ (J2.FX x2 M4) ht) (fun f s3 q=>?_) fun _ _ z=>False.elim z;cases f with
 | next=>obtain⟨σ',H',K,q⟩:=q;exact ka (K.FY I.ok) hN hi hk fun s4 K4=>⟨_,H',K4,q⟩
 | brk=>obtain⟨σ',H',K,q⟩:=q;exact ka (K.FY I.ok) hN hi hk fun s4 K4=>⟨_,H',K4,q⟩
 | cont=>obtain⟨σ',H',K,q⟩:=q;exact ka (K.FY I.ok) hN hi hk fun s4 K4=>⟨_,H',K4,q⟩
 | ret u=>obtain⟨v,σ',H',K,r,q⟩:=q;exact ka (K.FY I.ok) hN hi hk fun s4 K4=>⟨v,_,H',K4,r,q⟩
end
theorem ak.Jr{H:Hp}:∀ {D:SD}{σ:St}{F:List Addr}{i:Nat},ak H D σ F->∃ F1 F2,ak H (D.set i none) (σ.set i none) F1/\(F1++F2).Perm F
 | [],σ,F,i,h=>by obtain⟨rfl,rfl⟩:=h;exact⟨[],[],⟨rfl,rfl⟩,.refl _⟩
 | o::D,σ,F,0,h=>by
  obtain⟨x,r,F1,F2,rfl,h1,h2,rfl⟩:=h;exact⟨F2,F1,⟨none,r,[],F2,rfl,rfl,h2,rfl⟩,Z0⟩
 | o::D,σ,F,i+1,h=>by
  obtain⟨x,r,F1,F2,rfl,h1,h2,rfl⟩:=h;obtain⟨G1,G2,k1,k2⟩:=ak.Jr (i:=i) h2;refine⟨F1++G1,G2,⟨x,r.set i none,F1,G1,rfl,h1,k1,rfl⟩,?_⟩;rw[Z7];exact k2.append_left F1
def gK(gb gc:MS):MS:=fun D=>match gb D with
 | some r=>some r
 | none=>gc D
section
variable{X:Cx}
theorem Exc.DU{E:Value->Shared->Prop}{ps:List (Addr×Obj)}(x:Exc (X.hold E ps) q H h e C a0):Exc X ps H h e C a0:=by
 have f:∀ b,Jp (X.hold E ps) q b->Jp X ps b:=fun b z=>⟨z.1,z.2.1,z.2.2.1,fun p hp=>z.2.2.2 p<|ZJ _ hp⟩;obtain⟨hE,fE,oe,vs,T,oT,ts,t1,t2,t3,t4,t6,t7,t8,t9,tH,fT⟩:=x;exact⟨hE,f e fE,oe,vs,T,oT,ts,t1,t2,t3,t4,t6,t7,t8,t9,tH,f T fT⟩
theorem zk{n:Str}{gb gc:MS}{g:Addr->MS}(FP:X.stack=X.env::outer)(hf:X.env.frame=some L)(hx:X.ex=[])(hg:Gl X y)(hm:X.mg y=some (.ref CM))(hq:PySem.W.exmOne X.K (.ref C) (.ref CM)=some true)(hN:X.N.Nodup)(hi:X.N[i]?=some n)(hk:X.env.kindOf n=some .local)(M5:i∉fix)(hb:∀ E p,F9 (X.hold E p) fix body gb)(hr:∀ E p Z,(∀ σ H,Z σ H->KI (X.hold E p) C σ H)->F_ (X.hold E p) fix Z body R)(hs:∀ p e oe,oe.cls=.ref C->F9 (X.FX p e oe) fix (b0::Fq) (g e))(hc:∀ D fl D3,gb D=none->gc D=some (fl,D3)->fl=.nx/\∃ D',R D D'/\i<D'.length/\∀ e,∃ D4,g e (D'.set i<|some<|.im<|.fn e)=some (.nx,D4)/\D4.set i none=D3)(hd:(y == ("__debug__" : Str))=false:=by decide):
  VS X fix (.Try body [.ExceptHandler (some<|.Name y np) (some n) (b0::Fq) IP] [] [] pos) (gK gb gc):=by
 intro pins s σ H D I ⟨D0,F,fl,D1,st,nd,LK,q⟩;unfold gK at LK;cases hv:gb D0 with
 | some r=>
  rw[hv] at LK;exact (zg (pos:=pos) hb) s σ H D I ⟨D0,F,fl,D1,st,nd,by rw[hv];exact LK,q⟩
 | none=>
  rw[hv] at LK;obtain⟨rfl,D',hR,hl,Re⟩:=hc D0 fl D1 hv LK;refine wpAny_Try_except (Y3 ((hr _ pins (fun σ' H'=>∃ F',aG fix σ σ'/\ak H' D' σ' F'/\p_ H F H' F')<|fun σ' H' hZ q' s' e a0 J xj=>?_) [] s σ H D (I.hold _) ⟨D0,F,D',st,nd,hR,fun σ' H' F' fx e_ sp=>⟨F',fx,e_,sp⟩⟩) (fun f s1 w=>?_) fun e s1 z=>z)
  ·obtain⟨F',fx,e_,sp⟩:=hZ;have K:=J.DU;have xk:=xj.DU;refine zh K xk K.ok.frames FP hf hx fun h' K2 x2=>?_;obtain⟨D4,e4,e5⟩:=Re e;obtain⟨F1,F2,p1,p2⟩:=e_.put (d:=.im (.fn e)) (v:=.ref e) (G:=[]) ⟨rfl,rfl⟩ hl;rw[ZY] at p2;have Pz:p_ H F H' F1:=sp.less (C:=F2) p2;refine zj K2 x2 FP hx hg hm hq hN hi hk (t:=tS fix (g e)) (fun oe ho=>hs pins e oe ho) ⟨_,F1,.nx,D4,p1,Pz.nd,e4,fun σ2 H2 G2 J7 q_ Rf=>?_⟩ hd;obtain⟨G3,G4,u1,u2⟩:=q_.Jr (i:=i);rw[e5] at u1;refine q (σ2.set i none) H2 G3 ?_ u1 ((Pz.seq Rf).less (C:=G4) u2);exact (fx.trans<|aG.set M5).trans (J7.trans<|aG.set M5)
  ·have w:=SP.DU w;cases f with
   | next=>exact X5 w
   | brk=>exact w
   | cont=>exact w
   | ret u=>exact w
end
end L2
namespace L2
open PySem PySem.Spec PySem.Calls PyProof.Rows
variable{Q:VK}{H:Hp}{σ:St}{g:M Opd}{c:Value}{oe:Obj}{C e:Addr}
theorem zl{K:PySem.W.Frag}(hc:oe.cls=.ref C)(q:PySem.W.kitOne K (.ref C) c=some true):Answers (fun s=>K.In s.heap/\s.heap.get? e=some oe) (.ref e) c true:=by
 intro dep tk prog w A R s hs;obtain⟨h0,g,d,tt,os⟩:=s;obtain⟨⟨X,p⟩,hq⟩:=hs;have LT:PySem.W.Looks (model prog w) h0 (typeOf<|.ref e) (.ref C):=hc ▸ (XX p).andThen .now;unfold PySem.W.kitOne at q;unfold Builtin.«isinstance.nested»;refine Z9 (LT.at ?_);by_cases z:(Value.ref C == c)=true
 ·rw[ZZ z];exact Z9 (YL<|ZU<|hq tt)
 ·rw[ZW z] at q;rw[ZW z];obtain⟨G8,LL,Lv⟩:=PySem.W.kit_cls (M:=model prog w) X q;have LI:PySem.W.Looks (model prog w) h0 (isInstance (.ref e) c) true:=LT.andThen Lv;refine Z9 (G8.at ?_);rw[ZZ (by decide)]
  k_delta "plainIsInstance"
  refine Z9 (Z9<|LL.at ?_);simp only[W4,Zc,X6];refine Z9 (LI.at ?_);simp only[Wx];exact ZU (ZU<|hq tt)
section
variable{X:Cx}
theorem zm{v:V}(hp:(e,oe)∈X.pn)(hc:oe.cls=.ref C)(hv:∀ u,aw v u->u=c)(q:PySem.W.kitOne X.K (.ref C) c=some true):bb X (.builtin "isinstance") (fun xs H Q=>xs=[.ref e,v]/\Q (.bl true) H):=by
 intro pins s σ H xs us Q I r ⟨ex,hq⟩;subst ex;cases r with
 | cons r rr=>
  cases rr with
  | cons r' rr=>
   cases rr;cases (show _=Value.ref e from r);rw[hv _ r'];have he:=(I.pin (e,oe)<|ZJ _ hp).1;exact call_isinstance (S:=fun _ R s=>(X.K.In s.heap/\s.heap.get? e=some oe)/\∀ tk,R (.ok<|.ret<|.bool true) { s with toks:=tk }) (fun prog w A R s hs=>isinstance_outer (zl hc q 0 _ prog w A R s hs) (by intro z;cases z)) ⟨⟨I.GZ,he⟩,fun tk=>⟨.bl true,H,I.tok _,rfl,hq⟩⟩
theorem qD{R:VK}(h:tO g σ H Q)(k:∀ v H1,Q v H1->R v H1):tO g σ H R:=by
 obtain⟨D,F,r,D',st,nd,e,q⟩:=h;exact⟨D,F,r,D',st,nd,e,fun v H1 F1 R1 a b c=>k _ _<|q v H1 F1 R1 a b c⟩
def mx(e:Addr):Vl->Bool
 | .im (.fn a)=>decide (a=e)
 | _=>false
theorem qE:∀ {d:Vl},mx e d=true->d=.im (.fn e)
 | .im (.fn a),h=>by rw[Zk h]
def iG(e:Addr)(g:M Opd):M Vl:=fun D=>(g D).bind fun p=>(rsl p.2 p.1).bind fun d=>if mx e d=true then some (.im<|.bl true,p.2) else none
theorem zn(h:tV (iG e g) σ H Q):tO g σ H fun x H1=>x=.ref e/\Q (.bl true) H1:=by
 obtain⟨D,F,r,D',st,nd,Fm,q⟩:=h;obtain⟨⟨o,D1⟩,h1,h2⟩:=Z8.mp Fm;obtain⟨d,h3,h4⟩:=Z8.mp h2;split at h4
 ·rename_i h5;rw[qE h5] at h3;cases h4;exact⟨D,F,o,D1,st,nd,h1,fun v H1 F1 R u_ o1 s1=>⟨(o1.read u_ h3).i,q _ H1 F1 [] u_ ⟨rfl,rfl⟩ (by rw[ZY];exact s1.both)⟩⟩
 ·cases h4
theorem zo{T:String}{y:Str}{ex:Expr}{p p2 pos:Pos}(hp:(e,oe)∈X.pn)(hc:oe.cls=.ref C)(q:PySem.W.kitOne X.K (.ref C) (.type T)=some true)(hg:Gl X "isinstance")(hm:X.mg "isinstance" = none)(hv:bootBuiltins "isinstance" = some (.builtin "isinstance"))(Of:Gl X y)(Og:X.mg y=none)(Rh:bootBuiltins y=some (.type T))(h:VO X ex g)(hn:y ≠ "__name__" := by decide)(hd:(y == ("__debug__" : Str))=false:=by decide)(he:starEach [ex,.Name y p2] X.env=(false,eval ex X.env)::starEach [.Name y p2] X.env:=by rfl)(Io:starEach [.Name y p2] X.env=(false,eval (.Name y p2) X.env)::starEach [] X.env:=by rfl)(E3:(backTo pos<|starEach [.Name y p2] X.env).any (·.1)=false:=by rfl):VE X (.Call (.Name "isinstance" p) [ex,.Name y p2] [] pos) (iG e g):=
 aT (ju (zm (v:=.ty T) hp hc (fun _ r=>r) q) hg hm hv (dJ h (dJ (nY (v:=.ty T) Of Og Rh rfl hn hd) ij Io) he) (by decide) (by decide) he E3) fun σ H Q z=>qD (zn z) fun x H1 ⟨e1,q1⟩=>⟨by rw[e1],q1⟩
end
end L2
namespace L2
open PySem PySem.Spec PyProof.Rows
variable{i:Nat}{np pos:Pos}{C:Addr}{x:Str}{st:Stmt}{e:Expr}{Gs:List Stmt}
abbrev RS:=SD->Option SD
variable{r:RS}
abbrev Gk(r:RS):SD->SD->Prop:=fun D D'=>r D=some D'
def kb(g:MS)(r:RS):RS:=fun D=>match g D with
 | some (.nx,D1)=>r D1
 | _=>none
def M6(c:M Bool)(r:RS):RS:=fun D=>match c D with
 | some (true,D1)=>r D1
 | _=>none
def my(n:Nat)(Rr:List Vl->Bool)(g:M (List Opd)):RS:=fun D=>(g D).bind fun p=>if p.1.length=n then (bg p.1 p.2).bind fun q=>if Rr q.1=true then some q.2 else none else none
def Gv(n m:Nat)(r:RS):List Vl->Bool:=fun ds=>(r<|ds.map some++replicate (m - n) none).isSome
section
variable{X:Cx}{fix:List Nat}{Z:St->Hp->Prop}{R R':SD->SD->Prop}{r:RS}
theorem mz(h:F_ X fix Z Gs R)(k:∀ D D',R' D D'->R D D'):F_ X fix Z Gs R':=fO h fun E σ H ⟨D,F,D',st,nd,e,z⟩=>⟨D,F,D',st,nd,k _ _ e,z⟩
theorem zp(h:Iq X fix Z e R)(k:∀ D D',R' D D'->R D D'):Iq X fix Z e R':=aT h fun σ H Q ⟨D,F,D',st,nd,e,z⟩=>⟨D,F,D',st,nd,k _ _ e,z⟩
theorem zq{g:MS}(h1:VS X fix st g)(h2:F_ X fix Z Gs (Gk r)):F_ X fix Z (st::Gs) (Gk<|kb g r):=mz (yZ h1 h2) fun D D' e=>by
 change (match g D with | some (.nx,D1)=>r D1 | _=>none)=some D' at e;split at e
 ·rename_i D1 h;exact⟨D1,h,e⟩
 ·cases e
theorem zr{c:Expr}{a b rest:List Stmt}{gc:M Bool}(hc:VT X c gc)(ha:F_ X fix Z a (Gk r)):F_ X fix Z (.If c a b pos::rest) (Gk<|M6 gc r):=mz (y3 hc ha) fun D D' e=>by
 change (match gc D with | some (true,D1)=>r D1 | _=>none)=some D' at e;split at e
 ·rename_i D1 h;exact⟨D1,h,e⟩
 ·cases e
theorem zt{m:Str}{j}{cp x_:Pos}{rest:List Stmt}(hc:X.calm=true)(hg:Gl X x)(hm:X.mg x=some (.ref C))(q:PySem.W.excIn X.K C [.type "ValueError",.type "Exception",.type "BaseException",.type "object"] "ValueError.__new__" = true)(hz:∀ D σ H,Z σ H->M2 X C D σ H)(hd:(x == ("__debug__" : Str))=false:=by decide):
  F_ X fix Z (.Raise (some<|.Call (.Name x np) [.Constant (.str m) j cp] [] x_) none pos::rest) (Gk some):=mz (y4 hc hg hm q hz hd) fun D D' e=>(Zv e).symm
theorem qF{rest:List Stmt}{pos':Pos}(hN:X.N.Nodup)(hi:X.N[i]?=some x)(hx:Loc X.env.scope x)(he:Iq X fix Z e (Gk r))(hs:swapsWith e (some<|.Name x pos') pos.line X.env=pure false:=by rfl)(Hx:X.fn x=true\/X.env.scope.names.lookup x=some .local:=by first | exact .inl rfl | exact .inr rfl | assumption):F_ X fix Z (.Assign [.Name x pos'] e pos::rest) (Gk r):=zc hN hi hx he hs Hx
end
def gL(P:Program)(w:World)(K:PySem.W.Frag)(mg:Str->Option Value)(base:Heap)(k:Nat)(x:Str)(st:Stmt)(f:Addr)(ps:List Str)(n:Nat)(Rr:List Vl->Bool)(C:Addr):Prop:=
 ∃ fd,Fi K x x st f fd/\cf K fd ps []/\mg x=some (.ref f)/\Eg P w K mg base (IR P w) k f fd ps (M3 n (fun ds=>Rr ds=true) C)
section
variable{P:Program}{w:World}{K:PySem.W.Frag}{mg:Str->Option Value}{base h:Heap}{k n:Nat}{x:Str}{st:Stmt}{f C:Addr}{ps:List Str}
theorem qG{N:List Str}{fix:List Nat}(F:EG K mg x st f ps)(S:j_ N ps (au st))(hn:ps.length=n)(hb:N.Nodup->∀ (o_:Value) (A:Around) (outer:List Env) (s:Shared) (H:Hp) (E:XK),A_ k (A.deeper<|envOfC x (au st) s.heap.objs.size f o_)->F_ (bZ (IR P w) P w K mg base N x (au st) f o_ A outer s H E) fix (fun _ H'=>E (.ref C) none H') (bA st) (Gk r)):
  gL P w K mg base (k+1) x st f ps n (Gv n N.length r) C:=
 have ⟨_,U,b,m⟩:=F
 ⟨_,U,b,m,by
  have:=Rb U S hn (hb S.nd);have e:(fun ds:List Vl=>∃ D',Gk r (ds.map some++replicate (N.length - n) none) D')=fun ds=>Gv n N.length r ds=true:=by
   funext ds;exact propext (Ws.symm)
  rw[e] at this;exact this⟩
end
section
variable{X:Cx}{fix:List Nat}{Z:St->Hp->Prop}
theorem qH{n k m:Nat}{Rr:List Vl->Bool}{f:Addr}{ps:List Str}{p:Pos}{es:List Expr}{g:M (List Opd)}(F:gL X.prog X.w X.K X.mg X.base k x st f ps n Rr C)(hr:A_ m X.A)(hg:Gl X x)(hx:X.ex=[])(hz:∀ σ H,Z σ H->KI X C σ H)(ha:VA X (e::es) g)(hm:k<=m:=by decide)(FQ:(x == ("__debug__" : Str))=false:=by decide)(he:starEach (e::es) X.env=(false,eval e X.env)::starEach es X.env:=by rfl)(E3:(backTo pos<|starEach es X.env).any (·.1)=false:=by rfl):
  Iq X fix Z (.Call (.Name x p) (e::es) [] pos) (Gk<|my n Rr g):=by
 obtain⟨fd,U,b,m,F⟩:=F;refine zp (zd F (hr.mono hm) hg m U.kp b hx hz ha FQ he E3) fun D D' e=>?_;obtain⟨⟨os,D1⟩,h1,h2⟩:=Z8.mp e;dsimp only at h2;split at h2
 ·rename_i hl;obtain⟨⟨ds,D2⟩,h3,h4⟩:=Z8.mp h2;dsimp only at h4;split at h4
  ·rename_i h5;cases h4;exact⟨os,D1,ds,h1,hl,h3,h5⟩
  ·cases h4
 ·cases h2
def kc(r:RS)(gs:SD->Option SD):MS:=fun D=>(r D).bind fun D'=>(gs D').map fun D3=>(.nx,D3)
theorem zu{body:List Stmt}{y n:Str}{IP:Pos}{b0:Stmt}{Fq:List Stmt}{CM L:Addr}{gb:MS}{g:Addr->MS}{gs:SD->Option SD}{outer:List Env}(FP:X.stack=X.env::outer)(hf:X.env.frame=some L)(hx:X.ex=[])(hg:Gl X y)(hm:X.mg y=some (.ref CM))(hq:PySem.W.exmOne X.K (.ref C) (.ref CM)=some true)(hN:X.N.Nodup)(hi:X.N[i]?=some n)(hk:X.env.kindOf n=some .local)(M5:i∉fix)(hb:∀ E p,F9 (X.hold E p) fix body gb)(hr:∀ E p Z,(∀ σ H,Z σ H->KI (X.hold E p) C σ H)->F_ (X.hold E p) fix Z body (Gk r))(hs:∀ p e oe,oe.cls=.ref C->(e,oe)∈(X.FX p e oe).pn->F9 (X.FX p e oe) fix (b0::Fq) (g e))(hc:∀ D' D3,gs D'=some D3->i<D'.length/\∀ e,∃ D4,g e (D'.set i<|some<|.im<|.fn e)=some (.nx,D4)/\D4.set i none=D3)(hd:(y == ("__debug__" : Str))=false:=by decide):
  VS X fix (.Try body [.ExceptHandler (some<|.Name y np) (some n) (b0::Fq) IP] [] [] pos) (gK gb<|kc r gs):=by
 refine zk FP hf hx hg hm hq hN hi hk M5 hb hr (fun p e oe h=>hs p e oe h<|ZN _<|ZN _<|ZX.mpr rfl) (fun D fl D3 _ h=>?_) hd;obtain⟨D',h1,h2⟩:=Z8.mp h;obtain⟨D4,h3,h4⟩:=Z5.mp h2;cases h4;obtain⟨hl,k⟩:=hc D' D3 h3;exact⟨rfl,D',h1,hl,k⟩
theorem zv{K:PySem.W.Frag}:PySem.W.kitOne K (.ref C) (.ref C)=some true:=ZZ (Yr _)
def LM(K:PySem.W.Frag)(mg:Str->Option Value)(y:Str)(C:Addr):Prop:=mg y=some (.ref C)/\PySem.W.excIn K C [.type "ValueError",.type "Exception",.type "BaseException",.type "object"] "ValueError.__new__" = true
end
section
variable{X:Cx}
end
end L2
namespace L2
open PySem PySem.Spec PySem.Calls PyProof.Rows PySem.W
variable{tk:Tok}
structure Iu(K:PySem.W.Frag)(C:Addr):Prop where
 ga:PySem.W.findIn K (.ref C) "__getattribute__" = some (some<|.builtin "BaseException.__getattribute__")
 gh:PySem.W.findIn K (.ref C) "__getattr__" = some none
 cl:PySem.W.findIn K (.ref C) "__class__" = some (some<|.builtin "object.__class__")
 ob:PySem.W.mroIn K C (.type "object")=some true
 be:PySem.W.mroIn K C (.type "BaseException")=some true
 gt:PySem.W.specialIn K (.builtin "object.__class__") "__get__" = some (some<|.builtin "getset_descriptor.__get__")
 tk:PySem.W.takesIn K (.builtin "object.__class__")=some true
 cs:PySem.W.isClsIn K C=true
section
variable{prog:Program}{w:World}{A:Around}{E:Value->Shared->Prop}{K:PySem.W.Frag}{C e:Addr}{oe:Obj}{h:Heap}{g:Array GenState}{d:Drawn}{t:Nat}{os:OsState}
theorem zw{R:Result->Shared->Prop}{tp:Value}(k:Iu K C)(X:K.In h)(he:h.get? e=some oe)(hc:oe.cls=.ref C)(hq:R (.ok<|.ret<|.ref C) ⟨h,g,d,t,os⟩):
  codeAny (model prog w) A (.call (.builtin "getset_descriptor.__get__") ⟨[.builtin "object.__class__",.ref e,tp],[]⟩) R ⟨h,g,d,t,os⟩:=by
 have La:PySem.W.Looks (model prog w) h (typeOf<|.ref e) (.ref C):=hc ▸ ((XX he).andThen .now);have Lb:PySem.W.Looks (model prog w) h (isSubtype (.ref C)<|.type<|".".intercalate ("object.__class__".cutAt '.').dropLast) true:=by
  rw[F.owner_object_class];exact PySem.W.looks_mroIn X k.ob
 refine codeAny_call_builtin F.slot_gs_get.plain F.entry_gs_get (F.slot_gs_get.check _ _ _ _ _ _ _ _ Xk (F.args_gs_get _ _ _) ?_);repeat (any_goals (first | assumption | (with_reducible refine Xq he ?_;rw[hc]) | (with_reducible refine Looks.at Lb ?_) | wp_step))
 refine⟨Code.quiet_builtin _ (by decide +kernel),Wc F.entry_object_class ?_⟩;repeat (any_goals (first | assumption | (with_reducible refine Xq he ?_;rw[hc]) | wp_step))
theorem zx{Q:Fin->Shared->Prop}(k:Iu K C)(X:K.In h)(he:h.get? e=some oe)(hc:oe.cls=.ref C)(hq:Q (.done<|.ret<|.ref C) ⟨h,g,d,t,os⟩):
  wpAny (model prog w) A (Builtin.«object.__getattribute__» ⟨[.ref e,.str "__class__" tk],[]⟩) Q E ⟨h,g,d,t,os⟩:=by
 have Lc:=WZ (M:=model prog w) X k.cl;have Su:(⟨h,g,d,t,os⟩:Shared).TypeIs (.builtin "object.__class__") "getset_descriptor" := Xk;have f5:=Xk;have f6:=F.slot_gs_get.lookup;have f7:=F.slot_gs_set.lookup;repeat (any_goals (first | assumption | (with_reducible refine Xq he ?_;rw[hc]) | (with_reducible refine Looks.at Lc ?_) | wp_step))
 refine zw k X he hc ?_;repeat (any_goals (first | assumption | wp_step))
theorem zy{M:Model}{nv:Value}{Q:Unit->Shared->Prop}(k:Iu K C)(X:K.In h)(he:h.get? e=some oe)(hc:oe.cls=.ref C)(hq:Q () ⟨h,g,d,t,os⟩):wpAny M A (checkBuiltinCall "BaseException.__getattribute__" ⟨[.ref e,nv],[]⟩) Q E ⟨h,g,d,t,os⟩:=by
 have b1:builtinKind "BaseException.__getattribute__" = some .slot:=by decide +kernel
 have b2:splitId "BaseException.__getattribute__" = some ("BaseException","__getattribute__"):=by decide +kernel
 have b3:=F.args_bexc_ga (.ref e) nv;have Lt:PySem.W.Looks M h (typeOf<|.ref e) (.ref C):=hc ▸ ((XX he).andThen .now);have Li:PySem.W.Looks M h (isInstance (.ref e)<|.type "BaseException") true:=Lt.andThen (PySem.W.looks_mroIn X k.be);simp only[checkBuiltinCall,b1,b2];refine Z9 (Li.at ?_);repeat (any_goals (first | assumption | wp_step))
theorem zA{fill expr:Bool}{Q:Value->Shared->Prop}(k:Iu K C)(X:K.In h)(he:h.get? e=some oe)(hc:oe.cls=.ref C)(hq:Q (.ref C) ⟨h,g,d,t,os⟩):
  wpAny (model prog w) A (getAttrBy (.ref e) (.str "__class__" tk) fill expr) Q E ⟨h,g,d,t,os⟩:=by
 have Lg:=WZ (M:=model prog w) X k.ga;have Lh:=WZ (M:=model prog w) X k.gh;have f3:=Wl.ga.bind (.ref e);have b0:(expr && onTheHeap (Value.builtin "BaseException.__getattribute__"))=false:=by cases expr<;>rfl
 have b2:(Value.builtin "BaseException.__getattribute__" == Value.builtin "object.__getattribute__")=false:=by decide +kernel
 have b1:(onTheHeap (Value.ref C) && Value.builtin "BaseException.__getattribute__" == Value.builtin "object.__getattribute__")=false:=by rw[b2];rfl
 repeat (any_goals (first | assumption | (with_reducible refine Xq he ?_;rw[hc]) | (with_reducible refine Looks.at Lg ?_) | (with_reducible refine Looks.at Lh ?_) | wp_step))
 refine codeAny_call_builtin Wl.ga.plain F.entry_bexc_ga (zy k X he hc<|zx k X he hc ?_);repeat (any_goals (first | assumption | wp_step))
theorem zB{Q:Option Value->Shared->Prop}(k:Iu K C)(X:K.In h)(he:h.get? e=some oe)(hc:oe.cls=.ref C)(hq:Q (some<|.ref C) ⟨h,g,d,t+1,os⟩):wpAny (model prog w) A (getAttr? (.ref e) "__class__") Q E ⟨h,g,d,t,os⟩:=by
 unfold getAttr? getAttrBy?;repeat (any_goals (first | assumption | with_reducible apply zA k X he hc | wp_step))
theorem zC(k:Iu K C)(hc:oe.cls=.ref C):PySem.W.KitX K (.ref e) (.ref C) fun h=>h.get? e=some oe where
 ty:=fun _ _ _ p=>hc ▸ ((XX p).andThen .now)
 it:=fun _ _ X _=>by
  have z:=k.cs;unfold PySem.W.isClsIn PySem.W.clsIn at z;split at z
  ·rename_i q;intro _ _ _ _ m hq;exact Z9 (wpAny_loadPart (m _ _<|X _ _ q)<|ZU hq)
  ·cases z
 ne:=fun h tp _ _ _ _ X p=>by
  have z:=k.cs;unfold PySem.W.isClsIn PySem.W.clsIn at z;split at z
  ·rename_i q;refine Bool.eq_false_iff.mpr fun b=>?_;cases Value.ref.inj (WG.mp b);cases (X _ _ q).symm.trans p
  ·cases z
 ca:=fun {_ _ _ _ _ s} X p z=>by
  obtain⟨h,g,d,t,os⟩:=s;exact zB k X p hc z
end
end L2
namespace L2
open PySem PySem.Spec PySem.Calls PyProof.Rows
section
variable{X:Cx}
variable{e C:Addr}{oe:Obj}{b:Bool}
theorem zD{v:V}{c:Value}(k:Iu X.K C)(hp:(e,oe)∈X.pn)(hc:oe.cls=.ref C)(hv:∀ u,aw v u->u=c)(q:PySem.W.kitOne X.K (.ref C) c=some b):bb X (.builtin "isinstance") (fun xs H Q=>xs=[.ref e,v]/\Q (.bl b) H):=by
 intro pins s σ H xs us Q I r ⟨ex,hq⟩;subst ex;cases r with
 | cons r rr=>
  cases rr with
  | cons r' rr=>
   cases rr;cases (show _=Value.ref e from r);rw[hv _ r'];exact PySem.W.kia_one (zC k hc) I.GZ (I.pin (e,oe)<|ZJ _ hp).1 q (by intro z;cases z) fun tk=>⟨.bl b,H,I.tok _,rfl,hq⟩
def dm(e:Addr)(b:Bool)(g:M Opd):M Vl:=fun D=>(g D).bind fun p=>(rsl p.2 p.1).bind fun d=>if mx e d=true then some (.im<|.bl b,p.2) else none
variable{g:M Opd}
theorem zE{σ:St}{H:Hp}{Q:VK}(h:tV (dm e b g) σ H Q):tO g σ H fun x H1=>x=.ref e/\Q (.bl b) H1:=by
 obtain⟨D,F,r,D',st,nd,Fm,q⟩:=h;obtain⟨⟨o,D1⟩,h1,h2⟩:=Z8.mp Fm;obtain⟨d,h3,h4⟩:=Z8.mp h2;split at h4
 ·rename_i h5;rw[qE h5] at h3;cases h4;exact⟨D,F,o,D1,st,nd,h1,fun v H1 F1 R u_ o1 s1=>⟨(o1.read u_ h3).i,q _ H1 F1 [] u_ ⟨rfl,rfl⟩ (by rw[ZY];exact s1.both)⟩⟩
 ·cases h4
theorem fc{CN:Addr}{y:Str}{ex:Expr}{p p2 pos:Pos}(k:Iu X.K C)(hp:(e,oe)∈X.pn)(hc:oe.cls=.ref C)(q:PySem.W.kitOne X.K (.ref C) (.ref CN)=some b)(hg:Gl X "isinstance")(hm:X.mg "isinstance" = none)(hv:bootBuiltins "isinstance" = some (.builtin "isinstance"))(Of:Gl X y)(Og:X.mg y=some (.ref CN))(h:VO X ex g)(hd:(y == ("__debug__" : Str))=false:=by decide)(he:starEach [ex,.Name y p2] X.env=(false,eval ex X.env)::starEach [.Name y p2] X.env:=by rfl)(Io:starEach [.Name y p2] X.env=(false,eval (.Name y p2) X.env)::starEach [] X.env:=by rfl)(E3:(backTo pos<|starEach [.Name y p2] X.env).any (·.1)=false:=by rfl):VE X (.Call (.Name "isinstance" p) [ex,.Name y p2] [] pos) (dm e b g):=
 aT (ju (zD (v:=.ref CN) k hp hc (fun _ r=>r) q) hg hm hv (dJ h (dJ (nX (v:=.ref CN) Of Og rfl hd) ij Io) he) (by decide) (by decide) he E3) fun σ H Q z=>qD (zE z) fun x H1 ⟨e1,q1⟩=>⟨by rw[e1],q1⟩
end
variable{es:List Expr}{fix:List Nat}{n k:Nat}{ps N:List Str}{st:Stmt}{x qual:Str}{f C:Addr}{pos:Pos}{oe:Obj}{e:Expr}
abbrev Iv(A:Around):Around:={ A with handled:=none }
theorem A_.Iv{k:Nat}{A:Around}(r:A_ k A)(v:Option Value):A_ k (Iv<|A.mark v):=⟨rfl,r.dp,r.un,r.gd⟩
abbrev Oh(P:Program)(w:World)(K:PySem.W.Frag)(mg:Str->Option Value)(base:Heap)(N:List Str)(qual:Str)(scope:Scope)(f:Addr)(cd:Value)(A:Around)(outer:List Env)(s:Shared)(H:Hp)(e:Addr)(oe:Obj):Cx:=
 { (bZ FS P w K mg base N qual scope f cd A outer s H E0).JG with calm:=false,pn:=[(e,oe)] }
section
variable{P:Program}{w:World}{K:PySem.W.Frag}{mg:Str->Option Value}{base:Heap}
variable{e:Addr}
theorem Inv.toH{scope:Scope}{cd:Value}{A:Around}{outer:List Env}{s s1:Shared}{H H1:Hp}{σ:St}(I:Inv (bZ FS P w K mg base N qual scope f cd (Iv A) outer s H E0) [] σ H1 s1)(hA:A.frames=some outer)(he:s.heap.get? e=some oe)(hE:H e=none)(hf:e∉DL outer)(hd:∀ v,oe.data≠.cell v):Inv (Oh P w K mg base N qual scope f cd A outer s H e oe) [] σ H1 s1:=by
 refine⟨⟨I.ok.mod,I.ok.kind,I.ok.glob,I.ok.blt,I.ok.above,I.ok.inj,I.ok.has,I.ok.Hv,fun z=>(by cases z),Around.frames_deeper hA,I.ok.Hw,I.ok.I_,I.ok.bs,I.ok.Gy,I.ok.Fd,I.ok.Fe,I.ok.DT,I.ok.GY⟩,I.os,I.bare,I.base,I.loc,I.cell,I.free,I.DB,fun p hp=>?_,I.m_,I.len⟩;rw[ZX.mp (show p∈[(e,oe)] from by rw[ZY] at hp;exact hp)];have nx:e∉(bZ FS P w K mg base N qual scope f cd (Iv A) outer s H E0).ex:=fun z=>by cases z
 exact⟨I.base.keep e oe he hE hf nx,I.base.free e oe he hE nx,Zx<|ZO he,hf,hd⟩
def PB(P:Program)(w:World)(K:PySem.W.Frag)(mg:Str->Option Value)(base:Heap)(k:Nat)(f:Addr)(fd:FuncData)(ps:List Str)(n:Nat)(G:Fn)(e:Addr)(oe:Obj):Prop:=
 ∀ (A:Around) (outer:List Env) (s:Shared) (H:Hp) (args:Args) (us:List Value) (vs:List V) (Q:VK),A_ k (Iv A)->G0 P w K mg base A outer s H->BindsTo s fd args (ps.zip us)->az vs us->s.heap.get? e=some oe->H e=none->e∉DL outer->(∀ v,oe.data≠.cell v)->GS n G vs H Q E0->
  codeAny (model P w) A (.call (.ref f) args) (CR FS outer P w H s Q E0) s
theorem Ri{fd:FuncData}{g:MS}(F:Fi K x qual st f fd)(S:j_ N ps (au st))(hn:ps.length=n)(hb:∀ (o_:Value) (A:Around) (outer:List Env) (s:Shared) (H:Hp),A_ k ((Iv A).deeper<|envOfC qual (au st) s.heap.objs.size f o_)->F9 (Oh P w K mg base N qual (au st) f o_ A outer s H e oe) fix (bA st) g):
  PB P w K mg base (k+1) f fd ps n (aM n N.length fix g) e oe:=by
 obtain⟨oc,od,kV,doc,pm,an,o_,ct,GQ,rfl,lk,FO⟩:=F.ex;intro A outer s H args us vs Q hr e0 Rj r he hE hf Rl HC;have hl:vs.length=ps.length:=HC.1.trans hn.symm;have kI:K.In s.heap:=e0.mod.JE.keeps fun b o z=>(e0.bs b o z).1;have nl:s.heap.NoLimit:=e0.mod.nolimit.keeps fun b o z=>(e0.bs b o z).1;have par:∀ y∈ps.zip us,(au st).names.lookup y.1=some .local\/((au st).names.lookup y.1=some .cell/\((cellsFrom (s.heap.objs.size+1) (au st).names []).lookup y.1).isSome=true):=fun y hy=>
  (S.par y.1 (WX<|show (y.1,y.2)∈_ from hy).1).imp id fun q=>⟨q,XE _ _ _<|.inl q⟩;refine codeAny_call_function (show A.depth < _ from hr.depth) (kI _ _ lk) rfl S.co S.gen rfl (PySem.W.codeRec_of kI FO) (Rj _ _ _ _<|wpAny_newFunctionEnv_cells S.kind par fun env Rm s1 x=>?_);subst Rm;refine⟨nl.keeps x.toInCall.keep,codeAny_func ?_⟩;have e1:G0 P w K mg base (Iv A) outer s H:=⟨e0.frames,e0.mod,e0.bs,e0.Gy,e0.DT,e0.GY,e0.m_,e0.bare⟩;have I:=(oD (CX:=FS) (E:=E0) S rfl e1 hl r x).toH e0.frames he hE hf Rl;obtain⟨Ij,ds,F0,rv,outs,ow,nd,hg,q⟩:=HC;have N3:ds.length=n:=ow.length.trans Ij;unfold aM at hg;rw[ZZ N3] at hg;have PC:=jO (m:=N.length - n) ow;have es:ci N vs=vs.map some++replicate (N.length - n) none:=by unfold ci;rw[Ij]
 have fin:∀ {σ':St}{H':Hp}{F':List Addr}{D':SD}{v:V}{R:List Addr},c7 fix ds D' 0=outs->aG fix (vs.map some++replicate (N.length - n) none) σ'->ak H' D' σ' F'->Own H' rv v R->p_ H F0 H' (F'++R)->Q v H':=fun {σ' H' F' D' v R} eo fx e_ wr s'=>by
  obtain⟨R2,G,g1,g2⟩:=jP (fix:=fix) (j0:=0) s'.tup ow e_ fun j v hj hv=>by
   rw[V5] at hj;rw[fx.2 j hj,Y4 (by rw[Z4];exact (Zz.mp hv).1),Zq,hv];rfl
  rw[eo] at g1;refine q v H' R R2 wr g1 (s'.less (C:=G) ?_);rw[Z7];exact (ZQ R g2).trans Z0
 have rd:tS fix g { nx:=fun _ H'=>Q .i_ H',rt:=Q } (ci N vs) H:=by
  rw[es];split at hg
  ·rename_i r' D' z;cases hg;exact⟨_,F0,.rt rv,D',PC,nd,z,fun v σ' H' F' R fx e_ wr s'=>fin rfl fx e_ wr s'⟩
  ·rename_i D' z;cases hg;exact⟨_,F0,.nx,D',PC,nd,z,fun σ' H' F' fx e_ s'=>fin rfl fx e_ ⟨rfl,rfl⟩ (by rw[ZY];exact s')⟩
  ·cases hg
 refine Y3 (hb o_ A outer s H (hr.deeper _) s1 (ci N vs) H _ I rd) (fun fl s' hs=>?_) fun _ _ z=>False.elim z;cases fl with
 | ret u=>
  obtain⟨v,σ',H',J,rv,q⟩:=hs;exact⟨v,H',J.os,J.bare,J.base,J.m_,rv,q⟩
 | next=>
  obtain⟨σ',H',J,q⟩:=hs;exact⟨V.i_,H',J.os,J.bare,J.base,J.m_,rfl,q⟩
 | brk=>obtain⟨_,_,_,q⟩:=hs;exact False.elim q
 | cont=>obtain⟨_,_,_,q⟩:=hs;exact False.elim q
def ke(P:Program)(w:World)(K:PySem.W.Frag)(mg:Str->Option Value)(base:Heap)(k:Nat)(x:Str)(st:Stmt)(f:Addr)(ps:List Str)(n:Nat)(G:Addr->Fn)(C:Addr):Prop:=
 ∃ fd,Fi K x x st f fd/\cf K fd ps []/\mg x=some (.ref f)/\∀ e oe,oe.cls=.ref C->PB P w K mg base k f fd ps n (G e) e oe
theorem zF{g:Addr->MS}(F:EG K mg x st f ps)(S:j_ N ps (au st))(hn:ps.length=n)(hb:N.Nodup->∀ (e:Addr) (oe:Obj),oe.cls=.ref C->∀ (o_:Value) (A:Around) (outer:List Env) (s:Shared) (H:Hp),A_ k ((Iv A).deeper<|envOfC x (au st) s.heap.objs.size f o_)->F9 (Oh P w K mg base N x (au st) f o_ A outer s H e oe) fix (bA st) (g e)):
  ke P w K mg base (k+1) x st f ps n (fun e=>aM n N.length fix<|g e) C:=
 have ⟨_,U,b,m⟩:=F
 ⟨_,U,b,m,fun e oe hc=>Ri U S hn<|hb S.nd e oe hc⟩
end
section
variable{X:Cx}
theorem zG{m:Nat}{G:Addr->Fn}{e0:Addr}{p:Pos}{g:M (List Opd)}(F:ke X.prog X.w X.K X.mg X.base k x st f ps n G C)(hc:oe.cls=.ref C)(hp:(e0,oe)∈X.pn)(hr:A_ m (Iv X.A))(hn:ps.length=n)(hg:Gl X x)(ha:VA X (e::es) g)(hm:k<=m:=by decide)(FQ:(x == ("__debug__" : Str))=false:=by decide)(he:starEach (e::es) X.env=(false,eval e X.env)::starEach es X.env:=by rfl)(E3:(backTo pos<|starEach es X.env).any (·.1)=false:=by rfl):
  VE X (.Call (.Name x p) (e::es) [] pos) (am n (G e0) g):=by
 obtain⟨fd,U,b,mm,F⟩:=F;have pe:PE X (.Call (.Name x p) (e::es) [] pos) (lq (GS n<|G e0) [] E0<|tA g):=by
  intro pins s σ H Q I h;refine Ya (ie I hg mm ?_ FQ);refine WH (h₀:=X.base) I.ok.mod.JE U.kp (B_ (@ha pos pins s σ H _ I h) fun us s1 ⟨vs,H1,I1,r,q⟩=>⟨I1.GZ,?_⟩) he E3;have q:GS n (G e0) (vs++[]) H1 Q E0:=q;rw[ZY] at q;have hl:us.length=ps.length:=by rw[<- r.length];exact q.1.trans hn.symm
  have bd:=b s1 us I1.GZ (by rw[ZY];exact hl);rw[ZY] at bd;obtain⟨p1,p2,p3,p4,p5⟩:=I1.pin (e0,oe) (ZJ _ hp);have nf:e0∉DL X.stack:=by
   rcases I1.ok.Hw with z | ⟨z,z2⟩
   ·rw[z];exact p4
   ·rw[z];intro HS;have:e0∈X.env.locals::DL X.outer:=by
     unfold DL at HS ⊢;rw[Yw,z2] at HS;exact HS
    rcases ZT.mp this with y | y
    ·exact p3 y
    ·exact p4 y
  refine wpAny_call (WM (F e0 oe hc X.A X.stack s1 H1 ⟨us,[]⟩ us vs Q (hr.mono hm) I1.JL bd r p1 p2 nf p5 q) fun rs s' hq=>?_);cases rs with
  | error ev=>exact False.elim hq
  | ok fl=>
   cases fl with
   | ret u=>exact I1.after hq
   | next=>exact False.elim hq
   | brk=>exact False.elim hq
   | cont=>exact False.elim hq
 exact aT pe fun _ _ _ h=>pK h
end
def PD(g:M Opd)(r:RS):RS:=fun D=>(g D).bind fun p=>r p.2
section
variable{X:Cx}{fix:List Nat}{Z:St->Hp->Prop}{r:RS}
theorem zH(h:Iq X fix Z e (Gk r))(hs:starEach (e::es) X.env=(false,eval e X.env)::starEach es X.env:=by rfl):Jo X fix Z (e::es) (Gk r):=y7 h hs
theorem zI{g:M Opd}(he:VO X e g)(hr:Jo X fix Z es (Gk r))(hs:starEach (e::es) X.env=(false,eval e X.env)::starEach es X.env:=by rfl):Jo X fix Z (e::es) (Gk<|PD g r):=
 fun pos pins s σ H Q I ⟨D,F,D',st,nd,w,z⟩=>have ⟨⟨x,D1⟩,h1,h2⟩:=Z8.mp w;(y8 he hr hs) pos pins s σ H Q I ⟨D,F,D',st,nd,⟨x,D1,h1,h2⟩,z⟩
theorem zJ{x1}(h:Jo X fix Z es (Gk r)):Iq X fix Z (.Tuple es x1 pos) (Gk r):=y9 h
end
end L2
namespace L2
open PySem PySem.Spec PyProof.Rows
abbrev mC(xs:Array Nat):Prop:=xs.toList.Pairwise (· < ·)
theorem qI{α:Type}[DecidableEq α]:∀ {l m:List α},l.Nodup->(∀ x∈l,x∈m)->l.length<=m.length
 | [],m,_,_=>Ys _
 | a::l,m,nd,h=>by
  have HP:=Zl.mp nd;have q:=qI (l:=l) (m:=m.erase a) HP.2 fun x hx=>(WY (fun e:x=a=>HP.1<|e ▸ hx)).mpr (h x<|.tail _ hx);have ha:=h a (.head _);rw[Wq ha] at q;have:=We ha;rw[ZC];lia
section
variable{prog:Program}{w:World}{A:Around}{E:Value->Shared->Prop}{s:Shared}
end
section
variable{prog:Program}{w:World}
end
section
variable(w:World)(P:List Im->Addr->Prop)
end
section
variable{prog:Program}{w:World}{P:List Im->Addr->Prop}{A:Around}{E:Value->Shared->Prop}
end
section
variable{prog:Program}{w:World}{P:List Im->Addr->Prop}{A:Around}{E:Value->Shared->Prop}{s:Shared}
end
section
variable{prog:Program}{w:World}{A:Around}{E:Value->Shared->Prop}{s:Shared}
end
section
variable{prog:Program}{w:World}{A:Around}{E:Value->Shared->Prop}{s:Shared}
end
section
variable{prog:Program}{w:World}{A:Around}{E:Value->Shared->Prop}{s:Shared}
end
section
variable{prog:Program}{w:World}{P:List Im->Addr->Prop}{A:Around}{E:Value->Shared->Prop}{s:Shared}
end
section
variable{prog:Program}{w:World}{P:List Im->Addr->Prop}{A:Around}{E:Value->Shared->Prop}{s:Shared}
end
section
variable{prog:Program}{w:World}{A:Around}{E:Value->Shared->Prop}{s:Shared}
end
section
variable{prog:Program}{w:World}{A:Around}{E:Value->Shared->Prop}{s:Shared}
end
section
variable{prog:Program}{w:World}{A:Around}{E:Value->Shared->Prop}{s:Shared}
end
section
variable{prog:Program}{w:World}{P:List Im->Addr->Prop}{A:Around}{E:Value->Shared->Prop}{s:Shared}
end
end L2
namespace L2
open PySem PySem.Spec PyProof.Rows PySem.W
section
variable{X:Cx}{pins:List (Addr×Obj)}{σ:St}{H:Hp}{s:Shared}
end
section
variable{X:Cx}
end
end L2
namespace HT
open PySem PySem.Spec PyProof.Rows
section
variable{prog:Program}{w:World}{A:Around}{E:Value->Shared->Prop}{s:Shared}
end
end HT
namespace L2
open PySem PySem.Spec PyProof.Rows
section
variable{X:Cx}
end
variable{Q:Value->Shared->Prop}{b:Bool}{d2:Vl}{u v:Value}{y x:V}{s:Shared}{H:Hp}{σ:St}{pins:List (Addr×Obj)}{d:Im}
theorem qJ{h:Heap}:∀ (n:Nat) {x y:Im}{v:Value},Im.pl n x=true->Im.pl n y=true->Ew h x v->Ew h y v->x=y
 | n,.i_,y,v,_,ky,hx,hy=>by
  cases (show v=.none from hx);cases y with
  | i_=>rfl
  | bl b=>cases hy
  | int j=>obtain⟨u,e⟩:=hy;cases e
  | str z=>obtain⟨u,e⟩:=hy;cases e
  | tup ds=>obtain⟨_,_,_,_,e,_⟩:=hy;cases e
  | fn a=>cases n<;>cases ky
  | fl a=>cases n<;>cases ky
  | fd=>cases n<;>cases ky
 | n,.bl b,y,v,_,ky,hx,hy=>by
  cases (show v=.bool b from hx);cases y with
  | i_=>cases hy
  | bl c=>cases hy;rfl
  | int j=>obtain⟨u,e⟩:=hy;cases e
  | str z=>obtain⟨u,e⟩:=hy;cases e
  | tup ds=>obtain⟨_,_,_,_,e,_⟩:=hy;cases e
  | fn a=>cases n<;>cases ky
  | fl a=>cases n<;>cases ky
  | fd=>cases n<;>cases ky
 | n,.int i,y,v,_,ky,hx,hy=>by
  obtain⟨t,rfl⟩:=hx;cases y with
  | i_=>cases hy
  | bl c=>cases hy
  | int j=>obtain⟨u,e⟩:=hy;injection e with e;rw[e]
  | str z=>obtain⟨u,e⟩:=hy;cases e
  | tup ds=>obtain⟨_,_,_,_,e,_⟩:=hy;cases e
  | fn a=>cases n<;>cases ky
  | fl a=>cases n<;>cases ky
  | fd=>cases n<;>cases ky
 | n,.str i,y,v,_,ky,hx,hy=>by
  obtain⟨t,rfl⟩:=hx;cases y with
  | i_=>cases hy
  | bl c=>cases hy
  | int j=>obtain⟨u,e⟩:=hy;cases e
  | str z=>obtain⟨u,e⟩:=hy;injection e with e;rw[e]
  | tup ds=>obtain⟨_,_,_,_,e,_⟩:=hy;cases e
  | fn a=>cases n<;>cases ky
  | fl a=>cases n<;>cases ky
  | fd=>cases n<;>cases ky
 | n+1,.tup ds,y,v,kx,ky,hx,hy=>by
  obtain⟨a,o,items,m,rfl,h1,h2,h3,h4⟩:=hx;cases y with
  | i_=>cases hy
  | bl c=>cases hy
  | int j=>obtain⟨u,e⟩:=hy;cases e
  | str z=>obtain⟨u,e⟩:=hy;cases e
  | fn a=>cases ky
  | fl a=>cases ky
  | fd=>cases ky
  | tup es=>
   obtain⟨a',o',y_,m',e,g1,g2,g3,g4⟩:=hy;cases e;rw[h1] at g1;cases g1;rw[h3] at g3;injection g3 with g3 _;subst g3;have all:∀ (ds es:List Im) (vs:List Value),Im.pls n ds=true->Im.pls n es=true->aO h ds vs->aO h es vs->ds=es:=by
    intro ds;induction ds with
    | nil=>
     intro es vs _ _ a b;cases es with
     | nil=>rfl
     | cons e es=>obtain⟨_,_,q,_⟩:=b;rw[show vs=[] from a] at q;cases q
    | cons d ds ih=>
     intro es vs k1 k2 a b;obtain⟨v,r,rfl,a1,a2⟩:=a;cases es with
     | nil=>cases (show v::r=[] from b)
     | cons e es=>
      obtain⟨v',r',q,b1,b2⟩:=b;cases q;rw[Im.pls,ZV] at k1 k2;rw[qJ n k1.1 k2.1 a1 b1,ih es r k1.2 k2.2 a2 b2]
   rw[all ds es _ kx ky h4 g4]
 | 0,.tup _,_,_,k,_,_,_=>by cases k
 | n,.fn _,_,_,k,_,_,_=>by cases n<;>cases k
 | n,.fl _,_,_,k,_,_,_=>by cases n<;>cases k
 | n,.fd,_,_,k,_,_,_=>by cases n<;>cases k
open Classical in
noncomputable def dq(h:Heap)(d:Im)(v:Value):Bool:=if z:∃ x,Im.pl 8 x=true/\Ew h x v then aB z.choose d else false
theorem dZ{h:Heap}{x:Im}(k:Im.pl 8 x=true)(i:Ew h x v):dq h d v=aB x d:=by
 unfold dq;have z:∃ x,Im.pl 8 x=true/\Ew h x v:=⟨x,k,i⟩;rw[dif_pos z,qJ 8 z.choose_spec.1 k z.choose_spec.2 i]
theorem iH{h:Heap}{d:Im}:∀ {ds:List Im}{vs:List Value},Im.pls 8 ds=true->aO h ds vs->vs.any (dq h d)=ds.any fun x=>aB x d
 | [],vs,_,e=>by rw[show vs=[] from e];rfl
 | x::ds,vs,k,e=>by
  obtain⟨v,r,rfl,h1,h2⟩:=e;rw[Im.pls,ZV] at k;rw[X2,X2,dZ k.1 h1,iH k.2 h2]
theorem fR{h:Heap}:∀ {ds:List Im}{vs:List Value}{v:Value},Im.pls 8 ds=true->aO h ds vs->v∈vs->∃ x,Im.pl 8 x=true/\Ew h x v
 | [],vs,v,_,e,m=>by rw[show vs=[] from e] at m;cases m
 | x::ds,vs,v,k,e,m=>by
  obtain⟨u,r,rfl,h1,h2⟩:=e;rw[Im.pls,ZV] at k;rcases ZT.mp m with rfl | m
  ·exact⟨x,k.1,h1⟩
  ·exact fR k.2 h2 m
section
variable{X:Cx}
def inB(d:Im):Vl->Option Bool
 | .im (.tup ds)=>if (Im.pl 8 d && Im.pls 8 ds)=true then some (ds.any fun x=>aB x d) else none
 | .lst ds=>if (Im.pl 8 d && Im.pls 8 ds)=true then some (ds.any fun x=>aB x d) else none
 | .dT kvs=>match d with
  | .tup k=>if Im.keys 7 k=true then some (bD kvs k).isSome else none
  | _=>none
 | .dK kvs=>match d with
  | .int i=>some (bD kvs<|.inl i).isSome
  | .str x=>some (bD kvs<|.inr x).isSome
  | _=>none
 | _=>none
@[simp] theorem zK(d:Im)(ds:List Im):inB d (.im<|.tup ds)=if (Im.pl 8 d && Im.pls 8 ds)=true then some (ds.any fun x=>aB x d) else none:=rfl
@[simp] theorem zL(d:Im)(ds:List Im):inB d (.lst ds)=if (Im.pl 8 d && Im.pls 8 ds)=true then some (ds.any fun x=>aB x d) else none:=rfl
@[simp] theorem Dg(k:List Im)(kvs:List (List Im×Im)):inB (.tup k) (.dT kvs)=if Im.keys 7 k=true then some (bD kvs k).isSome else none:=rfl
@[simp] def vIn:Op2:=fun a b=>match a with
 | .im d=>(inB d b).map fun r=>.im (.bl r)
 | _=>none
@[simp] def vNotIn:Op2:=fun a b=>match a with
 | .im d=>(inB d b).map fun r=>.im (.bl<|!r)
 | _=>none
theorem gM{κ:Type}[DecidableEq κ]{H:Hp}{k:κ}{kvs:List (κ×Im)}{Eh:List (κ×V)}(h:Ev H kvs Eh):(cw Eh k).isSome=(bD kvs k).isSome:=by
 cases e:bD kvs k with
 | none=>rw[(gD h).2 e];rfl
 | some d=>obtain⟨v,h1,_⟩:=(gD h).1 d e;rw[h1];rfl
theorem zM(hu:X.A.units+20<cLine)(I:Inv X pins σ H s)(rx:aw x v)(ry:aw y u)(i1:DK H d x)(r2:FG H d2 y)(e:inB d d2=some b)(q:∀ s',Inv X pins σ H s'->Q (.bool b) s'):wpAny (model X.prog X.w) X.A (compareOp .In v u) Q X.xe s:=by
 unfold inB at e;split at e
 ·rename_i ds;split at e
  ·rename_i hp;cases e;rw[ZV] at hp;obtain⟨a,xs,rfl,h1,h2⟩:=r2.i;cases ry;obtain⟨f_,rv,p,_⟩:=I.tuple (DG.of h1);have iv:=h2.FB I.m_ rv;refine SeqAt.in_tupleAt (dq s.heap d) (show s.heap.IsTuple a f_.toArray from p) (fun w hw=>?_) ?_
   ·obtain⟨z,z1,z2⟩:=fR hp.2 iv (by simpa using hw);rw[dZ z1 z2];exact cJ 8 z1 hp.1 (by show X.A.units+1+8+1<cLine;lia) z2 (i1.FB I.m_ rx)
   ·rw[W8,iH hp.2 iv];exact q s I
  ·cases e
 ·rename_i ds;split at e
  ·rename_i hp;cases e;rw[ZV] at hp;obtain⟨_,a,xs,rfl,h1,h2,_⟩:=r2;cases ry;obtain⟨f_,p,iv,_⟩:=gz I h1 h2;refine SeqAt.in_listAt (dq s.heap d) p (fun w hw=>?_) ?_
   ·obtain⟨z,z1,z2⟩:=fR hp.2 iv (by simpa using hw);rw[dZ z1 z2];exact cJ 8 z1 hp.1 (by show X.A.units+1+8+1<cLine;lia) z2 (i1.FB I.m_ rx)
   ·rw[W8,iH hp.2 iv];exact q s I
  ·cases e
 ·rename_i kvs;split at e
  ·rename_i k;split at e
   ·rename_i hk;cases e;obtain⟨_,a,Eh,rfl,h1,h2,_⟩:=r2;cases ry;obtain⟨b,ys,rfl,g1,g2⟩:=i1;rw[<- gM h2] at q;exact lv hu I (bW.t h1 ⟨hk,b,ys,rfl,g1,g2⟩) rx q
   ·cases e
  ·cases e
 ·rename_i kvs;split at e
  ·rename_i i;cases e;obtain⟨_,a,Eh,rfl,h1,h2,_⟩:=r2;cases ry;rw[<- gM h2] at q;cases (show x=kV (.inl i) from i1);exact lv hu I (bW.k h1) rx q
  ·rename_i i;cases e;obtain⟨_,a,Eh,rfl,h1,h2,_⟩:=r2;cases ry;rw[<- gM h2] at q;cases (show x=kV (.inr i) from i1);exact lv hu I (bW.k h1) rx q
  ·cases e
 ·cases e
theorem fe(hu:X.A.units+20<cLine):FW X (compareOp .In) vIn:=by
 intro pins s σ H x y v u Q I rx ry ⟨d1,d2,d,r1,r2,e,q⟩;unfold vIn at e;split at e
 ·obtain⟨b,e1,e2⟩:=Z5.mp e;cases e2;exact zM hu I rx ry r1.i r2 e1 fun s' I'=>⟨.bl b,H,I',rfl,Out.i q rfl⟩
 ·cases e
theorem zN(hu:X.A.units+20<cLine)(I:Inv X pins σ H s)(rx:aw x v)(ry:aw y u)(i1:DK H d x)(r2:FG H d2 y)(e:inB d d2=some b)(q:∀ s',Inv X pins σ H s'->Q (.bool<|!b) s'):wpAny (model X.prog X.w) X.A (compareOp .NotIn v u) Q X.xe s:=by
 unfold inB at e;split at e
 ·rename_i ds;split at e
  ·rename_i hp;cases e;rw[ZV] at hp;obtain⟨a,xs,rfl,h1,h2⟩:=r2.i;cases ry;obtain⟨f_,rv,p,_⟩:=I.tuple (DG.of h1);have iv:=h2.FB I.m_ rv;refine SeqAt.notIn_tupleAt (dq s.heap d) (show s.heap.IsTuple a f_.toArray from p) (fun w hw=>?_) ?_
   ·obtain⟨z,z1,z2⟩:=fR hp.2 iv (by simpa using hw);rw[dZ z1 z2];exact cJ 8 z1 hp.1 (by show X.A.units+1+8+1<cLine;lia) z2 (i1.FB I.m_ rx)
   ·rw[W8,iH hp.2 iv];exact q s I
  ·cases e
 ·rename_i ds;split at e
  ·rename_i hp;cases e;rw[ZV] at hp;obtain⟨_,a,xs,rfl,h1,h2,_⟩:=r2;cases ry;obtain⟨f_,p,iv,_⟩:=gz I h1 h2;refine SeqAt.notIn_listAt (dq s.heap d) p (fun w hw=>?_) ?_
   ·obtain⟨z,z1,z2⟩:=fR hp.2 iv (by simpa using hw);rw[dZ z1 z2];exact cJ 8 z1 hp.1 (by show X.A.units+1+8+1<cLine;lia) z2 (i1.FB I.m_ rx)
   ·rw[W8,iH hp.2 iv];exact q s I
  ·cases e
 ·rename_i kvs;split at e
  ·rename_i k;split at e
   ·rename_i hk;cases e;obtain⟨_,a,Eh,rfl,h1,h2,_⟩:=r2;cases ry;obtain⟨b,ys,rfl,g1,g2⟩:=i1;rw[<- gM h2] at q;exact lz hu I (bW.t h1 ⟨hk,b,ys,rfl,g1,g2⟩) rx q
   ·cases e
  ·cases e
 ·rename_i kvs;split at e
  ·rename_i i;cases e;obtain⟨_,a,Eh,rfl,h1,h2,_⟩:=r2;cases ry;rw[<- gM h2] at q;cases (show x=kV (.inl i) from i1);exact lz hu I (bW.k h1) rx q
  ·rename_i i;cases e;obtain⟨_,a,Eh,rfl,h1,h2,_⟩:=r2;cases ry;rw[<- gM h2] at q;cases (show x=kV (.inr i) from i1);exact lz hu I (bW.k h1) rx q
  ·cases e
 ·cases e
theorem kf(hu:X.A.units+20<cLine):FW X (compareOp .NotIn) vNotIn:=by
 intro pins s σ H x y v u Q I rx ry ⟨d1,d2,d,r1,r2,e,q⟩;unfold vNotIn at e;split at e
 ·obtain⟨b,e1,e2⟩:=Z5.mp e;cases e2;exact zN hu I rx ry r1.i r2 e1 fun s' I'=>⟨.bl<|!b,H,I',rfl,Out.i q rfl⟩
 ·cases e
@[simp] def qK(f f':Op2)(ga gb gc:M Opd):M Vl:=fun D=>(ga D).bind fun p=>(gb p.2).bind fun q=>(rsl q.2 p.1).bind fun d1=>(rsl q.2 q.1).bind fun d2=>(f d1 d2).bind fun d=>(asB d).bind fun k=>
 if k=true then (gc q.2).bind fun r=>(rsl r.2 q.1).bind fun Rn=>(rsl r.2 r.1).bind fun d3=>(f' Rn d3).bind fun z=>(asB z).map fun b=>(.im<|.bl b,r.2) else some (.im<|.bl false,q.2)
end
mutual
def C_:Im->Im->Bool
 | .int i,.int j=>decide (i<j)
 | .tup a,.tup b=>b8 a b
 | _,_=>false
def b8:List Im->List Im->Bool
 | [],[]=>false
 | [],_::_=>true
 | _::_,[]=>false
 | a::r,b::t=>if Im.beq a b=true then b8 r t else C_ a b
end
mutual
def b9:Nat->Im->Im->Bool
 | _,.int _,.int _=>true
 | n+1,.tup a,.tup b=>bI n a b
 | _,_,_=>false
def bI:Nat->List Im->List Im->Bool
 | _,[],[]=>true
 | n,a::r,b::t=>b9 n a b && bI n r t
 | _,_,_=>false
end
theorem mD:∀ {n:Nat}{a b:List Im},bI n a b=true->a.length=b.length
 | _,[],[],_=>rfl
 | n,a::r,b::t,h=>by
  rw[bI,ZV] at h;rw[ZC,ZC,mD h.2]
 | _,[],_::_,h=>by cases h
 | _,_::_,[],h=>by cases h
mutual
theorem kg:∀ {n:Nat}{a b:Im},b9 n a b=true->Im.pl n a=true/\Im.pl n b=true/\aB a b=Im.beq a b
 | n,.int i,.int j,_=>by
  refine⟨by cases n<;>rfl,by cases n<;>rfl,?_⟩;rw[aB,Im.beq];by_cases h:i=j<;>simp[h]
 | n+1,.tup a,.tup b,h=>by
  rw[b9] at h;obtain⟨h1,h2,h3⟩:=qL h;exact⟨h1,h2,by rw[aB,Im.beq];exact h3⟩
theorem qL:∀ {n:Nat}{a b:List Im},bI n a b=true->Im.pls n a=true/\Im.pls n b=true/\bE a b=Im.FM a b
 | n,[],[],_=>⟨by cases n<;>rfl,by cases n<;>rfl,rfl⟩
 | n,a::r,b::t,h=>by
  rw[bI,ZV] at h;obtain⟨h1,h2,h3⟩:=kg h.1;obtain⟨g1,g2,g3⟩:=qL h.2;exact⟨by rw[Im.pls,h1,g1];rfl,by rw[Im.pls,h2,g2];rfl,by rw[bE,Im.FM,h3,g3]⟩
end
theorem fS{a b:Im}(h:¬ a=b):Im.beq a b=false:=by
 cases e:Im.beq a b with
 | false=>rfl
 | true=>exact absurd ((Im.beq_iff a b).mp e) h
mutual
theorem kh:∀ a:Im,C_ a a=false
 | .int i=>by simp[C_]
 | .tup a=>by rw[C_];exact qM a
 | .i_=>rfl
 | .bl _=>rfl
 | .str _=>rfl
 | .fn _=>rfl
 | .fl _=>rfl
 | .fd=>rfl
theorem qM:∀ a:List Im,b8 a a=false
 | []=>rfl
 | a::r=>by rw[b8,ZZ<|(Im.beq_iff a a).mpr rfl];exact qM r
end
mutual
theorem gO:∀ {n:Nat}{a b:Im},b9 n a b=true->a≠b->C_ a b=!(C_ b a)
 | n,.int i,.int j,_,h=>by
  have:i≠j:=fun e=>h (by rw[e]);rw[C_,C_];rcases Int.lt_or_gt_of_ne this with g | g
  ·simp[g];lia
  ·simp[g];lia
 | n+1,.tup a,.tup b,h,e=>by
  rw[b9] at h;rw[C_,C_];exact qN h fun z=>e (by rw[z])
theorem qN:∀ {n:Nat}{a b:List Im},bI n a b=true->a≠b->b8 a b=!(b8 b a)
 | n,[],[],_,h=>absurd rfl h
 | n,a::r,b::t,h,e=>by
  rw[bI,ZV] at h;rw[b8,b8];by_cases z:a=b
  ·subst z;rw[ZZ ((Im.beq_iff a a).mpr rfl),ZZ<|(Im.beq_iff a a).mpr rfl];exact qN h.2 fun w=>e (by rw[w])
  ·rw[fS z,fS<|fun w=>z w.symm,ZW ZK,ZW ZK];exact gO h.1 z
end
mutual
theorem ki:∀ {n:Nat}{a b c:Im},b9 n a b=true->b9 n b c=true->C_ a b=true->C_ b c=true->C_ a c=true
 | n,.int i,.int j,.int k,_,_,h1,h2=>by
  rw[C_] at h1 h2 ⊢;have:=Zk h1;have:=Zk h2;exact Zr (by lia)
 | n+1,.tup a,.tup b,.tup c,l1,l2,h1,h2=>by
  rw[b9] at l1 l2;rw[C_] at h1 h2 ⊢;exact qO l1 l2 h1 h2
theorem qO:∀ {n:Nat}{a b c:List Im},bI n a b=true->bI n b c=true->b8 a b=true->b8 b c=true->b8 a c=true
 | n,[],[],[],_,_,h,_=>h
 | n,a::r,b::t,c::u,l1,l2,h1,h2=>by
  rw[bI,ZV] at l1 l2;rw[b8] at h1 h2 ⊢;by_cases z1:a=b
  ·subst z1;rw[ZZ ((Im.beq_iff a a).mpr rfl)] at h1;by_cases z2:a=c
   ·subst z2;rw[ZZ ((Im.beq_iff a a).mpr rfl)] at h2 ⊢;exact qO l1.2 l2.2 h1 h2
   ·rw[fS z2,ZW ZK] at h2 ⊢;exact h2
  ·rw[fS z1,ZW ZK] at h1;by_cases z2:b=c
   ·subst z2;rw[fS z1,ZW ZK];exact h1
   ·rw[fS z2,ZW ZK] at h2;have h3:=ki l1.1 l2.1 h1 h2;have z3:¬ a=c:=fun w=>by
     subst w;have:=gO l2.1 z2;rw[h1,h2] at this;cases this
    rw[fS z3,ZW ZK];exact h3
end
def mE(A:Around)(s:Shared)(y x:Value)(k:Bool):Prop:=∀ (prog:Program) (w:World) (E:Value->Shared->Prop) (Q:Value->Shared->Prop),Q (.bool k) s->wpAny (model prog w) A (richCompare .Lt y x) Q E s
def ff(f:Bool):List (Bool×Bool)->Bool
 | []=>f
 | (e,k)::r=>if e=true then ff f r else k
section
open PySem.SeqAt
open PySem.AutoSeq1 (wpAny_loadPart')
open PySem.MeetsSeq PySem.MeetsSeq2 PySem.MeetsSeq3
theorem zO(l b:Addr)(items w_:Array Value)(n n2:Nat)(dd HD:Option Addr)(sl Kv:Array (Option Value))(ps:List (Bool×Bool))(Pm:ps.length=min items.size w_.size):
  Meets (Builtin.«tuple.__lt__» ⟨[.ref l,.ref b],[]⟩)
   (fun A R s=>s.heap.get? l=some { cls:=.type "tuple",dict:=dd,data:=.seq items n,slots:=sl }/\s.heap.get? b=some { cls:=.type "tuple",dict:=HD,data:=.seq w_ n2,slots:=Kv }/\
    (∀ j (h1:j<items.size) (h2:j<w_.size) (h3:j<ps.length),EqAt A.in1 s items[j] w_[j] (ps[j]).1/\((ps[j]).1=false->mE A.in1 s items[j] w_[j] (ps[j]).2))/\
    R (.ok<|.ret<|.bool<|ff (decide (items.size<w_.size)) ps) s):=
 .of_wp fun prog w A R s h=>by
  obtain⟨hp,g,d,tk,os⟩:=s;obtain⟨hl,hb,he,h⟩:=h;have f2:=AutoSeq1.sub_tuple_tuple;have hZ:(items.toList.zip w_.toList).length=min items.size w_.size:=by simp
  wp_walk using wpAny_loadPart' hl,wpAny_loadPart' hb,XZ _ (fun rest b s'=>b.1=none/\s'=⟨hp,g,d,tk,os⟩/\∃ i,rest=(items.toList.zip w_.toList).drop i/\
   R (.ok<|.ret<|.bool<|ff (decide (items.size<w_.size))<|ps.drop i) ⟨hp,g,d,tk,os⟩) _
  case turn=>
   rintro⟨y,x⟩ rest b s' ⟨Oi,rfl,i,hz,hR⟩;have FC:i<(items.toList.zip w_.toList).length:=by
    rcases Wd i (items.toList.zip w_.toList).length with h' | h'
    ·exact h'
    ·rw[X8 h'] at hz;cases hz
   have hm:i<min items.size w_.size:=hZ ▸ FC;have h1:i<items.size:=by lia
   have h2:i<w_.size:=by lia
   have h3:i<ps.length:=by lia
   rw[Zg FC] at hz;injection hz with PF HU;have hy:y=items[i]:=by have:=congrArg Prod.fst PF;simpa using this
   have hx:x=w_[i]:=by have:=congrArg Prod.snd PF;simpa using this
   subst hy hx;rw[Zg h3] at hR;obtain⟨N6,M4⟩:=he i h1 h2 h3;generalize ps[i]=pr at hR N6 M4;obtain⟨e,k⟩:=pr;refine Z9 (N6 prog w _ _ ?_);cases e with
   | true=>
    have LN:R (.ok<|.ret<|.bool<|ff (decide (items.size<w_.size))<|ps.drop<|i+1) ⟨hp,g,d,tk,os⟩:=hR
    wp_walk
    exact⟨rfl,rfl,i+1,HU,LN⟩
   | false=>
    have LN:R (.ok<|.ret<|.bool k) ⟨hp,g,d,tk,os⟩:=hR;have Ro:=M4 rfl prog w
    wp_walk using Ro
    exact⟨_,rfl,by simpa using LN⟩
  case fin=>
   rintro⟨b1,b2⟩ s' ⟨Oi,rfl,i,hz,hR⟩;simp only at Oi;subst Oi;have Sv:min items.size w_.size<=i:=by
    rcases Wd i (items.toList.zip w_.toList).length with h' | h'
    ·rw[Zg h'] at hz;cases hz
    ·exact hZ ▸ h'
   rw[X8 (by lia)] at hR;have LN:R (.ok<|.ret<|.bool<|decide (items.size<w_.size)) ⟨hp,g,d,tk,os⟩:=hR
   wp_walk
   exact⟨_,rfl,by simpa [Builtin.Tuple.tupleCompareSizes] using LN⟩
  case h=>
   exact⟨rfl,rfl,0,rfl,by simpa using h⟩
end
def Iw(ds es:List Im):List (Bool×Bool):=(ds.zip es).map fun p=>(aB p.1 p.2,C_ p.1 p.2)
theorem qP:∀ {n:Nat}{ds es:List Im},bI n ds es=true->ff false (Iw ds es)=b8 ds es
 | _,[],[],_=>rfl
 | n,a::r,b::t,h=>by
  rw[bI,ZV] at h;show (if aB a b=true then ff false (Iw r t) else C_ a b)=b8 (a::r) (b::t);rw[b8,(kg h.1).2.2,qP h.2]
 | _,[],_::_,h=>by cases h
 | _,_::_,[],h=>by cases h
theorem qQ{n:Nat}:∀ {ds es:List Im}{j:Nat}{a b:Im},bI n ds es=true->ds[j]?=some a->es[j]?=some b->b9 n a b=true
 | [],es,j,a,b,_,h,_=>by simp at h
 | d::ds,[],j,a,b,h,_,_=>by cases h
 | d::ds,e::es,0,a,b,h,h1,h2=>by
  rw[bI,ZV] at h;cases h1;cases h2;exact h.1
 | d::ds,e::es,j+1,a,b,h,h1,h2=>by
  rw[bI,ZV] at h;exact qQ (j:=j) h.2 (by simpa using h1) (by simpa using h2)
theorem qR{A:Around}{i j:Int}(hx:Ew s.heap (.int i) u)(hy:Ew s.heap (.int j) v):mE A s u v (C_ (.int i)<|.int j):=by
 obtain⟨t,rfl⟩:=hx;obtain⟨t',rfl⟩:=hy;intro prog w E Q q;rw[C_] at q;exact HT.wC A s i t j t' prog w E Q q
theorem mF:∀ {n:Nat}{x y:Im},b9 n x y=true->(∃ i j,x=.int i/\y=.int j)\/∃ m a b,n=m+1/\x=.tup a/\y=.tup b/\bI m a b=true:=by
 intro n x y h;unfold b9 at h;split at h
 ·exact .inl ⟨_,_,rfl,rfl⟩
 ·exact .inr ⟨_,_,_,rfl,rfl,rfl,h⟩
 ·cases h
theorem zP(n:Nat):∀ {A:Around}{x y:Im}{u v:Value},b9 n x y=true->A.units+n+2<cLine->Ew s.heap x u->Ew s.heap y v->mE A s u v (C_ x y):=by
 induction n with
 | zero=>
  intro A x y u v h hu hx hy;rcases mF h with ⟨i,j,rfl,rfl⟩ | ⟨m,_,_,e,_⟩
  ·exact qR hx hy
  ·cases e
 | succ n ih=>
  intro A x y u v h hu hx hy;rcases mF h with ⟨i,j,rfl,rfl⟩ | ⟨m,ds,es,e,rfl,rfl,h⟩
  ·exact qR hx hy
  cases e;obtain⟨a,o,f_,m,rfl,h1,h2,h3,h4⟩:=hx;obtain⟨b,o',its',m',rfl,g1,g2,g3,g4⟩:=hy;obtain⟨cls,dd,data,sl⟩:=o;obtain⟨Rp,Hl,PH,JF⟩:=o';simp only at h2 h3 g2 g3;subst h2 h3 g2 g3;have l0:=mD h;have l1:ds.length=f_.size:=by rw[h4.length,Zw]
  have l2:es.length=its'.size:=by rw[g4.length,Zw]
  intro prog w E Q q;rw[C_,<- qP h] at q;have lp:(Iw ds es).length=min f_.size its'.size:=by rw[Iw,Z4,List.length_zip,l1,l2]
  have hd:decide (f_.size<its'.size)=false:=Zs (by lia);refine richCompare_meets_room (op:=.Lt) ⟨_,h1,rfl⟩ ⟨_,g1,rfl⟩ PySem.F.slot_tuple_lt PySem.F.entry_tuple_lt (PySem.F.args_tuple_lt_2 _ _) (zO a b f_ its' m m' dd Hl sl JF (Iw ds es) lp)
   ⟨h1,g1,fun j j1 j2 j3=>?_,show Value.bool (ff (decide (f_.size<its'.size))<|Iw ds es)≠Value.notImplemented/\Q (.bool<|ff (decide (f_.size<its'.size))<|Iw ds es) s from ⟨(fun x=>nomatch x),by rw[hd];exact q⟩⟩ (by lia);obtain⟨d1,e1,r1⟩:=h4.get (j:=j) (v:=f_[j]) (by rw[Zt];simp[j1]);obtain⟨d2,e2,r2⟩:=g4.get (j:=j) (v:=its'[j]) (by rw[Zt];simp[j2]);have lk:=qQ h e1 e2;have hp:=kg lk;have ez:(Iw ds es)[j]=(aB d1 d2,C_ d1 d2):=by
   have:(Iw ds es)[j]?=some (aB d1 d2,C_ d1 d2):=by
    rw[Iw,Zq,(List.getElem?_zip_eq_some (z:=(d1,d2))).mpr ⟨e1,e2⟩];rfl
   rw[ZL j3] at this;exact Zv this
  rw[ez];exact⟨cJ n hp.1 hp.2.1 (by show A.units+1+n+1<cLine;lia) r1 r2,fun _=>ih lk (by show A.units+1+n+2<cLine;lia) r1 r2⟩
end L2
namespace L2
open PySem PySem.Spec PyProof.Rows PySem.W
variable{f_:List Value}{ds:List Im}
theorem qS{α:Type}{p q:α->Bool}:∀ {l:List α},(∀ x∈l,p x=true->q x=true)->(∃ x∈l,q x=true/\p x=false)->l.countP p<l.countP q
 | [],_,h=>by obtain⟨x,hx,_⟩:=h;cases hx
 | a::l,h,⟨x,hx,h1,h2⟩=>by
  rw[W7,W7];have le:l.countP p<=l.countP q:=List.countP_mono_left fun y hy=>h y (.tail _ hy);rcases ZT.mp hx with rfl | hx
  ·rw[h1,h2];simp;lia
  ·have:=qS (fun y hy=>h y<|.tail _ hy) ⟨x,hx,h1,h2⟩;have ha:=h a (.head _);cases e1:p a<;>cases e2:q a<;>rw[e1,e2] at ha<;>simp at ha ⊢<;>lia
structure E4(ds:List Im):Prop where
 M7:ds.length<=1000
 Gm:∀ a∈ds,∀ b∈ds,b9 6 a b=true
 nd:ds.Nodup
def Js(ds:List Im)(x:Im):Nat:=ds.countP fun d=>C_ d x
theorem kj(o:E4 ds){x y:Im}(hx:x∈ds)(hy:y∈ds)(h:C_ x y=true):Js ds x<Js ds y:=
 qS (fun z hz e=>ki (o.Gm z hz x hx) (o.Gm x hx y hy) e h) ⟨x,hx,h,kh x⟩
theorem qU(o:E4 ds){x y:Im}(hx:x∈ds)(hy:y∈ds):decide ((Js ds x:Int)<(Js ds y:Int))=C_ x y:=by
 cases e:C_ x y with
 | true=>exact Zr (by have:=kj o hx hy e;lia)
 | false=>
  refine Zs fun z=>?_;by_cases h:x=y
  ·subst h;lia
  ·have t:=gO (o.Gm x hx y hy) h;rw[e] at t;have t':C_ y x=true:=by cases q:C_ y x<;>rw[q] at t<;>simp at t ⊢
   have:=kj o hy hx t';lia
theorem zQ(o:E4 ds){x y:Im}(hx:x∈ds)(hy:y∈ds)(h:Js ds x=Js ds y):x=y:=by
 by_cases e:x=y
 ·exact e
 ·have t:=gO (o.Gm x hx y hy) e;cases q:C_ x y with
  | true=>have:=kj o hx hy q;lia
  | false=>
   rw[q] at t;have t':C_ y x=true:=by cases q:C_ y x<;>rw[q] at t<;>simp at t ⊢
   have:=kj o hy hx t';lia
def eh(ds:List Im)(i:Nat):Int:=Js ds (ds.getD i .i_)
theorem gP{i:Nat}(h:i<ds.length):ds.getD i .i_∈ds:=by
 rw[Z6,ZL h];exact List.getElem_mem h
theorem mG(o:E4 ds):∀ i j,i<ds.length->j<ds.length->eh ds i=eh ds j->i=j:=fun i j hi hj e=>by
 have:=zQ o (gP hi) (gP hj) (by unfold eh at e;lia);rw[Z6,ZL hi,Z6,ZL hj] at this;exact (Xg o.nd).mp this
theorem PJ(o:E4 ds){p:Array Nat}(hp:Rg ds.length p)(up:Up (eh ds) p ds.length):(p.toList.map fun i=>ds.getD i .i_).Pairwise (fun a b=>C_ a b=true):=by
 rw[YU];intro i j hi hj Ff;have hs:=hp.size;have G_:i<ds.length:=by simpa [hs] using hi
 have Jl:j<ds.length:=by simpa [hs] using hj
 have ne:=hp.ne (mG o) Ff Jl;have le:=up i j (by lia) Jl;have g:∀ k (hk:k<(p.toList.map fun i=>ds.getD i .i_).length),(p.toList.map fun i=>ds.getD i .i_)[k]=ds.getD (p.getD k 0) .i_:=fun k hk=>by
  have HI:k<p.size:=by simpa using hk
  rw[Xa,Array.getElem_toList];simp[Array.getD,HI]
 rw[g i hi,g j hj];rw[<- qU o (gP<|hp.lt G_) (gP<|hp.lt Jl)];refine Zr ?_;have e:∀ k,(Js ds (ds.getD (p.getD k 0) .i_):Int)=z_ (eh ds) p k:=fun _=>rfl;rw[e i,e j];lia
theorem qV:∀ {l m:List Im},l.Perm m->l.Pairwise (fun a b=>C_ a b=true)->m.Pairwise (fun a b=>C_ a b=true)->(∀ a∈l,∀ b∈l,C_ a b=true->C_ b a=false)->l=m
 | [],m,p,_,_,_=>(List.nil_perm.mp p).symm
 | a::l,m,p,h1,h2,as=>by
  cases m with
  | nil=>exact absurd p.length_eq (by simp)
  | cons b m=>
   have e:a=b:=by
    by_cases e:a=b
    ·exact e
    ·have ha:a∈m:=by
      rcases ZT.mp (p.mem_iff.mp<|.head _) with z | z
      ·exact absurd z e
      ·exact z
     have hb:b∈l:=by
      rcases ZT.mp (p.mem_iff.mpr<|.head _) with z | z
      ·exact absurd z.symm e
      ·exact z
     have q1:=(Zj.mp h1).1 b hb;have q2:=(Zj.mp h2).1 a ha;rw[as a (.head _) b (.tail _ hb) q1] at q2;cases q2
   subst e;rw[qV (List.Perm.cons_inv p) (Zj.mp h1).2 (Zj.mp h2).2 fun x hx y hy=>as x (.tail _ hx) y<|.tail _ hy]
theorem mH(x:Im):∀ l:List Im,(eZ C_ x l).Perm (x::l)
 | []=>ZG _
 | y::r=>by
  rw[eZ];split
  ·exact ZG _
  ·exact (List.Perm.cons y<|mH x r).trans (List.Perm.swap x y r)
theorem fU:∀ l:List Im,(da C_ l).Perm l
 | []=>ZG _
 | x::r=>(mH x _).trans (List.Perm.cons x<|fU r)
theorem qW{x:Im}:∀ {l:List Im},l.Pairwise (fun a b=>C_ a b=true)->(∀ y∈l,x≠y)->(∀ a∈x::l,∀ b∈x::l,b9 6 a b=true)->(eZ C_ x l).Pairwise (fun a b=>C_ a b=true)
 | [],_,_,_=>ZB _ _
 | y::r,h,n,lk=>by
  have h':=Zj.mp h;rw[eZ];split
  ·rename_i e;refine Zj.mpr ⟨fun z hz=>?_,h⟩;rcases ZT.mp hz with rfl | hz
   ·exact e
   ·exact ki (lk x (.head _) y<|.tail _<|.head _) (lk y (.tail _<|.head _) z<|.tail _<|.tail _ hz) e (h'.1 z hz)
  ·rename_i e;refine Zj.mpr ⟨fun z hz=>?_,qW h'.2 (fun z hz=>n z<|.tail _ hz) fun a ha b hb=>lk a ?_ b ?_⟩
   ·rcases ZT.mp ((mH x r).mem_iff.mp hz) with rfl | hz
    ·have t:=gO (lk z (.head _) y<|.tail _<|.head _) (n y<|.head _);cases q:C_ y z with
     | true=>rfl
     | false=>rw[q] at t;exact absurd t e
    ·exact h'.1 z hz
   ·rcases ZT.mp ha with rfl | ha
    ·exact .head _
    ·exact .tail _ (.tail _ ha)
   ·rcases ZT.mp hb with rfl | hb
    ·exact .head _
    ·exact .tail _ (.tail _ hb)
theorem kl:∀ {l:List Im},l.Nodup->(∀ a∈l,∀ b∈l,b9 6 a b=true)->(da C_ l).Pairwise (fun a b=>C_ a b=true)
 | [],_,_=>.nil
 | x::r,nd,lk=>by
  have HP:=Zl.mp nd;refine qW (kl HP.2 fun a ha b hb=>lk a (.tail _ ha) b<|.tail _ hb) (fun y hy e=>HP.1 (by rw[e];exact (fU r).mem_iff.mp hy)) fun a ha b hb=>lk a ?_ b ?_
  ·rcases ZT.mp ha with rfl | ha
   ·exact .head _
   ·exact .tail _ ((fU r).mem_iff.mp ha)
  ·rcases ZT.mp hb with rfl | hb
   ·exact .head _
   ·exact .tail _ ((fU r).mem_iff.mp hb)
theorem qX{l:List Im}(o:E4 ds)(p:l.Perm ds)(h:l.Pairwise (fun a b=>C_ a b=true)):l=da C_ ds:=by
 refine qV (p.trans (fU ds).symm) h (kl o.nd o.Gm) fun a ha b hb e=>?_;have t:=gO (o.Gm a (p.mem_iff.mp ha) b<|p.mem_iff.mp hb) (fun z=>by subst z;rw[kh] at e;cases e);rw[e] at t;cases q:C_ b a with
 | false=>rfl
 | true=>rw[q] at t;cases t
def db:Im->Bool
 | .tup (.int _::_)=>true
 | _=>false
def fV:Im->Bool
 | .tup (.tup _::_)=>true
 | _=>false
section
variable{prog:Program}{w:World}{A:Around}{E:Value->Shared->Prop}{s:Shared}
theorem qY{b:Bool}(n:Nat)(hu:A.units+n+2<cLine){Q:Bool->Shared->Prop}:∀ {ds es:List Im}{vs ws:List Value}{i:Nat},bI n ds es=true->aO s.heap ds vs->aO s.heap es ws->(b=true->i=0->∃ k r,ds=.int k::r)->Q (b8 ds es) s->KatLex prog w A b false Q (vs.zip ws) i s
 | [],[],vs,ws,i,_,h1,h2,_,q=>by
  rw[show vs=[] from h1];exact kat_nil q
 | d::ds,e::es,vs,ws,i,h,h1,h2,hb,q=>by
  rw[bI,ZV] at h;obtain⟨v,vs,rfl,a1,a2⟩:=h1;obtain⟨u,ws,rfl,b1,b2⟩:=h2;rw[List.zip_cons_cons];obtain⟨p1,p2,p3⟩:=kg h.1;refine kat_cons (cJ n p1 p2 (by lia) a1 b1 prog w _ _ ?_);rw[p3];rw[b8] at q;cases hq:Im.beq d e with
  | true=>
   rw[hq,ZZ rfl] at q;exact kat_yes (qY n hu h.2 a2 b2 (fun _ z=>by lia) q)
  | false=>
   rw[hq,ZW ZK] at q;refine kat_no ?_;by_cases hf:(b && i == 0)=true
   ·rw[hf];rw[ZV] at hf;obtain⟨k,r,z⟩:=hb hf.1 (by simpa using hf.2);cases z;rcases mF h.1 with ⟨i',j,z1,z2⟩ | ⟨_,_,_,_,z1,_⟩
    ·cases z1;cases z2;obtain⟨t,rfl⟩:=a1;obtain⟨t',rfl⟩:=b1;rw[C_] at q;exact oneLt_int q
    ·cases z1
   ·rw[show (b && i == 0)=false by simpa using hf];exact kat_one _ _ (zP n h.1 hu a1 b1 prog w _ _ q)
 | [],_::_,_,_,_,h,_,_,_,_=>by cases h
 | _::_,[],_,_,_,h,_,_,_,_=>by cases h
theorem qZ{b:Bool}(o:E4 ds)(iv:aO s.heap ds f_)(ht:∀ d∈ds,∃ r,d=.tup r)(hb:b=true->∀ d∈ds,db d=true)(hu:A.units+9<cLine):
  cj f_.length (eh ds) (kas_cmp prog w A (tuples' b)<|f_.toArray.zip f_.toArray) s:=by
 intro i j C hi hj q;have hl:=iv.length;have mi:=gP (ds:=ds) (i:=i) (by lia);have mj:=gP (ds:=ds) (i:=j) (by lia);unfold eh at q;rw[qU o mi mj] at q;obtain⟨d1,e1,r1⟩:=iv.get (j:=i) (v:=f_[i]) (by simp);obtain⟨d2,e2,r2⟩:=iv.get (j:=j) (v:=f_[j]) (by simp);rw[Z6,e1,Z6,e2] at q;rw[Z6,e1] at mi;rw[Z6,e2] at mj;obtain⟨a,ea⟩:=ht d1 mi;obtain⟨b',eb⟩:=ht d2 mj;subst ea eb;have lk:bI 5 a b'=true:=o.Gm _ mi _ mj;unfold kas_cmp;rw[kat_item rfl,kat_item rfl,Z6,Z6,ZL hi,ZL hj];show wpAny _ _ (keyLt' (tuples' b) f_[i] f_[j]) _ _ _;obtain⟨x,ox,xs,n1,z1,g1,g2,g3,g4⟩:=r1;obtain⟨y,oy,ys,n2,z2,k1,k2,k3,k4⟩:=r2;rw[z1,z2];refine kat_lt (b:=b) g1 g3 k1 k3 ?_;have l1:a.length=xs.size:=by rw[g4.length,Zw]
 have l2:b'.length=ys.size:=by rw[k4.length,Zw]
 rw[show decide (xs.size<ys.size)=false from Zs (by have:=mD lk;lia)];refine qY 5 (by lia) lk g4 k4 (fun Rq _=>?_) (by have q':C (C_ (.tup a)<|.tup b') s:=q;rw[C_] at q';exact q');have:=hb Rq _ mi;unfold db at this;split at this
 ·rename_i h;cases h;exact⟨_,_,rfl⟩
 ·cases this
theorem ra:∀ {ds:List Im}{f_:List Value},aO s.heap ds f_->(∀ d∈ds,db d=true)\/(∀ d∈ds,fV d=true)->∃ fs,KatTups s.heap f_ fs/\fs.length=f_.length/\
  ((∀ d∈ds,db d=true)->∀ v∈fs,∃ i t,v=Value.int i t)/\((∀ d∈ds,fV d=true)->∀ v∈fs,∃ a ob,v=Value.ref a/\s.heap.get? a=some ob/\ob.cls=.type "tuple")
 | [],f_,h,_=>by
  rw[show f_=[] from h];exact⟨[],trivial,rfl,(fun _ _ h=>nomatch h),(fun _ _ h=>nomatch h)⟩
 | d::ds,f_,h,hf=>by
  obtain⟨v,r,rfl,h1,h2⟩:=h;obtain⟨fs,t1,t2,t3,t4⟩:=ra h2 (hf.imp (fun z x hx=>z x<|.tail _ hx) fun z x hx=>z x<|.tail _ hx);have sh:∃ f r',d=.tup (f::r'):=by
   rcases hf with z | z
   ·have:=z d (.head _);unfold db at this;split at this
    ·exact⟨_,_,rfl⟩
    ·cases this
   ·have:=z d (.head _);unfold fV at this;split at this
    ·exact⟨_,_,rfl⟩
    ·cases this
  obtain⟨f,r',rfl⟩:=sh;obtain⟨a,o,items,n,rfl,g1,g2,g3,g4⟩:=h1;obtain⟨fv,rv,e,g5,g6⟩:=g4;have LF:items[0]?=some fv:=by
   rw[<- Zt,e];rfl
  refine⟨fv::fs,KatTups.cons g1 g2 g3 LF t1,by simp[t2],fun z u hu=>?_,fun z u hu=>?_⟩
  ·rcases ZT.mp hu with rfl | hu
   ·have:=z _ (.head _);unfold db at this;split at this
    ·rename_i q;cases q;exact⟨_,g5⟩
    ·cases this
   ·exact t3 (fun x hx=>z x<|.tail _ hx) u hu
  ·rcases ZT.mp hu with rfl | hu
   ·have:=z _ (.head _);unfold fV at this;split at this
    ·rename_i q;cases q;obtain⟨a',o',_,_,e',k1,k2,_⟩:=g5;exact⟨a',o',e',k1,k2⟩
    ·cases this
   ·exact t4 (fun x hx=>z x<|.tail _ hx) u hu
end
section
variable{X:Cx}
theorem ar.pick{H:Hp}{ys:List V}(h:ar H ds ys):∀ {p:List Nat},(∀ k∈p,k<ds.length)->ar H (p.map fun i=>ds.getD i .i_) (p.map fun i=>ys.getD i .i_)
 | [],_=>rfl
 | k::p,hp=>by
  obtain⟨v,e1,e2⟩:=h.get (i:=k) (d:=ds.getD k .i_) (by
   have:=hp k (.head _);rw[Z6,ZL this];rfl)
  refine⟨v,_,?_,e2,h.pick fun j hj=>hp j<|.tail _ hj⟩;rw[ZF,Z6,e1];rfl
structure E5(ds:List Im):Prop where
 ord:E4 ds
 fst:(∀ d∈ds,db d=true)\/(∀ d∈ds,fV d=true)
theorem E5.tup(o:E5 ds):∀ d∈ds,∃ r,d=.tup r:=fun d hd=>by
 rcases o.fst with z | z
 ·have:=z d hd;unfold db at this;split at this
  ·exact⟨_,rfl⟩
  ·cases this
 ·have:=z d hd;unfold fV at this;split at this
  ·exact⟨_,rfl⟩
  ·cases this
theorem aO.E_{h h':Heap}(k:∀ b o,h.get? b=some o->h'.get? b=some o){ds:List Im}{vs:List Value}(x:aO h ds vs):aO h' ds vs:=x.keep fun a o _ _ e _ _=>k a o e
theorem rb{h:Heap}{s:Shared}(o:E5 ds)(h2:2<=f_.length)(iv:aO s.heap ds f_)(A:Around)(E:Value->Shared->Prop)(Q:SortKind->Shared->Prop)(hq:Q (tuples'<|decide (∀ d∈ds,db d=true)) s):
  wpAny (model X.prog X.w) A (keyKind' f_.toArray) Q E s:=by
 obtain⟨fs,t1,t2,t3,t4⟩:=ra iv o.fst;have hl:=iv.length;by_cases hf:∀ d∈ds,db d=true
 ·rw[Zr hf] at hq;refine kat_kind (T:=Value.type "int") t1 (by lia) (fun v hv=>?_) rfl ?_
  ·obtain⟨i,t,rfl⟩:=t3 hf v hv;exact Looks.of_pure rfl
  ·rw[show (Value.type "int" != Value.type "tuple")=true by decide];exact hq
 ·rw[Zs hf] at hq;have Rs:=o.fst.resolve_left hf;refine kat_kind (T:=Value.type "tuple") t1 (by lia) (fun v hv=>?_) rfl ?_
  ·obtain⟨a,ob,rfl,g1,g2⟩:=t4 Rs v hv;have:Looks (model X.prog X.w) s.heap (typeOf<|.ref a) ob.cls:=(Looks.ld g1).andThen .now;rw[g2] at this;exact this
  ·rw[show (Value.type "tuple" != Value.type "tuple")=false by decide];exact hq
theorem rc(hc:X.calm=true)(hu:X.A.units+20<cLine):bb X (.builtin "sorted") (fun xs H Q=>∃ (a:Addr) (ds:List Im) (ys:List V),xs=[.ref a]/\(D7 X.K H a ys\/DG X.K H a ys)/\ar H ds ys/\E5 ds/\
  ∀ l zs,H l=none->ar H (da C_ ds) zs->Q (.ref l) (upd H l<|.lst zs)):=by
 intro pins s σ H xs us Q I r h;obtain⟨a,ds,ys,rfl,hs,hi,o,q⟩:=h;obtain⟨u,rfl,ru⟩:=cK r;cases ru;have hz:ys.length<=1000:=by rw[<- hi.length];exact o.ord.M7
 have go:∀ {T:String}{f_:List Value}{n:Nat}{ob:Obj},(T = "list" \/ T = "tuple")->az ys f_->s.heap.get? a=some ob->ob.cls=.type T->ob.data=.seq f_.toArray n->wpAny (model X.prog X.w) X.A (call (.builtin "sorted") [.ref a]) (EP X pins σ Q) X.xe s:=by
  intro T f_ n ob hT rv e eC eD;have iv:=hi.FB I.m_ rv;have li:f_.length=ds.length:=iv.length.symm;refine qj hc (eh ds) (tuples'<|decide (∀ d∈ds,db d=true)) I rv hT e eC eD hz (fun h2 h6 tk k A E Q hq=>rb (h:=h6) o h2 (iv.E_ k) A E Q hq) (fun h6 tk k=>?_) (by rw[li];exact mG o.ord) (.inl (by have:=o.ord.M7;lia)) fun p l r1 r2 fl=>?_
  ·refine qZ (s:={ s with heap:=h6,toks:=tk }) o.ord (iv.E_ k) o.tup (fun hb=>?_) (by show X.A.units+1+1+9<cLine;lia);exact Zk hb
  ·rw[li] at r1 r2;have e1:(p.toList.map fun i=>ds.getD i .i_)=da C_ ds:=qX o.ord (mo r1) (PJ o.ord r1 r2);refine q l _ fl ?_;rw[<- e1];exact hi.pick fun k hk=>Zp.mp (r1.mem_iff.mp hk)
 rcases hs with hs | hs
 ·obtain⟨f_,rv,p,_⟩:=I.list hs;obtain⟨ob,e,eC,n,eD⟩:=p.isList;exact go (.inl rfl) rv e eC eD
 ·obtain⟨f_,rv,p,_⟩:=I.tuple hs;obtain⟨ob,e,eC,n,eD⟩:=p;exact go (.inr rfl) rv e eC eD
end
section
variable{X:Cx}
theorem re{H:Hp}:∀ {kvs:List (List Im×V)}{es:List (List Im×Addr×Value)},Paired (fun (p:List Im×V) (q:List Im×Addr×Value)=>p.1=q.1/\Gx H p.1 q.2.1/\aw p.2 q.2.2) kvs es->
  ar H (kvs.map fun p=>.tup p.1) (es.map fun x=>V.ref x.2.1)/\az (es.map fun x=>V.ref x.2.1) (es.map fun x=>Value.ref x.2.1)
 | _,_,.nil=>⟨rfl,.nil⟩
 | _,_,.cons r t=>by
  obtain⟨h1,h2⟩:=re t;exact⟨⟨_,_,rfl,r.2.1.2,h1⟩,.cons rfl h2⟩
theorem zR(hc:X.calm=true)(hu:X.A.units+20<cLine):bb X (.builtin "sorted") (fun xs H Q=>∃ (d:Addr) (kvs:List (List Im×V)),xs=[.ref d]/\H d=some (.dT kvs)/\E5 (kvs.map fun p=>.tup p.1)/\
  ∀ l zs,H l=none->ar H (da C_<|kvs.map fun p=>.tup p.1) zs->Q (.ref l) (upd H l<|.lst zs)):=by
 intro pins s σ H xs us Q I r h;obtain⟨d,kvs,rfl,hd,so,q⟩:=h;obtain⟨u,rfl,ru⟩:=cK r;cases ru;obtain⟨z,lo,es,rel,o,Rt,ep,e1,e2,e3,e4,nd⟩:=I.m_ d _ hd;obtain⟨hi,rv⟩:=re rel;have PK:G' s.heap d (es.map fun x=>Value.ref x.2.1) ep:=⟨o,Rt,e1,e2,e3,by rw[e4,YV];rfl⟩;generalize (es.map fun x=>Value.ref x.2.1)=f_ at rv PK;generalize (es.map fun x=>V.ref x.2.1)=ys at hi rv;generalize Sw:(kvs.map fun p=>Im.tup p.1)=ds at hi so q;have iv:=hi.FB I.m_ rv;have li:f_.length=ds.length:=iv.length.symm;have M7:=so.ord.M7;have hl:ys.length=f_.length:=rv.length;have LE:f_.length<=sizeLine:=Zo (by lia) (show 1000<=sizeLine by decide);refine Calls.call_function_entry kind_sorted plain_sorted entry_sorted (args_sorted1 _) ?z
 case z=>
  unfold Builtin.«sorted»;refine Z9 (m:=checkCount "sorted" 1 1 _) (ZU<|Z9<|kdu_collect (A:=X.A.in1) (xE lo) (I.ok.hd hc) PK LE fun h' tk acc Ka Gd=>?_);have ea:acc.toList=f_:=by
   apply List.ext_getElem
   ·rw[Zw];exact Gd.1
   ·intro i h1 h2;have:=Gd.2 i acc.toList[i] (by rw[<- Zt];exact ZL h1);have this:f_[i]?=some acc.toList[i]:=this;rw[ZL h2] at this;exact (Zv this).symm
  rw[ea];refine Z9 (wpAny_newList ?_ LE);have oB:(h'.push<|seqObj "list" f_.toArray 0).get? h'.objs.size=some (seqObj "list" f_.toArray 0):=ZE _ rfl;have kB:∀ b o,s.heap.get? b=some o->(h'.push<|seqObj "list" f_.toArray 0).get? b=some o:=fun b o e=>Z2 _ (Ka b o e);have I1:Inv X pins σ H { s with heap:=h',toks:=tk }:=I.kept Ka;have nB:∀ b o,s.heap.get? b=some o->b≠h'.objs.size:=fun b o e=>Zx (ZO<|Ka b o e);refine Z9 (YM<|Y2 slot_list_sort ⟨_,oB,rfl⟩ entry_list_sort ?y<|args_list_sort _)
  case y=>
   refine qi (s:={ s with heap:=h'.push (seqObj "list" f_.toArray 0),toks:=tk }) (eh ds) (tuples'<|decide (∀ d∈ds,db d=true)) oB
    (fun h2 h6 k6 Q hq=>rb (X:=X) (h:=h6) so h2 (iv.E_ fun b o eb=>k6 b o (nB b o eb)<|kB b o eb) _ _ Q hq)
    (fun h6 k6=>qZ (s:={ s with heap:=h6,toks:=tk }) so.ord (iv.E_ fun b o eb=>k6 b o (nB b o eb)<|kB b o eb) so.tup (fun hb=>Zk hb) (by show X.A.units+1+1+9<cLine;lia))
    (by rw[li];exact mG so.ord) (.inl (by lia)) (by lia) fun p h2 r1 r2 k2 ⟨e9,N7⟩=>⟨_,rfl,ZU ⟨_,rfl,?_⟩⟩;have fB:H h'.objs.size=none:=I1.m_.fresh (ZR _);have N8:∀ b o,h'.get? b=some o->b≠h'.objs.size:=fun b o e=>Zx (ZO e);rw[li] at r1 r2;refine⟨.ref h'.objs.size,upd H h'.objs.size<|.lst<|p.toList.map fun i=>ys.getD i .i_,?_,rfl,q _ _ fB ?_⟩
   ·refine I1.laid (t':=tk) (fun b u e=>k2 b u (N8 b u e)<|Z2 _ e) (ZR _) ⟨?_,_,e9,?_,N7⟩
    ·rw[Z4,Zw,r1.size];lia
    ·refine mq (by simp) fun i v u h1 h2=>?_;rw[Zq] at h1 h2;cases Kb:p.toList[i]? with
     | none=>rw[Kb] at h1;cases h1
     | some k=>
      rw[Kb] at h1 h2;cases h1;cases h2;have hk:k<f_.length:=by rw[li];exact Zp.mp (r1.mem_iff.mp<|YX Kb)
      obtain⟨u,h3,h4⟩:=rv.get (i:=k) (x:=ys[k]'(by lia)) (by simp[show k<ys.length by lia]);rw[ZL hk] at h3;have h3:=Zv h3;simp only[List.getD,ZL hk,ZL (show k<ys.length by lia),Xb];rw[h3];exact h4
   ·rw[<- qX so.ord (mo r1) (PJ so.ord r1 r2)];exact hi.pick fun k hk=>Zp.mp (r1.mem_iff.mp hk)
def mI(ds:List Im):Bool:=decide (ds.length<=1000) && ds.all (fun a=>ds.all fun b=>b9 6 a b) && decide ds.Nodup && (ds.all db || ds.all fV)
theorem iK:mI ds=true↔E5 ds:=by
 unfold mI;rw[ZV,ZV,ZV,Bool.or_eq_true,Yo,Yo,Zn,Zn,Zn];constructor
 ·rintro⟨⟨⟨h1,h2⟩,h3⟩,h4⟩;exact⟨⟨h1,fun a ha b hb=>Zn.mp (h2 a ha) b hb,h3⟩,h4⟩
 ·rintro⟨⟨h1,h2,h3⟩,h4⟩;exact⟨⟨⟨h1,fun a ha=>Zn.mpr fun b hb=>h2 a ha b hb⟩,h3⟩,h4⟩
def cX(ds:List Im):Option Vl:=if mI ds=true then some (.lst<|da C_ ds) else none
def DE:OpN:=fun ds=>match ds with
 | [.lst x]=>match Fp x with
  | some ns=>vSorted [.lst x]
  | none=>cX x
 | [.im (.tup x)]=>cX x
 | [.dT kvs]=>cX (kvs.map fun p=>.tup p.1)
 | _=>none
theorem mJ{d:Vl}(h:cX ds=some d):E5 ds/\d=.lst (da C_ ds):=by
 unfold cX at h;split at h
 ·rename_i e;cases h;exact⟨iK.mp e,rfl⟩
 ·cases h
theorem rf{H:Hp}:∀ {kvs:List (List Im×Im)}{Eh:List (List Im×V)},Ev H kvs Eh->(kvs.map fun p=>Im.tup p.1)=Eh.map fun p=>Im.tup p.1
 | _,_,.nil=>rfl
 | _,_,.cons r t=>by rw[ZF,ZF,rf t,r.1]
theorem iL(hc:X.calm=true)(hu:X.A.units+20<cLine):cU X (.builtin "sorted") DE:=by
 intro pins s σ H xs us Q I r ⟨ds,d,rd,e,q⟩;unfold DE at e;split at e
 ·rename_i x;split at e
  ·exact yN hc hu pins s σ H xs us Q I r ⟨_,d,rd,e,q⟩
  ·obtain⟨so,rfl⟩:=mJ e;obtain⟨v,rfl,_,p,ys,rfl,h1,h2,_⟩:=bR rd;exact rc hc hu pins s σ H _ us Q I r ⟨p,x,ys,rfl,.inl<|D7.of h1,h2,so,fun l zs fl hz=>Out.l q fl hz⟩
 ·rename_i x;obtain⟨so,rfl⟩:=mJ e;obtain⟨v,rfl,hv⟩:=bR rd;obtain⟨p,ys,rfl,h1,h2⟩:=hv.i;exact rc hc hu pins s σ H _ us Q I r ⟨p,x,ys,rfl,.inr<|DG.of h1,h2,so,fun l zs fl hz=>Out.l q fl hz⟩
 ·rename_i kvs;obtain⟨so,rfl⟩:=mJ e;obtain⟨v,rfl,_,p,Eh,rfl,h1,h2,_⟩:=bR rd;rw[rf h2] at so q;exact zR hc hu pins s σ H _ us Q I r ⟨p,Eh,rfl,h1,so,fun l zs fl hz=>Out.l q fl hz⟩
 ·cases e
end
section
variable{X:Cx}{pins:List (Addr×Obj)}{σ:St}{H:Hp}{s:Shared}{P:List Im->Addr->Prop}
end
section
variable{X:Cx}
end
end L2
namespace L2
open PySem PySem.Spec PyProof.Rows
section
variable{X:Cx}
end
section
variable{X:Cx}
theorem zS{scope:Scope}{own:List Str}{caps:List Nat}(h:lG X.env.scope X.N scope caps=true):r_ X scope own caps:=dg _ _ h rfl rfl
end
end L2
namespace HT
def ev{α:Type}:List α->List α
 | []=>[]
 | [a]=>[a]
 | a::_::r=>a::ev r
open PySem PySem.Spec PyProof.Rows
section
variable{prog:Program}{w:World}{A:Around}{E:Value->Shared->Prop}{s:Shared}
end
end HT
namespace L2
open PySem PySem.Spec PyProof.Rows
section
variable{X:Cx}
end
end L2
namespace PySem
open Sem (wp)
theorem zU:typeLookup (.type "list") "keys" = pure none:=by rw[typeLookup_type,builtinLookup_eq_fast];kernel_rfl
theorem zV{prog:Program}{w:World}{A:Around}{E:Value->Shared->Prop}{s:Shared}{a:Addr}{xs:Array Value}{k:Nat}{Q:Option Value->Shared->Prop}(hx:s.heap.get? a=some { cls:=.type "list",data:=.seq xs k })(hA:A.handled=none)(h:∀ h' tk,(∀ b o,s.heap.get? b=some o->h'.get? b=some o)->Q none { s with heap:=h',toks:=tk }):wpAny (model prog w) A (getAttr? (.ref a) "keys") Q E s:=by
 obtain⟨hp,g,d,tk,os⟩:=s;have hT:∀ PL,(⟨hp,g,d,PL,os⟩:Shared).TypeIs (.ref a) "list" := fun _=>⟨_,hx,rfl⟩;have f1:=sub_AttributeError;have f3:=XU.lookup;have f4:=XU.bind (.ref a);have f5:=am_list_getattr_none;unfold getAttr? getAttrBy? getAttrBy;repeat (any_goals (first | assumption | exact hT _ | ((with_reducible show wpAny _ _ (call (Value.builtin "list.__getattribute__") _ _) _ _ _);refine Xf XU (hT _) am_entry_list_getattribute (F.args_list_getattribute_2 _ _) (meets_getattribute_miss_list a xs k _ "keys" _ zU (by decide +kernel) (by decide)) ⟨hx,hA,fun h' PL e Gw=>?_⟩) | wp_step))
 obtain⟨t',u',he⟩:=Gw.there;show wpAny _ _ (getattributeRaised _ _ _ _ _ _ _) _ _ _;unfold getattributeRaised;have hE:∀ Oj,(⟨h',g,d,Oj,os⟩:Shared).TypeIs (.ref e) "AttributeError" := fun _=>⟨_,he,rfl⟩;repeat (any_goals (first | assumption | exact hE _ | wp_step))
 exact h h' _ Gw.keeps
end PySem
namespace PySem
namespace F
theorem FK:entryFor table "dict.update.loop" = some Builtin.«dict.update.loop»:=entryFor_of_tree (by kernel_rfl)
theorem Er:plainId "dict.update.loop" = true:=by decide +kernel
end F
end PySem
namespace L2
open PySem PySem.Spec PyProof.Rows PySem.W
variable{pos:Pos}{v k:Expr}
theorem mK{α β:Type}{F:α->β->Prop}:∀ {l₁:List α}{l₂:List β},Paired F l₁ l₂->∀ (i:Nat),i<l₁.length->∃ a b,l₁[i]?=some a/\l₂[i]?=some b/\F a b
 | _,_,.nil,i,h=>by simp at h
 | _,_,.cons r t,0,h=>⟨_,_,rfl,rfl,r⟩
 | _,_,.cons r t,i+1,h=>by
  obtain⟨a,b,x,y,z⟩:=mK t i (by simpa using h);exact⟨a,b,by simpa using x,by simpa using y,z⟩
def GH:List Im->Option (List<|List Im×Im)
 | []=>some []
 | .tup [.tup k,d]::r=>(GH r).map fun s=>(k,d)::s
 | _=>none
theorem zW:∀ {x:List Im}{ps:List (List Im×Im)},GH x=some ps->x=ps.map fun p=>.tup [.tup p.1,p.2]:=by
 intro x;induction x with
 | nil=>intro ps h;cases h;rfl
 | cons a x ih=>
  intro ps h;unfold GH at h;split at h
  ·cases h;rename_i e;cases e
  ·rename_i k d r e;cases e;obtain⟨s,e1,e2⟩:=Z5.mp h;cases e2;rw[ZF,<- ih e1]
  ·cases h
def gQ(ps:List (List Im×Im)):List (List Im×Im):=ps.foldl (fun a p=>dk a p.1 p.2) []
def mL(H:Hp)(v:V)(p:List Im×Im):Prop:=∃ t a y,v=.ref t/\H t=some (.tup [.ref a,y])/\Gx H p.1 a/\DK H p.2 y
theorem rg{H:Hp}:∀ {ps:List (List Im×Im)}{ys:List V},(∀ p∈ps,Im.keys 7 p.1=true)->ar H (ps.map fun p=>.tup [.tup p.1,p.2]) ys->Paired (mL H) ys ps
 | [],ys,_,h=>by rw[show ys=[] from h];exact .nil
 | p::ps,ys,hk,h=>by
  obtain⟨v,r,rfl,⟨t,zs,rfl,h1,v1,r1,rfl,h2,v2,r2,rfl,h3,h4⟩,h5⟩:=h;cases (show r2=[] from h4);obtain⟨a,ws,rfl,g1,g2⟩:=h2;exact .cons ⟨t,a,v2,rfl,h1,⟨hk p<|.head _,a,ws,rfl,g1,g2⟩,h3⟩ (rg (fun q hq=>hk q<|.tail _ hq) h5)
section
variable{X:Cx}{pins:List (Addr×Obj)}{σ:L2.St}{H:Hp}{s0:Shared}
theorem KT.is{kvs:List (List Im×V)}{xs:List (List Im×Addr×Value)}(r:KT H kvs xs):∀ x∈xs,Gx H x.1 x.2.1:=by
 intro x hx;obtain⟨i,hi,rfl⟩:=Ym.mp hx;obtain⟨p,q,h1,h2,h3,h4,_⟩:=mK r i (by rw[Yj r];exact hi);rw[ZL hi] at h2;have h2:=Zv h2;subst h2;rw[<- h3];exact h4
theorem mM(I0:Inv X pins σ H s0){D:Addr}{h h':Heap}{kvs:List (List Im×V)}{xs:List (List Im×Addr×Value)}(dd:h.DictOfH (bK X.prog X.w) D xs)(kt:KT H kvs xs)(kp:∀ b o,s0.heap.get? b=some o->h'.get? b=some o)(kD:∀ o,h.get? D=some o->h'.get? D=some o):h'.DictOfH (bK X.prog X.w) D xs:=by
 obtain⟨o,es,ep,h1,h2,h3,h4,_,h5⟩:=dd;have I1:Inv X pins σ H { s0 with heap:=h' }:=I0.kept (t':=s0.toks) kp;exact⟨o,es,ep,kD o h1,h2,h3,h4,fun x hx=>eE (h:=h') I1.m_<|kt.is x hx,h5⟩
theorem zX(I0:Inv X pins σ H s0){A:Around}(hu:A.units+20<cLine){D It l:Addr}{vs:List Value}{ys:List V}{ps:List (List Im×Im)}{St:Nat->Heap->Prop}{R:Result->Shared->Prop}(rv:az ys vs)(hP:Paired (mL H) ys ps)(hz:ps.length<=1000)(W:Walks X.prog X.w A.in1 It [It,l] [It] vs.length (fun i v=>vs[i]?=some v) St)(nD:s0.heap.get? D=none)(nI:s0.heap.get? It=none)(DI:D≠It)(Dl:D≠l)(fin:∀ (s:Shared) (xs:List (List Im×Addr×Value)) (kvs:List (List Im×V)),(∀ b o,s0.heap.get? b=some o->s.heap.get? b=some o)->s.heap.DictOfH (bK X.prog X.w) D xs->KT H kvs xs->Ev H (gQ ps) kvs->kvs.length<=1000->
   s.gens=s0.gens->s.drawn=s0.drawn->s.os=s0.os->R (.ok<|.ret .none) s):
  ∀ (m i:Nat) (t:Tok) (s:Shared) (xs:List (List Im×Addr×Value)) (kvs:List (List Im×V)),vs.length - i=m->i<=vs.length->St i s.heap->(∀ b o,s0.heap.get? b=some o->s.heap.get? b=some o)->
   s.heap.DictOfH (bK X.prog X.w) D xs->KT H kvs xs->Ev H (gQ<|ps.take i) kvs->kvs.length<=i->s.gens=s0.gens->s.drawn=s0.drawn->s.os=s0.os->
   codeAny (model X.prog X.w) A (.builtin "dict.update.loop" ⟨[.ref D,.ref It,.int i t,.none],[]⟩) R s:=by
 have ly:vs.length=ps.length:=by rw[<- rv.length,Yj hP]
 intro m;induction m with
 | zero=>
  intro i t s xs kvs hm hi st kp dd kt hk hl g1 g2 g3;have ei:i=vs.length:=by lia
  refine Wc F.FK ?_;rw[Around.under_plainId F.Er _];refine Z9 (m:=pyNext (.ref It)) (W.done s _ _ (ei ▸ st) fun h' tk keep=>?_);refine Z9 (m:=Builtin.Dict.addKeywords D []) (ZU<|ZU ?_);have kD:∀ b o,b≠It->s.heap.get? b=some o->h'.get? b=some o:=fun b o hb e=>keep b o (by simpa using hb) e;refine fin _ xs kvs (fun b o e=>kD b o (fun z=>by rw[z,nI] at e;cases e)<|kp b o e) ?_ kt (by rw[Xw (by lia)] at hk;exact hk) (by lia) g1 g2 g3;exact mM I0 dd kt (fun b o e=>kD b o (fun z=>by rw[z,nI] at e;cases e)<|kp b o e) fun o e=>kD D o DI e
 | succ m ih=>
  intro i t s xs kvs hm hi st kp dd kt hk hl g1 g2 g3;have lt:i<vs.length:=by lia
  refine Wc F.FK ?_;rw[Around.under_plainId F.Er _];refine Z9 (m:=pyNext (.ref It)) (W.item i s _ _ lt st fun v h' tk hv q_ keep=>?_);have kD:∀ b o,b≠It->s.heap.get? b=some o->h'.get? b=some o:=fun b o hb e=>keep b o (by simpa using hb) e;obtain⟨y,c,e1,e2,p,a,yv,rfl,hp,ha,hy⟩:=mK hP i (by rw[rv.length];exact lt);obtain⟨u,e3,e4⟩:=rv.get e1;rw[hv] at e3;cases e3;cases e4;have Ol:∀ b o,s0.heap.get? b=some o->h'.get? b=some o:=fun b o e=>kD b o (fun z=>by rw[z,nI] at e;cases e) (kp b o e);have I2:Inv X pins σ H { s0 with heap:=h' }:=I0.kept (t':=s0.toks) Ol;have HD:=mM I0 dd kt Ol fun o e=>kD D o DI e;obtain⟨_,f_,Ru,o,ho,MC,n,Kg⟩:=I2.m_ _ _ hp;obtain⟨w1,w2,rfl,r1,r2⟩:=lj Ru;cases r1;show wpAny (model X.prog X.w) A.in1 (holding [.ref p] _ >>= fun _=>again _) _ _ _;refine Z9 (YM<|Z9<|wpAny_tryCatch ?_);unfold Builtin.Dict.pairItems;refine Z9 (wpAny_typeOf (s:={ s with heap:=h',toks:=tk }) (⟨o,ho,MC⟩:Shared.TypeIs { s with heap:=h',toks:=tk } (.ref p) "tuple") ?_);rw[ZZ (by decide)];refine Z9 (YK (s:={ s with heap:=h',toks:=tk }) ho Kg<|ZU ?_);show wpAny (model X.prog X.w) A.in1 (holding [.ref a,w2]<|dictSet D (.ref a) w2) _ _ _;refine YM (wpAny_dictSet_heap (s:={ s with heap:=h',toks:=tk }) (k:=c.1) (knd:=bK X.prog X.w) (gp hu) (eE (h:=h') I2.m_ ha) HD (fun h3 Rv sb=>?_) (by
   have:=Yj kt;exact Zo (show xs.length<=1000 by lia) (by decide)))
  have PM:∀ b o,b≠D->h'.get? b=some o->h3.get? b=some o:=fun b o hb e=>(sb.2 b hb).trans e;have Rw:=kt.put c.1 (b:=a) (y:=yv) (u:=w2) ha r2;have Rx:ps.take (i+1)=ps.take i++[c]:=by
   have G_:=(Zz.mp e2);rw[List.take_succ_eq_append_getElem G_.1,G_.2]
  have Ha:Ev H (gQ<|ps.take<|i+1) (br kvs c.1 yv):=by
   rw[Rx];unfold gQ;rw[List.foldl_append];exact Ev.put hy hk
  refine ZU ⟨plainId_quiet F.Er _,ih (i+1) 0 _ _ _ (by lia) lt (W.frame _ _ _ q_ fun b hb o e=>PM b o (fun z=>by
    subst z;rcases ZT.mp hb with z | hb
    ·exact DI z
    ·exact Dl (ZX.mp hb)) e) (fun b o e=>PM b o (fun z=>by rw[z,nD] at e;cases e)<|Ol b o e) Rv Rw Ha ?_ g1 g2 g3⟩
  unfold br;split
  ·rw[Z4];lia
  ·simp;lia
theorem zY(hc:X.calm=true)(hu:X.A.units+30<cLine):bb X (.type "dict") (fun xs H Q=>∃ (l:Addr) (ys:List V) (ps:List (List Im×Im)),xs=[.ref l]/\H l=some (.lst ys)/\Paired (mL H) ys ps/\ps.length<=1000/\
  ∀ (d:Addr) (kvs:List (List Im×V)),H d=none->Ev H (gQ ps) kvs->Q (.ref d) (upd H d<|.dT kvs)):=by
 intro pins s σ H xs us Q I r h;obtain⟨l,ys,ps,rfl,hl,hP,hz,q⟩:=h;obtain⟨u,rfl,ru⟩:=cK r;cases ru;obtain⟨z,f_,n,rv,e⟩:=I.m_ l _ hl;have ll:l<s.heap.objs.size:=ZO e;refine callType_codes (Q₁:=fun obj s₁=>obj=.ref s.heap.objs.size/\s₁={ s with heap:=s.heap.push { cls:=.type "dict",data:=.dict #[] } }) PySem.F.kt_called_dict (PySem.F.kt_typeCall_dict_1 _) PySem.F.entry_dict_init (kt_code_dict_new _ ⟨rfl,rfl⟩) ?_;rintro obj s₁ ⟨rfl,rfl⟩;have Om:(s.heap.push { cls:=.type "dict",data:=.dict #[] }).DictOfH (bK X.prog X.w) s.heap.objs.size []:=Heap.DictOfH.new s.heap;have hT:Shared.TypeIs { s with heap:=s.heap.push { cls:=.type "dict",data:=.dict #[] } } (.ref s.heap.objs.size) "dict" := ⟨_,ZE _ rfl,rfl⟩;have el:(s.heap.push { cls:=.type "dict",data:=.dict #[] }).get? l=some { cls:=.type "list",data:=.seq f_.toArray n }:=Z2 _ e;refine⟨hT,PySem.F.args_dict_init_2 _ _,?_⟩;unfold Builtin.«dict.__init__»;refine Z9 ?_;unfold Builtin.Dict.selfAndRest;refine Z9 (Xm hT ?_);show wpAny _ _ (pure (s.heap.objs.size,[Value.ref l])) _ _ _;refine ZU ?_;show wpAny _ _ (Builtin.Dict.updateFrom "dict.__init__" s.heap.objs.size (.ref l) [] .none) _ _ _;unfold Builtin.Dict.updateFrom;refine Z9 (wpAny_typeOf (⟨_,el,rfl⟩:Shared.TypeIs { s with heap:=s.heap.push { cls:=.type "dict",data:=.dict #[] } } (.ref l) "list") ?_);rw[ZZ (by decide)];refine Z9 (zV (s:={ s with heap:=s.heap.push { cls:=.type "dict",data:=.dict #[] } }) el (I.ok.hd hc) fun h1 tk k1=>?_);rw[ZZ (show (none:Option Value).isNone=true from rfl)];refine Z9 (m:=rule _) (YL ?_);have Jm:h1.IsList l f_.toArray:=⟨_,k1 _ _ el,rfl,n,rfl⟩;refine Z9 (Xr (s:={ s with heap:=h1,toks:=tk }) Jm ?_);have sD:s.heap.objs.size<h1.objs.size:=ZO (k1 _ _<|ZE _ rfl);have kp:∀ b o,s.heap.get? b=some o->(h1.push { cls:=.type "list_iterator",data:=.fields #[.ref l,.int 0 0] }).get? b=some o:=fun b o eb=>Z2 _ (k1 b o<|Z2 _ eb);refine ZU ⟨plainId_quiet PySem.F.Er _,?_⟩;have Ry:(h1.push { cls:=.type "list_iterator",data:=.fields #[.ref l,.int 0 0] }).DictOfH (bK X.prog X.w) s.heap.objs.size []:=mM I (kvs:=[]) Om .nil kp fun o eo=>Z2 _ (k1 _ _ eo);have lI:l≠h1.objs.size:=Zx (Nat.lt_trans ll sD);refine zX I (A:=X.A.in1) (by show X.A.units+1+20<cLine;lia) (D:=s.heap.objs.size) (It:=h1.objs.size) (l:=l) (St:=fun i h=>h.IsListIter h1.objs.size l i/\h.IsList l f_.toArray) rv hP hz ?_ (W2<|ZR _) (W2<|Wg sD) (Zx sD) (WN ll)
  (fun s' xs kvs Rz Hl RA hk hlen g1 g2 g3=>?_) f_.length 0 0 _ [] [] rfl (Ys _) ?_ kp Ry .nil .nil (ZR _) rfl rfl rfl
 ·have W:=Walks.list (prog:=X.prog) (w:=X.w) (A:=X.A.in1.in1) (I.ok.hd hc) h1.objs.size l lI f_.toArray;have e1:(fun (i:Nat) (v:Value)=>f_.toArray[i]?=some v)=fun i v=>f_[i]?=some v:=by
   funext i v;rw[List.getElem?_toArray]
  rw[e1,ZS] at W;exact W
 ·obtain⟨h',g',d',t',K0⟩:=s';have g1:g'=s.gens:=g1;have g2:d'=s.drawn:=g2;have g3:K0=s.os:=g3;subst g1 g2 g3;have fD:H s.heap.objs.size=none:=I.m_.fresh (ZR _);obtain⟨o,es,ep,RB,J6,RD,RE,_,RF⟩:=Hl;refine⟨rfl,.ref s.heap.objs.size,_,I.laid (o:=.dT kvs) (h':=h') (t':=t') Rz (ZR _) ⟨Zo (show kvs.length<=1000 by lia) (by decide),WQ.mpr<|Yv<|Zx I.big,xs,RA.keeps fun b ys eb=>pk eb fD,o,es,ep,RB,J6,RD,RE,RF⟩,rfl,q _ kvs fD hk⟩
 ·exact⟨⟨_,ZE _ rfl,rfl,rfl⟩,Jm.push _⟩
@[simp] def vDict:OpN:=fun ds=>match ds with
 | [.lst x]=>(GH x).bind fun ps=>if (ps.all fun p=>Im.keys 7 p.1)=true/\ps.length<=1000 then some (.dT<|gQ ps) else none
 | _=>none
theorem rh(hc:X.calm=true)(hu:X.A.units+30<cLine):cU X (.type "dict") vDict:=by
 refine (zY hc hu).imp fun xs H Q ⟨ds,d,rd,e,q⟩=>?_;unfold vDict at e;split at e
 ·rename_i x;obtain⟨ps,e1,e2⟩:=Z8.mp e;split at e2
  ·rename_i hp;cases e2;obtain⟨v,rfl,_,p,ys,rfl,h1,h2,_⟩:=bR rd;rw[zW e1] at h2;refine⟨p,ys,ps,rfl,h1,rg (fun q hq=>Zn.mp hp.1 q hq) h2,hp.2,fun d kvs hd hk=>?_⟩;have s:aF H (upd H d<|.dT kvs):=(aF.refl H).upd hd;exact q _ _ [d] s ⟨d,kvs,rfl,bp,hk.mono s.tupS.tup,rfl⟩ (ZB _ _) fun a ha=>by rw[ZX.mp ha];exact hd
  ·cases e2
 ·cases e
end
section
variable{X:Cx}
def zZ(tk tv:TE):TE:=fun σ H Q=>∀ p,H p=none->tk σ (upd H p<|.dT []) fun x H1=>tv σ H1 fun y H2=>∃ b k,x=.ref b/\Gx H2 k b/\H2 p=some (.dT [])/\Q (.ref p) (upd H2 p<|.dT [(k,y)])
theorem z9{tk tv:TE}(hu:X.A.units+20<cLine)(hk:PE X k tk)(hv:PE X v tv):PE X (.Dict [some k] [v] pos) (zZ tk tv):=by
 intro pins s σ H Q I q;have hn:=I.m_.fresh (ZR s.heap.objs.size);have I1:=I.laid (a:=s.heap.objs.size) (o:=.dT []) (h':=s.heap.push { cls:=.type "dict",data:=.dict #[] }) (t':=s.toks) (fun _ _ q=>Z2 _ q) (ZR _) (oN s.heap I.big);refine wpAny_Dict_any rfl rfl (by simp) (by simp) ?_;refine pairTrees_cons_walk (B_ (hk pins _ σ _ _ I1<|q _ hn) fun u s1 ⟨x,H1,I2,rx,q1⟩=>B_ (hv pins s1 σ H1 _ I2 q1) fun w2 s2 ⟨y,H2,I3,ry,b,c,ex,hb,hp,q2⟩=>pairTrees_nil_walk ?_);subst ex;cases rx;obtain⟨z,Kh,xs,kt,dd⟩:=jy I3.m_ hp;cases kt;unfold storeAll;rw[WW];refine Z9 (Z9 (wpAny_dictSet_heap (k:=c) (knd:=bK X.prog X.w) (show X.A.units+10<cLine by lia) (eE I3.m_ hb) dd (fun h' Hl sb=>ZU ?_)<|Ys _));refine ZU ⟨.ref s.heap.objs.size,_,?_,rfl,q2⟩;obtain⟨q',es,ep,hq,h2,h3,h4,_,h5⟩:=Hl;refine jz (s:=s2) I3 (by rw[hp];exact True.intro) sb ⟨q',hq⟩ ⟨(show 1<=sizeLine by decide),Kh,_,KT.keeps (KT.put (kvs:=[]) (xs:=[]) .nil c (b:=b) hb ry) fun cc ys ec=>?_,q',es,ep,hq,h2,h3,h4,h5⟩;rw[aE (kW ec hp<|fun z=>nomatch z)];exact ec
@[simp] def rj(gk gv:M Vl):M Vl:=fun D=>(gk D).bind fun p=>(gv p.2).bind fun q=>match p.1,q.1 with
 | .im (.tup k),.im d=>if Im.keys 7 k=true then some (.dT [(k,d)],q.2) else none
 | _,_=>none
theorem Aa{gk gv:M Vl}(hu:X.A.units+20<cLine)(hk:VE X k gk)(hv:VE X v gv):VE X (.Dict [some k] [v] pos) (rj gk gv):=by
 refine aT (z9 hu hk hv) fun σ H Q ⟨D,F,r,D',st,nd,Fm,q⟩ p hp=>?_;obtain⟨⟨d1,D1⟩,h1,h2⟩:=Z8.mp Fm;obtain⟨⟨d2,D2⟩,h3,h4⟩:=Z8.mp h2;have s:aF H (L2.upd H p<|.dT []):=(aF.refl H).upd hp;have hF:p∉F:=fun z=>by obtain⟨o,e,_⟩:=st.chg p z;rw[hp] at e;cases e
 refine⟨D,F,d1,D1,st.mono s.tupS fun a _ o e=>s a o e,nd,h1,fun x H1 F1 R1 u_ o1 s1=>?_⟩;have MY:=ZP.mp s1.nd;refine⟨D1,F1,d2,D2,u_,MY.1,h3,fun y H2 F2 R2 q_ o2 s2=>?_⟩;dsimp only at h4;split at h4
 ·rename_i kk dd;split at h4
  ·rename_i RG;cases h4;obtain⟨w1,rfl⟩:=o1;obtain⟨w2,rfl⟩:=o2;rw[ZY] at s1 s2;have M8:=s1.seq s2;have Lq:H1 p=some (.dT []):=s1.keep p _ bp hF;have PN:p∉F1:=fun z=>by
    rcases s1.sub p z with h | h
    ·exact hF h
    ·rw[bp] at h;cases h
   have G9:H2 p=some (.dT []):=s2.keep p _ Lq PN;have PO:p∉F2:=fun z=>by
    rcases s2.sub p z with h | h
    ·exact PN h
    ·rw[Lq] at h;cases h
   obtain⟨b,xs,rfl,k1,k2⟩:=(show DK H2 (.tup kk) x from w1.mono s2.tup.tup);refine⟨b,kk,rfl,⟨RG,b,xs,rfl,k1,k2⟩,G9,?_⟩;have EI:DC H2 (L2.upd H2 p<|.dT [(kk,y)]):=DC.of (fun a xs e=>by
    have:a≠p:=fun z=>by subst z;rw[G9] at e;cases e
    rw[aE this];exact e) fun a o u e=>by
    have:a≠p:=fun z=>by subst z;rw[G9] at e;cases e
    rw[aE this];exact e
   refine q _ _ F2 [p] (q_.mono EI fun a ha o e=>by
    have ne:a≠p:=fun z=>by subst z;exact PO ha
    rw[aE ne];exact e) ⟨p,[(kk,y)],rfl,bp,.cons ⟨rfl,w2.mono EI.tup⟩ .nil,rfl⟩ ?_
   refine⟨fun a o e ha=>?_,fun a ha=>?_,?_,?_,fun a o e=>?_⟩
   ·have:a≠p:=fun z=>by subst z;rw[hp] at e;cases e
    rw[aE this];exact M8.keep a o (by rw[aE this];exact e) ha
   ·rcases ZD.mp ha with h | h
    ·rcases M8.sub a h with h' | h'
     ·exact .inl h'
     ·by_cases e:a=p
      ·exact .inr (e ▸ hp)
      ·rw[aE e] at h';exact .inr h'
    ·exact .inr (by rw[ZX.mp h];exact hp)
   ·exact ZP.mpr ⟨s2.nd,ZB _ _,fun a ha b hb e=>PO (by rw[ZX.mp hb] at e;rw[<- e];exact ha)⟩
   ·exact (s.tupS.trans M8.tup).trans EI
   ·by_cases z:a=p
    ·exact⟨_,by rw[z];exact bp⟩
    ·obtain⟨o',e'⟩:=M8.grow a o (by rw[aE z];exact e);exact⟨o',by rw[aE z];exact e'⟩
  ·cases h4
 ·cases h4
end
section
variable{prog:Program}{w:World}{A:Around}{E:Value->Shared->Prop}{s:Shared}
end
section
variable{prog:Program}{w:World}{A:Around}{E:Value->Shared->Prop}{s:Shared}
end
section
open PySem.SeqAt
open PySem.AutoSeq1 (wpAny_loadPart')
open PySem.MeetsSeq PySem.MeetsSeq2 PySem.MeetsSeq3
end
section
variable{X:Cx}
end
section
variable{prog:Program}{w:World}{A:Around}{E:Value->Shared->Prop}{s:Shared}
end
section
variable{prog:Program}{w:World}{A:Around}{E:Value->Shared->Prop}{s:Shared}
end
section
variable{X:Cx}
end
section
variable{X:Cx}
end
mutual
def M9:Im->PyData
 | .int i=>.int i
 | .bl b=>.bool b
 | .str x=>.str x
 | .tup ds=>.tuple (iM ds)
 | _=>.none
def iM:List Im->List PyData
 | []=>[]
 | d::r=>M9 d::iM r
end
mutual
theorem Ab{h:Heap}:∀ {n:Nat}{d:Im}{u:Value},Im.pl n d=true->Ew h d u->Reads h u (M9 d) []
 | _,.i_,u,_,e=>by cases (show u=.none from e);exact .none
 | _,.bl b,u,_,e=>by cases (show u=.bool b from e);exact .bool b
 | _,.int i,u,_,e=>by obtain⟨t,rfl⟩:=e;exact .int i t
 | _,.str x,u,_,e=>by obtain⟨t,rfl⟩:=e;exact .str x t
 | n+1,.tup ds,u,k,e=>by
  obtain⟨a,o,items,m,rfl,h1,h2,h3,h4⟩:=e;exact .tuple h1 h2 h3 (rk (n:=n) k h4)
 | 0,.tup ds,u,k,e=>by cases k
 | n,.fn a,u,k,e=>by cases n<;>cases k
 | n,.fl a,u,k,e=>by cases n<;>cases k
 | n,.fd,u,k,e=>by cases n<;>cases k
theorem rk{h:Heap}:∀ {n:Nat}{ds:List Im}{us:List Value},Im.pls n ds=true->aO h ds us->ReadsAll h us (iM ds) []
 | _,[],us,_,e=>by rw[show us=[] from e];exact .nil
 | n,d::ds,us,k,e=>by
  obtain⟨v,r,rfl,h1,h2⟩:=e;rw[Im.pls,ZV] at k;exact .cons (Ab k.1 h1) (rk k.2 h2)
end
mutual
theorem Ac:∀ d:Im,PyData.hasDict (M9 d)=false
 | .i_=>rfl
 | .bl _=>rfl
 | .int _=>rfl
 | .str _=>rfl
 | .fn _=>rfl
 | .fl _=>rfl
 | .fd=>rfl
 | .tup ds=>rl ds
theorem rl:∀ ds:List Im,PyData.hasDictAll (iM ds)=false
 | []=>rfl
 | d::r=>by
  show (PyData.hasDict (M9 d) || PyData.hasDictAll (iM r))=false;rw[Ac d,rl r];rfl
end
section
variable{X:Cx}
end
section
variable{prog:Program}{w:World}{A:Around}{E:Value->Shared->Prop}{s:Shared}
end
section
variable{X:Cx}
end
def fg:List Im->Im->Option Nat
 | [],_=>none
 | x::r,d=>if aB x d=true then some 0 else (fg r d).map (·+1)
theorem rm{h:Heap}{d:Im}:∀ {ds:List Im}{vs:List Value}{j:Nat},Im.pls 8 ds=true->aO h ds vs->fg ds d=some j->
  ∃ v,vs[j]?=some v/\dq h d v=true/\∀ m u,m<j->vs[m]?=some u->dq h d u=false
 | [],vs,j,_,_,e=>by cases e
 | x::ds,vs,j,k,iv,e=>by
  obtain⟨v,r,rfl,h1,h2⟩:=iv;rw[Im.pls,ZV] at k;unfold fg at e;split at e
  ·rename_i z;cases e;exact⟨v,rfl,by rw[dZ k.1 h1];exact z,fun m u hm=>absurd hm<|Nat.not_lt_zero m⟩
  ·rename_i z;obtain⟨i,e1,rfl⟩:=Z5.mp e;obtain⟨w,g1,g2,g3⟩:=rm k.2 h2 e1;refine⟨w,g1,g2,fun m u hm hu=>?_⟩;cases m with
   | zero=>
    cases hu;rw[dZ k.1 h1];exact Bool.eq_false_iff.mpr z
   | succ m=>exact g3 m u (by lia) hu
section
variable{X:Cx}
theorem Ad(hu:X.A.units+20<cLine):Kw X "list.index" (fun x vs H Q=>∃ (d:Im) (ds:List Im) (y:V) (j:Nat),vs=[y]/\DK H d y/\FG H (.lst ds) x/\Im.pl 8 d=true/\Im.pls 8 ds=true/\fg ds d=some j/\j<100000/\Q (.int j) H):=by
 intro pins s σ H x vs v us Q I rx rv h;obtain⟨d,ds,y,j,rfl,hy,r2,k1,k2,e,hj,q⟩:=h;obtain⟨u,rfl,ru⟩:=rv.one;obtain⟨_,a,xs,rfl,h1,h2,_⟩:=r2;cases rx;obtain⟨z,f_,n,rr,e1⟩:=I.m_ a _ h1;have iv:=h2.FB I.m_ rr;obtain⟨w,g1,g2,g3⟩:=rm k2 iv e;obtain⟨hl,hw⟩:=Zz.mp g1;refine Xf F.slot_list_index ⟨_,e1,rfl⟩ F.entry_list_index (F.args_list_index_2 _ _) (SeqAt.list_indexAt a f_.toArray n _ _ u (dq s.heap d) j (by simpa using hl) (by lia) (by simpa [hw] using g2) (fun m hm RH=>g3 m _ RH (by simp))) ⟨e1,fun w hw=>?_,?_⟩
 ·obtain⟨z,z1,z2⟩:=fR k2 iv (by simpa using hw);rw[dZ z1 z2];exact cJ 8 z1 k1 (by show X.A.units+1+8+1<cLine;lia) z2 (hy.FB I.m_ ru)
 ·exact⟨.int j,H,I.kept (t':=s.toks+1) fun b o e=>e,⟨_,rfl⟩,q⟩
@[simp] def mO:Op2:=fun a b=>match a,b with
 | .lst ds,.im d=>if (Im.pl 8 d && Im.pls 8 ds)=true/\ds.length<=100000 then (fg ds d).map fun (j:Nat)=>Vl.im (.int (j:Int)) else none
 | _,_=>none
theorem rn:∀ {ds:List Im}{d:Im}{j:Nat},fg ds d=some j->j<ds.length
 | [],d,j,e=>by cases e
 | x::ds,d,j,e=>by
  unfold fg at e;split at e
  ·cases e;exact Nat.succ_pos _
  ·obtain⟨i,e1,rfl⟩:=Z5.mp e;exact Nat.succ_lt_succ (rn e1)
theorem Ae{a b d:Vl}(h:mO a b=some d):∃ ds dd j,a=.lst ds/\b=.im dd/\Im.pl 8 dd=true/\Im.pls 8 ds=true/\fg ds dd=some j/\j<100000/\d=.im (.int (j:Nat)):=by
 unfold mO at h;split at h
 ·rename_i ds dd;split at h
  ·rename_i hp;obtain⟨j,e1,e2⟩:=Z5.mp h;rw[ZV] at hp;exact⟨ds,dd,j,rfl,rfl,hp.1.1,hp.1.2,e1,Zy (rn e1) hp.2,e2.symm⟩
  ·cases h
 ·cases h
@[simp] def rp:Vl->Bool
 | .lst _=>true
 | _=>false
@[simp] def mP(go ga:M Opd):M Vl:=fun D=>(go D).bind fun p=>(rsl p.2 p.1).bind fun l=>if rp l=true then (ga p.2).bind fun q=>(rsl q.2 p.1).bind fun d1=>(rsl q.2 q.1).bind fun d2=>(mO d1 d2).map fun d=>(d,q.2) else none
theorem Af{o e:Expr}{go ga:M Opd}{apos x_:Pos}(hu:X.A.units+20<cLine)(ho:VO X o go)(ha:VO X e ga)(Ei:attributeBase o "index" X.env (eval o X.env)=eval o X.env:=by rfl)(GB:((backTo x_<|starEach [e] X.env).all (fun x=>!x.1) && (backToKw x_<|keywordEach [] X.env).all (fun x=>x.1.isSome)
   && decide ([e].length+([]:List Keyword).length+(if ([]:List Keyword).isEmpty then 0 else 1)<30))=true:=by rfl)(Ej:(apos.endLine == x_.line)=true:=by rfl)(hs:starEach [e] X.env=(false,eval e X.env)::starEach [] X.env:=by rfl)(Ez:(backTo x_<|starEach [] X.env).any (·.1)=false:=by rfl):
  VE X (.Call (.Attribute o "index" apos) [e] [] x_) (mP go ga):=by
 refine aT (lu F.plainAttrs_list F.slot_list_index F.type_list_index (Ad hu) ho (ah ha dB hs) Ei GB Ej hs Ez) fun σ H Q ⟨D,F,r,D',st,nd,hg,q⟩=>?_;unfold mP at hg;obtain⟨⟨x,D1⟩,ha,hg⟩:=Z8.mp hg;obtain⟨l,hl,hg⟩:=Z8.mp hg;split at hg
 ·rename_i il;obtain⟨⟨y,D2⟩,hb,hg⟩:=Z8.mp hg;obtain⟨d1,h1,hg⟩:=Z8.mp hg;obtain⟨d2,h2,hg⟩:=Z8.mp hg;obtain⟨d,h3,hg⟩:=Z5.mp hg;cases hg;refine⟨D,F,x,D1,st,nd,ha,fun v H1 F1 R1 u_ o1 s1=>⟨?_,D1,F1,[y],_,u_,(ZP.mp s1.nd).1,by unfold aa;rw[hb];rfl,fun vs H2 F2 R2 q_ o2 s2=>?_⟩⟩
  ·have rd:=o1.read u_ hl;obtain⟨R,ow⟩:=rd;refine fQ H1 l v R ow ?_;cases l<;>first | rfl | cases il
  ·obtain⟨u,r',S1,S2,rfl,o2,⟨rfl,rfl⟩,rfl⟩:=o2;have On:=o1.mono s2.tup fun a ha o e=>s2.keep a o e fun h=>(ZP.mp s1.nd).2.2 a h a ha rfl;have r1:=On.read q_ h1;have r2:=o2.read q_ h2;obtain⟨ds,dd,j,rfl,rfl,p1,p2,e1,e2,rfl⟩:=Ae h3;refine⟨dd,ds,u,j,rfl,r2.i,r1,p1,p2,e1,e2,?_⟩;refine q (.int j) H2 F2 [] q_ ⟨rfl,rfl⟩ ?_;have s3:=s1.trans s2 o1.chg;exact s3.less (C:=S1++R1) (by simp)
 ·cases hg
end
section
variable{X:Cx}{kt:List (Addr×List Im)}{kd:List (Addr×List (List Im×Addr))}
end
variable{K:PySem.W.Frag}{P:Program}{w:World}
end L2
namespace L2
open PySem PySem.Spec PyProof.Rows PySem.W
def RI(D:SD)(i:Nat)(ds:List Im):Bool:=match D[i]? with
 | some (some<|.lst y)=>decide (y=ds)
 | _=>false
section
variable{X:Cx}
end
def uzV:Vl->Vl
 | .im (.fl x)=>.fz x
 | d=>d
@[simp] theorem Dh(x:List Im):uzV (.im<|.fl x)=.fz x:=rfl
@[simp] theorem Di(x:List Im):uzV (.im<|.tup x)=.im (.tup x):=rfl
section
variable{X:Cx}
end
def GI(ds:List Im)(d:Im):Nat:=ds.countP fun x=>aB x d
theorem rq{h:Heap}{d:Im}:∀ {ds:List Im}{vs:List Value},Im.pls 8 ds=true->aO h ds vs->vs.countP (dq h d)=GI ds d
 | [],vs,_,iv=>by cases (show vs=[] from iv);rfl
 | x::ds,vs,k,iv=>by
  obtain⟨v,r,rfl,h1,h2⟩:=iv;rw[Im.pls,ZV] at k;unfold GI;rw[W7,W7,dZ k.1 h1,rq k.2 h2];rfl
section
variable{X:Cx}
theorem Ag(hu:X.A.units+20<cLine):Kw X "list.count" (fun x vs H Q=>∃ (d:Im) (ds:List Im) (y:V),vs=[y]/\DK H d y/\FG H (.lst ds) x/\Im.pl 8 d=true/\Im.pls 8 ds=true/\Q (.int<|GI ds d) H):=by
 intro pins s σ H x vs v us Q I rx rv h;obtain⟨d,ds,y,rfl,hy,r2,k1,k2,q⟩:=h;obtain⟨u,rfl,ru⟩:=rv.one;obtain⟨_,a,xs,rfl,h1,h2,_⟩:=r2;cases rx;obtain⟨z,f_,n,rr,e1⟩:=I.m_ a _ h1;have iv:=h2.FB I.m_ rr;refine Xf F.slot_list_count ⟨_,e1,rfl⟩ F.entry_list_count (F.args_list_count_2 _ _) (SeqAt.list_countAt a f_.toArray n _ _ u<|dq s.heap d) ⟨e1,fun w hw=>?_,?_⟩
 ·obtain⟨z,z1,z2⟩:=fR k2 iv (by simpa using hw);rw[dZ z1 z2];exact cJ 8 z1 k1 (by show X.A.units+1+8+1<cLine;lia) z2 (hy.FB I.m_ ru)
 ·refine⟨.int<|GI ds d,H,I.kept (t':=s.toks+1) fun b o e=>e,⟨_,by rw[<- rq k2 iv]⟩,q⟩
@[simp] def mQ:Op2:=fun a b=>match a,b with
 | .lst ds,.im d=>if (Im.pl 8 d && Im.pls 8 ds)=true then some (.im<|.int (GI ds d:Nat)) else none
 | _,_=>none
theorem Ah{a b d:Vl}(h:mQ a b=some d):∃ ds dd,a=.lst ds/\b=.im dd/\Im.pl 8 dd=true/\Im.pls 8 ds=true/\d=.im (.int (GI ds dd:Nat)):=by
 unfold mQ at h;split at h
 ·rename_i ds dd;split at h
  ·rename_i hp;cases h;rw[ZV] at hp;exact⟨ds,dd,rfl,rfl,hp.1,hp.2,rfl⟩
  ·cases h
 ·cases h
@[simp] def mR(go ga:M Opd):M Vl:=fun D=>(go D).bind fun p=>(rsl p.2 p.1).bind fun l=>if rp l=true then (ga p.2).bind fun q=>(rsl q.2 p.1).bind fun d1=>(rsl q.2 q.1).bind fun d2=>(mQ d1 d2).map fun d=>(d,q.2) else none
theorem Ai{o e:Expr}{go ga:M Opd}{apos x_:Pos}(hu:X.A.units+20<cLine)(ho:VO X o go)(ha:VO X e ga)(Ei:attributeBase o "count" X.env (eval o X.env)=eval o X.env:=by rfl)(GB:((backTo x_<|starEach [e] X.env).all (fun x=>!x.1) && (backToKw x_<|keywordEach [] X.env).all (fun x=>x.1.isSome)
   && decide ([e].length+([]:List Keyword).length+(if ([]:List Keyword).isEmpty then 0 else 1)<30))=true:=by rfl)(Ej:(apos.endLine == x_.line)=true:=by rfl)(hs:starEach [e] X.env=(false,eval e X.env)::starEach [] X.env:=by rfl)(Ez:(backTo x_<|starEach [] X.env).any (·.1)=false:=by rfl):
  VE X (.Call (.Attribute o "count" apos) [e] [] x_) (mR go ga):=by
 refine aT (lu F.plainAttrs_list F.slot_list_count F.type_list_count (Ag hu) ho (ah ha dB hs) Ei GB Ej hs Ez) fun σ H Q ⟨D,F,r,D',st,nd,hg,q⟩=>?_;unfold mR at hg;obtain⟨⟨x,D1⟩,ha,hg⟩:=Z8.mp hg;obtain⟨l,hl,hg⟩:=Z8.mp hg;split at hg
 ·rename_i il;obtain⟨⟨y,D2⟩,hb,hg⟩:=Z8.mp hg;obtain⟨d1,h1,hg⟩:=Z8.mp hg;obtain⟨d2,h2,hg⟩:=Z8.mp hg;obtain⟨d,h3,hg⟩:=Z5.mp hg;cases hg;refine⟨D,F,x,D1,st,nd,ha,fun v H1 F1 R1 u_ o1 s1=>⟨?_,D1,F1,[y],_,u_,(ZP.mp s1.nd).1,by unfold aa;rw[hb];rfl,fun vs H2 F2 R2 q_ o2 s2=>?_⟩⟩
  ·have rd:=o1.read u_ hl;obtain⟨R,ow⟩:=rd;refine fQ H1 l v R ow ?_;cases l<;>first | rfl | cases il
  ·obtain⟨u,r',S1,S2,rfl,o2,⟨rfl,rfl⟩,rfl⟩:=o2;have On:=o1.mono s2.tup fun a ha o e=>s2.keep a o e fun h=>(ZP.mp s1.nd).2.2 a h a ha rfl;have r1:=On.read q_ h1;have r2:=o2.read q_ h2;obtain⟨ds,dd,rfl,rfl,p1,p2,rfl⟩:=Ah h3;refine⟨dd,ds,u,rfl,r2.i,r1,p1,p2,?_⟩;refine q (.int (GI ds dd:Nat)) H2 F2 [] q_ ⟨rfl,rfl⟩ ?_;have s3:=s1.trans s2 o1.chg;exact s3.less (C:=S1++R1) (by simp)
 ·cases hg
end
end L2
namespace G
open PySem L2
noncomputable def rz:MS:=(aj (ao 2<|eC<|.int 0)<|aj (sIf (kB<|ad vLt (oSl 1)<|oV<|ay vLen<|aa (oSl 0) aNil) (ao 2<|ad vIx (oSl 0)<|oSl 1) sNil)<|aj (ao 3<|ad vMul (oV<|ad vMul (oV<|ad vPow (oV<|eC<|.int 10)<|oV<|eC<|.int 60)<|oV<|ad vPow (oV<|eC<|.int 10)<|oV<|eC<|.int 60)<|oV<|ad vPow (oV<|eC<|.int 10)<|oV<|eC<|.int 60)<|aj (ao 4<|ad vMul (oV<|ad vMod (oSl 2)<|oSl 3)<|oV<|ay vInt<|aa (oV<|ad vGe (oSl 2)<|oV<|ad vPow (oV<|eC<|.int 10)<|oV<|eC<|.int 18) aNil)<|aI<|a9<|aa (oSl 4)<|aa (oV<|ad vAdd (oV<|ad vAdd (oV<|ad vMod (oSl 2)<|oV<|eC<|.int 2305843009213693951)<|oV<|ad vMul (oV<|eC<|.int 7919)<|oSl 1)<|oV<|eC<|.int 3)<|aa (oV<|eC<|.int 0) aNil)
noncomputable def gR:Fn:=aM 2 5 [0,1] rz
noncomputable def rA:MS:=(aj (sIf (kB<|ad vGt (oV<|ad vIx (oSl 0)<|oV<|eC<|.int 0)<|oV<|eC<|.int 0) (aj (ao 2<|ad vMod (oV<|ad vIx (oSl 0)<|oV<|eC<|.int 0)<|oSl 1)<|aj (b7 (ad vDiv (oV<|ad vIx (oSl 0)<|oV<|eC<|.int 0)<|oSl 1)<|gIx 0 (eC<|.int 0) putV)<|aI<|bu 2) sNil)<|aj (b7 (ad vAdd (oV<|ad vIx (oSl 0)<|oV<|eC<|.int 2)<|oV<|eC<|.int 1)<|gIx 0 (eC<|.int 2) putV)<|aj (ao 3<|ad vIx (oSl 0)<|oV<|eC<|.int 2)<|aj (ao 4<|ad vMod (oV<|ad vMul (oV<|ad vIx (oSl 0)<|oV<|eC<|.int 1)<|oV<|ad vAdd (oV<|ad vAdd (oV<|eC<|.int 48271)<|oV<|ad vMul (oV<|ad vMul (oV<|eC<|.int 2)<|oSl 3)<|oSl 3)<|oV<|ad vMul (oV<|eC<|.int 65537)<|oSl 3)<|oV<|eC<|.int 2305843009213693921)<|aj (ao 5<|ad vAdd (oV<|ad vAdd (oV<|ad vMod (oSl 4)<|oV<|eC<|.int 1000003)<|oV<|ad vMul (oSl 3)<|oV<|eC<|.int 99991)<|oV<|eC<|.int 11)<|aj (ao 4<|ad vMod (oV<|ad vMul (oSl 4)<|oSl 5)<|oV<|eC<|.int 2305843009213693907)<|aI<|ad vMod (oV<|ad vAdd (oV<|ad vDiv (oSl 4)<|oV<|eC<|.int 97)<|oV<|ad vDiv (oSl 4)<|oV<|eC<|.int 1000033)<|oSl 1)
noncomputable def bJ:Fn:=aM 2 6 [0,1] rA
noncomputable def mS:MS:=(aI<|ad vIx (oSl 1)<|oV<|am 2 G.bJ<|aa (oSl 0)<|aa (oV<|ay vLen<|aa (oSl 1) aNil) aNil)
noncomputable def bU:Fn:=aM 2 2 [0,1] mS
noncomputable def km(rec:Fn):M Vl:=(am 2 rec<|aa (oSl 0)<|aa (oSl 1) aNil)
noncomputable def kn(rec:Fn):MS:=(aj (sIf (bS<|oV<|eV "tuple"<|oSl 1) (aj (sIf (kOr (cS<|bS<|oV<|eV "tuple"<|oSl 0)<|kB<|ad vNe (oV<|ay vLen<|aa (oSl 0) aNil)<|oV<|ay vLen<|aa (oSl 1) aNil) (aI<|eC<|.bl false) sNil)<|aI<|ay vAll<|aa (oV<|aV 2 [] (iZ<|aa (oSl 0)<|aa (oSl 1) aNil) (gT 2<|cE (gN 0)<|cE (gN 1) gNil') kYes<|G.km rec) aNil) sNil)<|aj (sIf (kB<|ad (oIs false) (oSl 1)<|oV<|eC .i_) (aI<|ad (oIs false) (oSl 0)<|oV<|eC .i_) sNil)<|aj (sIf (bS<|oV<|eV "str"<|oSl 1) (aI<|eB<|cD (kB<|eV "str"<|oSl 0)<|kB<|ad vEq (oSl 0)<|oSl 1) sNil)<|aI<|eB<|cD (kB<|eV "int"<|oSl 0)<|cD (kB<|eB<|cS<|kB<|eV "bool"<|oSl 0)<|kB<|ad vEq (oSl 0)<|oSl 1)
noncomputable def cv:Nat->Fn
 | 0=>fun _=>none
 | k+1=>aM 2 2 [0,1] (kn<|cv k)
noncomputable def ko:MS:=(aj (ao 10<|a9<|aa (oV<|ad vEq (oV<|am 2 G.bJ<|aa (oSl 0)<|aa (oV<|eC<|.int 2) aNil)<|oV<|eC<|.int 0)<|aa (oV<|ad vGt (oV<|am 2 G.bJ<|aa (oSl 0)<|aa (oV<|eC<|.int 6) aNil)<|oV<|eC<|.int 0)<|aa (oV<|eC<|.bl true) aNil)<|aj (dj<|cu eg 10 mAppend<|aa (oV<|eB<|kOr (kB<|ad vEq (oV<|ad vMod (oSl 8)<|oV<|eC<|.int 2)<|oV<|eC<|.int 0)<|kB<|ad vEq (oSl 9)<|oV<|ad vMod (oV<|ad vDiv (oSl 8)<|oV<|eC<|.int 2)<|oSl 3) aNil)<|aj (ao 10<|ad vAdd (oSl 10)<|oV<|a9<|aa (oV<|eB<|kOr (kB<|ad vIn (oSl 8)<|oV<|aA<|aa (oV<|eC<|.int 0)<|aa (oV<|ad vSub (oSl 2)<|oV<|eC<|.int 1) aNil)<|kB<|ad vIn (oSl 9)<|oV<|aA<|aa (oV<|eC<|.int 0)<|aa (oV<|ad vSub (oSl 3)<|oV<|eC<|.int 1) aNil)<|aa (oV<|eC<|.bl false) aNil)<|sIf (bS<|oV<|ad vIx (oSl 10)<|oSl 6) (b7 (eC<|.bl true)<|gIx 7 (aA<|aa (oV<|ad vAdd (oSl 8)<|oSl 4)<|aa (oV<|ad vAdd (oSl 9)<|oSl 5) aNil) putA) sNil)
noncomputable def kq:MS:=(bC (iR1<|aa (oSl 3) aNil) (gN 9) G.ko)
noncomputable def iN:MS:=(aj (b7 (eC<|.bl true)<|gIx 7 (aA<|aa (oV<|ad vAdd (oSl 8)<|oSl 4)<|aa (oV<|ad vAdd (oSl 9)<|oSl 5) aNil) putA)<|aj (b7 (am 2 G.bU<|aa (oSl 0)<|aa (oV<|a9<|aa (oV<|aA<|aa (oV<|eC<|.int 1)<|aa (oV<|eC<|.int 0) aNil)<|aa (oV<|aA<|aa (oV<|eC<|.int 0)<|aa (oV<|eC<|.int 1) aNil)<|aa (oV<|aA<|aa (oV<|eC<|.int 0)<|aa (oV<|eC<|.int 1) aNil)<|aa (oV<|aA<|aa (oV<|lZ<|eC<|.int 1)<|aa (oV<|eC<|.int 0) aNil)<|aa (oV<|aA<|aa (oV<|eC<|.int 0)<|aa (oV<|lZ<|eC<|.int 1) aNil)<|aa (oV<|aA<|aa (oV<|eC<|.int 1)<|aa (oV<|eC<|.int 0) aNil) aNil) aNil)<|gT 2<|cE (gN 12)<|cE (gN 13) gNil')<|aj (ao 8<|ay vMin2<|aa (oV<|ad vSub (oSl 2)<|oV<|eC<|.int 1)<|aa (oV<|ay vMax2<|aa (oV<|eC<|.int 0)<|aa (oV<|ad vAdd (oSl 8)<|oSl 12) aNil) aNil)<|ao 9<|ay vMin2<|aa (oV<|ad vSub (oSl 3)<|oV<|eC<|.int 1)<|aa (oV<|ay vMax2<|aa (oV<|eC<|.int 0)<|aa (oV<|ad vAdd (oSl 9)<|oSl 13) aNil) aNil)
noncomputable def rB:MS:=(aj (ao 1<|eC<|.int 8)<|aj (sIf (kB<|ad vEq (oV<|am 2 G.bJ<|aa (oSl 0)<|aa (oV<|eC<|.int 8) aNil)<|oV<|eC<|.int 0) (ao 1<|eC<|.int 12) sNil)<|aj (ef 2 3<|aa (oV<|ad vAdd (oV<|eC<|.int 1)<|oV<|am 2 G.bJ<|aa (oSl 0)<|aa (oSl 1) aNil)<|aa (oV<|ad vAdd (oV<|eC<|.int 1)<|oV<|am 2 G.bJ<|aa (oSl 0)<|aa (oSl 1) aNil) aNil)<|aj (ef 4 5<|aa (oV<|am 2 G.bU<|aa (oSl 0)<|aa (oV<|a9<|aa (oV<|eC<|.int 0)<|aa (oV<|eC<|.int 0)<|aa (oV<|eC<|.int 1)<|aa (oV<|ad vSub (oV<|eC<|.int 31)<|oSl 2) aNil) aNil)<|aa (oV<|am 2 G.bU<|aa (oSl 0)<|aa (oV<|a9<|aa (oV<|eC<|.int 0)<|aa (oV<|eC<|.int 0)<|aa (oV<|eC<|.int 2)<|aa (oV<|ad vSub (oV<|eC<|.int 31)<|oSl 3) aNil) aNil) aNil)<|aj (ao 6<|am 2 G.bJ<|aa (oSl 0)<|aa (oV<|eC<|.int 6) aNil)<|aj (ao 7 eDict0T)<|aj (bC (iR1<|aa (oSl 2) aNil) (gN 8) G.kq)<|aj (b7 (aA<|aa (oV<|eC<|.int 0)<|aa (oV<|eC<|.int 0) aNil)<|gT 2<|cE (gN 8)<|cE (gN 9) gNil')<|aj (bC (iR1<|aa (oV<|ad vMul (oV<|eC<|.int 40)<|oV<|ay vInt<|aa (oV<|ad vEq (oSl 6)<|oV<|eC<|.int 5) aNil) aNil) (gN 11) G.iN)<|aI<|ay vTuple<|aa (oV<|ay DE<|aa (oSl 7) aNil) aNil)
noncomputable def iO:Fn:=aM 1 14 [0] rB
noncomputable def iP:MS:=(b7 (eC<|.bl true)<|gIx 1 (bu 2) putA)
noncomputable def mT:MS:=(aj (ao 1 eDict0T)<|aj (bC (aX<|oSl 0) (gN 2) G.iP)<|aI<|bu 1)
noncomputable def d0:Fn:=aM 1 3 [0] mT
noncomputable def Aj:MS:=(aj (ao 1<|ad vIx (oSl 0)<|oV<|eC<|.int 0)<|aj (ao 2<|ad vIx (oSl 0)<|oV<|eC<|.int 1)<|aI<|a9<|aa (oV<|aA<|aa (oV<|ad vSub (oSl 1)<|oV<|eC<|.int 1)<|aa (oSl 2) aNil)<|aa (oV<|aA<|aa (oSl 1)<|aa (oV<|ad vSub (oSl 2)<|oV<|eC<|.int 1) aNil)<|aa (oV<|aA<|aa (oSl 1)<|aa (oV<|ad vAdd (oSl 2)<|oV<|eC<|.int 1) aNil)<|aa (oV<|aA<|aa (oV<|ad vAdd (oSl 1)<|oV<|eC<|.int 1)<|aa (oSl 2) aNil) aNil)
noncomputable def ku:Fn:=aM 1 3 [0] Aj
noncomputable def Ak:M Vl:=(aA<|aa (oV<|ad vAdd (oV<|ad vIx (oSl 1)<|oV<|eC<|.int 0)<|oV<|ad vDiv (oSl 0)<|oSl 2)<|aa (oV<|ad vAdd (oV<|ad vIx (oSl 1)<|oV<|eC<|.int 1)<|oV<|ad vMod (oSl 0)<|oSl 2) aNil)
noncomputable def rC:MS:=(aI<|aV 1 [0,1] (iR1<|aa (oV<|ad vMul (oSl 1)<|oSl 1) aNil) (gN 0) kYes G.Ak)
noncomputable def fh:Fn:=aM 2 2 [0,1] rC
noncomputable def rE:M Vl:=(ad vIn (oSl 0)<|oSl 1)
noncomputable def rF:M Vl:=(bu 0)
noncomputable def mU:M Bool:=(bS<|oV<|ay vAll<|aa (oV<|aV 1 [2] (aX<|oV<|am 2 G.fh<|aa (oSl 0)<|aa (oSl 1) aNil) (gN 0) kYes G.rE) aNil)
noncomputable def rG:MS:=(aj (ao 2<|am 1 G.d0<|aa (oSl 0) aNil)<|aI<|am 1 G.d0<|aa (oV<|aV 1 [1,2] (aX<|oSl 0) (gN 0) G.mU G.rF) aNil)
noncomputable def fi:Fn:=aM 2 3 [0,1] rG
noncomputable def rH:MS:=(aI<|ad vEq (oV<|ad vAdd (oV<|ay vAbs<|aa (oV<|ad vSub (oV<|ad vIx (oSl 0)<|oV<|eC<|.int 0)<|oV<|ad vIx (oSl 1)<|oV<|eC<|.int 0) aNil)<|oV<|ay vAbs<|aa (oV<|ad vSub (oV<|ad vIx (oSl 0)<|oV<|eC<|.int 1)<|oV<|ad vIx (oSl 1)<|oV<|eC<|.int 1) aNil)<|oV<|eC<|.int 1)
noncomputable def iQ:Fn:=aM 2 2 [0,1] rH
noncomputable def rJ:M Vl:=(bu 0)
noncomputable def rK:M Bool:=(kB<|ad vNe (oSl 0)<|oSl 1)
noncomputable def mV:M Vl:=(am 2 G.iQ<|aa (oSl 1)<|aa (oSl 0) aNil)
noncomputable def iR:MS:=(sIf (bS<|oV<|ay vAny<|aa (oV<|aV 1 [6] (aX<|oSl 3) (gN 0) kYes G.mV) aNil) (dj<|cu eg 5 mAppend<|aa (oSl 6) aNil) sNil)
noncomputable def rL:M Vl:=(bu 0)
noncomputable def rM:M Bool:=(kB<|ad vNotIn (oSl 0)<|oSl 1)
noncomputable def mW:M Bool:=(kB<|ad vNe (oSl 3)<|oV<|a9 aNil)
noncomputable def kz:MS:=(aj (ao 5<|a9 aNil)<|aj (bC (aX<|oSl 4) (gN 6) G.iR)<|aj (ao 2<|ad vAdd (oSl 2)<|oSl 5)<|aj (ao 4<|aV 1 [5] (aX<|oSl 4) (gN 0) G.rM G.rL)<|ao 3<|bu 5)
noncomputable def rN:MS:=(aj (ef 2 3<|aa (oV<|a9<|aa (oSl 1) aNil)<|aa (oV<|a9<|aa (oSl 1) aNil) aNil)<|aj (ao 4<|aV 1 [1] (aX<|oSl 0) (gN 0) G.rK G.rJ)<|aj (dP G.mW G.kz 1000000)<|aI<|ay vTuple<|aa (oV<|ay DE<|aa (oSl 2) aNil) aNil)
noncomputable def fW:Fn:=aM 2 7 [0,1] rN
noncomputable def rO:M Vl:=(aA<|aa (oV<|ad vAdd (oV<|ad vIx (oSl 1)<|oV<|eC<|.int 0)<|oSl 2)<|aa (oV<|ad vAdd (oV<|ad vIx (oSl 1)<|oV<|eC<|.int 1)<|oSl 0) aNil)
noncomputable def mX:MS:=(dj<|cu eg 2 mExtend<|aa (oV<|aV 1 [0,3] (iR1<|aa (oSl 1) aNil) (gN 0) kYes G.rO) aNil)
noncomputable def rP:MS:=(aj (ao 2<|a9 aNil)<|aj (bC (iR1<|aa (oSl 1) aNil) (gN 3) G.mX)<|aI<|bu 2)
noncomputable def en:Fn:=aM 2 4 [0,1] rP
noncomputable def rQ:M Vl:=(ad vIn (oSl 0)<|oSl 1)
noncomputable def rR:MS:=(aI<|ay vAll<|aa (oV<|aV 1 [0] (aX<|oV<|am 2 G.en<|aa (oSl 2)<|aa (oSl 1) aNil) (gN 0) kYes G.rQ) aNil)
noncomputable def iS:Fn:=aM 3 3 [0,1,2] rR
noncomputable def rS:M Vl:=(aA<|aa (oSl 0)<|aa (oV<|eC<|.bl true) aNil)
noncomputable def rT:M Vl:=(bu 0)
noncomputable def rV:M Bool:=(bS<|oV<|am 3 G.iS<|aa (oSl 1)<|aa (oSl 2)<|aa (oSl 0) aNil)
noncomputable def rW:MS:=(aj (ao 2<|ay vDict<|aa (oV<|aV 1 [] (aX<|oSl 0) (gN 0) kYes G.rS) aNil)<|aI<|ay vTuple<|aa (oV<|aV 1 [2,1] (aX<|oSl 0) (gN 0) G.rV G.rT) aNil)
noncomputable def fj:Fn:=aM 2 3 [0,1] rW
noncomputable def rX:MS:=(aj (ao 2<|am 2 G.bU<|aa (oSl 0)<|aa (oV<|a9<|aa (oV<|eC<|.int 1)<|aa (oV<|eC<|.int 2)<|aa (oV<|eC<|.int 1)<|aa (oV<|eC<|.int 2)<|aa (oV<|eC<|.int 3)<|aa (oV<|eC<|.int 4)<|aa (oV<|eC<|.int 5)<|aa (oV<|eC<|.int 6) aNil) aNil)<|aj (ao 3<|am 2 G.fj<|aa (oSl 1)<|aa (oSl 2) aNil)<|aj (sIf (kB<|ad vEq (oSl 3)<|oV<|aA aNil) (aI<|aA<|aa (oSl 2)<|aa (oV<|am 2 G.bU<|aa (oSl 0)<|aa (oV<|ad vAdd (oV<|ay vList<|aa (oSl 1) aNil)<|oV<|a9<|aa (oV<|aA<|aa (oV<|eC<|.int 0)<|aa (oV<|eC<|.int 0) aNil)<|aa (oV<|aA<|aa (oV<|eC<|.int 30)<|aa (oV<|eC<|.int 30) aNil)<|aa (oV<|aA<|aa (oV<|eC<|.int 15)<|aa (oV<|eC<|.int 2) aNil) aNil) aNil) aNil) sNil)<|aI<|aA<|aa (oSl 2)<|aa (oV<|am 2 G.bU<|aa (oSl 0)<|aa (oSl 3) aNil) aNil)
noncomputable def iT:Fn:=aM 2 4 [0,1] rX
noncomputable def iU:MS:=(sIf (cD (kB<|ad vIn (oSl 4)<|oSl 0)<|kB<|ad vNotIn (oSl 4)<|oSl 2) (aj (b7 (eC<|.bl true)<|gIx 2 (bu 4) putA)<|dj<|cu eg 3 mAppend<|aa (oSl 4) aNil) sNil)
noncomputable def rY:M Bool:=(bS<|oSl 3)
noncomputable def kA:MS:=(bC (aX<|oV<|am 1 G.ku<|aa (oV<|cu eg 3 mPop aNil) aNil) (gN 4) G.iU)
noncomputable def rZ:MS:=(aj (ao 2<|rj (bu 1)<|eC<|.bl true)<|aj (ao 3<|a9<|aa (oSl 1) aNil)<|aj (dP G.rY G.kA 1000000)<|aI<|ay vTuple<|aa (oV<|ay DE<|aa (oSl 2) aNil) aNil)
noncomputable def gS:Fn:=aM 2 5 [0,1] rZ
noncomputable def iV:MS:=(aj (ao 3<|am 2 G.fi<|aa (oSl 0)<|aa (oSl 1) aNil)<|aj (sIf (kB<|ad vNotIn (oSl 2)<|oSl 3) HN sNil)<|aI<|am 2 G.gS<|aa (oSl 3)<|aa (oSl 2) aNil)
noncomputable def de:Fn:=aM 3 4 [0,1,2] iV
noncomputable def fX:RS:=(kb (ao 3<|am 2 G.fi<|aa (oSl 0)<|aa (oSl 1) aNil)<|M6 (kB<|ad vNotIn (oSl 2)<|oSl 3) some)
noncomputable def r6(e:Addr):MS:=(aj (ao 1<|a9<|aa (oV<|dm e false<|oSl 0)<|aa (oV<|dm e true<|oSl 0)<|aa (oV<|dm e false<|oSl 0) aNil)<|aj (ao 1<|ad vAdd (oSl 1)<|oV<|a9<|aa (oV<|dm e false<|oSl 0) aNil)<|aj (ao 1<|ad vAdd (oSl 1)<|oV<|a9<|aa (oV<|dm e false<|oSl 0)<|aa (oV<|dm e false<|oSl 0)<|aa (oV<|dm e false<|oSl 0) aNil)<|aj (ao 1<|ad vAdd (oSl 1)<|oV<|a9<|aa (oV<|dm e false<|oSl 0) aNil)<|aj (ao 2<|a9<|aa (oV<|eC<|.str "NoText")<|aa (oV<|eC<|.str "NoFit")<|aa (oV<|eC<|.str "TooMany")<|aa (oV<|eC<|.str "Near")<|aa (oV<|eC<|.str "NoBlocks")<|aa (oV<|eC<|.str "NoBlock")<|aa (oV<|eC<|.str "Here")<|aa (oV<|eC<|.str "NoField") aNil)<|aj (sIf (kOr (kB<|ad vNe (oV<|mR (oSl 1)<|oV<|eC<|.bl true)<|oV<|eC<|.int 1)<|cS<|bS<|oV<|iG e<|oSl 0) (aI<|eC<|.str "?") sNil)<|aI<|ad vIx (oSl 2)<|oV<|mP (oSl 1)<|oV<|eC<|.bl true)
noncomputable def iW(e:Addr):Fn:=aM 1 3 [0] (r6 e)
end G
namespace L2
open PySem PySem.Spec PyProof.Rows
section
variable{M:Model}{A:Around}{EE:Value->Shared->Prop}{s:Shared}{P:Program}{w:World}{H:Hp}{base:Heap}{env:Env}{outer:List Env}{L e T:Addr}
theorem Al{oe oT:Obj}{vs ts:Array Value}{a0:Value}{Q:Unit->Shared->Prop}(Od:A.frames=some (env::outer))(hl:s.heap.FunFrames base (env::outer))(hf:env.frame=some L)(t1:s.heap.get? e=some oe)(t2:vs[0]?=some a0)(t3:oe.data=.fields vs)(t4:vs[1]?=some (.ref T))(t6:T≠e)(t7:s.heap.get? T=some oT)(t8:oT.data=.fields ts)(t9:ts[3]?=some .none)(hE:H e=none)(tH:H T=none)(hF:∀ b∈DL (env::outer),H b=none)(m_:DV P w H s.heap)(h:∀ h',Un (DL (env::outer)) [e,T] H H s.heap h'->DV P w H h'->(∃ Gu Gj T' Ir Hb,h'.get? e=some Gu/\(Gu.cls=oe.cls/\Gj[0]?=some a0)/\Gu.data=.fields Gj/\Gj[1]?=some (.ref T')/\T'≠e/\h'.get? T'=some Ir/\Ir.data=.fields Hb/\Hb[3]?=some .none/\(T'=T\/s.heap.get? T'=none))->Q () { s with heap:=h' }):wpAny M A (leaving env<|.ref e) Q EE s:=by
 have hS:∀ b∈e::T::DL (env::outer),b∈DL (env::outer)\/b∈[e,T]:=fun b hb=>by
  rcases ZT.mp hb with r | r
  ·rw[r];exact .inr (.head _)
  ·rcases ZT.mp r with r | r
   ·rw[r];exact .inr (.tail _<|.head _)
   ·exact .inl r
 have hH:∀ b∈e::T::DL (env::outer),H b=none:=fun b hb=>by
  rcases ZT.mp hb with r | r
  ·rw[r];exact hE
  ·rcases ZT.mp r with r | r
   ·rw[r];exact tH
   ·exact hF b r
 refine wpAny_leaving_nextW (base:=PySem.W.hideAll s.heap (e::T::DL (env::outer))) Od (jY hl fun b hb=>.tail _<|.tail _ hb) hf ⟨oe,vs,T,oT,ts,t1,⟨rfl,t2⟩,t3,t4,Y0 _<|.tail _<|.head _,t6,t7,t8,t9⟩ (fun b o q=>Yc _ q) (Y0 _<|.head _) fun h' ⟨k1,_,k3,k4⟩=>?_;obtain⟨Gu,Gj,T',Ir,Hb,q1,q2,q3,q4,q5,q6,q7,q8,q9⟩:=k3;obtain⟨u,ho⟩:=jZ (P:=P) (w:=w) (xs:=[e,T]) hl hH hS m_ k1 k4;refine h h' u ho ⟨Gu,Gj,T',Ir,Hb,q1,q2,q3,q4,q6,q7,q8,q9,?_⟩;by_cases z:T'=T
 ·exact .inl z
 ·refine .inr ?_;cases q:s.heap.get? T' with
  | none=>rfl
  | some o=>
   by_cases hm:T'∈e::T::DL (env::outer)
   ·rcases ZT.mp hm with r | r
    ·exact absurd r q6
    ·rcases ZT.mp r with r | r
     ·exact absurd r z
     ·obtain⟨_,o',Gz,E6⟩:=hl.mem r;obtain⟨sl,e1⟩:=k4 T' o' Gz E6;rw[q7] at e1;cases e1;exact absurd q8 (E6 Hb)
   ·rw[Yx _ q hm] at q5;cases q5
end
variable{H0:Hp}
theorem Un.outs{fs xs:List Addr}{H:Hp}{h0 h1 h2:Heap}{L:Addr}(a:Un fs [] H0 H h0 h1)(b:Un (L::fs) xs H H h1 h2)(hL:∀ c o,h0.get? c=some o->c≠L)(nx:∀ c o,h0.get? c=some o->c∉xs):Un fs [] H0 H h0 h2:=by
 have nf:∀ c o,h0.get? c=some o->c∉fs->c∉L::fs:=fun c o q n z=>(ZT.mp z).elim (hL c o q) n;have n0:∀ c:Addr,c∉([]:List Addr):=fun c z=>by cases z
 refine⟨fun c o q n hc _=>b.keep c o (a.keep c o q n hc<|n0 c) (a.free c o q n<|n0 c) (nf c o q hc)<|nx c o q,fun c o q n hc _=>?_,fun c o q n _=>a.free c o q n<|n0 c,fun c o q _=>?_,fun c xs q=>b.Ee c xs<|a.Ee c xs q,fun c o u q=>b.D_ c o u<|a.D_ c o u q,fun c ps q=>?_⟩
 ·obtain⟨sl,e1⟩:=a.slot c o q n hc (n0 c);obtain⟨JF,e2⟩:=b.slot c _ e1 (a.free c o q n<|n0 c) (.tail _ hc) (nx c o q);exact⟨JF,e2⟩
 ·obtain⟨o',e1⟩:=a.there c o q (n0 c);exact b.there c o' e1 (nx c o q)
 ·obtain⟨m1,e1⟩:=a.Et c ps q;obtain⟨m2,e2⟩:=b.Et c _ e1;exact⟨m1++m2,by rw[e2,WI]⟩
theorem Am{P:Program}{w:World}{K:PySem.W.Frag}{mg:Str->Option Value}{base:Heap}{N:List Str}{qual:Str}{scope:Scope}{f:Addr}{cd:Value}{A:Around}{outer:List Env}{s0:Shared}{E:XK}{C:Addr}(σ:St)(H:Hp)(wq:E (.ref C) none H):
  KI (bZ (IR P w) P w K mg base N qual scope f cd A outer s0 H0 E) C σ H:=by
 intro pins s e a0 J x;obtain⟨hE,fE,oe,vs,T,oT,ts,t1,⟨tc,t2⟩,t3,t4,t6,t7,t8,t9,tH,fT⟩:=x;refine Al (base:=base) (P:=P) (w:=w) (H:=H) (L:=s0.heap.objs.size) J.ok.frames J.stack rfl t1 t2 t3 t4 t6 t7 t8 t9 hE tH J.Eo J.m_ fun h2 un ho tr=>?_;obtain⟨Gu,Gj,T',Ir,Hb,q1,⟨qc,q2⟩,q3,q4,q6,q7,q8,q9,qT⟩:=tr;have old:∀ c o,s0.heap.get? c=some o->∃ o',s.heap.get? c=some o':=fun c o q=>J.base.there c o q fun z=>by cases z
 have nT:s0.heap.get? T'=none/\H T'=none:=by
  rcases qT with z | z
  ·rw[z];exact⟨fT.1,tH⟩
  ·refine⟨?_,J.m_.gone z⟩;cases q:s0.heap.get? T' with
   | none=>rfl
   | some o=>
    obtain⟨o',e1⟩:=old T' o q;rw[z] at e1;cases e1
 refine⟨e,C,a0,H,rfl,J.os,J.bare,?_,ho,fE.1,hE,⟨Gu,Gj,T',Ir,Hb,q1,⟨qc.trans tc,q2⟩,q3,q4,nT.1,q6,q7,q8,q9,nT.2⟩,wq⟩;refine Un.outs (L:=s0.heap.objs.size) (xs:=[e,T]) J.base un (fun c o q=>Zx<|ZO q) fun c o q z=>?_;rcases ZT.mp z with r | r
 ·rw[r] at q;exact absurd (fE.1.symm.trans q) (by simp)
 ·rw[ZX.mp r] at q;exact absurd (fT.1.symm.trans q) (by simp)
end L2
namespace L2
open PySem PySem.Spec PyProof.Rows PySem.W
section
variable{K:Type}[DecidableEq K]
def cF(xs more:List (K×Addr×Value)):List (K×Addr×Value):=more.foldl (fun acc x=>storedH acc x.1 x.2.1 x.2.2) xs
theorem An(xs more:List (K×Addr×Value))(i:Nat)(x:K×Addr×Value)(h:more[i]?=some x):cF xs (more.take<|i+1)=storedH (cF xs<|more.take i) x.1 x.2.1 x.2.2:=by
 simp[cF,List.take_add_one,h,List.foldl_append]
theorem Ao(xs:List (K×Addr×Value))(k:K)(a:Addr)(v:Value):(storedH xs k a v).length<=xs.length+1:=by
 unfold storedH;split
 ·rw[Z4];lia
 ·rw[ZH,Y9];exact ZR _
theorem Ap(xs more:List (K×Addr×Value)):(cF xs more).length<=xs.length+more.length:=by
 induction more generalizing xs with
 | nil=>exact ZR _
 | cons kv rest ih=>
  have e1:=ih (storedH xs kv.1 kv.2.1 kv.2.2);have e2:=Ao xs kv.1 kv.2.1 kv.2.2;show (cF (storedH xs kv.1 kv.2.1 kv.2.2) rest).length<=_;rw[ZC];lia
theorem Aq(acc more:List (K×Addr×Value))(hn:((acc++more).map (·.1)).Nodup):cF acc more=acc++more:=by
 induction more generalizing acc with
 | nil=>simp[cF]
 | cons kv rest ih=>
  have IS:atKey acc kv.1=none:=by
   refine Xp fun j p hj=>?_;rw[Y7,ZF,ZP] at hn;exact hn.2.2 kv.1 (Zi.mpr ⟨_,YX hj,rfl⟩) kv.1 Zb rfl
  have:cF acc (kv::rest)=cF (acc++[kv]) rest:=by
   show cF (storedH acc kv.1 kv.2.1 kv.2.2) rest=_;rw[V9 IS]
  rw[this,ih (acc++[kv]) (by simpa using hn)];simp
end
section
variable{prog:Program}{w:World}{K:Type}[DecidableEq K]{knd:HeapKind prog w K}{A:Around}{E:Value->Shared->Prop}{s:Shared}
variable{d:Addr}
theorem Ar{a:Addr}{xs:List (K×Addr×Value)}{k:K}{v:Value}{Q:Unit->Shared->Prop}(hu:knd.room A)(IT:knd.is s.heap k a)(hm:s.heap.DictOfH knd d xs)(hQ:∀ h',h'.DictOfH knd d (storedH xs k a v)->Heap.SameBut d s.heap h'->Q () { s with heap:=h' })(hsz:xs.length<=sizeLine):
  wpAny (model prog w) A (dictSetHashed d (.ref a) (knd.hash k) v) Q E s:=by
 obtain⟨o,es,ep,ho,hc,hd,he,LL,hn⟩:=hm;unfold dictSetHashed;try with_reducible refine YM ?_
 refine Z9 (wpAny_dictFind_heap hu IT ho hd he LL hn ?_ ?_)
 ·intro IS;have Oo:k∉xs.map (·.1):=not_mem_keys_of_get IS;refine Z9 (YL (wpAny_updateDictKeys (hz:=by have e:=Wb he;lia) ho hd<|hQ _ ⟨_,_,ep+1,YG _ ho<|WP<|X0 hd _,
   hc.mapDictKeys _,X0 hd _,?_,?_,?_⟩<|Zh ..))
  ·rw[V9 (Xp IS)];simp[he,entryOfKey]
  ·rw[V9 (Xp IS)];intro x hx;rcases ZD.mp hx with hx | hx
   ·exact knd.keeps (LL x hx) ho hd (Zh ..)
   ·simp only[ZX] at hx;subst hx;exact knd.keeps IT ho hd (Zh ..)
  ·rw[V9 (Xp IS)];rw[Y7,ZP];refine⟨hn,by simp,?_⟩;intro x hx y hy;simp only[ZF,List.map_nil,ZX] at hy;subst hy;exact fun e=>Oo (e ▸ hx)
 ·intro j p hj;refine Z9 (YL<|Z9<|wpAny_updateDict ho hd<|wpAny_point<|hQ _ ⟨_,_,ep,YG _ ho<|WP<|Obj.data_mapDict hd _,
   hc.mapDict _,Obj.data_mapDict hd _,?_,?_,?_⟩<|Zh ..)
  ·rw[storedH_old (atKey_of_get hn hj)];have:=modify_map_putAt (entryOfKey knd) (fun e:DictEntry=>{ e with val:=v }) k v (fun _ _=>rfl) hn hj;rw[<- he] at this;obtain⟨l⟩:=es;simpa using this
  ·rw[storedH_old (atKey_of_get hn hj)];intro x hx;obtain⟨y,hy,rfl⟩:=Zi.mp hx;unfold putAt;split<;>exact knd.keeps (LL y hy) ho hd (Zh ..)
  ·rw[storedH_old (atKey_of_get hn hj)];rw[keys_map_putAt];exact hn
theorem As{xs:List (K×Addr×Value)}{es:Array DictEntry}(he:es.toList=xs.map (entryOfKey knd))(hh:(xs.map fun x=>knd.hash x.1).Nodup)(e:DictEntry)(HS:e∈es):¬ (es.filter (·.hash == e.hash)).size > 1:=by
 have e1:(es.filter (·.hash == e.hash)).size=((es.toList.filter (·.hash == e.hash)).map (·.hash)).length:=by
  rw[Z4,<- Array.toList_filter,Zw]
 have e2:(es.toList.map (·.hash))=xs.map fun x=>knd.hash x.1:=by
  rw[he,YV];rfl
 have nd:((es.toList.filter (·.hash == e.hash)).map (·.hash)).Nodup:=List.Nodup.sublist ((List.filter_sublist).map _) (e2 ▸ hh);have al:∀ h∈(es.toList.filter (·.hash == e.hash)).map (·.hash),h=e.hash:=fun h hh=>by
  obtain⟨x,hx,rfl⟩:=Zi.mp hh;exact WG.mp (YW.mp hx).2
 rw[e1];generalize (es.toList.filter (·.hash == e.hash)).map (·.hash)=l at nd al
 match l,nd,al with
 | [],_,_=>simp
 | [_],_,_=>simp
 | x::y::r,nd,al=>
  have h1:=(Zl.mp nd).1;rw[al x (.head _),<- al y (.tail _<|.head _)] at h1;exact absurd (.head _) h1
theorem At{nm : String}{o:Addr}{kvs more : List (K × Addr × Value)}{Q : Unit -> Shared -> Prop}(hu : knd.room A)(PP : d ≠ o)(RJ : (o == sysModules) = false)(hd : s.heap.DictOfH knd d kvs)(ho : s.heap.DictOfH knd o more)(hh : (more.map fun x => knd.hash x.1).Nodup)(G8 : ∀ x ∈ more, ∀ (Q' : Bool -> Shared -> Prop), Q' false s -> wpAny (model prog w) A (Builtin.Dict.quietEq<|.ref x.2.1) Q' E s)(hQ : ∀ h', h'.DictOfH knd d (cF kvs more) -> Heap.SameBut d s.heap h' -> Q () { s with heap := h' })(hsz : kvs.length + more.length <= sizeLine):
    wpAny (model prog w) A (Builtin.Dict.mergeDict nm d o) Q E s := by
  obtain ⟨od, RL, RM, Kg, FO, KJ, RN, RO, Sx⟩ := id hd;obtain ⟨oo, GU, Sy, LO, Sz, Hc, Hk, LP, IS⟩ := id ho;unfold Builtin.Dict.mergeDict;rw [ZW (by simpa using PP)];unfold Builtin.Dict.showsAll;rw [ZW (by rw [RJ]; exact ZK)];refine Z9 (ZU ?_);refine Z9 (YJ LO Hc ?_);have hlen : more.length = GU.size := by rw [Wb Hk]
  have loop : wpAny (model prog w) A (do
      let LQ <- dictEpoch o
      let l <- dictEntries o
      forIn [:l.size] PUnit.unit fun i (_ : PUnit) => (do
          let l' <- dictEntries o
          match l'[i]? with
            | some e => do
              holding [e.key, e.val] (dictSetHashed d e.key e.hash e.val)
              let KP <- dictEpoch o
              if (KP != LQ) = true then do
                  (unsupported (toString nm ++ toString ":source-changed-during-callback") : Sem PUnit)
                  pure (ForInStep.yield PUnit.unit)
                else pure (ForInStep.yield PUnit.unit)
            | _ => do
              (unsupported "internal:dict-merge" : Sem PUnit)
              pure (ForInStep.yield PUnit.unit) : Sem (ForInStep PUnit))
      pure ()) Q E s := by
    refine Z9 (XM LO Hc ?_);refine Z9 (YJ LO Hc ?_);refine Z9 ?_;rw [Std.Legacy.Range.forIn_eq_forIn_range'];simp only [Std.Legacy.Range.size, Nat.sub_zero, Nat.add_sub_cancel, Nat.div_one];refine XZ _
      (fun rest _ s' => ∃ h' i, s' = { s with heap := h' } /\ rest = range' i (GU.size - i) /\ i <= GU.size /\ h'.DictOfH knd d (cF kvs<|more.take i) /\ h'.get? o = some oo /\ Heap.SameBut d s.heap h')
      _ ?_ ?_ _ _ ⟨s.heap, 0, rfl, by simp, Ys _, by simpa [cF] using hd, LO, Heap.SameBut.refl _ _⟩
    · rintro x rest b s' ⟨h', i, rfl, hr, hi, E6, Ki, M'⟩
      have FC : i < GU.size := by
        rcases Wd i GU.size with h | h
        · exact h
        · rw [Nat.sub_eq_zero_of_le h] at hr; simp at hr
      obtain ⟨rfl, HU⟩ : x = i /\ rest = range' (i + 1) (GU.size - (i + 1)) := by
        have e : GU.size - i = (GU.size - (i + 1)) + 1 := by lia
        rw [e, List.range'_succ] at hr;injection hr with h1 h2;exact ⟨h1, h2⟩
      refine Z9 (YJ Ki Hc ?_);obtain ⟨kv, Op⟩ : ∃ kv, more[x]? = some kv := ⟨more[x]'(by rw [hlen]; exact FC), ZL _⟩;rw [entry_at Hk x, Op];show wpAny _ _ (holding [(entryOfKey knd kv).key, (entryOfKey knd kv).val] (dictSetHashed d (.ref kv.2.1) (knd.hash kv.1) kv.2.2) >>= _) _ _ _;have RP : (cF kvs<|more.take x).length <= sizeLine := by
        have e1 := Ap kvs (more.take x);have e2 : (more.take x).length <= more.length := by rw [Zf]; lia
        lia
      have IT : knd.is h' kv.1 kv.2.1 := knd.keeps (LP kv<|YX Op) Kg KJ M';refine Z9 (YM<|Ar (s := { s with heap := h' }) hu IT E6 (fun PQ Oq LR => ?_) RP);have Jt : PQ.get? o = some oo := (LR.2 o<|Yv PP).trans Ki;refine Z9 (XM Jt Hc ?_);rw [ZW (by simp)];exact ZU ⟨PQ, x + 1, rfl, HU, FC, by rw [An kvs more x kv Op]; exact Oq, Jt, M'.trans LR⟩
    · rintro b s' ⟨h', i, rfl, hr, hi, E6, Ki, M'⟩
      have HS : i = GU.size := by
        rcases Wd i GU.size with h | h
        · have e : GU.size - i = (GU.size - (i + 1)) + 1 := by lia
          rw [e, List.range'_succ] at hr; exact nomatch hr
        · exact Nat.le_antisymm hi h
      refine ZU (hQ h' ?_ M');rw [HS, <- hlen, Xd] at E6; exact E6
  dsimp only;split
  · refine Z9 (YJ Kg KJ ?_)
    split
    · rename_i Os
      have Ot : kvs = [] := by
        have h0 : RL = #[] := Array.isEmpty_iff.mp Os;have := Wb RN;rw [h0] at this;exact XH.mp (by simpa using this.symm)
      subst Ot;have Ou : wpAny (model prog w) A (Builtin.Dict.entriesForEmpty nm o) (fun es s' => es = GU /\ s' = s) E s := by
        unfold Builtin.Dict.entriesForEmpty;refine Z9 (YJ LO Hc ?_);refine Z9 ?_;rw [<- WJ];refine XZ _ (fun rest _ s' => s' = s /\ ∀ e ∈ rest, e ∈ GU) _ ?_ ?_ _ _ ⟨rfl, fun e he => Array.mem_toList_iff.mp he⟩
        · rintro e rest b s' ⟨rfl, hr⟩
          have HS := hr e Zb;have hm : e ∈ more.map (entryOfKey knd) := Hk ▸ Array.mem_toList_iff.mpr HS;obtain ⟨x, hx, rfl⟩ := Zi.mp hm;refine Z9 (G8 x hx _ ?_);rw [ZZ (by rfl), ZW<|As Hk hh _ HS];exact ZU ⟨rfl, fun e he => hr e<|Zm _ he⟩
        · rintro b s' ⟨rfl, _⟩
          exact ZU ⟨rfl, rfl⟩
      refine Z9 (Y3 Ou (fun es s' RQ => ?_) fun _ _ e => e);obtain ⟨rfl, rfl⟩ := RQ;rw [Aq [] more (by simpa using IS), WU] at hQ;split
      · have RR : es.size <= sizeLine + 1 := by
          simp only [Yy, V5] at hsz;lia
        refine Z9 (wpAny_updateDictKeysTo Kg KJ (ZU<|hQ _ ⟨_, _, RM + 1, YG _ Kg<|WP<|X0 KJ _, FO.mapDictKeys _,
          X0 KJ _, Hk, fun x hx => knd.keeps (LP x hx) Kg KJ<|Zh .., IS⟩<|Zh ..) RR)
      · rename_i Hu
        have h0 : es = #[] := Array.isEmpty_iff.mp (by simpa using Hu);have IU : more = [] := XH.mp (by rw [hlen, h0]; rfl);subst IU;exact ZU (hQ _ hd<|Heap.SameBut.refl _ _)
    · exact loop
  · exact loop
end
section
variable{X:Cx}
def hI(i:Int):Int:=hashInt i
def IF(c:Int×Int):Int:=reduceHash (Builtin.Tuple.tupleHashOf [hI c.1,hI c.2])
def LS:List Int->Nat->Bool
 | [],_=>true
 | h::t,m=>!m.testBit (h % 6473).toNat && LS t (m ||| (1 <<< (h % 6473).toNat))
theorem se:∀ {l:List Int}{m:Nat},LS l m=true->∀ h∈l,m.testBit (h % 6473).toNat=false
 | x::l,m,ok,h,hh=>by
  rw[LS,ZV,Yl] at ok;rcases ZT.mp hh with rfl | hh
  ·exact ok.1
  ·have:=se ok.2 h hh;rw[Nat.testBit_or,Bool.or_eq_false_iff] at this;exact this.1
theorem sf:∀ {l:List Int}{m:Nat},LS l m=true->l.Nodup
 | [],_,_=>.nil
 | x::l,m,ok=>by
  rw[LS,ZV,Yl] at ok;refine Zl.mpr ⟨fun HS=>?_,sf ok.2⟩;have:=se ok.2 x HS;rw[Nat.testBit_or,Nat.one_shiftLeft,Nat.testBit_two_pow_self,Bool.or_true] at this;cases this
def Kj:List (Int×Int):=(range 31).flatMap fun r=>(range 31).map fun (c:Nat)=>(Int.ofNat r,Int.ofNat c)
theorem Au:(Kj.map IF).Nodup:=sf (m:=0) (by decide +kernel)
variable{c:Int×Int}
theorem si(h:0<=c.1/\c.1<=30/\0<=c.2/\c.2<=30):c∈Kj:=by
 unfold Kj;rw[List.mem_flatMap];refine⟨c.1.toNat,Zp.mpr (by lia),Zi.mpr ⟨c.2.toNat,Zp.mpr (by lia),?_⟩⟩;exact V4 (Int.toNat_of_nonneg h.1) (Int.toNat_of_nonneg h.2.2.1)
theorem Av{d:Int×Int}(hc:0<=c.1/\c.1<=30/\0<=c.2/\c.2<=30)(hd:0<=d.1/\d.1<=30/\0<=d.2/\d.2<=30)(e:IF c=IF d):c=d:=by
 obtain⟨i,hi,ei⟩:=Ym.mp (si hc);obtain⟨j,hj,ej⟩:=Ym.mp (si hd);have:=(Xg (h₀:=by rw[Z4];exact hi) (h₁:=by rw[Z4];exact hj) Au).mp (by rw[Xa,Xa,ei,ej,e]);subst this;rw[<- ei,<- ej]
theorem sj:∀ {ks:List (Int×Int)},ks.Nodup->(∀ c∈ks,0<=c.1/\c.1<=30/\0<=c.2/\c.2<=30)->(ks.map IF).Nodup
 | [],_,_=>.nil
 | c::ks,hn,hb=>by
  obtain⟨h1,h2⟩:=Zl.mp hn;refine Zl.mpr ⟨fun hm=>?_,sj h2 fun d hd=>hb d<|.tail _ hd⟩;obtain⟨d,hd,e⟩:=Zi.mp hm;rw[Av (hb d<|.tail _ hd) (hb c<|.head _) e] at hd;exact h1 hd
def cI(c:Int×Int):List Im:=[.int c.1,.int c.2]
theorem Aw{P:Program}{w:World}(c:Int×Int):(bK P w).hash (cI c)=IF c:=rfl
theorem sk{α β γ:Type}(f:α->γ):∀ (l:List (α×β)),(l.map fun x=>f x.1)=(l.map (·.1)).map f
 | []=>rfl
 | x::l=>by rw[ZF,ZF,ZF,sk f l]
theorem sr{P:Program}{w:World}:∀ (l:List (Int×Int)),(l.map cI).map (bK P w).hash=l.map IF
 | []=>rfl
 | c::l=>by rw[ZF,ZF,ZF,Aw,sr l]
theorem ss{H:Hp}:∀ {more:List (List Im×Addr×Value)}{EL:List (List Im×V)},KT H EL more->∀ {kvs:List (List Im×V)}{xs:List (List Im×Addr×Value)},KT H kvs xs->
  KT H (EL.foldl (fun acc p=>br acc p.1 p.2) kvs) (cF xs more)
 | _,_,.nil,_,_,r=>r
 | _,_,.cons (l₁:=EL) (a:=p) (b:=x) r t,kvs,xs,r0=>by
  obtain⟨k,b,u⟩:=x;obtain⟨k',y⟩:=p;obtain⟨rfl,hb,ry⟩:=r;exact ss t (KT.put r0 k' hb ry)
theorem su:∀ (EL kvs:List (List Im×V)),(EL.foldl (fun acc p=>br acc p.1 p.2) kvs).length<=kvs.length+EL.length
 | [],kvs=>ZR _
 | p::r,kvs=>by
  have h1:=su r (br kvs p.1 p.2);have h2:(br kvs p.1 p.2).length<=kvs.length+1:=by
   unfold br;split
   ·rw[Z4];lia
   ·rw[ZH];exact ZR _
  rw[YH,ZC];lia
theorem Ax(hu:X.A.units+20<cLine):Kw X "dict.update" (fun x vs H Q=>∃ (d o:Addr) (kvs EL:List (List Im×V)) (LU:List (Int×Int)),x=.ref d/\vs=[.ref o]/\d≠o/\H d=some (.dT kvs)/\
  H o=some (.dT EL)/\EL.map (·.1)=LU.map cI/\LU.Nodup/\(∀ c∈LU,0<=c.1/\c.1<=30/\0<=c.2/\c.2<=30)/\kvs.length<=1000/\EL.length<=1000/\Q .i_ (upd H d<|.dT<|EL.foldl (fun acc p=>br acc p.1 p.2) kvs)):=by
 intro pins s σ H x vs v us Q I rx rv h;obtain⟨d,o,kvs,EL,LU,rfl,rfl,Hu,hd,ho,Gr,K8,RT,l1,l2,q⟩:=h;cases rx;obtain⟨u,rfl,ru⟩:=rv.one;cases ru;obtain⟨z,Kh,xs,kt,dd⟩:=jy I.m_ hd;obtain⟨z2,LV,more,M_,HD⟩:=jy I.m_ ho;have hT:s.TypeIs (.ref d) "dict" := by
  obtain⟨o,es,ep,h1,h2,_⟩:=dd;exact⟨o,h1,h2.1⟩
 have Ov:s.TypeIs (.ref o) "dict" := by
  obtain⟨o,es,ep,h1,h2,_⟩:=HD;exact⟨o,h1,h2.1⟩
 have Ow:∀ {kvs:List (List Im×V)}{xs:List (List Im×Addr×Value)},KT H kvs xs->xs.map (·.1)=kvs.map (·.1):=fun {kvs xs} r=>by
  induction r with
  | nil=>rfl
  | cons r _ ih=>rw[ZF,ZF,ih,r.1]
 have lx:xs.length=kvs.length:=by
  have:=congrArg List.length (Ow kt)
  rwa [Z4,Z4] at this
 have lm:more.length=EL.length:=by
  have:=congrArg List.length (Ow M_)
  rwa [Z4,Z4] at this
 have zz:2000<=sizeLine:=by decide
 have Ox:=M_.is;have hh:(more.map fun x=>(bK X.prog X.w).hash x.1).Nodup:=by
  have e:(more.map fun x=>(bK X.prog X.w).hash x.1)=LU.map IF:=by
   rw[sk (bK X.prog X.w).hash more,(Ow M_).trans Gr,sr]
  rw[e];exact sj K8 RT
 have qt:∀ x∈more,s.TypeIs (.ref x.2.1) "tuple" := fun x hx=>by
  obtain⟨_,a,ys,e,h1,h2⟩:=Ox x hx;cases e;obtain⟨_,f_,_,ob,e1,e2,_⟩:=I.m_ x.2.1 _ h1;exact⟨ob,e1,e2⟩
 refine Y2 XT hT PySem.F.entry_dict_update ?_ (PySem.F.args_dict_update_2 _ _);unfold Builtin.«dict.update»;refine Z9 ?_;unfold Builtin.Dict.selfAndRest;refine Z9 (Xm hT ?_);show wpAny _ _ (pure (d,[Value.ref o])) _ _ s;refine ZU ?_;show wpAny _ _ (Builtin.Dict.updateFrom "dict.update" d (.ref o) [] .none) _ _ s;unfold Builtin.Dict.updateFrom;refine Z9 (wpAny_typeOf Ov ?_);rw[ZW (by decide)];refine Z9 ?_;unfold Builtin.Dict.merge;refine Z9 ?_;unfold Builtin.Dict.readDirectly;refine Z9 (Xh Ov isSubtype_dict_dict ?_);simp only[W4,Zc,X6];refine Z9 (XQ Ov PySem.F.slot_dict_iter.lookup<|ZU ?_);simp only[Yr,Wx];refine Z9 (ZU ?_);refine At (gp hu) Hu LV dd HD hh (fun x hx Q' q'=>?_) (fun h' Hl sb=>?_) (by lia)
 ·unfold Builtin.Dict.quietEq;exact Z9 (XQ (qt x hx) PySem.F.slot_tuple_eq.lookup<|ZU q')
 show wpAny _ _ (Builtin.Dict.addKeywords d [] >>= _) _ _ _;refine Z9 (ZU<|ZU ⟨.none,rfl,.i_,_,?_,rfl,q⟩);obtain⟨q',es,ep,hq,g2,g3,g4,_,g5⟩:=Hl;have lk:=su EL kvs;refine jz (s:=s) I (by rw[hd];exact True.intro) sb ⟨q',hq⟩ ⟨by lia,Kh,_,KT.keeps (ss M_ kt) fun cc ys ec=>?_,q',es,ep,hq,g2,g3,g4,g5⟩;rw[aE (kW ec hd<|fun z=>nomatch z)];exact ec
end
end L2
namespace L2
open PySem PySem.Spec PyProof.Rows
def cells?:List (List Im)->Option (List<|Int×Int)
 | []=>some []
 | [.int i,.int j]::r=>(cells? r).map fun s=>(i,j)::s
 | _=>none
theorem sv:∀ {x:List (List Im)}{ks:List (Int×Int)},cells? x=some ks->x=ks.map cI
 | [],ks,h=>by cases h;rfl
 | k::r,ks,h=>by
  unfold cells? at h;split at h
  ·rename_i q;cases q
  ·rename_i q;cases q;obtain⟨s,h1,h2⟩:=Z5.mp h;cases h2;rw[sv h1];rfl
  ·cases h
theorem sw:∀ ks:List (Int×Int),cells? (ks.map cI)=some ks
 | []=>rfl
 | c::r=>by
  show (cells?<|r.map cI).map _=_;rw[sw r];rfl
def sx(b a:List (List Im×Im)):List (List Im×Im):=b.foldl (fun acc p=>dk acc p.1 p.2) a
def EM:Vl->List Vl->Option (Vl×Vl):=fun c ds=>match c,ds with
 | .dT a,[.dT b]=>(cells? (b.map (·.1))).bind fun ks=>if ks.Nodup/\(∀ c∈ks,0<=c.1/\c.1<=30/\0<=c.2/\c.2<=30)/\a.length<=1000/\b.length<=1000 then some (.im .i_,.dT<|sx b a) else none
 | _,_=>none
theorem sy{H:Hp}:∀ {b:List (List Im×Im)}{m:List (List Im×V)},Ev H b m->∀ {a:List (List Im×Im)}{n:List (List Im×V)},Ev H a n->Ev H (sx b a) (m.foldl (fun acc p=>br acc p.1 p.2) n)
 | _,_,.nil,_,_,h=>h
 | _,_,.cons (a:=p) (b:=q) r t,a,n,h=>by
  obtain⟨k,d⟩:=p;obtain⟨k',v⟩:=q;obtain⟨e,w⟩:=r;dsimp only at e w;subst e;exact sy t (Ev.put w h)
theorem sE{H:Hp}:∀ {b:List (List Im×Im)}{m:List (List Im×V)},Ev H b m->m.map (·.1)=b.map (·.1)
 | _,_,.nil=>rfl
 | _,_,.cons r t=>by rw[ZF,ZF,sE t,r.1]
section
variable{X:Cx}
theorem sF(hu:X.A.units+20<cLine):KH X "dict.update" EM:=by
 intro pins s σ H x vs v us Q I rx rv ⟨c,ds,r,c',R,S,wc,wd,nd,e,q⟩;unfold EM at e;split at e
 ·rename_i a b;obtain⟨ks,e1,e2⟩:=Z8.mp e;split at e2
  ·rename_i hl;cases e2;obtain⟨d,kw,rfl,h1,h2,rfl⟩:=wc;obtain⟨y,t,S1,S2,rfl,⟨o,RU,rfl,h3,h4,rfl⟩,⟨rfl,rfl⟩,rfl⟩:=wd;have cg:FV H d:=⟨_,h1,(fun _ e=>by cases e),(fun _ _ e=>by cases e)⟩;have ne:d≠o:=fun z=>by
    subst z;exact (ZP.mp nd).2.2 d (.head _) d (.head _) rfl
   refine Ax hu pins s σ H _ _ v us Q I rx rv ⟨d,o,kw,RU,ks,rfl,rfl,ne,h1,h3,(sE h4).trans<|sv e1,hl.1,hl.2.1,by rw[<- h2.length];exact hl.2.2.1,by rw[<- h4.length];exact hl.2.2.2,q .i_ _ [] [d] ⟨rfl,rfl⟩ ?_ (p_.chg (.head _) cg (ZB _ _) fun x hx=>by
    rw[WU] at hx;exact ZJ _ hx)⟩
   exact⟨d,_,rfl,bp,(sy h4 h2).mono<|DK.Gi cg,rfl⟩
  ·cases e2
 ·cases e
end
end L2
namespace G
open PySem L2
def kC:SD->Option SD:=fun D=>if 5<D.length then some ((D.set 4<|some<|.im<|.tup [.str "NoFit",.i_]).set 5 none) else none
noncomputable def iX:MS:=(dj<|cu me 2 EM<|aa (oV<|am 1 G.d0<|aa (oV<|am 2 G.fh<|aa (oSl 3)<|aa (oSl 1) aNil) aNil) aNil)
noncomputable def sG:MS:=(aj (ao 2 eDict0T)<|aj (bC (aX<|oSl 0) (gN 3) G.iX)<|aI<|ay vTuple<|aa (oV<|ay DE<|aa (oSl 2) aNil) aNil)
noncomputable def dr:Fn:=aM 2 4 [0,1] sG
noncomputable def iY:MS:=(aj (ao 4<|am 3 G.de<|aa (oSl 0)<|aa (oSl 1)<|aa (oSl 2) aNil)<|aj (sIf (kB<|ad vIn (oSl 3)<|oV<|am 2 G.dr<|aa (oSl 4)<|aa (oSl 1) aNil) (aI<|eC .i_) sNil)<|aI<|bu 4)
noncomputable def bY:Fn:=aM 4 5 [0,1,2,3] iY
noncomputable def fk:RS:=(my 3 (Gv 3 4 G.fX)<|aa (oSl 0)<|aa (oSl 1)<|aa (oSl 2) aNil)
noncomputable def mY:RS:=(PD (oV<|eC<|.str "")<|my 4 (Gv 4 5 G.fk)<|aa (oSl 0)<|aa (oSl 1)<|aa (oSl 2)<|aa (oSl 3) aNil)
noncomputable def mZ:Addr->MS:=fun e=>(ao 4<|aA<|aa (oV<|am 1 (G.iW e)<|aa (oSl 5) aNil)<|aa (oV<|eC .i_) aNil)
noncomputable def m5:MS:=(aj (ao 4<|aA<|aa (oV<|eC<|.str "?")<|aa (oV<|eC .i_) aNil)<|aj (gK (ao 4<|aA<|aa (oV<|eC<|.str "")<|aa (oV<|am 4 G.bY<|aa (oSl 0)<|aa (oSl 1)<|aa (oSl 2)<|aa (oSl 3) aNil) aNil)<|kc G.mY G.kC)<|aI<|bu 4)
noncomputable def dG:Fn:=aM 4 6 [0,1,2,3] m5
noncomputable def sH:M Vl:=(aA<|aa (oSl 0)<|aa (oV<|eC<|.bl true) aNil)
noncomputable def gU:MS:=(dj<|cu me 8 EM<|aa (oV<|ay vDict<|aa (oV<|aV 1 [] (aX<|oV<|am 2 G.en<|aa (oSl 9)<|aa (oSl 4) aNil) (gN 0) kYes G.sH) aNil) aNil)
noncomputable def kE:MS:=(aj (ao 11<|am 2 G.bU<|aa (oSl 2)<|aa (oSl 3) aNil)<|aj (ao 12<|aA<|aa (oV<|eC<|.str "")<|aa (oSl 7) aNil)<|aj (sIf (kB<|ad vIn (oSl 11)<|oSl 8) (ao 12<|aA<|aa (oV<|eC<|.str "")<|aa (oV<|eC .i_) aNil) sNil)<|aj (sIf (kB<|ad vEq (oSl 7)<|oV<|aA aNil) (ao 12<|aA<|aa (oV<|eC<|.str "NoFit")<|aa (oV<|eC .i_) aNil) sNil)<|sIf (cS<|bS<|oV<|am 2 (G.cv 6)<|aa (oV<|am 4 G.dG<|aa (oSl 3)<|aa (oSl 4)<|aa (oSl 5)<|aa (oSl 11) aNil)<|aa (oSl 12) aNil) (aI<|eC<|.bl false) sNil)
noncomputable def kF:MS:=(aj (ao 2<|am 2 G.gR<|aa (oSl 0)<|aa (oSl 1) aNil)<|aj (ao 3<|am 1 G.iO<|aa (oSl 2) aNil)<|aj (b7 (am 2 G.iT<|aa (oSl 2)<|aa (oSl 3) aNil)<|gT 2<|cE (gN 4)<|cE (gN 5) gNil')<|aj (ao 6<|am 2 G.fj<|aa (oSl 3)<|aa (oSl 4) aNil)<|aj (ef 7 8<|aa (oV<|aA aNil)<|aa (oV eDict0T) aNil)<|aj (sIf (kB<|ad vIn (oSl 5)<|oSl 6) (ao 7<|am 2 G.fW<|aa (oSl 6)<|aa (oSl 5) aNil) sNil)<|aj (bC (aX<|oSl 7) (gN 9) G.gU)<|aj (sIf (cD (kB<|ad vNe (oSl 7)<|oV<|aA aNil)<|cS<|bS<|oV<|am 2 (G.cv 6)<|aa (oV<|am 2 G.dr<|aa (oSl 7)<|aa (oSl 4) aNil)<|aa (oV<|ay vTuple<|aa (oV<|ay DE<|aa (oSl 8) aNil) aNil) aNil) (aI<|eC<|.bl false) sNil)<|bC (iR1<|aa (oV<|ad vMul (oV<|eC<|.int 20)<|oV<|ay vInt<|aa (oV<|ad vNe (oSl 3)<|oV<|aA aNil) aNil) aNil) (gN 10) G.kE)
noncomputable def m6:MS:=(aj (bC (iR1<|aa (oV<|ay vMax2<|aa (oV<|eC<|.int 1)<|aa (oV<|ay vMin2<|aa (oV<|eC<|.int 12)<|aa (oV<|ay vLen<|aa (oSl 0) aNil) aNil) aNil) aNil) (gN 1) G.kF)<|aI<|eC<|.bl true)
noncomputable def i7:Fn:=aM 1 13 [0] m6
end G
namespace L2
open PySem
variable{a h g b:MS}{e:M Vl}{own m n:Nat}{ds:List Vl}{fix:List Nat}{o:Option (Nat×Vl)}{xs:List Im}{d:Vl}{D1 D:SD}{c:M Bool}{tg:MG}{α:Type}{j i:Int}
@[simp] theorem Dj(d:Im)(D:SD):eC d D=some (.im d,D):=rfl
@[simp] theorem sI(D:SD):aNil D=some ([],D):=rfl
@[simp] theorem Dk(D:SD):sNil D=some (.nx,D):=rfl
@[simp] theorem Dm(D:SD):yy D=some (none,D):=rfl
@[simp] theorem Do(D:SD):kYes D=some (true,D):=rfl
@[simp] theorem Dp(d:Im):(Vl.im d).cp=true:=rfl
@[simp] theorem Dq(d:List Im):(Vl.fz d).cp=true:=rfl
@[simp] theorem Dr(d:List Im):(Vl.lst d).cp=false:=rfl
@[simp] theorem Ds(d:List (List Im×Im)):(Vl.dT d).cp=false:=rfl
@[simp] theorem Dt(d:List (Key×Im)):(Vl.dK d).cp=false:=rfl
@[simp] theorem sJ(D:SD)(d:Vl):rsl D (.vl d)=some d:=rfl
@[simp] theorem Du(D:SD)(i:Nat):rsl D (.sl i)=(D[i]?).getD none:=rfl
@[simp] theorem sK(D:SD):dh D []=some []:=rfl
@[simp] theorem sL(D:SD)(o:Opd)(os:List Opd):dh D (o::os)=(rsl D o).bind fun d=>(dh D os).map fun ds=>d::ds:=rfl
@[simp] theorem Dv(D:SD):bg [] D=some ([],D):=rfl
@[simp] theorem Dw(d:Vl)(os:List Opd)(D:SD):bg (.vl d::os) D=(bg os D).map fun p=>(d::p.1,p.2):=rfl
@[simp] theorem Dx(i:Nat)(os:List Opd)(D:SD):bg (.sl i::os) D=(bu i D).bind fun p=>(bg os p.2).map fun q=>(p.1::q.1,q.2):=rfl
@[simp] theorem Dy:ims []=some []:=rfl
@[simp] theorem Dz(d:Im)(ds:List Vl):ims (.im d::ds)=(ims ds).map fun r=>d::r:=rfl
@[simp] theorem DA(b:Bool):asB (.im<|.bl b)=some b:=rfl
theorem m7(h1 : -(2 ^ 64)<j)(h2:j<2 ^ 64):dE i j=true:=by
 have:Builtin.Int.intBits j<=64:=intBits_le_64 h1 h2;have h':¬ (Builtin.Int.intBits j > shortFactorBits):=Nat.not_lt.mpr this;unfold dE;rw[Zs h'];simp
theorem fm(h1 : -(2 ^ 64)<i)(h2:i<2 ^ 64):dE i j=true:=by
 have:Builtin.Int.intBits i<=64:=intBits_le_64 h1 h2;have h':¬ (Builtin.Int.intBits i > shortFactorBits):=Nat.not_lt.mpr this;unfold dE;rw[Zs h'];simp
theorem m8{xs:List α}{d:α}(h0:0<=i)(h:xs[i.toNat]?=some d):FR xs i=some d:=by
 unfold FR Je;have hi:i.toNat<xs.length:=(Zz.mp h).1;rw[ZZ h0,ZZ (by lia)];exact h
theorem Ay(I:Nat->SD->Prop)(R:Vl->SD->Prop):∀ {xs:List Im}{D:SD},I 0 D->
  (∀ (i:Nat) (x:Im) (D:SD),xs[i]?=some x->I i D->∃ D1 fl D2,tg (.im x) D=some D1/\b D1=some (fl,D2)/\(((fl=.nx\/fl=.ct)/\I (i+1) D2)\/∃ d,fl=.rt d/\R d D2))->
  (∃ D',bj tg b xs D=some (.nx,D')/\I xs.length D')\/∃ d D',bj tg b xs D=some (.rt d,D')/\R d D':=by
 intro xs;induction xs generalizing I with
 | nil=>intro D h0 _;exact .inl ⟨D,rfl,h0⟩
 | cons x r ih=>
  intro D h0 h;obtain⟨D1,fl,D2,h1,h2,h3⟩:=h 0 x D rfl h0;rcases h3 with ⟨hf,hI⟩ | ⟨d,rfl,hR⟩
  ·have:=ih (fun i=>I<|i+1) (D:=D2) hI fun i y D' hy Oy=>h (i+1) y D' (by simpa using hy) Oy;have e:bj tg b (x::r) D=bj tg b r D2:=by
    rw[bj];dsimp only;rw[h1];show (b D1).bind _=_;rw[h2];rcases hf with rfl | rfl<;>rfl
   rw[e];exact this
  ·refine .inr ⟨d,D2,?_,hR⟩;rw[bj];dsimp only;rw[h1];show (b D1).bind _=_;rw[h2];rfl
theorem gW(I:Nat->SD->Prop){xs:List Im}{D:SD}(h0:I 0 D)(h:∀ (i:Nat) (x:Im) (D:SD),xs[i]?=some x->I i D->∃ D1 fl D2,tg (.im x) D=some D1/\b D1=some (fl,D2)/\(fl=.nx\/fl=.ct)/\I (i+1) D2):
  ∃ D',bj tg b xs D=some (.nx,D')/\I xs.length D':=by
 rcases Ay I (fun _ _=>False) h0 (fun i x D hx hI=>by
  obtain⟨D1,fl,D2,h1,h2,h3,h4⟩:=h i x D hx hI;exact⟨D1,fl,D2,h1,h2,.inl ⟨h3,h4⟩⟩) with h | ⟨_,_,_,h⟩
 ·exact h
 ·exact h.elim
theorem sM(I:Nat->SD->Prop)(LW:SD->Prop)(step:∀ m D,I m D->∃ t D1,c D=some (t,D1)/\(t=true->∃ fl D2,b D1=some (fl,D2)/\(fl=.nx\/fl=.ct)/\∃ m',m'<m/\I m' D2)/\(t=false->LW D1)):
  ∀ (n m:Nat) (D:SD),I m D->m<n->∃ D',dP c b n D=some (.nx,D')/\LW D':=by
 intro n;induction n with
 | zero=>intro m D _ h;lia
 | succ n ih=>
  intro m D hI hm;obtain⟨t,D1,h1,h2,h3⟩:=step m D hI;rw[dP];dsimp only;rw[h1];cases t with
  | false=>exact⟨D1,rfl,h3 rfl⟩
  | true=>
   obtain⟨fl,D2,h4,hf,m',N9,Oy⟩:=h2 rfl;obtain⟨D',h5,h6⟩:=ih m' D2 Oy (by lia);refine⟨D',?_,h6⟩;simp only[Wk,Wx,h4];rcases hf with rfl | rfl<;>exact h5
theorem Az(xs:List α):xs.filter (fun _=>true)=xs:=List.filter_eq_self.mpr fun _ _=>rfl
theorem sN(e:g D=some (.nx,D1)):aj g h D=h D1:=by unfold aj;rw[e];rfl
theorem m9(e:g D=some (.rt d,D1)):aj g h D=some (.rt d,D1):=by unfold aj;rw[e];rfl
theorem AA{g:MI}{D2:SD}{fl:Fl}(e:g D=some ((xs,o),D1))(h:bj tg b xs D1=some (fl,D2)):bC g tg b D=some (fl,rst o D2):=by
 unfold bC;rw[e];show (bj tg b xs D1).map _=_;rw[h];rfl
theorem AB{r:Vl}(hl:ds.length=n)(e:g (ds.map some++replicate (m - n) none)=some (.rt r,D)):aM n m fix g ds=some (r,c7 fix ds D 0):=by
 unfold aM;rw[ZZ hl,e]
theorem sO{caps:List Nat}{gi:MI}{C':SD}{ds:List Im}(h1:gi D=some ((xs,o),D1))(h2:cq own tg c e xs [] (dQ caps D1)=some (ds,C')):aV own caps gi tg c e D=some (.lst ds,rst o<|c6 caps C' D1):=by
 unfold aV;rw[h1];show (cq own tg c e xs []<|dQ caps D1).map _=_;rw[h2];rfl
theorem bz{g:M Vl}(e:g D=some (d,D1)):aI g D=some (.rt d,D1):=by unfold aI;rw[e];rfl
theorem AC{i:Nat}{g:M Vl}(e:g D=some (d,D1))(h:i<D1.length):ao i g D=some (.nx,D1.set i<|some d):=by unfold ao;rw[e];show (if i<D1.length then _ else _)=_;rw[ZZ h]
theorem sP(e:c D=some (true,D1)):sIf c a b D=a D1:=by unfold sIf;rw[e];rfl
theorem sQ(e:c D=some (false,D1)):sIf c a b D=b D1:=by unfold sIf;rw[e];rfl
theorem sR(D:SD){r:Vl}{outs:List Vl}(hl:ds.length=n)(e:g (ds.map some++replicate (m - n) none)=some (.rt r,D))(ho:c7 fix ds D 0=outs):aM n m fix g ds=some (r,outs):=by
 rw[AB hl e,ho]
theorem fY{α:Type}{own:Nat}{tg:MG}{c:M Bool}{e:M Vl}{C:SD}(φ:α->Im)(p:α->Bool)(f:α->Im):∀ (xs:List α) (acc:List Im),(∀ x∈xs,∃ D1 D2,tg (.im<|φ x) (replicate own none++C)=some D1/\c D1=some (p x,D2)/\(p x=false->D2.drop own=C)/\(p x=true->∃ D3,e D2=some (.im<|f x,D3)/\D3.drop own=C))->
  acc.length+xs.length<=100000->cq own tg c e (xs.map φ) acc C=some (acc++(xs.filter p).map f,C)
 | [],acc,_,_=>by simp[cq]
 | x::r,acc,h,hl=>by
  obtain⟨D1,D2,h1,h2,h3,h4⟩:=h x (.head _);rw[ZC] at hl;rw[ZF,cq,h1];show (c D1).bind _=_;rw[h2];show (if p x=true then _ else _)=_;cases hp:p x with
  | false=>
   rw[ZW ZK];show cq own tg c e (r.map φ) acc (D2.drop own)=_;rw[h3 hp,fY φ p f r acc (fun y hy=>h y<|.tail _ hy) (by lia),Wj,hp];rfl
  | true=>
   obtain⟨D3,h5,h6⟩:=h4 hp;rw[ZZ rfl];show (e D2).bind _=_;rw[h5];show (if acc.length<100000 then cq own tg c e (r.map φ) (acc++[f x]) (D3.drop own) else none)=_;rw[ZZ (by lia),h6,fY φ p f r (acc++[f x]) (fun y hy=>h y<|.tail _ hy) (by rw[ZH,Y9];lia),Wj,hp];simp
theorem fo{C:SD}(φ:α->Im)(f:α->Im)(xs:List α)(h:∀ x∈xs,∃ D1 D2 D3,tg (.im<|φ x) (replicate own none++C)=some D1/\c D1=some (true,D2)/\e D2=some (.im<|f x,D3)/\D3.drop own=C)(hl:xs.length<=100000):cq own tg c e (xs.map φ) [] C=some (xs.map f,C):=by
 have:=fY (own:=own) (tg:=tg) (c:=c) (e:=e) (C:=C) φ (fun _=>true) f xs [] (fun x hx=>by
  obtain⟨D1,D2,D3,h1,h2,h3,h4⟩:=h x hx;exact⟨D1,D2,h1,h2,(fun z=>by cases z),(fun _=>⟨D3,h3,h4⟩)⟩) (by rw[Yy];lia)
 rw[Az] at this;exact this
end L2
namespace G
open PySem L2
variable{ks:List (Int×Int)}{b a:Int×Int}
noncomputable def AD:MS:=(aj (sIf (kB<|ad vGt (oV<|ad vIx (oSl 0)<|oV<|eC<|.int 0)<|oV<|eC<|.int 0) (aj (ao 2<|ad vMod (oV<|ad vIx (oSl 0)<|oV<|eC<|.int 0)<|oSl 1)<|aj (b7 (ad vDiv (oV<|ad vIx (oSl 0)<|oV<|eC<|.int 0)<|oSl 1)<|gIx 0 (eC<|.int 0) putV)<|aI<|bu 2) sNil)<|aj (b7 (ad vAdd (oV<|ad vIx (oSl 0)<|oV<|eC<|.int 2)<|oV<|eC<|.int 1)<|gIx 0 (eC<|.int 2) putV)<|aj (ao 3<|ad vMod (oV<|ad vMul (oV<|ad vAdd (oV<|ad vIx (oSl 0)<|oV<|eC<|.int 1)<|oV<|ad vMul (oV<|ad vIx (oSl 0)<|oV<|eC<|.int 2)<|oV<|eC<|.int 104729)<|oV<|eC<|.int 48271)<|oV<|eC<|.int 2305843009213693951)<|aj (b7 (ad vMod (oV<|ad vMul (oSl 3)<|oV<|ad vAdd (oV<|ad vMod (oSl 3)<|oV<|eC<|.int 1009)<|oV<|eC<|.int 69621)<|oV<|eC<|.int 2305843009213693951)<|gIx 0 (eC<|.int 1) putV)<|aI<|ad vMod (oV<|ad vDiv (oV<|ad vIx (oSl 0)<|oV<|eC<|.int 1)<|oV<|eC<|.int 1000003)<|oSl 1)
noncomputable def i8:Fn:=aM 2 4 [0,1] AD
noncomputable def AE:MS:=(aI<|a9<|aa (oV<|aA<|aa (oV<|ad vSub (oV<|ad vIx (oSl 0)<|oV<|eC<|.int 0)<|oV<|eC<|.int 1)<|aa (oV<|ad vIx (oSl 0)<|oV<|eC<|.int 1) aNil)<|aa (oV<|aA<|aa (oV<|ad vIx (oSl 0)<|oV<|eC<|.int 0)<|aa (oV<|ad vSub (oV<|ad vIx (oSl 0)<|oV<|eC<|.int 1)<|oV<|eC<|.int 1) aNil)<|aa (oV<|aA<|aa (oV<|ad vIx (oSl 0)<|oV<|eC<|.int 0)<|aa (oV<|ad vAdd (oV<|ad vIx (oSl 0)<|oV<|eC<|.int 1)<|oV<|eC<|.int 1) aNil)<|aa (oV<|aA<|aa (oV<|ad vAdd (oV<|ad vIx (oSl 0)<|oV<|eC<|.int 0)<|oV<|eC<|.int 1)<|aa (oV<|ad vIx (oSl 0)<|oV<|eC<|.int 1) aNil) aNil)
noncomputable def AF:Fn:=aM 1 1 [0] AE
noncomputable def AG:MS:=(aj (ao 4<|ad vIx (oV<|am 1 G.AF<|aa (oV<|ad vIx (oSl 2)<|oV<|am 2 G.i8<|aa (oSl 0)<|aa (oV<|ay vLen<|aa (oSl 2) aNil) aNil) aNil)<|oV<|am 2 G.i8<|aa (oSl 0)<|aa (oV<|eC<|.int 4) aNil)<|sIf (cD (kB<|ad vNotIn (oSl 4)<|oSl 2)<|cD (kB<|qK vLe vLe (oV<|eC<|.int 0) (oV<|ad vIx (oSl 4)<|oV<|eC<|.int 0)<|oV<|eC<|.int 24)<|kB<|qK vLe vLe (oV<|eC<|.int 0) (oV<|ad vIx (oSl 4)<|oV<|eC<|.int 1)<|oV<|eC<|.int 24) (dj<|cu eg 2 mAppend<|aa (oSl 4) aNil) sNil)
noncomputable def AH:MS:=(aj (ao 2<|a9<|aa (oV<|aA<|aa (oV<|eC<|.int 12)<|aa (oV<|eC<|.int 12) aNil) aNil)<|aj (bC (iR1<|aa (oV<|am 2 G.i8<|aa (oSl 0)<|aa (oSl 1) aNil) aNil) (gN 3) G.AG)<|aI<|bu 2)
noncomputable def AI:Fn:=aM 2 5 [0,1] AH
noncomputable def AJ:MS:=(dj<|cu eg 5 yG<|aa (oV<|am 2 G.i8<|aa (oSl 0)<|aa (oV<|ay vLen<|aa (oSl 5) aNil) aNil) aNil)
noncomputable def AK:M Vl:=(bu 0)
noncomputable def AL:M Bool:=(kB<|ad vEq (oV<|ad vMul (oV<|ad vMod (oV<|ad vIx (oSl 0)<|oV<|eC<|.int 0)<|oV<|eC<|.int 2)<|oV<|ad vMod (oV<|ad vMod (oV<|ad vIx (oSl 0)<|oV<|eC<|.int 1)<|oV<|eC<|.int 3)<|oV<|eC<|.int 2)<|oV<|eC<|.int 0)
abbrev iI(i:Int):Vl:=.im (.int i)
def cM(p:Int×Int):Im:=.tup [.int p.1,.int p.2]
abbrev cT(ps:List (Int×Int)):Vl:=.im (.tup<|ps.map cM)
abbrev cL(ps:List (Int×Int)):Vl:=.lst (ps.map cM)
abbrev lf(d s t:Int):Vl:=.lst [.int d,.int s,.int t]
def kM(p:Int×Int):List Im:=[.int p.1,.int p.2]
theorem sS(p:Int×Int):cM p=.tup (kM p):=rfl
theorem sT(h:kM a=kM b):a=b:=by
 unfold kM at h;simp at h;exact V4 h.1 h.2
theorem AM(h:cM a=cM b):a=b:=by
 rw[sS,sS] at h;exact sT (by injection h)
def uC:Im->Int×Int
 | .tup [.int a,.int b]=>(a,b)
 | _=>(0,0)
theorem sU(p:Int×Int):uC (cM p)=p:=rfl
theorem i9(p:Int×Int):Im.pl 8 (cM p)=true:=rfl
theorem kG:∀ ps:List (Int×Int),Im.pls 8 (ps.map cM)=true
 | []=>rfl
 | p::r=>by rw[ZF,Im.pls,i9,kG r];rfl
theorem ng(a b:Int×Int):aB (cM a) (cM b)=decide (a=b):=by
 show ((a.1 == b.1) && ((a.2 == b.2) && true))=_;obtain⟨a1,a2⟩:=a;obtain⟨b1,b2⟩:=b;by_cases h1:a1=b1<;>by_cases h2:a2=b2<;>simp[h1,h2]
theorem sV(ps:List (Int×Int))(c:Int×Int):((ps.map cM).any fun x=>aB x<|cM c)=decide (c∈ps):=by
 rw[V3,XO,W6,Yo];constructor
 ·rintro⟨x,hx,e⟩;have:decide (x=c)=true:=by rw[<- ng];exact e
  rw[<- Zk this];exact hx
 ·intro h;refine⟨c,h,?_⟩;show aB (cM c) (cM c)=true;rw[ng];exact Zr rfl
theorem sW:∀ (l:List Im) (ks:List (Int×Int)),(∀ x∈l,x∈ks.map cM)->l=(l.map uC).map cM
 | [],_,_=>rfl
 | x::l,ks,h=>by
  obtain⟨p,_,e⟩:=Zi.mp (h x<|.head _);rw[ZF,ZF,<- sW l ks fun y hy=>h y<|.tail _ hy,<- e,sU]
theorem sX{l:List Im}(h:l.Perm (ks.map cM)):∃ ms:List (Int×Int),ms.Perm ks/\l=ms.map cM:=by
 refine⟨l.map uC,?_,sW l ks fun x hx=>h.mem_iff.mp hx⟩;have:=List.Perm.map uC h;rw[YV] at this;have e:(uC ∘ cM:Int×Int->Int×Int)=id:=funext sU;rw[e,List.map_id] at this;exact this
theorem ja(nd:ks.Nodup)(hl:ks.length<=1000):E5 (ks.map cM):=by
 refine⟨⟨by rw[Z4];exact hl,fun a ha b hb=>?_,?_⟩,.inl fun d hd=>?_⟩
 ·obtain⟨x,_,rfl⟩:=Zi.mp ha;obtain⟨y,_,rfl⟩:=Zi.mp hb;rfl
 ·exact List.Pairwise.map cM (fun a b n e=>n<|AM e) nd
 ·obtain⟨x,_,rfl⟩:=Zi.mp hd;rfl
theorem AN{kvs:List (List Im×Im)}{k:List Im}:(bD kvs k).isSome=kvs.any fun p=>decide (p.1=k):=by
 unfold bD;rw[XB,List.isSome_find?]
def mt(ks:List (Int×Int)):List (List Im×Im):=ks.map fun c=>(kM c,.bl true)
theorem nh(ks:List (Int×Int))(c:Int×Int):((mt ks).any fun p=>decide (p.1=kM c))=decide (c∈ks):=by
 unfold mt;rw[V3,XO,W6,Yo];constructor
 ·rintro⟨x,hx,e⟩;have:kM x=kM c:=Zk e;rw[<- sT this];exact hx
 ·intro h;exact⟨c,h,Zr rfl⟩
theorem AO(ks:List (Int×Int))(c:Int×Int):(bD (mt ks)<|kM c).isSome=decide (c∈ks):=by rw[AN,nh]
theorem AQ{c:Int×Int}(h:c∉ks):dk (mt ks) (kM c) (.bl true)=mt (ks++[c]):=by
 unfold dk;rw[ZW (by rw[nh];simpa using h)];unfold mt;rw[Y7];rfl
theorem AR(ks:List (Int×Int)):((mt ks).map fun p=>Im.tup p.1)=ks.map cM:=by
 unfold mt;rw[YV];rfl
end G
namespace L2
open PySem
section
variable{D D1 D2:SD}
variable{d:Vl}
theorem v_{g:M Vl}(h:g D=some (d,D1)):oV g D=some (.vl d,D1):=by unfold oV;rw[h];rfl
variable{x:Opd}
theorem a_{g:M Opd}{h:M (List Opd)}{xs:List Opd}(e1:g D=some (x,D1))(e2:h D1=some (xs,D2)):aa g h D=some (x::xs,D2):=by unfold aa;rw[e1];show (h D1).map _=_;rw[e2];rfl
variable{d1 d2:Vl}
theorem b_{op:Vl->Vl->Option Vl}{ga gb:M Opd}{y:Opd}(e1:ga D=some (x,D1))(e2:gb D1=some (y,D2))(e3:rsl D2 x=some d1)(e4:rsl D2 y=some d2)(e5:op d1 d2=some d):ad op ga gb D=some (d,D2):=by
 unfold ad;rw[e1];show (gb D1).bind _=_;rw[e2];show (rsl D2 x).bind _=_;rw[e3];show (rsl D2 y).bind _=_;rw[e4];show (op d1 d2).map _=_;rw[e5];rfl
variable{g:M (List Opd)}{n:Nat}{os:List Opd}{ds outs:List Vl}
theorem c_{G:Fn}{r:Vl}(e1:g D=some (os,D1))(e0:os.length=n)(e2:bg os D1=some (ds,D2))(e3:G ds=some (r,outs)):am n G g D=some (r,wb os outs D2):=by
 unfold am;rw[e1];show (if os.length=n then _ else _)=_;rw[ZZ e0];show (bg os D1).bind _=_;rw[e2];show (G ds).map _=_;rw[e3];rfl
theorem EH{op:List Vl->Option Vl}(e1:g D=some (os,D1))(e2:dh D1 os=some ds)(e3:op ds=some d):ay op g D=some (d,D1):=by
 unfold ay;rw[e1];show (dh D1 os).bind _=_;rw[e2];show (op ds).map _=_;rw[e3];rfl
variable{b:Bool}
theorem FL{g:M Vl}(e:g D=some (.im<|.bl b,D1)):kB g D=some (b,D1):=by unfold kB;rw[e];rfl
theorem RV{g:M Bool}(e:g D=some (b,D1)):cS g D=some (!b,D1):=by unfold cS;rw[e];rfl
theorem Ix{g:M Opd}(e:g D=some (x,D1))(e2:rsl D1 x=some d)(e3:iD d=some b):bS g D=some (b,D1):=by
 unfold bS;rw[e];show (rsl D1 x).bind _=_;rw[e2];show (iD d).map _=_;rw[e3];rfl
theorem Kk{g:M Vl}{h:MG}(e:g D=some (d,D1))(e2:h d D1=some D2):b7 g h D=some (.nx,D2):=by unfold b7;rw[e];show (h d D1).map _=_;rw[e2];rfl
theorem KK{g:M Vl}(e:g D=some (d,D1)):dj g D=some (.nx,D1):=by unfold dj;rw[e];rfl
variable{D3:SD}
theorem Kl{ty:Vl->Bool}{i:Nat}{mt:Vl->List Vl->Option (Vl×Vl)}{c0 c r c':Vl}(e0:D[i]?=some (some c0))(e1:ty c0=true)(e2:g D=some (os,D1))(e3:bg os D1=some (ds,D2))(e4:D2[i]?=some (some c))(e5:mt c ds=some (r,c'))(k:D2.set i (some c')=D3):cu ty i mt g D=some (r,D3):=by
 subst k;unfold cu;rw[e0];show (if ty c0=true then _ else _)=_;rw[ZZ e1,e2];show (bg os D1).bind _=_;rw[e3];show (match D2[i]? with | some (some c)=>_ | _=>none)=_;rw[e4];show (mt c ds).map _=_;rw[e5];rfl
theorem Hr(e1:g D=some (os,D1))(e2:bg os D1=some (ds,D2))(e3:ds.length<=100000)(k:mkT ds=d):aA g D=some (d,D2):=by
 unfold aA;rw[e1];show (bg os D1).bind _=_;rw[e2];show (if _ then _ else _)=_;rw[ZZ e3,k]
theorem Km(e1:g D=some (os,D1))(e2:bg os D1=some (ds,D2))(e3:ds.length<=100000)(k:mkL ds=d):a9 g D=some (d,D2):=by
 unfold a9;rw[e1];show (bg os D1).bind _=_;rw[e2];show (if _ then _ else _)=_;rw[ZZ e3,k]
theorem Oz{x:List Im}{d:Im}(h:x.length<100000):mAppend (.lst x) [.im d]=some (.im .i_,.lst<|x++[d]):=ZZ h
theorem gX(i j:Int):vEq (.im<|.int i) (.im<|.int j)=some (.im<|.bl<|decide (i=j)):=by
 show some (Vl.im<|.bl<|i == j)=_;by_cases h:i=j<;>simp[h]
variable{i j:Int}
theorem df(h:dE i j=true):vMul (.im<|.int i) (.im<|.int j)=some (.im<|.int<|i * j):=ZZ h
theorem d6(h:0<j):vMod (.im<|.int i) (.im<|.int j)=some (.im<|.int<|i % j):=ZZ (Zr h)
theorem jb(h:0<j)(h2:j<1073741824):vDiv (.im<|.int i) (.im<|.int j)=some (.im<|.int<|i / j):=ZZ (Zr (⟨h,h2⟩:0<j/\j<1073741824))
theorem sY(h:decide (0<=j/\j<=1000000/\i.natAbs<2 ^ 64)=true):vPow (.im<|.int i) (.im<|.int j)=some (.im<|.int<|i ^ j.toNat):=ZZ h
variable{r:Option (Fl×SD)}{b:MS}{c:M Bool}
theorem dt{a:MS}(e:c D=some (true,D1))(h:a D1=r):sIf c a b D=r:=(sP e).trans h
theorem cb{a:MS}(e:c D=some (false,D1))(h:b D1=r):sIf c a b D=r:=(sQ e).trans h
theorem t_{g h:MS}(e:g D=some (.nx,D1))(k:h D1=r):aj g h D=r:=(sN e).trans k
variable{i:Nat}
theorem aR{g:M Vl}(e:g D=some (d,D1))(h:i<D1.length)(k:D1.set i (some d)=D2):ao i g D=some (.nx,D2):=(AC e h).trans (by rw[k])
variable{xs:List Im}{tg:MG}{o:Option (Nat×Vl)}
theorem du{g:MI}{fl:Fl}(e:g D=some ((xs,o),D1))(h:bj tg b xs D1=some (fl,D2))(k:rst o D2=D3):bC g tg b D=some (fl,D3):=(AA e h).trans (by rw[k])
theorem HV{own:Nat}{caps:List Nat}{gi:MI}{e:M Vl}{C':SD}{ds:List Im}(h1:gi D=some ((xs,o),D1))(h2:cq own tg c e xs [] (dQ caps D1)=some (ds,C'))(k:rst o (c6 caps C' D1)=D3):aV own caps gi tg c e D=some (.lst ds,D3):=(sO h1 h2).trans (by rw[k])
variable{b a:M Bool}
theorem sZ(e:a D=some (true,D1)):kOr a b D=some (true,D1):=by unfold kOr;rw[e];rfl
variable{r:Option (Bool×SD)}
theorem ni(e:a D=some (false,D1))(h:b D1=r):kOr a b D=r:=by unfold kOr;rw[e];exact h
theorem nj(e:a D=some (true,D1))(h:b D1=r):cD a b D=r:=by unfold cD;rw[e];exact h
theorem tf(e:a D=some (false,D1)):cD a b D=some (false,D1):=by unfold cD;rw[e];rfl
theorem nk{j:Nat}(e1:g D=some (os,D1))(e2:bg os D1=some ([d1,d2],D2))(hi:i<D2.length)(hj:j<D2.length)(k:(D2.set i<|some d1).set j (some d2)=D3):ef i j g D=some (.nx,D3):=by
 unfold ef;rw[e1];show (bg os D1).bind _=_;rw[e2];show (if i<D2.length/\j<D2.length then _ else _)=_;rw[ZZ ⟨hi,hj⟩,k]
theorem Na{g:M Bool}{b:Bool}(e:g D=some (b,D1)):eB g D=some (.im<|.bl b,D1):=by unfold eB;rw[e];rfl
variable{r:Vl}
theorem d_{G:Fn}(e1:g D=some (os,D1))(e0:os.length=n)(e2:bg os D1=some (ds,D2))(e3:G ds=some (r,outs))(k:wb os outs D2=D3):am n G g D=some (r,D3):=by rw[<- k];exact c_ e1 e0 e2 e3
theorem OA{g:M Bool}(e:g D=some (true,D1)):cS g D=some (false,D1):=RV e
theorem Ju(e1:g D=some (os,D1))(e2:dh D1 os=some [.im (.int j)])(h:jM j):iR1 g D=some ((bx 0 j.toNat,none),D1):=by
 unfold iR1;rw[e1];show (dh D1 os).bind _=_;rw[e2];show (if jM j then _ else _)=_;rw[ZZ h]
theorem bn{m:Nat}{fix:List Nat}{g:MS}(hl:ds.length=n)(e:g (ds.map some++replicate (m - n) none)=some (.rt r,D))(ho:c7 fix ds D 0=outs):aM n m fix g ds=some (r,outs):=sR D hl e ho
end
end L2
namespace G
open PySem L2
variable{o6 o5 o4 o0 o8 o9 o13 o12 o11 o10 o1:Option Vl}{α:Type}{w way r sd tp wd hg k m:Int}{e:Addr}{g:M Opd}{D1 D:SD}{ks:List (Int×Int)}{xs:List Im}{ns:List Int}{h:Vl}{n:Nat}
def jc(s u:Int):Int:=s * (48271+2 * u * u+65537 * u) % 2305843009213693921
def tj(s u:Int):Int:=jc s u * (jc s u % 1000003+u * 99991+11) % 2305843009213693907 / 97+jc s u * (jc s u % 1000003+u * 99991+11) % 2305843009213693907 / 1000033
abbrev hd(d s t:Int):Vl:=.lst [.int d,.int s,.int t]
abbrev iJ(i:Int):Vl:=.im (.int i)
theorem AS{d s t:Int}(PR:0<=d)(SA:0<=s)(SB:s<2 ^ 63)(SC:0<=t)(SE:t<2 ^ 60)(IU:0<m)(OB:m<1073741824):
  ∃ v d' t',bJ [hd d s t,.im<|.int m]=some (.im<|.int v,[hd d' s t',.im<|.int m])/\0<=v/\v<m/\0<=d'/\t<=t'/\t'<=t+1:=by
 have i0:∀ d t:Int,vIx (hd d s t) (iJ 0)=some (iJ d):=fun _ _=>rfl;have i1:∀ d t:Int,vIx (hd d s t) (iJ 1)=some (iJ s):=fun _ _=>rfl;have i2:∀ d t:Int,vIx (hd d s t) (iJ 2)=some (iJ t):=fun _ _=>rfl;have k1:kB (ad vGt (oV<|ad vIx (oSl 0)<|oV<|eC<|.int 0)<|oV<|eC<|.int 0) [some (hd d s t),some<|iJ m,none,none,none,none]=some (decide (0<d),[some (hd d s t),some<|iJ m,none,none,none,none]):=FL (b_ (v_<|b_ rfl rfl rfl rfl<|i0 d t) rfl rfl rfl rfl);unfold bJ rA;by_cases h:0<d
 ·refine⟨d % m,d / m,t,?_,X3 _ (by lia),X7 _ IU,Int.ediv_nonneg PR (by lia),by lia,by lia⟩;rw[Zr h] at k1;refine bn (D:=[some (hd (d / m) s t),some<|iJ m,some<|iJ<|d % m,none,none,none]) rfl (m9 (dt k1 (t_ (D1:=[some (hd d s t),some<|iJ m,some<|iJ<|d % m,none,none,none]) (aR (b_ (v_<|b_ rfl rfl rfl rfl<|i0 d t) rfl rfl rfl<|d6 IU) (by exact ZM rfl) rfl)<|t_ (Kk (b_ (v_<|b_ rfl rfl rfl rfl<|i0 d t) rfl rfl rfl<|jb IU OB) rfl) rfl))) rfl
 ·have e2:dE (2 * (t+1)) (t+1)=true:=m7 (by lia) (by lia);refine⟨tj s (t+1) % m,d,t+1,?_,X3 _ (by lia),X7 _ IU,PR,by lia,by lia⟩;rw[Zs h] at k1;unfold tj;generalize hx:jc s (t+1)=x;have x0:0<=x:=by rw[<- hx];exact X3 _ (by decide)
  have x1:x<2305843009213693921:=by rw[<- hx];exact X7 _ (by decide)
  refine bn (D:=[some (hd d s<|t+1),some<|iJ m,none,some<|iJ<|t+1,some<|iJ<|x * (x % 1000003+(t+1) * 99991+11) % 2305843009213693907,some<|iJ<|x % 1000003+(t+1) * 99991+11]) rfl (t_ (cb k1 rfl) (t_ (D1:=[some (hd d s<|t+1),some<|iJ m,none,none,none,none]) (Kk (b_ (v_<|b_ rfl rfl rfl rfl<|i2 d t) rfl rfl rfl rfl) rfl) (t_ (D1:=[some (hd d s<|t+1),some<|iJ m,none,some<|iJ<|t+1,none,none]) (aR (b_ rfl rfl rfl rfl<|i2 d<|t+1) (by exact ZM rfl) rfl)<|t_ (D1:=[some (hd d s<|t+1),some<|iJ m,none,some<|iJ<|t+1,some<|iJ x,none]) ?_<|t_ (D1:=[some (hd d s<|t+1),some<|iJ m,none,some<|iJ<|t+1,some<|iJ x,some<|iJ<|x % 1000003+(t+1) * 99991+11]) ?_<|t_ (D1:=[some (hd d s<|t+1),some<|iJ m,none,some<|iJ<|t+1,some<|iJ<|x * (x % 1000003+(t+1) * 99991+11) % 2305843009213693907,some<|iJ<|x % 1000003+(t+1) * 99991+11]) ?_<|bz ?_))) rfl
  ·rw[<- hx];exact aR (b_ (v_ (b_ (v_<|b_ rfl rfl rfl rfl<|i1 d<|t+1) (v_ (b_ (v_ (b_ rfl (v_ (b_ (v_ (b_ rfl rfl rfl rfl (df (fm (by decide) (by decide))))) rfl rfl rfl<|df e2)) rfl rfl rfl)) (v_ (b_ rfl rfl rfl rfl (df (fm (by decide) (by decide))))) rfl rfl rfl)) rfl rfl (df (fm (by lia) (by lia))))) rfl rfl rfl (d6 (by decide))) (by exact ZM rfl) rfl
  ·exact aR (b_ (v_ (b_ (v_ (b_ rfl rfl rfl rfl (d6 (by decide)))) (v_ (b_ rfl rfl rfl rfl (df (m7 (by decide) (by decide))))) rfl rfl rfl)) rfl rfl rfl rfl) (by exact ZM rfl) rfl
  ·exact aR (b_ (v_ (b_ rfl rfl rfl rfl (df (fm (by lia) (by lia))))) rfl rfl rfl (d6 (by decide))) (by exact ZM rfl) rfl
  ·exact b_ (v_ (b_ (v_ (b_ rfl rfl rfl rfl (jb (by decide) (by decide)))) (v_ (b_ rfl rfl rfl rfl (jb (by decide) (by decide)))) rfl rfl rfl)) rfl rfl rfl (d6 IU)
def aW(n:Nat)(h:Vl):Prop:=∃ d s t,h=hd d s t/\0<=d/\0<=s/\s<2 ^ 63/\0<=t/\t+n<2 ^ 60
theorem aW.mono{m:Nat}(x:aW n h)(e:m<=n):aW m h:=by
 obtain⟨d,s,t,rfl,h1,h2,h3,h4,h5⟩:=x;exact⟨d,s,t,rfl,h1,h2,h3,h4,by omega⟩
theorem fq(x:aW (n+1) h)(IU:0<m)(OB:m<1073741824):∃ v h',bJ [h,.im<|.int m]=some (.im<|.int v,[h',.im<|.int m])/\0<=v/\v<m/\aW n h':=by
 obtain⟨d,s,t,rfl,h1,h2,h3,h4,h5⟩:=x;obtain⟨v,d',t',e,e1,e2,e3,e4,e5⟩:=AS (m:=m) h1 h2 h3 h4 (by omega) IU OB;exact⟨v,hd d' s t',e,e1,e2,d',s,t',rfl,e3,h2,h3,by omega,by omega⟩
theorem bi(x:aW n h):∃ ds,h=.lst ds:=by
 obtain⟨d,s,t,rfl,_⟩:=x;exact⟨_,rfl⟩
theorem AT(hk:0<=k)(Gr:k<1000):∃ h,gR [.fz (ns.map .int),.im<|.int k]=some (h,[.fz (ns.map .int),.im<|.int k])/\aW 1000000 h:=by
 have key:∀ c:Int,aW 1000000 (hd (c % (10 ^ 60 * 10 ^ 60 * 10 ^ 60) * (if decide (10 ^ 18<=c) then 1 else 0)) (c % 2305843009213693951+7919 * k+3) 0):=fun c=>by
  have h1:=X3 c (show (10 ^ 60 * 10 ^ 60 * 10 ^ 60:Int)≠0 by decide);have h2:=X3 c (show (2305843009213693951:Int)≠0 by decide);have h3:=X7 c (show (0:Int)<2305843009213693951 by decide);refine⟨_,_,_,rfl,?_,by lia,by lia,XI 0,by decide⟩;split
  ·rw[Int.mul_one];exact h1
  ·rw[Int.mul_zero];exact XI 0
 have p0:vPow (iJ 10) (iJ 60)=some (iJ<|10 ^ 60):=sY (by decide);have p9:vPow (iJ 10) (iJ 18)=some (iJ<|10 ^ 18):=sY (by decide);have p1:dE (10 ^ 60) (10 ^ 60)=true:=by decide +kernel
 have p2:dE (10 ^ 60 * 10 ^ 60) (10 ^ 60)=true:=by decide +kernel
 have p3:∀ (x:Int) (b:Bool),dE x (if b then 1 else 0)=true:=fun x b=>m7 (by cases b<;>decide) (by cases b<;>decide);have q1:(0:Int)<10 ^ 60 * 10 ^ 60 * 10 ^ 60:=by decide
 obtain⟨c,ec⟩:∃ c:Int,sIf (kB<|ad vLt (oSl 1)<|oV<|ay vLen<|aa (oSl 0) aNil) (ao 2<|ad vIx (oSl 0)<|oSl 1) sNil [some (.fz<|ns.map .int),some<|iJ k,some<|iJ 0,none,none]=some (.nx,[some (.fz<|ns.map .int),some<|iJ k,some<|iJ c,none,none]):=by
  have kk:kB (ad vLt (oSl 1)<|oV<|ay vLen<|aa (oSl 0) aNil) [some (.fz<|ns.map .int),some<|iJ k,some<|iJ 0,none,none]=some (decide (k<((ns.map Im.int).length:Int)),[some (.fz<|ns.map .int),some<|iJ k,some<|iJ 0,none,none]):=FL (b_ rfl (v_<|EH (a_ rfl rfl) rfl rfl) rfl rfl rfl);rw[Z4] at kk;by_cases hl:k<(ns.length:Int)
  ·rw[Zr hl] at kk;have hj:k.toNat<ns.length:=by lia
   have LX:FR (ns.map Im.int) k=some (.int ns[k.toNat]):=m8 hk (by rw[Zq,ZL hj];rfl);have hv:vIx (.fz<|ns.map .int) (iJ k)=some (iJ ns[k.toNat]):=by
    show (FR (ns.map Im.int) k).map Vl.im=_;rw[LX];rfl
   exact⟨ns[k.toNat],dt kk<|aR (b_ rfl rfl rfl rfl hv) (ZM rfl) rfl⟩
  ·rw[Zs hl] at kk;exact⟨0,cb kk rfl⟩
 refine⟨_,?_,key c⟩;unfold gR rz;generalize ns.map Im.int=L at *;refine bn (D:=[some (.fz L),some<|iJ k,some<|iJ c,some<|iJ<|10 ^ 60 * 10 ^ 60 * 10 ^ 60,some<|iJ<|c % (10 ^ 60 * 10 ^ 60 * 10 ^ 60) * (if decide (10 ^ 18<=c) then 1 else 0)]) rfl (t_ (D1:=[some (.fz L),some<|iJ k,some<|iJ 0,none,none]) rfl (t_ ec (t_ (D1:=[some (.fz L),some<|iJ k,some<|iJ c,some<|iJ<|10 ^ 60 * 10 ^ 60 * 10 ^ 60,none]) (aR (b_ (v_<|b_ (v_<|b_ rfl rfl rfl rfl p0) (v_<|b_ rfl rfl rfl rfl p0) rfl rfl<|df p1) (v_<|b_ rfl rfl rfl rfl p0) rfl rfl<|df p2) (ZM rfl) rfl) (t_ (aR (b_ (v_<|b_ rfl rfl rfl rfl<|d6 q1) (v_<|EH (a_ (v_<|b_ rfl (v_<|b_ rfl rfl rfl rfl p9) rfl rfl rfl) rfl) rfl rfl) rfl rfl<|df<|p3 _ _) (ZM rfl) rfl) (bz (Km (a_ rfl (a_ (v_ (b_ (v_ (b_ (v_ (b_ rfl rfl rfl rfl (d6 (by decide)))) (v_ (b_ rfl rfl rfl rfl (df (fm (by decide) (by decide))))) rfl rfl rfl)) rfl rfl rfl rfl))<|a_ rfl rfl)) rfl (ZM rfl) rfl)))))) rfl
theorem jd(x:aW (n+1) h)(h0:xs≠[])(h1:xs.length<1073741824):∃ d h',bU [h,.lst xs]=some (.im d,[h',.lst xs])/\d∈xs/\aW n h':=by
 have hl:0<xs.length:=WO.mpr h0;obtain⟨v,h',e,e1,e2,e3⟩:=fq (m:=xs.length) x (by omega) (by omega);obtain⟨d,hd⟩:∃ d,xs[v.toNat]?=some d:=⟨xs[v.toNat]'(by omega),by simp⟩;have LX:FR xs v=some d:=m8 e1 hd;obtain⟨q,rfl⟩:=bi x;obtain⟨q',rfl⟩:=bi e3;refine⟨d,.lst q',?_,YX hd,e3⟩;have hv:vIx (.lst xs) (iJ v)=some (.im d):=by
  show (FR xs v).map Vl.im=_;rw[LX];rfl
 unfold bU mS;exact bn (D:=[some (.lst q'),some<|.lst xs]) rfl (bz<|b_ rfl (v_<|d_ (os:=[.sl 0,.vl<|iJ xs.length]) (a_ rfl<|a_ (v_<|EH (a_ rfl rfl) rfl rfl) rfl) rfl rfl e rfl) rfl rfl hv) rfl
theorem EC{m:Nat}(h:Nat.ble (n+1) m=true):n<m:=ZM h
abbrev bV(b:Bool):Vl:=.im (.bl b)
def aN(ks:List (Int×Int))(c:Int×Int):List (Int×Int):=if c∈ks then ks else ks++[c]
theorem kH(ks:List (Int×Int))(c:Int×Int):dk (mt ks) (kM c) (.bl true)=mt (aN ks c):=by
 unfold aN;by_cases h:c∈ks
 ·rw[ZZ h];unfold dk;rw[ZZ (by rw[nh];simpa using h)];unfold mt;rw[YV];refine XW fun x _=>?_;show (if kM x=kM c then (kM x,Im.bl true) else (kM x,Im.bl true))=_;split<;>rfl
 ·rw[ZW h];exact AQ h
structure GJ(hg wd tp sd:Int)(ks:List (Int×Int)):Prop where
 nd:ks.Nodup
 HW:∀ c∈ks,tp<=c.1/\c.1<tp+hg/\sd<=c.2/\c.2<sd+wd
theorem GJ.add(R:GJ hg wd tp sd ks){r c:Int}(r0:0<=r)(r1:r<hg)(c0:0<=c)(c1:c<wd):GJ hg wd tp sd (aN ks (r+tp,c+sd)):=by
 unfold aN;split
 ·exact R
 ·next h=>
  refine⟨ZP.mpr ⟨R.nd,ZB _ _,fun a ha b hb e=>h (by rw[<- ZX.mp hb,<- e];exact ha)⟩,fun x hx=>?_⟩;rcases ZD.mp hx with hx | hx
  ·exact R.HW x hx
  ·rw[ZX.mp hx];dsimp only;lia
theorem GJ.len(R:GJ hg wd tp sd ks)(h1:hg<=12)(h2:wd<=12):ks.length<=144:=by
 have n1:(ks.map fun c=>((c.1 - tp) * 12+(c.2 - sd)).toNat).Nodup:=by
  refine Xo.mpr (List.Pairwise.imp_of_mem (fun {a b} ha hb ne e=>ne ?_) R.nd);have i1:=R.HW a ha;have i2:=R.HW b hb;have:a.1=b.1/\a.2=b.2:=by lia
  exact V4 this.1 this.2
 have q:=qI (m:=range 144) n1 fun x hx=>by
  obtain⟨c,hc,rfl⟩:=Zi.mp hx;have i1:=R.HW c hc;rw[Zp];lia
 rwa [Z4,Y5] at q
theorem tm{c:Int}(h4:D[4]?=some (some<|iI tp))(h5:D[5]?=some (some<|iI sd))(h7:D[7]?=some (some<|.dT<|mt ks))(h8:D[8]?=some (some<|iI r))(h9:D[9]?=some (some<|iI c))(hl:ks.length<100000):
  b7 (eC<|.bl true) (gIx 7 (aA<|aa (oV<|ad vAdd (oSl 8)<|oSl 4)<|aa (oV<|ad vAdd (oSl 9)<|oSl 5) aNil) putA) D=some (.nx,D.set 7<|some<|.dT<|mt<|aN ks (r+tp,c+sd)):=by
 have hp:putA (.dT<|mt ks) (.im<|.tup<|kM (r+tp,c+sd)) (bV true)=some (.dT<|mt<|aN ks (r+tp,c+sd)):=by
  rw[<- kH];exact ZZ ⟨rfl,by unfold mt;rw[Z4];exact hl⟩
 have s4:oSl 4 D=some (.sl 4,D):=by unfold oSl;rw[h4]
 have s5:oSl 5 D=some (.sl 5,D):=by unfold oSl;rw[h5]
 have s8:oSl 8 D=some (.sl 8,D):=by unfold oSl;rw[h8]
 have s9:oSl 9 D=some (.sl 9,D):=by unfold oSl;rw[h9]
 have r4:rsl D (.sl 4)=some (iI tp):=by show (D[4]?).getD none=_;rw[h4];rfl
 have r5:rsl D (.sl 5)=some (iI sd):=by show (D[5]?).getD none=_;rw[h5];rfl
 have r8:rsl D (.sl 8)=some (iI r):=by show (D[8]?).getD none=_;rw[h8];rfl
 have r9:rsl D (.sl 9)=some (iI c):=by show (D[9]?).getD none=_;rw[h9];rfl
 have t:aA (aa (oV<|ad vAdd (oSl 8)<|oSl 4)<|aa (oV<|ad vAdd (oSl 9)<|oSl 5) aNil) D=some (.im<|.tup<|kM (r+tp,c+sd),D):=
  Hr (a_ (v_<|b_ s8 s4 r8 r4 rfl)<|a_ (v_<|b_ s9 s5 r9 r5 rfl) rfl) rfl (ZM rfl) rfl;refine Kk rfl ?_;unfold gIx;rw[h7];show (aA _ D).bind _=_;rw[t];show (match D[7]? with | some (some c)=>_ | _=>none)=_;rw[h7];show (putA _ _ _).map _=_;rw[hp];rfl
theorem AU{c:Int}(H:aW (n+2) h)(w0:0<=way)(w1:way<6)(hw:0<wd)(hl:ks.length<100000):
  ∃ h' ET EU,ko [some h,o1,some<|iI hg,some<|iI wd,some<|iI tp,some<|iI sd,some<|iI way,some<|.dT<|mt ks,some<|iI r,some<|iI c,o10,o11,o12,o13]=some (.nx,[some h',o1,some<|iI hg,some<|iI wd,some<|iI tp,some<|iI sd,some<|iI way,some<|.dT<|mt EU,some<|iI r,some<|iI c,ET,o11,o12,o13])/\aW n h'/\(EU=ks\/EU=aN ks (r+tp,c+sd)):=by
 obtain⟨v1,h1,e1,_,_,H1⟩:=fq (n:=n+1) (m:=2) H (by decide) (by decide);obtain⟨v2,h2,e2,_,_,H2⟩:=fq (n:=n) (m:=6) H1 (by decide) (by decide);obtain⟨q,rfl⟩:=bi H;obtain⟨q1,rfl⟩:=bi H1;obtain⟨q2,rfl⟩:=bi H2;obtain⟨b3,RW⟩:∃ b3:Bool,eB (kOr (kB<|ad vEq (oV<|ad vMod (oSl 8)<|oV<|eC<|.int 2)<|oV<|eC<|.int 0)<|kB<|ad vEq (oSl 9)<|oV<|ad vMod (oV<|ad vDiv (oSl 8)<|oV<|eC<|.int 2)<|oSl 3) [some (.lst q2),o1,some<|iI hg,some<|iI wd,some<|iI tp,some<|iI sd,some<|iI way,some<|.dT<|mt ks,some<|iI r,some<|iI c,some<|.lst [.bl (decide (v1=0)),.bl<|decide (0<v2),.bl true],o11,o12,o13]=some (bV b3,[some (.lst q2),o1,some<|iI hg,some<|iI wd,some<|iI tp,some<|iI sd,some<|iI way,some<|.dT<|mt ks,some<|iI r,some<|iI c,some<|.lst [.bl (decide (v1=0)),.bl<|decide (0<v2),.bl true],o11,o12,o13]):=by
  have z1:kB (ad vEq (oV<|ad vMod (oSl 8)<|oV<|eC<|.int 2)<|oV<|eC<|.int 0) [some (.lst q2),o1,some<|iI hg,some<|iI wd,some<|iI tp,some<|iI sd,some<|iI way,some<|.dT<|mt ks,some<|iI r,some<|iI c,some<|.lst [.bl (decide (v1=0)),.bl<|decide (0<v2),.bl true],o11,o12,o13]=some (decide (r % 2=0),_):=FL (b_ (v_ (b_ rfl rfl rfl rfl (d6 (by decide)))) rfl rfl rfl<|gX _ _);cases hb:decide (r % 2=0) with
  | true=>rw[hb] at z1;exact⟨true,Na<|sZ z1⟩
  | false=>rw[hb] at z1;exact⟨_,Na (ni z1 (FL (b_ rfl (v_ (b_ (v_ (b_ rfl rfl rfl rfl (jb (by decide) (by decide)))) rfl rfl rfl<|d6 hw)) rfl rfl<|gX _ _)))⟩
 obtain⟨b4,RX⟩:∃ b4:Bool,eB (kOr (kB<|ad vIn (oSl 8)<|oV<|aA<|aa (oV<|eC<|.int 0)<|aa (oV<|ad vSub (oSl 2)<|oV<|eC<|.int 1) aNil)<|kB<|ad vIn (oSl 9)<|oV<|aA<|aa (oV<|eC<|.int 0)<|aa (oV<|ad vSub (oSl 3)<|oV<|eC<|.int 1) aNil) [some (.lst q2),o1,some<|iI hg,some<|iI wd,some<|iI tp,some<|iI sd,some<|iI way,some<|.dT<|mt ks,some<|iI r,some<|iI c,some<|.lst [.bl (decide (v1=0)),.bl<|decide (0<v2),.bl true,.bl b3],o11,o12,o13]=some (bV b4,[some (.lst q2),o1,some<|iI hg,some<|iI wd,some<|iI tp,some<|iI sd,some<|iI way,some<|.dT<|mt ks,some<|iI r,some<|iI c,some<|.lst [.bl (decide (v1=0)),.bl<|decide (0<v2),.bl true,.bl b3],o11,o12,o13]):=by
  obtain⟨x,hx⟩:∃ x:Bool,vIn (iI r) (.im<|.tup [.int 0,.int<|hg - 1])=some (bV x):=⟨_,rfl⟩;obtain⟨y,hy⟩:∃ y:Bool,vIn (iI c) (.im<|.tup [.int 0,.int<|wd - 1])=some (bV y):=⟨_,rfl⟩;cases x with
  | true=>exact⟨true,Na<|sZ<|FL<|b_ rfl (v_<|Hr (a_ rfl<|a_ (v_<|b_ rfl rfl rfl rfl rfl) rfl) rfl (ZM rfl) rfl) rfl rfl hx⟩
  | false=>exact⟨y,Na<|ni (FL<|b_ rfl (v_<|Hr (a_ rfl<|a_ (v_<|b_ rfl rfl rfl rfl rfl) rfl) rfl (ZM rfl) rfl) rfl rfl hx)<|FL<|b_ rfl (v_<|Hr (a_ rfl<|a_ (v_<|b_ rfl rfl rfl rfl rfl) rfl) rfl (ZM rfl) rfl) rfl rfl hy⟩
 obtain⟨b,hb⟩:∃ b:Bool,FR [Im.bl (decide (v1=0)),.bl<|decide (0<v2),.bl true,.bl b3,.bl b4,.bl false] way=some (.bl b):=by
  have:way=0\/way=1\/way=2\/way=3\/way=4\/way=5:=by lia
  rcases this with rfl | rfl | rfl | rfl | rfl | rfl<;>exact⟨_,rfl⟩
 have g2:vGt (iI v2) (iI 0)=some (bV<|decide (0<v2)):=rfl;have vi:vIx (.lst [.bl (decide (v1=0)),.bl<|decide (0<v2),.bl true,.bl b3,.bl b4,.bl false]) (iI way)=some (bV b):=congrArg (Option.map Vl.im) hb;unfold ko;have s1:ao 10 (a9<|aa (oV<|ad vEq (oV<|am 2 G.bJ<|aa (oSl 0)<|aa (oV<|eC<|.int 2) aNil)<|oV<|eC<|.int 0)<|aa (oV<|ad vGt (oV<|am 2 G.bJ<|aa (oSl 0)<|aa (oV<|eC<|.int 6) aNil)<|oV<|eC<|.int 0)<|aa (oV<|eC<|.bl true) aNil) [some (.lst q),o1,some<|iI hg,some<|iI wd,some<|iI tp,some<|iI sd,some<|iI way,some<|.dT<|mt ks,some<|iI r,some<|iI c,o10,o11,o12,o13]=some (.nx,[some (.lst q2),o1,some<|iI hg,some<|iI wd,some<|iI tp,some<|iI sd,some<|iI way,some<|.dT<|mt ks,some<|iI r,some<|iI c,some<|.lst [.bl (decide (v1=0)),.bl<|decide (0<v2),.bl true],o11,o12,o13]):=
  aR (Km (a_ (v_<|b_ (v_<|d_ (a_ rfl<|a_ rfl rfl) rfl rfl e1 rfl) rfl rfl rfl<|gX _ _)<|a_ (v_<|b_ (v_<|d_ (a_ rfl<|a_ rfl rfl) rfl rfl e2 rfl) rfl rfl rfl g2) rfl) rfl (ZM rfl) rfl) (EC rfl) rfl;have s2:dj (cu eg 10 mAppend<|aa (oV<|eB<|kOr (kB<|ad vEq (oV<|ad vMod (oSl 8)<|oV<|eC<|.int 2)<|oV<|eC<|.int 0)<|kB<|ad vEq (oSl 9)<|oV<|ad vMod (oV<|ad vDiv (oSl 8)<|oV<|eC<|.int 2)<|oSl 3) aNil) [some (.lst q2),o1,some<|iI hg,some<|iI wd,some<|iI tp,some<|iI sd,some<|iI way,some<|.dT<|mt ks,some<|iI r,some<|iI c,some<|.lst [.bl (decide (v1=0)),.bl<|decide (0<v2),.bl true],o11,o12,o13]=some (.nx,[some (.lst q2),o1,some<|iI hg,some<|iI wd,some<|iI tp,some<|iI sd,some<|iI way,some<|.dT<|mt ks,some<|iI r,some<|iI c,some<|.lst [.bl (decide (v1=0)),.bl<|decide (0<v2),.bl true,.bl b3],o11,o12,o13]):=
  KK (Kl rfl rfl (a_ (v_ RW) rfl) rfl rfl (Oz (by show 3<100000;decide)) rfl);have s3:ao 10 (ad vAdd (oSl 10)<|oV<|a9<|aa (oV<|eB<|kOr (kB<|ad vIn (oSl 8)<|oV<|aA<|aa (oV<|eC<|.int 0)<|aa (oV<|ad vSub (oSl 2)<|oV<|eC<|.int 1) aNil)<|kB<|ad vIn (oSl 9)<|oV<|aA<|aa (oV<|eC<|.int 0)<|aa (oV<|ad vSub (oSl 3)<|oV<|eC<|.int 1) aNil)<|aa (oV<|eC<|.bl false) aNil) [some (.lst q2),o1,some<|iI hg,some<|iI wd,some<|iI tp,some<|iI sd,some<|iI way,some<|.dT<|mt ks,some<|iI r,some<|iI c,some<|.lst [.bl (decide (v1=0)),.bl<|decide (0<v2),.bl true,.bl b3],o11,o12,o13]=some (.nx,[some (.lst q2),o1,some<|iI hg,some<|iI wd,some<|iI tp,some<|iI sd,some<|iI way,some<|.dT<|mt ks,some<|iI r,some<|iI c,some<|.lst [.bl (decide (v1=0)),.bl<|decide (0<v2),.bl true,.bl b3,.bl b4,.bl false],o11,o12,o13]):=
  aR (b_ rfl (v_<|Km (a_ (v_ RX) rfl) rfl (ZM rfl) rfl) rfl rfl rfl) (EC rfl) rfl;cases b with
 | true=>exact⟨.lst q2,_,aN ks (r+tp,c+sd),t_ s1<|t_ s2<|t_ s3<|dt (Ix (v_<|b_ rfl rfl rfl rfl vi) rfl rfl)<|(tm rfl rfl rfl rfl rfl hl).trans rfl,H2,.inr rfl⟩
 | false=>exact⟨.lst q2,_,ks,t_ s1<|t_ s2<|t_ s3<|cb (Ix (v_<|b_ rfl rfl rfl rfl vi) rfl rfl) rfl,H2,.inl rfl⟩
theorem ft{x:Opd}{b:Bool}(h1:g D=some (x,D1))(h2:rsl D1 x=some (.im<|.fn e)):dm e b g D=some (.im<|.bl b,D1):=by
 unfold dm;rw[h1];show (rsl D1 x).bind _=_;rw[h2];exact ZZ (Zr rfl)
theorem AV{x:Opd}(h1:g D=some (x,D1))(h2:rsl D1 x=some (.im<|.fn e)):iG e g D=some (.im<|.bl true,D1):=by
 unfold iG;rw[h1];show (rsl D1 x).bind _=_;rw[h2];exact ZZ (Zr rfl)
theorem AW(e:Addr):iW e [.im (.fn e)]=some (.im<|.str "NoFit",[.im (.fn e)]):=by
 unfold iW r6;refine bn (D:=[some (.im<|.fn e),some<|.lst [.bl false,.bl true,.bl false,.bl false,.bl false,.bl false,.bl false,.bl false],some<|.lst [.str "NoText",.str "NoFit",.str "TooMany",.str "Near",.str "NoBlocks",.str "NoBlock",.str "Here",.str "NoField"]]) rfl ?_ rfl;refine t_ (D1:=[some (.im<|.fn e),some<|.lst [.bl false,.bl true,.bl false],none]) (aR (Km (a_ (v_<|ft rfl rfl)<|a_ (v_<|ft rfl rfl)<|a_ (v_<|ft rfl rfl) rfl) rfl (ZM rfl) rfl) (EC rfl) rfl) ?_;refine t_ (D1:=[some (.im<|.fn e),some<|.lst [.bl false,.bl true,.bl false,.bl false],none]) (aR (b_ rfl (v_<|Km (a_ (v_<|ft rfl rfl) rfl) rfl (ZM rfl) rfl) rfl rfl rfl) (EC rfl) rfl) ?_;refine t_ (D1:=[some (.im<|.fn e),some<|.lst [.bl false,.bl true,.bl false,.bl false,.bl false,.bl false,.bl false],none]) (aR (b_ rfl (v_<|Km (a_ (v_<|ft rfl rfl)<|a_ (v_<|ft rfl rfl)<|a_ (v_<|ft rfl rfl) rfl) rfl (ZM rfl) rfl) rfl rfl rfl) (EC rfl) rfl) ?_;refine t_ (D1:=[some (.im<|.fn e),some<|.lst [.bl false,.bl true,.bl false,.bl false,.bl false,.bl false,.bl false,.bl false],none]) (aR (b_ rfl (v_<|Km (a_ (v_<|ft rfl rfl) rfl) rfl (ZM rfl) rfl) rfl rfl rfl) (EC rfl) rfl) ?_;refine t_ (D1:=[some (.im<|.fn e),some<|.lst [.bl false,.bl true,.bl false,.bl false,.bl false,.bl false,.bl false,.bl false],some<|.lst [.str "NoText",.str "NoFit",.str "TooMany",.str "Near",.str "NoBlocks",.str "NoBlock",.str "Here",.str "NoField"]]) rfl ?_;refine t_ (cb (ni rfl<|OA<|Ix (v_<|AV rfl rfl) rfl rfl) rfl) (bz rfl)
theorem AX(D' D3:SD)(h:kC D'=some D3):5<D'.length/\∀ e,∃ D4,mZ e (D'.set 5<|some<|.im<|.fn e)=some (.nx,D4)/\D4.set 5 none=D3:=by
 unfold kC at h;split at h
 ·rename_i hl;cases h;refine⟨hl,fun e=>?_⟩;have hg:(D'.set 5<|some<|.im<|.fn e)[5]?=some (some<|.im<|.fn e):=by rw[Xt,ZZ rfl,ZZ hl]
  refine⟨(D'.set 5<|some<|.im<|.fn e).set 4<|some<|.im<|.tup [.str "NoFit",.i_],?_,?_⟩
  ·simp[mZ,hg,AW];omega
  ·rw[Wt _ _ (by decide:(5:Nat)≠4),Wf]
 ·cases h
theorem gY{i:Nat}{x:Im}(h:(bx 0 n)[i]?=some x):i<n/\x=.int (0+(i:Int)):=by
 have hi:i<n:=by
  have:=(Zz.mp h).1
  rwa [bx,Z4,Y5] at this
 rw[bx,Zq,List.getElem?_range hi] at h;exact⟨hi,(Zv h).symm⟩
theorem kJ(lo:Int)(n:Nat):(bx lo n).length=n:=by rw[bx,Z4,Y5]
theorem tq(n:Nat):bx 0 n=((range n).map fun (k:Nat)=>(k:Int)).map Im.int:=by
 rw[bx,YV];refine XW fun k _=>?_;show Im.int (0+(k:Int))=Im.int (k:Int);rw[Int.zero_add]
abbrev fD(h:Vl)(o1:Option Vl)(hg wd tp sd way:Int)(ks:List (Int×Int))(o8 o9 o10 o11 o12 o13:Option Vl):SD:=[some h,o1,some<|iI hg,some<|iI wd,some<|iI tp,some<|iI sd,some<|iI way,some<|.dT<|mt ks,o8,o9,o10,o11,o12,o13]
structure LY(hg wd way:Int):Prop where
 h0:0<hg
 h1:hg<=12
 w0:0<wd
 w1:wd<=12
 y0:0<=way
 y1:way<6
theorem AY{M:Nat}(H:aW (M+24) h)(d:LY hg wd way)(R:GJ hg wd tp sd ks)(r0:0<=r)(r1:r<hg):
  ∃ h' EU GK ET,kq (fD h o1 hg wd tp sd way ks (some<|iI r) o9 o10 o11 o12 o13)=some (.nx,fD h' o1 hg wd tp sd way EU (some<|iI r) GK ET o11 o12 o13)/\aW M h'/\GJ hg wd tp sd EU:=by
 have:=d.w0;have:=d.w1;obtain⟨D',l1,h',EU,GK,ET,rfl,l2,l3⟩:=gW (tg:=gN 9) (b:=ko) (xs:=bx 0 wd.toNat) (fun i D=>∃ h ks o9 o10,D=fD h o1 hg wd tp sd way ks (some<|iI r) o9 o10 o11 o12 o13/\aW (M+24 - 2 * i) h/\GJ hg wd tp sd ks) (D:=fD h o1 hg wd tp sd way ks (some<|iI r) o9 o10 o11 o12 o13)
  ⟨h,ks,o9,o10,rfl,H,R⟩ (fun i x D hx hI=>by
   obtain⟨h,ks,o9,o10,rfl,H,R⟩:=hI;obtain⟨hi,rfl⟩:=gY hx;have hl:=R.len d.h1 d.w1;obtain⟨h',ET,EU,e,H',k⟩:=AU (n:=M+24 - 2 * (i+1)) (hg:=hg) (tp:=tp) (sd:=sd) (r:=r) (c:=0+(i:Int)) (ks:=ks) (o1:=o1) (o10:=o10) (o11:=o11) (o12:=o12) (o13:=o13) (H.mono (by lia)) d.y0 d.y1 d.w0 (by lia);refine⟨_,_,_,rfl,e,.inl rfl,h',EU,_,ET,rfl,H',?_⟩;rcases k with rfl | rfl
   ·exact R
   ·exact R.add r0 r1 (by lia) (by lia))
 rw[kJ] at l2;refine⟨h',EU,GK,ET,du (o:=none) (Ju (a_ rfl rfl) rfl ⟨by lia,by lia⟩) l1 rfl,l2.mono (by lia),l3⟩
theorem AZ{M:Nat}(H:aW (M+300) h)(d:LY hg wd way):
  ∃ h' EU IV GK ET,bC (iR1<|aa (oSl 2) aNil) (gN 8) G.kq (fD h o1 hg wd tp sd way [] o8 o9 o10 o11 o12 o13)=some (.nx,fD h' o1 hg wd tp sd way EU IV GK ET o11 o12 o13)/\aW M h'/\GJ hg wd tp sd EU:=by
 have:=d.h0;have:=d.h1;obtain⟨D',l1,h',EU,IV,GK,ET,rfl,l2,l3⟩:=gW (tg:=gN 8) (b:=kq) (xs:=bx 0 hg.toNat) (fun i D=>∃ h ks o8 o9 o10,D=fD h o1 hg wd tp sd way ks o8 o9 o10 o11 o12 o13/\aW (M+300 - 24 * i) h/\GJ hg wd tp sd ks) (D:=fD h o1 hg wd tp sd way [] o8 o9 o10 o11 o12 o13)
  ⟨h,[],o8,o9,o10,rfl,H,XA,fun _ h=>(W9 h).elim⟩ (fun i x D hx hI=>by
   obtain⟨h,ks,o8,o9,o10,rfl,H,R⟩:=hI;obtain⟨hi,rfl⟩:=gY hx;obtain⟨h',EU,GK,ET,e,H',R'⟩:=AY (M:=M+300 - 24 * (i+1)) (r:=0+(i:Int)) (o1:=o1) (o9:=o9) (o10:=o10) (o11:=o11) (o12:=o12) (o13:=o13) (H.mono (by lia)) d R (by lia) (by lia);exact⟨_,_,_,rfl,e,.inl rfl,h',EU,_,GK,ET,rfl,H',R'⟩)
 rw[kJ] at l2;exact⟨h',EU,IV,GK,ET,du (o:=none) (Ju (a_ rfl rfl) rfl ⟨by lia,by lia⟩) l1 rfl,l2.mono (by lia),l3⟩
theorem PU{x:Int}(h:0<m):0<=(if (if x > 0 then x else 0)<m - 1 then (if x > 0 then x else 0) else m - 1)/\(if (if x > 0 then x else 0)<m - 1 then (if x > 0 then x else 0) else m - 1)<m:=by
 split<;>split<;>lia
theorem A3{M:Nat}{c:Int}(H:aW (M+1) h)(d:LY hg wd way)(R:GJ hg wd tp sd ks)(r0:0<=r)(r1:r<hg)(c0:0<=c)(c1:c<wd):
  ∃ h' EU r' c' Fr Fs,iN (fD h o1 hg wd tp sd way ks (some<|iI r) (some<|iI c) o10 o11 o12 o13)=some (.nx,fD h' o1 hg wd tp sd way EU (some<|iI r') (some<|iI c') o10 o11 Fr Fs)/\aW M h'/\GJ hg wd tp sd EU/\0<=r'/\r'<hg/\0<=c'/\c'<wd:=by
 obtain⟨x,h',e,hx,H'⟩:=jd (n:=M) (xs:=[cM (1,0),cM (0,1),cM (0,1),cM (-1,0),cM (0,-1),cM (1,0)]) H (by simp) (by decide);obtain⟨dn,rt,rfl⟩:∃ dn rt:Int,x=cM (dn,rt):=by
  simp at hx;rcases hx with rfl | rfl | rfl | rfl | rfl<;>exact⟨_,_,rfl⟩
 obtain⟨q,rfl⟩:=bi H;obtain⟨q1,rfl⟩:=bi H';have hl:=R.len d.h1 d.w1;obtain⟨a1,a2⟩:=PU (x:=r+dn) d.h0;obtain⟨b1,b2⟩:=PU (x:=c+rt) d.w0;refine⟨.lst q1,aN ks (r+tp,c+sd),_,_,some<|iI dn,some<|iI rt,?_,H',R.add r0 r1 c0 c1,a1,a2,b1,b2⟩;unfold iN;refine t_ ((tm rfl rfl rfl rfl rfl (by lia)).trans rfl) (t_ (D1:=fD (.lst q1) o1 hg wd tp sd way (aN ks (r+tp,c+sd)) (some<|iI r) (some<|iI c) o10 o11 (some<|iI dn) (some<|iI rt)) (Kk (d:=.im (cM (dn,rt))) (d_ (os:=[.sl 0,.vl<|.lst [cM (1,0),cM (0,1),cM (0,1),cM (-1,0),cM (0,-1),cM (1,0)]]) (D1:=fD (.lst q) o1 hg wd tp sd way (aN ks (r+tp,c+sd)) (some<|iI r) (some<|iI c) o10 o11 o12 o13) rfl rfl rfl e rfl) rfl)<|t_ (aR (EH (a_ (v_<|b_ rfl rfl rfl rfl rfl)<|a_ (v_<|EH (a_ rfl<|a_ (v_<|b_ rfl rfl rfl rfl rfl) rfl) rfl rfl) rfl) rfl rfl) (EC rfl) rfl)<|aR (EH (a_ (v_<|b_ rfl rfl rfl rfl rfl)<|a_ (v_<|EH (a_ rfl<|a_ (v_<|b_ rfl rfl rfl rfl rfl) rfl) rfl rfl) rfl) rfl rfl) (EC rfl) rfl)
theorem A4{M:Nat}(H:aW (M+40) h)(d:LY hg wd way)(R:GJ hg wd tp sd ks):
  ∃ h' EU IV GK GL Fr Fs,bC (iR1<|aa (oV<|ad vMul (oV<|eC<|.int 40)<|oV<|ay vInt<|aa (oV<|ad vEq (oSl 6)<|oV<|eC<|.int 5) aNil) aNil) (gN 11) G.iN (fD h o1 hg wd tp sd way ks (some<|iI 0) (some<|iI 0) o10 o11 o12 o13)=some (.nx,fD h' o1 hg wd tp sd way EU IV GK o10 GL Fr Fs)/\aW M h'/\GJ hg wd tp sd EU:=by
 obtain⟨k,hk,Gr⟩:∃ k:Int,ad vMul (oV<|eC<|.int 40) (oV<|ay vInt<|aa (oV<|ad vEq (oSl 6)<|oV<|eC<|.int 5) aNil) (fD h o1 hg wd tp sd way ks (some<|iI 0) (some<|iI 0) o10 o11 o12 o13)=some (iI k,fD h o1 hg wd tp sd way ks (some<|iI 0) (some<|iI 0) o10 o11 o12 o13)/\0<=k/\k<=40:=by
  have z:ay vInt (aa (oV<|ad vEq (oSl 6)<|oV<|eC<|.int 5) aNil) (fD h o1 hg wd tp sd way ks (some<|iI 0) (some<|iI 0) o10 o11 o12 o13)=some (iI<|if decide (way=5) then 1 else 0,fD h o1 hg wd tp sd way ks (some<|iI 0) (some<|iI 0) o10 o11 o12 o13):=EH (a_ (v_<|b_ rfl rfl rfl rfl<|gX _ _) rfl) rfl rfl;refine⟨_,b_ rfl (v_ z) rfl rfl (df (fm (by decide) (by decide))),?_⟩;cases decide (way=5)<;>decide
 obtain⟨D',l1,h',EU,r',c',GL,Fr,Fs,rfl,l2,l3,_⟩:=gW (tg:=gN 11) (b:=iN) (xs:=bx 0 k.toNat) (fun i D=>∃ h ks r c o11 o12 o13,D=fD h o1 hg wd tp sd way ks (some<|iI r) (some<|iI c) o10 o11 o12 o13/\aW (M+40 - i) h/\GJ hg wd tp sd ks/\0<=r/\r<hg/\0<=c/\c<wd) (D:=fD h o1 hg wd tp sd way ks (some<|iI 0) (some<|iI 0) o10 o11 o12 o13)
  ⟨h,ks,0,0,o11,o12,o13,rfl,H,R,XI _,d.h0,XI _,d.w0⟩ (fun i x D hx hI=>by
   obtain⟨h,ks,r,c,o11,o12,o13,rfl,H,R,q1,q2,q3,q4⟩:=hI;obtain⟨hi,rfl⟩:=gY hx;obtain⟨h',EU,r',c',Fr,Fs,e,H',R',z⟩:=A3 (M:=M+40 - (i+1)) (o1:=o1) (o10:=o10) (o11:=some (iI<|0+(i:Int))) (o12:=o12) (o13:=o13) (H.mono (by lia)) d R q1 q2 q3 q4;exact⟨_,_,_,rfl,e,.inl rfl,h',EU,r',c',_,Fr,Fs,rfl,H',R',z⟩)
 rw[kJ] at l2;exact⟨h',EU,_,_,GL,Fr,Fs,du (o:=none) (Ju (a_ (v_ hk) rfl) rfl ⟨by lia,by lia⟩) l1 rfl,l2.mono (by lia),l3⟩
def Up(cs:List (Int×Int)):Prop:=cs.Pairwise fun a b=>C_ (cM a) (cM b)=true
theorem nq(nd:ks.Nodup)(hl:ks.length<=1000):∃ cs:List (Int×Int),da C_ (ks.map cM)=cs.map cM/\cs.Perm ks/\Up cs:=by
 have o:=ja nd hl;obtain⟨cs,h1,h2⟩:=sX (fU<|ks.map cM);refine⟨cs,h2,h1,?_⟩;have:=kl o.ord.nd o.ord.Gm;rw[h2] at this;exact Xo.mp this
structure Kn(cs:List (Int×Int)):Prop where
 up:Up cs
 HW:∀ c∈cs,0<=c.1/\c.1<=30/\0<=c.2/\c.2<=30
 len:cs.length<=144
theorem A5{M:Nat}(H:aW (M+400) h):∃ cs h',iO [h]=some (cT cs,[h'])/\Kn cs/\aW M h':=by
 obtain⟨v0,h0,e0,_,_,H0⟩:=fq (n:=M+399) (m:=8) H (by decide) (by decide);obtain⟨ms,RY,PV,SF⟩:∃ ms:Int,(if decide (v0=0) then 12 else 8)=ms/\0<ms/\ms<=12:=by
  cases decide (v0=0)
  ·exact⟨8,rfl,by decide,by decide⟩
  ·exact⟨12,rfl,by decide,by decide⟩
 obtain⟨v1,h1,e1,a1,b1,H1⟩:=fq (n:=M+398) (m:=ms) H0 PV (by lia);obtain⟨v2,h2,e2,a2,b2,H2⟩:=fq (n:=M+397) (m:=ms) H1 PV (by lia);obtain⟨x3,h3,e3,i3,H3⟩:=jd (n:=M+396) (xs:=[.int 0,.int 0,.int 1,.int<|31 - (1+v1)]) H2 (by simp) (by simp);obtain⟨x4,h4,e4,i4,H4⟩:=jd (n:=M+395) (xs:=[.int 0,.int 0,.int 2,.int<|31 - (1+v2)]) H3 (by simp) (by simp);obtain⟨v5,h5,e5,a5,b5,H5⟩:=fq (n:=M+340) (m:=6) (H4.mono (by lia)) (by decide) (by decide);obtain⟨tp,rfl,t0,t1⟩:∃ tp:Int,x3=.int tp/\0<=tp/\tp+(1+v1)<=31:=by
  simp at i3;rcases i3 with rfl | rfl | rfl<;>exact⟨_,rfl,by lia,by lia⟩
 obtain⟨sd,rfl,s0,s1⟩:∃ sd:Int,x4=.int sd/\0<=sd/\sd+(1+v2)<=31:=by
  simp at i4;rcases i4 with rfl | rfl | rfl<;>exact⟨_,rfl,by lia,by lia⟩
 obtain⟨q,rfl⟩:=bi H;obtain⟨q0,rfl⟩:=bi H0;obtain⟨q1,rfl⟩:=bi H1;obtain⟨q2,rfl⟩:=bi H2;obtain⟨q3,rfl⟩:=bi H3;obtain⟨q4,rfl⟩:=bi H4;obtain⟨q5,rfl⟩:=bi H5;have d:LY (1+v1) (1+v2) v5:=⟨by lia,by lia,by lia,by lia,a5,b5⟩;obtain⟨h6,PX,o8,o9,o10,e6,H6,R6⟩:=AZ (M:=M+40) (tp:=tp) (sd:=sd) (o1:=some (iI ms)) (o8:=none) (o9:=none) (o10:=none) (o11:=none) (o12:=none) (o13:=none) (H5.mono (by lia)) d;obtain⟨h7,LZ,IV,GK,GL,Fr,Fs,e7,H7,R7⟩:=A4 (M:=M) (o1:=some (iI ms)) (o10:=o10) (o11:=none) (o12:=none) (o13:=none) H6 d R6;have hl:=R7.len d.h1 d.w1;obtain⟨cs,c1,c2,c3⟩:=nq R7.nd (by lia);obtain⟨q6,rfl⟩:=bi H6;obtain⟨q7,rfl⟩:=bi H7;refine⟨cs,.lst q7,?_,⟨c3,fun c hc=>?_,by rw[c2.length_eq];exact hl⟩,H7⟩
 ·have hs:DE [.dT (mt LZ)]=some (cL cs):=by
   show cX ((mt LZ).map fun p=>Im.tup p.1)=_;rw[AR];unfold cX;rw[ZZ (iK.mpr (ja R7.nd (by lia))),c1]
  unfold iO rB;have z0:kB (ad vEq (oV<|am 2 G.bJ<|aa (oSl 0)<|aa (oV<|eC<|.int 8) aNil)<|oV<|eC<|.int 0) [some (.lst q),some<|iI 8,none,none,none,none,none,none,none,none,none,none,none,none]=some (decide (v0=0),[some (.lst q0),some<|iI 8,none,none,none,none,none,none,none,none,none,none,none,none]):=FL (b_ (v_<|d_ (a_ rfl<|a_ rfl rfl) rfl rfl e0 rfl) rfl rfl rfl<|gX _ _);have z1:sIf (kB<|ad vEq (oV<|am 2 G.bJ<|aa (oSl 0)<|aa (oV<|eC<|.int 8) aNil)<|oV<|eC<|.int 0) (ao 1<|eC<|.int 12) sNil [some (.lst q),some<|iI 8,none,none,none,none,none,none,none,none,none,none,none,none]=some (.nx,[some (.lst q0),some<|iI ms,none,none,none,none,none,none,none,none,none,none,none,none]):=by
   rw[<- RY];cases hb:decide (v0=0) with
   | true=>rw[hb] at z0;exact dt z0 rfl
   | false=>rw[hb] at z0;exact cb z0 rfl
  have z2:ef 2 3 (aa (oV<|ad vAdd (oV<|eC<|.int 1)<|oV<|am 2 G.bJ<|aa (oSl 0)<|aa (oSl 1) aNil)<|aa (oV<|ad vAdd (oV<|eC<|.int 1)<|oV<|am 2 G.bJ<|aa (oSl 0)<|aa (oSl 1) aNil) aNil) [some (.lst q0),some<|iI ms,none,none,none,none,none,none,none,none,none,none,none,none]=some (.nx,[some (.lst q2),some<|iI ms,some<|iI<|1+v1,some<|iI<|1+v2,none,none,none,none,none,none,none,none,none,none]):=
   nk (a_ (v_<|b_ rfl (v_<|d_ (os:=[.sl 0,.sl 1]) rfl rfl rfl e1 rfl) rfl rfl rfl)<|a_ (v_<|b_ rfl (v_<|d_ (os:=[.sl 0,.sl 1]) rfl rfl rfl e2 rfl) rfl rfl rfl) rfl) rfl (EC rfl) (EC rfl) rfl;have z3:ef 4 5 (aa (oV<|am 2 G.bU<|aa (oSl 0)<|aa (oV<|a9<|aa (oV<|eC<|.int 0)<|aa (oV<|eC<|.int 0)<|aa (oV<|eC<|.int 1)<|aa (oV<|ad vSub (oV<|eC<|.int 31)<|oSl 2) aNil) aNil)<|aa (oV<|am 2 G.bU<|aa (oSl 0)<|aa (oV<|a9<|aa (oV<|eC<|.int 0)<|aa (oV<|eC<|.int 0)<|aa (oV<|eC<|.int 2)<|aa (oV<|ad vSub (oV<|eC<|.int 31)<|oSl 3) aNil) aNil) aNil) [some (.lst q2),some<|iI ms,some<|iI<|1+v1,some<|iI<|1+v2,none,none,none,none,none,none,none,none,none,none]=some (.nx,[some (.lst q4),some<|iI ms,some<|iI<|1+v1,some<|iI<|1+v2,some<|iI tp,some<|iI sd,none,none,none,none,none,none,none,none]):=
   nk (a_ (v_<|d_ (os:=[.sl 0,.vl<|.lst [.int 0,.int 0,.int 1,.int<|31 - (1+v1)]]) (D1:=[some (.lst q2),some<|iI ms,some<|iI<|1+v1,some<|iI<|1+v2,none,none,none,none,none,none,none,none,none,none]) rfl rfl rfl e3 rfl)<|a_ (v_<|d_ (os:=[.sl 0,.vl<|.lst [.int 0,.int 0,.int 2,.int<|31 - (1+v2)]]) (D1:=[some (.lst q3),some<|iI ms,some<|iI<|1+v1,some<|iI<|1+v2,none,none,none,none,none,none,none,none,none,none]) rfl rfl rfl e4 rfl) rfl) rfl (EC rfl) (EC rfl) rfl;have z4:ao 6 (am 2 G.bJ<|aa (oSl 0)<|aa (oV<|eC<|.int 6) aNil) [some (.lst q4),some<|iI ms,some<|iI<|1+v1,some<|iI<|1+v2,some<|iI tp,some<|iI sd,none,none,none,none,none,none,none,none]=some (.nx,[some (.lst q5),some<|iI ms,some<|iI<|1+v1,some<|iI<|1+v2,some<|iI tp,some<|iI sd,some<|iI v5,none,none,none,none,none,none,none]):=
   aR (d_ (os:=[.sl 0,.vl<|iI 6]) rfl rfl rfl e5 rfl) (EC rfl) rfl;have z5:ao 7 eDict0T [some (.lst q5),some<|iI ms,some<|iI<|1+v1,some<|iI<|1+v2,some<|iI tp,some<|iI sd,some<|iI v5,none,none,none,none,none,none,none]=some (.nx,fD (.lst q5) (some<|iI ms) (1+v1) (1+v2) tp sd v5 [] none none none none none none):=rfl;have z6:b7 (aA<|aa (oV<|eC<|.int 0)<|aa (oV<|eC<|.int 0) aNil) (gT 2<|cE (gN 8)<|cE (gN 9) gNil') (fD (.lst q6) (some<|iI ms) (1+v1) (1+v2) tp sd v5 PX o8 o9 o10 none none none)=some (.nx,fD (.lst q6) (some<|iI ms) (1+v1) (1+v2) tp sd v5 PX (some<|iI 0) (some<|iI 0) o10 none none none):=rfl;have z7:aI (ay vTuple<|aa (oV<|ay DE<|aa (oSl 7) aNil) aNil) (fD (.lst q7) (some<|iI ms) (1+v1) (1+v2) tp sd v5 LZ IV GK o10 GL Fr Fs)=some (.rt<|cT cs,fD (.lst q7) (some<|iI ms) (1+v1) (1+v2) tp sd v5 LZ IV GK o10 GL Fr Fs):=bz (EH (a_ (v_<|EH (a_ rfl rfl) rfl hs) rfl) rfl rfl);refine bn (D:=fD (.lst q7) (some<|iI ms) (1+v1) (1+v2) tp sd v5 LZ IV GK o10 GL Fr Fs) rfl ?_ rfl;refine t_ (D1:=[some (.lst q),some<|iI 8,none,none,none,none,none,none,none,none,none,none,none,none]) rfl ?_;exact t_ z1 (t_ z2<|t_ z3<|t_ z4<|t_ z5<|t_ e6<|t_ z6<|t_ e7 z7)
 ·have:=R7.HW c (c2.mem_iff.mp hc);lia
abbrev n_:=Int×Int
variable{f left h_ part cs:List n_}{p:List n_×List n_}{s x c:n_}
theorem nr(o0:Option Vl):∀ (cs ks:List n_) (o2:Option Vl),ks.length+cs.length<100000->∃ OC,bj (gN 2) iP (cs.map cM) [o0,some<|.dT<|mt ks,o2]=some (.nx,[o0,some<|.dT<|mt<|cs.foldl aN ks,OC])
 | [],ks,o2,_=>⟨o2,rfl⟩
 | c::cs,ks,o2,hl=>by
  have hp:putA (.dT<|mt ks) (.im<|.tup<|kM c) (bV true)=some (.dT<|mt<|aN ks c):=by
   rw[<- kH];exact ZZ ⟨rfl,by unfold mt;rw[Z4];rw[ZC] at hl;lia⟩
  have la:(aN ks c).length<=ks.length+1:=by
   unfold aN;split
   ·lia
   ·rw[ZH];exact ZR _
  obtain⟨OC,ih⟩:=nr o0 cs (aN ks c) (some<|.im<|cM c) (by rw[ZC] at hl;lia);refine⟨OC,?_⟩;have e:iP [o0,some<|.dT<|mt ks,some<|.im<|cM c]=some (.nx,[o0,some<|.dT<|mt<|aN ks c,some<|.im<|cM c]):=by
   unfold iP;refine Kk rfl ?_;show (putA (.dT<|mt ks) (.im<|.tup<|kM c)<|bV true).map _=_;rw[hp];rfl
  rw[ZF,bj];show (iP [o0,some<|.dT<|mt ks,some<|.im<|cM c]).bind _=_;rw[e];exact ih
theorem kK:∀ (cs ks:List n_),(ks++cs).Nodup->cs.foldl aN ks=ks++cs
 | [],ks,_=>by rw[ZY];rfl
 | c::cs,ks,nd=>by
  have hc:c∉ks:=fun h=>by
   have:=(ZP.mp nd).2.2 c h c (.head _);exact this rfl
  rw[YH,aN,ZW hc,kK cs (ks++[c]) (by rw[Z7];exact nd),Z7];rfl
theorem A6(nd:cs.Nodup)(hl:cs.length<10000):d0 [cT cs]=some (.dT<|mt cs,[cT cs]):=by
 obtain⟨o,lp⟩:=nr (some<|cT cs) cs [] none (by show 0+_ < _;lia);rw[kK cs [] nd] at lp;unfold d0 mT;refine bn (D:=[some (cT cs),some .jk,o]) rfl (t_ (D1:=[some (cT cs),some<|.dT [],none]) rfl<|t_ (du (o:=none) rfl lp rfl) rfl) rfl
theorem tu(nd:cs.Nodup)(hl:cs.length<10000):d0 [cL cs]=some (.dT<|mt cs,[cL cs]):=by
 obtain⟨o,lp⟩:=nr (some .jk) cs [] none (by show 0+_ < _;lia);rw[kK cs [] nd] at lp;unfold d0 mT;refine bn (D:=[some (cL cs),some .jk,o]) rfl (t_ (D1:=[some (cL cs),some<|.dT [],none]) rfl<|t_ (du (o:=some (0,cL cs)) (D1:=[some .jk,some<|.dT [],none]) rfl lp rfl) rfl) rfl
def He(c:n_):List n_:=[(c.1 - 1,c.2),(c.1,c.2 - 1),(c.1,c.2+1),(c.1+1,c.2)]
theorem A7(c:n_):ku [.im (cM c)]=some (cL<|He c,[.im (cM c)]):=rfl
def Eu(c:n_)(w:Int):List n_:=(range (w * w).toNat).map fun (k:Nat)=>(c.1+(k:Int) / w,c.2+(k:Int) % w)
def Fa(w:Int):Prop:=1<=w/\w<=6
theorem tw(c:n_){w:Int}(h:Fa w):fh [.im (cM c),iI w]=some (cL<|Eu c w,[.im (cM c),iI w]):=by
 have w1:=h.1;have w2:=h.2;have sq:w * w<=36:=by
  have:w=1\/w=2\/w=3\/w=4\/w=5\/w=6:=by lia
  rcases this with rfl | rfl | rfl | rfl | rfl | rfl<;>decide
 have SG:0<=w * w:=V8 (by lia) (by lia);have e:bx 0 (w * w).toNat=(range (w * w).toNat).map fun (k:Nat)=>.int (k:Int):=by rw[tq,YV];rfl
 unfold fh rC;refine bn (D:=[some (.im<|cM c),some<|iI w]) rfl (bz ?_) rfl;refine (HV (xs:=(range (w * w).toNat).map fun (k:Nat)=>.int (k:Int)) (o:=none) (D1:=[some (.im<|cM c),some<|iI w]) ?_ (fo (fun (k:Nat)=>.int (k:Int)) (fun (k:Nat)=>cM (c.1+(k:Int) / w,c.2+(k:Int) % w)) _ (fun k hk=>?_) ?_) rfl).trans ?_
 ·rw[<- e];exact Ju (a_ (v_ (b_ rfl rfl rfl rfl (df (fm (by lia) (by lia))))) rfl) rfl ⟨by lia,by lia⟩
 ·refine⟨[some (iI k),some<|.im<|cM c,some<|iI w],_,[some (iI k),some<|.im<|cM c,some<|iI w],rfl,rfl,?_,rfl⟩;exact Hr (a_ (v_ (b_ (v_<|b_ (d:=iI c.1) rfl rfl rfl rfl rfl) (v_ (b_ rfl rfl rfl rfl (jb (by lia) (by lia)))) rfl rfl rfl)) (a_ (v_ (b_ (v_<|b_ (d:=iI c.2) rfl rfl rfl rfl rfl) (v_ (b_ rfl rfl rfl rfl (d6 (by lia)))) rfl rfl rfl)) rfl)) rfl (ZM rfl) rfl
 ·rw[Y5];lia
 ·unfold Eu cL;rw[YV];rfl
def Eb(c:n_)(w:Int)(n:Nat):List n_:=(range n).flatMap fun (d:Nat)=>(range w.toNat).map fun (r:Nat)=>(c.1+(d:Int),c.2+(r:Int))
theorem je(c:n_)(w:Int):∀ n,(Eb c w n).length=n * w.toNat
 | 0=>by rw[Nat.zero_mul];rfl
 | n+1=>by
  unfold Eb;rw[List.range_succ,List.flatMap_append,ZH];show (Eb c w n).length+_=_;rw[je c w n,List.flatMap_cons,List.flatMap_nil,ZY,Z4,Y5,Nat.add_mul,Nat.one_mul]
theorem tz(c:n_){w:Int}(h:Fa w):en [.im (cM c),iI w]=some (cL<|Eb c w w.toNat,[.im (cM c),iI w]):=by
 have w1:=h.1;have w2:=h.2;obtain⟨D',l1,o3,rfl⟩:=gW (tg:=gN 3) (b:=mX) (xs:=bx 0 w.toNat) (fun i D=>∃ o3,D=[some (.im<|cM c),some<|iI w,some<|cL<|Eb c w i,o3]) (D:=[some (.im<|cM c),some<|iI w,some<|.lst [],none]) ⟨none,rfl⟩ (fun i x D hx hI=>by
  obtain⟨o3,rfl⟩:=hI;obtain⟨hi,rfl⟩:=gY hx;refine⟨[some (.im<|cM c),some<|iI w,some<|cL<|Eb c w i,some<|iI<|0+(i:Int)],_,_,rfl,?_,.inl rfl,some<|iI<|0+(i:Int),rfl⟩;have e:bx 0 w.toNat=(range w.toNat).map fun (k:Nat)=>.int (k:Int):=by rw[tq,YV];rfl
  have ec:aV 1 [0,3] (iR1<|aa (oSl 1) aNil) (gN 0) kYes G.rO [some (.im<|cM c),some<|iI w,some<|cL<|Eb c w i,some<|iI<|0+(i:Int)]=some (cL<|(range w.toNat).map fun (r:Nat)=>(c.1+(i:Int),c.2+(r:Int)),[some (.im<|cM c),some<|iI w,some<|cL<|Eb c w i,some<|iI<|0+(i:Int)]):=by
   refine (HV (xs:=(range w.toNat).map fun (k:Nat)=>.int (k:Int)) (o:=none) (D1:=[some (.im<|cM c),some<|iI w,some<|cL<|Eb c w i,some<|iI<|0+(i:Int)]) ?_ (fo (fun (k:Nat)=>.int (k:Int)) (fun (k:Nat)=>cM (c.1+(i:Int),c.2+(k:Int))) _ (fun k hk=>?_) ?_) rfl).trans ?_
   ·rw[<- e];exact Ju (a_ rfl rfl) rfl ⟨by lia,by lia⟩
   ·refine⟨[some (iI k),some<|.im<|cM c,some<|iI<|0+(i:Int)],_,[some (iI k),some<|.im<|cM c,some<|iI<|0+(i:Int)],rfl,rfl,?_,rfl⟩;rw[show (0:Int)+(i:Int)=(i:Int) from Int.zero_add _];exact Hr (a_ (v_<|b_ (v_<|b_ (d:=iI c.1) rfl rfl rfl rfl rfl) rfl rfl rfl rfl)<|a_ (v_<|b_ (v_<|b_ (d:=iI c.2) rfl rfl rfl rfl rfl) rfl rfl rfl rfl) rfl) rfl (ZM rfl) rfl
   ·rw[Y5];lia
   ·unfold cL;rw[YV];rfl
  have hx:mExtend (cL<|Eb c w i) [cL ((range w.toNat).map fun (r:Nat)=>(c.1+(i:Int),c.2+(r:Int)))]=some (.im .i_,cL<|Eb c w<|i+1):=by
   have hl:=je c w i;have SH:i * w.toNat<=36:=Zo (Nat.mul_le_mul (show i<=6 by lia) (show w.toNat<=6 by lia)) (by decide);have e2:Eb c w (i+1)=Eb c w i++(range w.toNat).map fun (r:Nat)=>(c.1+(i:Int),c.2+(r:Int)):=by
    unfold Eb;rw[List.range_succ,List.flatMap_append,List.flatMap_cons,List.flatMap_nil,ZY]
   show (if ((Eb c w i).map cM).length+(((range w.toNat).map fun (r:Nat)=>(c.1+(i:Int),c.2+(r:Int))).map cM).length<=100000 then some (Vl.im .i_,Vl.lst<|_++_) else none)=_;rw[ZZ (by rw[Z4,Z4,hl,Z4,Y5];lia),e2,<- Y7]
  unfold mX;exact KK (Kl rfl rfl (a_ (v_ ec) rfl) rfl rfl hx rfl))
 rw[kJ] at *;unfold en rP;exact bn (D:=[some (.im<|cM c),some<|iI w,some .jk,o3]) rfl (t_ (D1:=[some (.im<|cM c),some<|iI w,some<|.lst [],none]) rfl (t_ (du (o:=none) (Ju (a_ rfl rfl) rfl ⟨by lia,by lia⟩) l1 rfl) rfl)) rfl
def Nb(c:n_)(w:Int)(x:n_):Prop:=c.1<=x.1/\x.1<c.1+w/\c.2<=x.2/\x.2<c.2+w
theorem nt(h:Fa w){x:n_}:x∈Eu c w↔Nb c w x:=by
 have w1:=h.1;unfold Eu Nb;rw[Zi];constructor
 ·rintro⟨k,hk,rfl⟩;have HI:(k:Int)<w * w:=by have:=Zp.mp hk;lia
  have d1:=Xj (k:Int) w;have d2:=X3 (k:Int) (show w≠0 by lia);have d3:=X7 (k:Int) (show 0<w by lia);have d4:(k:Int) / w<w:=Int.ediv_lt_of_lt_mul (by lia) HI;have d5:0<=(k:Int) / w:=Int.ediv_nonneg (by lia) (by lia);dsimp only;lia
 ·rintro⟨a,b,d,e⟩;refine⟨((x.1 - c.1) * w+(x.2 - c.2)).toNat,?_,?_⟩
  ·rw[Zp];have:(x.1 - c.1) * w+(x.2 - c.2)<w * w:=by
    have:(x.1 - c.1+1) * w<=w * w:=Int.mul_le_mul_of_nonneg_right (by lia) (by lia);rw[Int.add_mul,Int.one_mul] at this;lia
   have:0<=(x.1 - c.1) * w:=V8 (by lia) (by lia);lia
  ·have p0:0<=(x.1 - c.1) * w:=V8 (by lia) (by lia);have e0:((((x.1 - c.1) * w+(x.2 - c.2)).toNat:Nat):Int)=(x.2 - c.2)+(x.1 - c.1) * w:=by lia
   rw[e0,Int.add_mul_ediv_right _ _ (by lia),Int.add_mul_emod_self_right,Int.ediv_eq_zero_of_lt (by lia) (by lia),Int.emod_eq_of_lt (by lia) (by lia)];refine V4 ?_ ?_
   ·show c.1+(0+(x.1 - c.1))=x.1;lia
   ·show c.2+(x.2 - c.2)=x.2;lia
theorem nu(h:Fa w){x:n_}:x∈Eb c w w.toNat↔Nb c w x:=by
 have w1:=h.1;unfold Eb Nb;rw[List.mem_flatMap];constructor
 ·rintro⟨d,hd,hx⟩;obtain⟨r,hr,rfl⟩:=Zi.mp hx;have:=Zp.mp hd;have:=Zp.mp hr;dsimp only;lia
 ·rintro⟨a,b,d,e⟩;refine⟨(x.1 - c.1).toNat,Zp.mpr (by lia),Zi.mpr ⟨(x.2 - c.2).toNat,Zp.mpr (by lia),V4 ?_ ?_⟩⟩
  ·show c.1+(((x.1 - c.1).toNat:Nat):Int)=x.1;lia
  ·show c.2+(((x.2 - c.2).toNat:Nat):Int)=x.2;lia
def bh(cs:List n_)(w:Int)(c:n_):Bool:=(Eu c w).all fun x=>decide (x∈cs)
theorem A8(h:Fa w)(c:n_):((Eb c w w.toNat).all fun x=>decide (x∈cs))=bh cs w c:=by
 unfold bh;rw[XO,Zn,Zn];constructor
 ·intro z x hx;exact z x ((nu h).mpr<|(nt h).mp hx)
 ·intro z x hx;exact z x ((nt h).mpr<|(nu h).mp hx)
theorem jf(ks:List n_)(c:n_):vIn (.im<|cM c) (.dT<|mt ks)=some (bV<|decide (c∈ks)):=by
 rw[<- AO];rfl
theorem OD{α:Type}(f:α->Bool):∀ xs:List α,bls (xs.map fun r=>.bl<|f r)=some (xs.map f)
 | []=>rfl
 | x::r=>by rw[ZF,bls,OD f r];rfl
theorem tB(f:α->Bool)(xs:List α):vAll [.lst (xs.map fun r=>.bl<|f r)]=some (bV<|xs.all f):=by
 show (bls _).map _=_;rw[OD,WR,XF];rfl
theorem A9(f:α->Bool)(xs:List α):vAny [.lst (xs.map fun r=>.bl<|f r)]=some (bV<|xs.any f):=by
 show (bls _).map _=_;rw[OD,WR,V3];rfl
theorem tD(a b:Int×Int):b9 6 (cM a) (cM b)=true:=rfl
def RI:Im->Bool
 | .int i=>decide (0<=i) && decide (i<31)
 | _=>false
theorem Ba{a b c:Int×Int}(h1:C_ (cM a) (cM b)=true)(h2:C_ (cM b) (cM c)=true):C_ (cM a) (cM c)=true:=ki (tD a b) (tD b c) h1 h2
theorem gZ{cs:List (Int×Int)}(h:Up cs):cs.Nodup:=h.imp fun {a b} e z=>by rw[z,kh] at e;cases e
theorem Nc{g:M Vl}{d:Vl}(e:g D=some (d,D1))(k:dD d=some xs):aX (oV g) D=some ((xs,none),D1):=by
 unfold aX;rw[v_ e];show (dD d).map _=_;rw[k];rfl
theorem Bb{o:Option Vl}(h:Fa w)(e:D=[some (.im<|cM c),some<|iI w,some<|.dT<|mt cs]):mU D=some (bh cs w c,D):=by
 subst e;have RZ:(Eu c w).length<=100:=by
  unfold Eu;rw[Z4,Y5];have:w=1\/w=2\/w=3\/w=4\/w=5\/w=6:=by have:=h.1;have:=h.2;lia
  rcases this with rfl | rfl | rfl | rfl | rfl | rfl<;>decide
 have c1:aV 1 [2] (aX<|oV<|am 2 G.fh<|aa (oSl 0)<|aa (oSl 1) aNil) (gN 0) kYes G.rE [some (.im<|cM c),some<|iI w,some<|.dT<|mt cs]=some (.lst<|(Eu c w).map fun x=>.bl<|decide (x∈cs),[some (.im<|cM c),some<|iI w,some<|.dT<|mt cs]):=by
  refine HV (xs:=(Eu c w).map cM) (o:=none) (D1:=[some (.im<|cM c),some<|iI w,some<|.dT<|mt cs]) ?_ (fo cM (fun x=>.bl<|decide (x∈cs)) _ (fun x hx=>?_) (by lia)) rfl
  ·exact Nc (d_ (a_ rfl<|a_ rfl rfl) rfl rfl (tw c h) rfl) rfl
  ·exact⟨[some (.im<|cM x),some<|.dT<|mt cs],_,[some (.im<|cM x),some<|.dT<|mt cs],rfl,rfl,b_ rfl rfl rfl rfl<|jf cs x,rfl⟩
 exact Ix (v_<|EH (a_ (v_ c1) rfl) rfl<|tB (fun x=>decide (x∈cs))<|Eu c w) rfl rfl
theorem Bc(nd:cs.Nodup)(hl:cs.length<10000)(h:Fa w):fi [cT cs,iI w]=some (.dT<|mt<|cs.filter<|bh cs w,[cT cs,iI w]):=by
 have c1:aV 1 [1,2] (aX<|oSl 0) (gN 0) G.mU G.rF [some (cT cs),some<|iI w,some<|.dT<|mt cs]=some (cL<|cs.filter<|bh cs w,[some (cT cs),some<|iI w,some<|.dT<|mt cs]):=by
  refine HV (xs:=cs.map cM) (o:=none) (D1:=[some (cT cs),some<|iI w,some<|.dT<|mt cs]) rfl (fY cM (bh cs w) cM _ [] (fun x hx=>?_) (by rw[Yy];lia)) rfl;refine⟨[some (.im<|cM x),some<|iI w,some<|.dT<|mt cs],_,rfl,Bb (o:=none) h rfl,fun _=>rfl,fun _=>⟨_,rfl,rfl⟩⟩
 have Ip:=nd.filter (bh cs w);have Ij:(cs.filter<|bh cs w).length<10000:=WA (Y8 _ _) hl;unfold fi rG;refine bn (D:=[some (cT cs),some<|iI w,some<|.dT<|mt cs]) rfl (t_ (D1:=[some (cT cs),some<|iI w,some<|.dT<|mt cs]) (aR (d_ (a_ rfl rfl) rfl rfl (A6 nd hl) rfl) (EC rfl) rfl) ?_) rfl;exact bz (d_ (a_ (v_ c1) rfl) rfl rfl (tu Ip Ij) rfl)
theorem Bd(h:Fa w):iS [.dT (mt cs),iI w,.im<|cM c]=some (bV<|bh cs w c,[.dT (mt cs),iI w,.im<|cM c]):=by
 have RZ:(Eb c w w.toNat).length<=100:=by
  rw[je];have w2:=h.2;exact Zo (Nat.mul_le_mul (show w.toNat<=6 by lia) (show w.toNat<=6 by lia)) (by decide)
 have c1:aV 1 [0] (aX<|oV<|am 2 G.en<|aa (oSl 2)<|aa (oSl 1) aNil) (gN 0) kYes G.rQ [some (.dT<|mt cs),some<|iI w,some<|.im<|cM c]=some (.lst<|(Eb c w w.toNat).map fun x=>.bl<|decide (x∈cs),[some (.dT<|mt cs),some<|iI w,some<|.im<|cM c]):=by
  refine HV (xs:=(Eb c w w.toNat).map cM) (o:=none) (D1:=[some (.dT<|mt cs),some<|iI w,some<|.im<|cM c]) ?_ (fo cM (fun x=>.bl<|decide (x∈cs)) _ (fun x hx=>?_) (by lia)) rfl
  ·exact Nc (d_ (a_ rfl<|a_ rfl rfl) rfl rfl (tz c h) rfl) rfl
  ·exact⟨[some (.im<|cM x),some<|.dT<|mt cs],_,[some (.im<|cM x),some<|.dT<|mt cs],rfl,rfl,b_ rfl rfl rfl rfl<|jf cs x,rfl⟩
 unfold iS rR;refine bn (D:=[some (.dT<|mt cs),some<|iI w,some<|.im<|cM c]) rfl (bz ?_) rfl;rw[<- A8 h];exact EH (a_ (v_ c1) rfl) rfl (tB (fun x=>decide (x∈cs)) _)
theorem tE:∀ cs:List n_,GH (cs.map fun c=>.tup [cM c,.bl true])=some (cs.map fun c=>(kM c,.bl true))
 | []=>rfl
 | c::r=>by
  rw[ZF];show (GH _).map _=_;rw[tE r];rfl
theorem nz:∀ (cs ks:List n_),(cs.map fun c=>(kM c,Im.bl true)).foldl (fun a p=>dk a p.1 p.2) (mt ks)=mt (cs.foldl aN ks)
 | [],ks=>rfl
 | c::cs,ks=>by
  rw[ZF,YH,YH,kH,nz]
theorem tF(nd:cs.Nodup)(hl:cs.length<=1000):vDict [.lst (cs.map fun c=>.tup [cM c,.bl true])]=some (.dT<|mt cs):=by
 show (GH _).bind _=_;rw[tE];refine (ZZ ⟨?_,by rw[Z4];exact hl⟩).trans ?_
 rotate_left
 ·rw[XF];exact Zn.mpr fun c _=>rfl
 ·show some (Vl.dT<|(cs.map fun c=>(kM c,Im.bl true)).foldl (fun a p=>dk a p.1 p.2)<|mt [])=_;rw[nz,kK cs [] nd];rfl
theorem tJ(nd:cs.Nodup)(hl:cs.length<=1000)(h:Fa w):fj [cT cs,iI w]=some (cT<|cs.filter<|bh cs w,[cT cs,iI w]):=by
 have c0:aV 1 [] (aX<|oSl 0) (gN 0) kYes G.rS [some (cT cs),some<|iI w,none]=some (.lst<|cs.map fun c=>.tup [cM c,.bl true],[some (cT cs),some<|iI w,none]):=by
  refine HV (xs:=cs.map cM) (o:=none) (D1:=[some (cT cs),some<|iI w,none]) rfl (fo cM (fun c=>.tup [cM c,.bl true]) _ (fun x hx=>?_) (by lia)) rfl;exact⟨[some (.im<|cM x)],_,[some (.im<|cM x)],rfl,rfl,Hr (a_ rfl<|a_ rfl rfl) rfl (ZM rfl) rfl,rfl⟩
 have c1:aV 1 [2,1] (aX<|oSl 0) (gN 0) G.rV G.rT [some (cT cs),some<|iI w,some<|.dT<|mt cs]=some (cL<|cs.filter<|bh cs w,[some (cT cs),some<|iI w,some<|.dT<|mt cs]):=by
  refine HV (xs:=cs.map cM) (o:=none) (D1:=[some (cT cs),some<|iI w,some<|.dT<|mt cs]) rfl (fY cM (bh cs w) cM _ [] (fun x hx=>?_) (by rw[Yy];lia)) rfl;refine⟨[some (.im<|cM x),some<|.dT<|mt cs,some<|iI w],[some (.im<|cM x),some<|.dT<|mt cs,some<|iI w],rfl,?_,fun _=>rfl,fun _=>⟨[some (.im<|cM x),some<|.dT<|mt cs,some<|iI w],rfl,rfl⟩⟩;exact Ix (v_<|d_ (D3:=[some (.im<|cM x),some<|.dT<|mt cs,some<|iI w]) (a_ rfl<|a_ rfl<|a_ rfl rfl) rfl rfl (Bd h) rfl) rfl rfl
 unfold fj rW;refine bn (D:=[some (cT cs),some<|iI w,some<|.dT<|mt cs]) rfl (t_ (D1:=[some (cT cs),some<|iI w,some<|.dT<|mt cs]) (aR (EH (a_ (v_ c0) rfl) rfl<|tF nd hl) (EC rfl) rfl) ?_) rfl;exact bz (EH (a_ (v_ c1) rfl) rfl rfl)
def cY(a b:n_):Bool:=decide ((if a.1 - b.1<0 then -(a.1 - b.1) else a.1 - b.1)+(if a.2 - b.2<0 then -(a.2 - b.2) else a.2 - b.2)=1)
theorem Be(a b:n_):iQ [.im (cM a),.im<|cM b]=some (bV<|cY a b,[.im (cM a),.im<|cM b]):=by
 unfold iQ rH;refine bn (D:=[some (.im<|cM a),some<|.im<|cM b]) rfl (bz ?_) rfl;exact b_ (v_<|b_ (v_<|EH (a_ (v_<|b_ (v_<|b_ (d:=iI a.1) rfl rfl rfl rfl rfl) (v_<|b_ (d:=iI b.1) rfl rfl rfl rfl rfl) rfl rfl rfl) rfl) rfl rfl) (v_<|EH (a_ (v_<|b_ (v_<|b_ (d:=iI a.2) rfl rfl rfl rfl rfl) (v_<|b_ (d:=iI b.2) rfl rfl rfl rfl rfl) rfl rfl rfl) rfl) rfl rfl) rfl rfl rfl) rfl rfl rfl (gX _ _)
theorem tK{a b:n_}:cY a b=true↔b∈He a:=by
 obtain⟨a1,a2⟩:=a;obtain⟨b1,b2⟩:=b;unfold cY He;rw[Yo];simp only[ZT,W9,Wa,Prod.mk.injEq];lia
theorem Bf(ps:List n_)(c:n_):inB (cM c) (cL ps)=some (decide (c∈ps)):=by
 rw[zL,i9,kG,sV];rfl
theorem Bg(ps:List n_)(c:n_):inB (cM c) (cT ps)=some (decide (c∈ps)):=by
 rw[zK,i9,kG,sV];rfl
theorem Bh(l:List n_)(c:n_):vNotIn (.im<|cM c) (cL l)=some (bV<|!decide (c∈l)):=by
 show (inB (cM c)<|cL l).map (fun r=>Vl.im<|.bl<|!r)=_;rw[Bf];rfl
theorem tL(l:List n_)(c:n_):vIn (.im<|cM c) (cT l)=some (bV<|decide (c∈l)):=by
 show (inB (cM c)<|cT l).map (fun r=>Vl.im<|.bl r)=_;rw[Bg];rfl
theorem Bi(a b:n_):vNe (.im<|cM a) (.im<|cM b)=some (bV<|!decide (a=b)):=by
 show (if (Im.pl 8 (cM a) && Im.pl 8 (cM b))=true then some (Vl.im<|.bl<|!aB (cM a) (cM b)) else none)=_;rw[i9,i9,ZZ<|show (true && true)=true from rfl,ng]
theorem Bj(bs:List n_):vNe (cL bs) (.lst [])=some (bV<|!decide (bs=[])):=by
 show (if (Im.pls 8 (bs.map cM) && Im.pls 8 [])=true then some (Vl.im<|.bl<|!bE (bs.map cM) []) else none)=_;rw[kG,ZZ<|show (true && Im.pls 8 [])=true from rfl];cases bs with
 | nil=>rfl
 | cons a r=>rfl
theorem Bk(a b:n_):cY a b=cY b a:=by
 unfold cY;rw[decide_eq_decide];split<;>split<;>split<;>split<;>omega
inductive Cn (cs:List n_) (s:n_):n_->Prop
 | self:Cn cs s s
 | step {a b:n_}:Cn cs s a->b∈cs->cY a b=true->Cn cs s b
def D9(es:List n_)(c:n_):Bool:=es.any fun e=>cY e c
abbrev pD(o0 o1:Option Vl)(part h_:List n_)(o4:Option Vl)(near:List n_)(o6:Option Vl):SD:=[o0,o1,some<|cL part,some<|cL h_,o4,some<|cL near,o6]
theorem Bl{near:List n_}(hl:near.length<10000)(he:h_.length<=10000):iR (pD o0 o1 part h_ o4 near<|some<|.im<|cM c)=some (.nx,pD o0 o1 part h_ o4 (if D9 h_ c then near++[c] else near)<|some<|.im<|cM c):=by
 have c1:aV 1 [6] (aX<|oSl 3) (gN 0) kYes G.mV (pD o0 o1 part h_ o4 near<|some<|.im<|cM c)=some (.lst<|h_.map fun x=>.bl<|cY x c,pD o0 o1 part h_ o4 near<|some<|.im<|cM c):=by
  refine HV (xs:=h_.map cM) (o:=some (3,cL h_)) (D1:=[o0,o1,some<|cL part,some .jk,o4,some<|cL near,some<|.im<|cM c]) rfl (fo cM (fun x=>.bl<|cY x c) _ (fun x hx=>?_) (by lia)) rfl;exact⟨[some (.im<|cM x),some<|.im<|cM c],_,[some (.im<|cM x),some<|.im<|cM c],rfl,rfl,d_ (a_ rfl<|a_ rfl rfl) rfl rfl ((Be c x).trans (by rw[Bk])) rfl,rfl⟩
 have k:bS (oV<|ay vAny<|aa (oV<|aV 1 [6] (aX<|oSl 3) (gN 0) kYes G.mV) aNil) (pD o0 o1 part h_ o4 near<|some<|.im<|cM c)=some (D9 h_ c,pD o0 o1 part h_ o4 near<|some<|.im<|cM c):=Ix (v_<|EH (a_ (v_ c1) rfl) rfl<|A9 (fun x=>cY x c) h_) rfl rfl;unfold iR;cases hb:D9 h_ c with
 | false=>rw[hb] at k;exact cb k rfl
 | true=>
  rw[hb] at k;refine dt k (KK (Kl rfl rfl (a_ rfl rfl) rfl rfl (Oz (by rw[Z4];lia)) ?_));rw[ZZ rfl];show _=[o0,o1,some<|cL part,some<|cL h_,o4,some<|cL<|near++[c],some<|.im<|cM c];unfold cL;rw[Y7];rfl
theorem tM{o0 o1 o4:Option Vl}{part h_:List n_}(he:h_.length<=10000):∀ (cs near:List n_) (o6:Option Vl),near.length+cs.length<10000->∃ Hs,bj (gN 6) iR (cs.map cM) (pD o0 o1 part h_ o4 near o6)=some (.nx,pD o0 o1 part h_ o4 (near++cs.filter (D9 h_)) Hs)
 | [],near,o6,_=>⟨o6,by rw[List.filter_nil,ZY];rfl⟩
 | c::cs,near,o6,hl=>by
  rw[ZC] at hl;have e:=Bl (o0:=o0) (o1:=o1) (o4:=o4) (part:=part) (near:=near) (c:=c) (by lia) he;obtain⟨Hs,ih⟩:=tM he cs (if D9 h_ c then near++[c] else near) (some<|.im<|cM c) (by split<;>(try rw[ZH,Y9])<;>lia);refine⟨Hs,?_⟩;rw[ZF,bj];show (iR<|pD o0 o1 part h_ o4 near<|some<|.im<|cM c).bind _=_;rw[e];refine ih.trans ?_;rw[Wj];cases D9 h_ c with
  | true=>rw[ZZ rfl,ZZ rfl,Z7];rfl
  | false=>rw[ZW ZK,ZW ZK]
structure IW(cs:List n_)(s:n_)(part h_ left:List n_):Prop where
 nd:(part++left).Nodup
 len:(part++left).length<=cs.length+1
 sub:∀ x∈left,x∈cs
 Ko:s∈part
 con:∀ x∈part,Cn cs s x
 R8:∀ x∈h_,x∈part
 OE:h_.length<=cs.length+1
 all:∀ x∈cs,x∈part++left
 out:∀ a∈part,a∉h_->∀ b∈left,cY a b=false
theorem IW.next(P:IW cs s part h_ left):IW cs s (part++left.filter (D9 h_)) (left.filter<|D9 h_) (left.filter fun c=>!D9 h_ c):=by
 have pm:(part++left.filter (D9 h_)++left.filter fun c=>!D9 h_ c).Perm (part++left):=by
  rw[Z7];exact (Wi (D9 h_) left).append_left part
 refine⟨pm.nodup_iff.mpr P.nd,by rw[pm.length_eq];exact P.len,fun x hx=>P.sub x (YW.mp hx).1,ZJ _ P.Ko,fun x hx=>?_,fun x hx=>ZN _ hx,?_,fun x hx=>pm.mem_iff.mpr<|P.all x hx,fun a ha na b hb=>?_⟩
 ·rcases ZD.mp hx with h | h
  ·exact P.con x h
  ·obtain⟨h1,h2⟩:=YW.mp h;obtain⟨e,he,hb⟩:=W6.mp h2;exact .step (P.con e<|P.R8 e he) (P.sub x h1) hb
 ·have:=P.len;rw[ZH] at this;have:=Y8 (D9 h_) left;lia
 ·obtain⟨b1,b2⟩:=YW.mp hb;have ap:a∈part:=(ZD.mp ha).resolve_right na;cases hc:cY a b with
  | false=>rfl
  | true=>
   by_cases PY:a∈h_
   ·have:D9 h_ b=true:=W6.mpr ⟨a,PY,hc⟩;rw[this] at b2;cases b2
   ·rw[P.out a ap PY b b1] at hc;cases hc
theorem IW.done(P:IW cs s part [] left)(x:n_):x∈part↔Cn cs s x:=by
 refine⟨P.con x,fun h=>?_⟩;induction h with
 | self=>exact P.Ko
 | step _ hb e ih=>
  rcases ZD.mp (P.all _ hb) with h | h
  ·exact h
  ·rw[P.out _ ih (fun z=>by cases z) _ h] at e;cases e
theorem Bm(P:IW cs s part h_ left)(hl:cs.length<=1000):∃ PZ Hs,kz [o0,o1,some<|cL part,some<|cL h_,some<|cL left,o5,o6]=some (.nx,[o0,o1,some<|cL<|part++left.filter (D9 h_),some<|cL<|left.filter<|D9 h_,some<|cL<|left.filter fun c=>!D9 h_ c,PZ,Hs]):=by
 have l1:part.length+left.length<=1001:=by have:=P.len;rw[ZH] at this;lia
 have l2:h_.length<=10000:=by have:=P.OE;lia
 have l3:=Y8 (D9 h_) left;obtain⟨Hs,lp⟩:=tM (o0:=o0) (o1:=o1) (o4:=some .jk) (part:=part) l2 left [] o6 (by show 0+_ < _;lia);have ne:∀ c∈left,(!decide (c∈left.filter (D9 h_)))=!D9 h_ c:=fun c hc=>by
  congr 1;rw[XO,Yo,YW];exact⟨fun h=>h.2,fun h=>⟨hc,h⟩⟩
 have c1:aV 1 [5] (aX<|oSl 4) (gN 0) G.rM G.rL [o0,o1,some<|cL<|part++left.filter (D9 h_),some<|cL h_,some<|cL left,some<|cL<|left.filter<|D9 h_,Hs]=some (cL<|left.filter fun c=>!D9 h_ c,[o0,o1,some<|cL<|part++left.filter (D9 h_),some<|cL h_,some<|cL left,some<|cL<|left.filter<|D9 h_,Hs]):=by
  refine HV (xs:=left.map cM) (o:=some (4,cL left)) (D1:=[o0,o1,some<|cL<|part++left.filter (D9 h_),some<|cL h_,some .jk,some<|cL<|left.filter<|D9 h_,Hs]) rfl (fY cM (fun c=>!D9 h_ c) cM _ [] (fun x hx=>?_) (by rw[Yy];lia)) rfl;refine⟨[some (.im<|cM x),some<|cL<|left.filter<|D9 h_],[some (.im<|cM x),some<|cL<|left.filter<|D9 h_],rfl,?_,fun _=>rfl,fun _=>⟨[some (.im<|cM x),some<|cL<|left.filter<|D9 h_],rfl,rfl⟩⟩;rw[<- ne x hx];exact FL (b_ rfl rfl rfl rfl<|Bh _ x)
 refine⟨some .jk,Hs,?_⟩;unfold kz;refine t_ (D1:=pD o0 o1 part h_ (some<|cL left) [] o6) rfl ?_;refine t_ (du (o:=some (4,cL left)) (D1:=pD o0 o1 part h_ (some .jk) [] o6) rfl lp rfl) ?_;refine t_ (D1:=[o0,o1,some<|cL<|part++left.filter (D9 h_),some<|cL h_,some<|cL left,some<|cL<|left.filter<|D9 h_,Hs]) ?_ ?_
 ·refine aR (d:=cL (part++left.filter (D9 h_))) (b_ rfl rfl rfl rfl ?_) (EC rfl) rfl;show (if (part.map cM).length+((left.filter<|D9 h_).map cM).length<=100000 then some (Vl.lst<|part.map cM++(left.filter<|D9 h_).map cM) else none)=_;rw[ZZ (by rw[Z4,Z4];lia),<- Y7]
 refine t_ (aR c1 (EC rfl) rfl) ?_;rfl
theorem Bn(nd:cs.Nodup)(hl:cs.length<=900):∃ pt,fW [cT cs,.im<|cM s]=some (cT pt,[cT cs,.im<|cM s])/\Up pt/\(∀ x,x∈pt↔Cn cs s x)/\pt.length<=cs.length+1:=by
 have hp:∀ x,(!decide (x=s))=true↔x≠s:=fun x=>by
  rw[Yl,Ye]
 have c1:aV 1 [1] (aX<|oSl 0) (gN 0) G.rK G.rJ [some (cT cs),some<|.im<|cM s,some<|cL [s],some<|cL [s],none,none,none]=some (cL<|cs.filter fun c=>!decide (c=s),[some (cT cs),some<|.im<|cM s,some<|cL [s],some<|cL [s],none,none,none]):=by
  refine HV (xs:=cs.map cM) (o:=none) (D1:=[some (cT cs),some<|.im<|cM s,some<|cL [s],some<|cL [s],none,none,none]) rfl (fY cM (fun c=>!decide (c=s)) cM _ [] (fun x hx=>?_) (by rw[Yy];lia)) rfl;exact⟨[some (.im<|cM x),some<|.im<|cM s],[some (.im<|cM x),some<|.im<|cM s],rfl,FL<|b_ rfl rfl rfl rfl<|Bi x s,fun _=>rfl,fun _=>⟨[some (.im<|cM x),some<|.im<|cM s],rfl,rfl⟩⟩
 have P0:IW cs s [s] [s] (cs.filter fun c=>!decide (c=s)):=by
  have lf:=Y8 (fun c=>!decide (c=s)) cs;refine⟨?_,by rw[ZH,Y9];lia,fun x hx=>(YW.mp hx).1,.head _,fun x hx=>?_,fun x hx=>hx,by show 1<=_;lia,fun x hx=>?_,fun a ha na=>absurd ha na⟩
  ·refine Zl.mpr ⟨fun h=>?_,nd.filter _⟩;exact (hp s).mp (YW.mp h).2 rfl
  ·rw[ZX.mp hx];exact .self
  ·by_cases h:x=s
   ·rw[h];exact .head _
   ·exact .tail _ (YW.mpr ⟨hx,(hp x).mpr h⟩)
 obtain⟨D',w1,part,left,o4,o5,o6,rfl,P⟩:=sM (c:=mW) (b:=kz) (fun m D=>∃ part h_ left o5 o6,D=[some (cT cs),some<|.im<|cM s,some<|cL part,some<|cL h_,some<|cL left,o5,o6]/\IW cs s part h_ left/\m=left.length+(if h_=[] then 0 else 1)) (fun D=>∃ part left o4 o5 o6,D=[some (cT cs),some<|.im<|cM s,some<|cL part,o4,some<|cL left,o5,o6]/\IW cs s part [] left) (fun m D ⟨part,h_,left,o5,o6,e,P,em⟩=>by
  subst e;have k:mW [some (cT cs),some<|.im<|cM s,some<|cL part,some<|cL h_,some<|cL left,o5,o6]=some (!decide (h_=[]),[some (cT cs),some<|.im<|cM s,some<|cL part,some<|cL h_,some<|cL left,o5,o6]):=FL (b_ rfl rfl rfl rfl<|Bj h_);refine⟨_,_,k,fun ht=>?_,fun hf=>?_⟩
  ·have he:h_≠[]:=fun z=>by rw[z] at ht;cases ht
   obtain⟨PZ,Hs,e⟩:=Bm (o0:=some (cT cs)) (o1:=some (.im<|cM s)) (o5:=o5) (o6:=o6) P (by lia);refine⟨_,_,e,.inl rfl,_,?_,_,_,_,_,_,rfl,P.next,rfl⟩;rw[em,ZW he];have hs:=(Wi (D9 h_) left).length_eq;rw[ZH] at hs;by_cases hn:left.filter (D9 h_)=[]
   ·rw[ZZ hn];rw[hn,Yy] at hs;lia
   ·rw[ZW hn];have:=WO.mpr hn;lia
  ·have he:h_=[]:=by
    by_cases z:h_=[]
    ·exact z
    ·rw[Zs z] at hf;cases hf
   subst he;exact⟨part,left,_,o5,o6,rfl,P⟩) 1000000 _ [some (cT cs),some<|.im<|cM s,some<|cL [s],some<|cL [s],some<|cL<|cs.filter fun c=>!decide (c=s),none,none] ⟨_,_,_,_,_,rfl,P0,rfl⟩ (by
    have lf:=Y8 (fun c=>!decide (c=s)) cs;split<;>lia)
 have L1:part.Nodup:=(ZP.mp P.nd).1;have lp:part.length<=cs.length+1:=by have:=P.len;rw[ZH] at this;lia
 obtain⟨pt,s1,s2,s3⟩:=nq L1 (by lia);refine⟨pt,?_,s3,fun x=>s2.mem_iff.trans<|P.done x,by rw[s2.length_eq];exact lp⟩;have hs:DE [cL part]=some (cL pt):=by
  have hi:Fp (part.map cM)=none:=by
   cases part with
   | nil=>cases P.Ko
   | cons a r=>rfl
  show (match Fp (part.map cM) with | some ns=>vSorted [.lst (part.map cM)] | none=>cX<|part.map cM)=_;rw[hi];dsimp only;unfold cX;rw[ZZ (iK.mpr (ja L1 (by lia))),s1]
 unfold fW rN;refine bn (D:=[some (cT cs),some<|.im<|cM s,some<|cL part,o4,some<|cL left,o5,o6]) rfl ?_ rfl;refine t_ (D1:=[some (cT cs),some<|.im<|cM s,some<|cL [s],some<|cL [s],none,none,none]) rfl ?_;refine t_ (aR c1 (EC rfl) rfl) (t_ w1<|bz ?_);exact EH (a_ (v_<|EH (a_ rfl rfl) rfl hs) rfl) rfl rfl
theorem tN(ks:List n_)(c:n_):vNotIn (.im<|cM c) (.dT<|mt ks)=some (bV<|!decide (c∈ks)):=by
 have:=jf ks c;show (inB (cM c)<|.dT<|mt ks).map (fun r=>Vl.im<|.bl<|!r)=_;have h2:(inB (cM c)<|.dT<|mt ks).map (fun r=>Vl.im<|.bl r)=some (bV<|decide (c∈ks)):=this;obtain⟨r,e1,e2⟩:=Z5.mp h2;rw[e1];cases e2;rfl
theorem tP{α:Type}[DecidableEq α]:∀ {l m:List α},l.Nodup->(∀ x∈l,x∈m)->l.length<=m.length
 | [],_,_,_=>Ys _
 | x::l,m,nd,h=>by
  have nx:=Zl.mp nd;have:=tP (m:=m.erase x) nx.2 fun y hy=>(WY (fun e=>nx.1 (by rw[<- e];exact hy))).mpr (h y<|.tail _ hy);have e:=Wq (h x<|.head _);have p:=We (h x<|.head _);rw[ZC];lia
def Ec(cs:List n_)(p:List n_×List n_)(c:n_):List n_×List n_:=if c∈cs/\c∉p.1 then (p.1++[c],p.2++[c]) else p
abbrev rD(o1:Option Vl)(cs:List n_)(p:List n_×List n_)(o4:Option Vl):SD:=[some (.dT<|mt cs),o1,some<|.dT<|mt p.1,some<|cL p.2,o4]
theorem Bo(h1:p.1.length<10000)(h2:p.2.length<10000):iU (rD o1 cs p<|some<|.im<|cM c)=some (.nx,rD o1 cs (Ec cs p c)<|some<|.im<|cM c):=by
 have k1:kB (ad vIn (oSl 4)<|oSl 0) (rD o1 cs p<|some<|.im<|cM c)=some (decide (c∈cs),rD o1 cs p<|some<|.im<|cM c):=FL (b_ rfl rfl rfl rfl<|jf cs c);have k2:kB (ad vNotIn (oSl 4)<|oSl 2) (rD o1 cs p<|some<|.im<|cM c)=some (!decide (c∈p.1),rD o1 cs p<|some<|.im<|cM c):=FL (b_ rfl rfl rfl rfl<|tN p.1 c);unfold iU Ec;by_cases a:c∈cs
 ·rw[Zr a] at k1;by_cases b:c∈p.1
  ·rw[Zr b] at k2;rw[ZW fun z=>z.2 b];exact cb (nj k1 k2) rfl
  ·rw[Zs b] at k2;rw[ZZ ⟨a,b⟩];have hp:putA (.dT<|mt p.1) (.im<|.tup<|kM c) (bV true)=some (.dT<|mt<|p.1++[c]):=by
    have e:aN p.1 c=p.1++[c]:=by unfold aN;rw[ZW b]
    rw[<- e,<- kH];exact ZZ ⟨rfl,by unfold mt;rw[Z4];lia⟩
   refine dt (nj k1 k2) (t_ (D1:=[some (.dT<|mt cs),o1,some<|.dT<|mt<|p.1++[c],some<|cL p.2,some<|.im<|cM c]) ?_ ?_)
   ·refine Kk rfl ?_;show (putA (.dT<|mt p.1) (.im<|.tup<|kM c)<|bV true).map _=_;rw[hp];rfl
   ·refine KK (Kl rfl rfl (a_ rfl rfl) rfl rfl (Oz (by rw[Z4];lia)) ?_);show _=[some (.dT<|mt cs),o1,some<|.dT<|mt<|p.1++[c],some<|cL<|p.2++[c],some<|.im<|cM c];unfold cL;rw[Y7];rfl
 ·rw[Zs a] at k1;rw[ZW fun z=>a z.1];exact cb (tf k1) rfl
theorem Bp(cs:List n_)(p:List n_×List n_)(c:n_):(Ec cs p c).1.length<=p.1.length+1/\(Ec cs p c).2.length<=p.2.length+1:=by
 unfold Ec;split
 ·rw[ZH,ZH];exact⟨ZR _,ZR _⟩
 ·exact⟨by lia,by lia⟩
theorem tR{o1:Option Vl}{cs:List n_}:∀ (xs:List n_) (p:List n_×List n_) (o4:Option Vl),p.1.length+xs.length<10000->p.2.length+xs.length<10000->∃ IX,bj (gN 4) iU (xs.map cM) (rD o1 cs p o4)=some (.nx,rD o1 cs (xs.foldl (Ec cs) p) IX)
 | [],p,o4,_,_=>⟨o4,rfl⟩
 | c::xs,p,o4,h1,h2=>by
  rw[ZC] at h1 h2;have l:=Bp cs p c;obtain⟨IX,ih⟩:=tR (o1:=o1) xs (Ec cs p c) (some<|.im<|cM c) (by lia) (by lia);refine⟨IX,?_⟩;rw[ZF,bj];show (iU<|rD o1 cs p<|some<|.im<|cM c).bind _=_;rw[Bo (by lia) (by lia)];exact ih
structure Jv(cs:List n_)(s:n_)(p:List n_×List n_):Prop where
 nd:p.1.Nodup
 Ko:s∈p.1
 con:∀ x∈p.1,Cn cs s x
 sub:∀ x∈p.1,x=s\/x∈cs
 wt:∀ x∈p.2,x∈p.1
theorem Jv.step(P:Jv cs s p)(hx:x∈p.1){c:n_}(hc:c∈He x):Jv cs s (Ec cs p c):=by
 unfold Ec;split
 ·rename_i h;refine⟨?_,ZJ _ P.Ko,fun y hy=>?_,fun y hy=>?_,fun y hy=>?_⟩
  ·rw[ZP];exact⟨P.nd,ZB _ _,fun a ha b hb e=>h.2 (by rw[<- ZX.mp hb,<- e];exact ha)⟩
  ·rcases ZD.mp hy with z | z
   ·exact P.con y z
   ·rw[ZX.mp z];exact .step (P.con x hx) h.1 (tK.mpr hc)
  ·rcases ZD.mp hy with z | z
   ·exact P.sub y z
   ·rw[ZX.mp z];exact .inr h.1
  ·rcases ZD.mp hy with z | z
   ·exact ZJ _ (P.wt y z)
   ·exact ZN _ z
 ·exact P
theorem Bq{y:n_}:(y∈p.1->y∈(Ec cs p c).1)/\(y∈p.2->y∈(Ec cs p c).2)/\(y∈(Ec cs p c).1->y∈p.1\/y∈(Ec cs p c).2)/\(c∈cs->c∈(Ec cs p c).1):=by
 unfold Ec;split
 ·rename_i h;refine⟨fun z=>ZJ _ z,fun z=>ZJ _ z,fun z=>?_,fun _=>ZN _<|.head _⟩;rcases ZD.mp z with z | z
  ·exact .inl z
  ·exact .inr (ZN _ z)
 ·rename_i h;refine⟨fun z=>z,fun z=>z,.inl,fun z=>?_⟩;by_cases q:c∈p.1
  ·exact q
  ·exact absurd ⟨z,q⟩ h
theorem tT{cs:List n_}{s x:n_}:∀ (xs:List n_) (p:List n_×List n_),(∀ c∈xs,c∈He x)->x∈p.1->Jv cs s p->Jv cs s (xs.foldl (Ec cs) p)/\(∀ y,y∈p.1->y∈(xs.foldl (Ec cs) p).1)/\(∀ y,y∈p.2->y∈(xs.foldl (Ec cs) p).2)/\(∀ y,y∈(xs.foldl (Ec cs) p).1->y∈p.1\/y∈(xs.foldl (Ec cs) p).2)/\(∀ c∈xs,c∈cs->c∈(xs.foldl (Ec cs) p).1)/\(xs.foldl (Ec cs) p).1.length+p.2.length=(xs.foldl (Ec cs) p).2.length+p.1.length
 | [],p,_,_,P=>⟨P,fun _ h=>h,fun _ h=>h,fun _ h=>.inl h,fun c h=>(by cases h),V6 _ _⟩
 | c::xs,p,ha,hx,P=>by
  have m:=fun y=>Bq (cs:=cs) (p:=p) (c:=c) (y:=y);obtain⟨i1,i2,i3,i4,i5,i6⟩:=tT xs (Ec cs p c) (fun d hd=>ha d<|.tail _ hd) ((m x).1 hx) (P.step hx<|ha c<|.head _);refine⟨i1,fun y h=>i2 y<|(m y).1 h,fun y h=>i3 y<|(m y).2.1 h,fun y h=>?_,fun d hd h=>?_,?_⟩
  ·rcases i4 y h with z | z
   ·rcases (m y).2.2.1 z with w | w
    ·exact .inl w
    ·exact .inr (i3 y w)
   ·exact .inr z
  ·rcases ZT.mp hd with rfl | hd
   ·exact i2 d ((m d).2.2.2 h)
   ·exact i5 d hd h
  ·have e:(Ec cs p c).1.length+p.2.length=(Ec cs p c).2.length+p.1.length:=by
    unfold Ec;split
    ·rw[ZH,ZH,Y9];lia
    ·exact V6 _ _
   show (xs.foldl (Ec cs)<|Ec cs p c).1.length+p.2.length=(xs.foldl (Ec cs)<|Ec cs p c).2.length+p.1.length;lia
structure Jw(cs:List n_)(s:n_)(p:List n_×List n_):Prop where
 i:Jv cs s p
 done:∀ a∈p.1,a∉p.2->∀ b∈cs,cY a b=true->b∈p.1
theorem Jv.len(P:Jv cs s p):p.1.length<=cs.length+1:=
 tP (m:=s::cs) P.nd fun x hx=>by
  rcases P.sub x hx with h | h
  ·rw[h];exact .head _
  ·exact .tail _ h
theorem Jw.next{w:List n_}(P:Jw cs s (f,w++[x])):Jw cs s ((He x).foldl (Ec cs) (f,w))/\((He x).foldl (Ec cs) (f,w)).1.length+w.length=((He x).foldl (Ec cs) (f,w)).2.length+f.length:=by
 have hx:x∈f:=P.i.wt x (ZN _<|.head _);obtain⟨i1,i2,i3,i4,i5,i6⟩:=tT (cs:=cs) (s:=s) (He x) (f,w) (fun _ h=>h) hx ⟨P.i.nd,P.i.Ko,P.i.con,P.i.sub,fun y hy=>P.i.wt y<|ZJ _ hy⟩;refine⟨⟨i1,fun a ha na b hb e=>?_⟩,i6⟩;have af:a∈f:=(i4 a ha).resolve_right na;by_cases ax:a=x
 ·subst ax;exact i5 b (tK.mp e) hb
 ·refine i2 b (P.done a af (fun z=>?_) b hb e);rcases ZD.mp z with z | z
  ·exact na (i3 a z)
  ·exact ax (ZX.mp z)
theorem Jw.fin(P:Jw cs s (f,[]))(x:n_):x∈f↔Cn cs s x:=by
 refine⟨P.i.con x,fun h=>?_⟩;induction h with
 | self=>exact P.i.Ko
 | step _ hb e ih=>exact P.done _ ih (fun z=>by cases z) _ hb e
theorem Br{s x:n_}{w:List n_}(h1:f.length<5000)(h2:w.length<5000):∃ IX,kA (rD o1 cs (f,w++[x]) o4)=some (.nx,rD o1 cs ((He x).foldl (Ec cs) (f,w)) IX):=by
 obtain⟨IX,lp⟩:=tR (o1:=o1) (cs:=cs) (He x) (f,w) o4 (by show _+4 < _;lia) (by show _+4 < _;lia);refine⟨IX,?_⟩;unfold kA;refine du (o:=none) (D1:=rD o1 cs (f,w) o4) (Nc (d:=cL (He x)) (d_ (a_ (v_<|Kl (c:=cL (w++[x])) (c':=cL w) rfl rfl rfl rfl rfl ?_ rfl) rfl) rfl rfl (A7 x) rfl) rfl) lp rfl;show (((w++[x]).map cM).getLast?).map (fun d=>(Vl.im d,Vl.lst ((w++[x]).map cM).dropLast))=some (.im<|cM x,cL w);rw[Y7,List.map_singleton,List.getLast?_concat,List.dropLast_concat];rfl
theorem Bs(hl:cs.length<=900):∃ pt,gS [.dT (mt cs),.im<|cM s]=some (cT pt,[.dT (mt cs),.im<|cM s])/\Up pt/\(∀ x,x∈pt↔Cn cs s x):=by
 have P0:Jw cs s ([s],[s]):=⟨⟨ZB _ _,.head _,fun x hx=>by rw[ZX.mp hx];exact .self,fun x hx=>.inl<|ZX.mp hx,fun x hx=>hx⟩,fun a ha na=>absurd ha na⟩;obtain⟨D',w1,f,o4,rfl,P⟩:=sM (c:=rY) (b:=kA) (fun m D=>∃ f w o4,D=rD (some<|.im<|cM s) cs (f,w) o4/\Jw cs s (f,w)/\w.length<=f.length/\m+f.length=cs.length+1+w.length) (fun D=>∃ f o4,D=rD (some<|.im<|cM s) cs (f,[]) o4/\Jw cs s (f,[])) (fun m D ⟨f,w,o4,e,P,lw,em⟩=>by
  subst e;have fl:=P.i.len;rcases List.eq_nil_or_concat w with rfl | ⟨w,x,rfl⟩
  ·exact⟨false,_,Ix rfl rfl rfl,fun h=>(by cases h),fun _=>⟨f,o4,rfl,P⟩⟩
  ·rw[List.concat_eq_append] at *;refine⟨true,_,Ix (d:=cL (w++[x])) rfl rfl ?_,fun _=>?_,fun h=>by cases h⟩
   ·show some (!((w++[x]).map cM).isEmpty)=some true;rw[Y7,List.isEmpty_eq_false_iff.mpr (by simp)];rfl
   ·rw[ZH,Y9] at lw em;obtain⟨IX,e0⟩:=Br (cs:=cs) (s:=s) (x:=x) (f:=f) (w:=w) (o1:=some (.im<|cM s)) (o4:=o4) (by show _ < _;dsimp only at fl;lia) (by dsimp only at fl;lia);obtain⟨N,nl⟩:=P.next;have l2:=N.i.len;generalize (He x).foldl (Ec cs) (f,w)=p at e0 N nl l2;obtain⟨p1,p2⟩:=p;dsimp only at fl l2 nl;exact⟨.nx,_,e0,.inl rfl,m - 1,by omega,p1,p2,IX,rfl,N,by omega,by omega⟩) 1000000 (cs.length+1) (rD (some<|.im<|cM s) cs ([s],[s]) none) ⟨[s],[s],none,rfl,P0,ZR _,by show _=cs.length+1+1;rfl⟩ (by lia)
 have L1:=P.i.nd;have lp:=P.i.len;obtain⟨pt,s1,s2,s3⟩:=nq L1 (by dsimp only at lp ⊢;lia);refine⟨pt,?_,s3,fun x=>s2.mem_iff.trans<|P.fin x⟩;have hs:DE [.dT (mt f)]=some (cL pt):=by
  show cX ((mt f).map fun p=>.tup p.1)=_;have e:((mt f).map fun p=>Im.tup p.1)=f.map cM:=by unfold mt;rw[YV];rfl
  rw[e];unfold cX;rw[ZZ (iK.mpr (ja L1 (by dsimp only at lp ⊢;lia))),s1]
 unfold gS rZ;refine bn (D:=rD (some<|.im<|cM s) cs (f,[]) o4) rfl (t_ (D1:=[some (.dT<|mt cs),some<|.im<|cM s,some<|.dT<|mt [s],none,none]) rfl<|t_ (D1:=rD (some<|.im<|cM s) cs ([s],[s]) none) rfl<|t_ w1 ?_) rfl;exact (bz<|EH (a_ (v_<|EH (a_ rfl rfl) rfl hs) rfl) rfl rfl)
theorem Bt{x y:List Im}(h:x.length+y.length<=100000):vAdd (.lst x) (.lst y)=some (.lst<|x++y):=ZZ h
theorem tU(x:aW (n+1) h)(h0:xs≠[])(h1:xs.length<1073741824):∃ d h',bU [h,.im<|.tup xs]=some (.im d,[h',.im<|.tup xs])/\d∈xs/\aW n h':=by
 have hl:0<xs.length:=WO.mpr h0;obtain⟨v,h',e,e1,e2,e3⟩:=fq (m:=xs.length) x (by lia) (by lia);obtain⟨d,hd⟩:∃ d,xs[v.toNat]?=some d:=⟨xs[v.toNat]'(by lia),by simp⟩;have LX:FR xs v=some d:=m8 e1 hd;obtain⟨q,rfl⟩:=bi x;obtain⟨q',rfl⟩:=bi e3;refine⟨d,.lst q',?_,YX hd,e3⟩;have hv:vIx (.im<|.tup xs) (iI v)=some (.im d):=by
  show (FR xs v).map Vl.im=_;rw[LX];rfl
 unfold bU mS;exact bn (D:=[some (.lst q'),some<|.im<|.tup xs]) rfl (bz<|b_ rfl (v_<|d_ (os:=[.sl 0,.vl<|iI xs.length]) (a_ rfl<|a_ (v_<|EH (a_ rfl rfl) rfl rfl) rfl) rfl rfl e rfl) rfl rfl hv) rfl
theorem nA:∀ bs:List n_,Im.pls 7 (bs.map cM)=true
 | []=>rfl
 | b::bs=>by
  rw[ZF,Im.pls,nA bs];rfl
theorem tW(bs:List n_):vEq (cT bs) (.im<|.tup [])=some (bV<|decide (bs=[])):=by
 show (if (Im.pls 7 (bs.map cM) && true)=true then some (Vl.im<|.bl<|aB (.tup<|bs.map cM)<|.tup []) else none)=_;rw[nA,ZZ<|show (true && true)=true from rfl];cases bs with
 | nil=>rfl
 | cons a r=>rfl
theorem tX(bs:List n_):vNe (cT bs) (.im<|.tup [])=some (bV<|!decide (bs=[])):=by
 show (if (Im.pls 7 (bs.map cM) && true)=true then some (Vl.im<|.bl<|!aB (.tup<|bs.map cM) (.tup [])) else none)=_;rw[nA,ZZ<|show (true && true)=true from rfl];cases bs with
 | nil=>rfl
 | cons a r=>rfl
theorem Bu{M:Nat}(H:aW (M+2) h)(F:Kn cs):∃ (w:Int) (s:n_) (h':Vl),iT [h,cT cs]=some (.im<|.tup [.int w,cM s],[h',cT cs])/\Fa w/\aW M h':=by
 have nd:=gZ F.up;have hl:=F.len;obtain⟨x,h1,e1,i1,H1⟩:=jd (n:=M+1) (xs:=[.int 1,.int 2,.int 1,.int 2,.int 3,.int 4,.int 5,.int 6]) H (by simp) (by simp);obtain⟨w,rfl,hw⟩:∃ w:Int,x=.int w/\Fa w:=by
  simp at i1;rcases i1 with rfl | rfl | rfl | rfl | rfl | rfl | rfl | rfl<;>exact⟨_,rfl,by decide,by decide⟩
 have ea:=tJ nd (by lia) hw;obtain⟨fs,MZ⟩:∃ fs,fs=cs.filter (bh cs w):=⟨_,rfl⟩;rw[<- MZ] at ea;have fl:fs.length<=144:=by rw[MZ];exact Zo (Y8 _ _) hl
 obtain⟨q,rfl⟩:=bi H;obtain⟨q1,rfl⟩:=bi H1;have k:kB (ad vEq (oSl 3)<|oV<|aA aNil) [some (.lst q1),some<|cT cs,some<|iI w,some<|cT fs]=some (decide (fs=[]),[some (.lst q1),some<|cT cs,some<|iI w,some<|cT fs]):=FL (b_ rfl rfl rfl rfl<|tW fs);have go:∀ {g:MS}{r:Option (Fl×SD)},g [some (.lst q1),some<|cT cs,some<|iI w,some<|cT fs]=r->aj (ao 2<|am 2 G.bU<|aa (oSl 0)<|aa (oV<|a9<|aa (oV<|eC<|.int 1)<|aa (oV<|eC<|.int 2)<|aa (oV<|eC<|.int 1)<|aa (oV<|eC<|.int 2)<|aa (oV<|eC<|.int 3)<|aa (oV<|eC<|.int 4)<|aa (oV<|eC<|.int 5)<|aa (oV<|eC<|.int 6) aNil) aNil) (aj (ao 3<|am 2 G.fj<|aa (oSl 1)<|aa (oSl 2) aNil) g) [some (.lst q),some<|cT cs,none,none]=r:=fun e=>
  t_ (D1:=[some (.lst q1),some<|cT cs,some<|iI w,none]) (aR (d_ (os:=[.sl 0,.vl<|.lst [.int 1,.int 2,.int 1,.int 2,.int 3,.int 4,.int 5,.int 6]]) rfl rfl rfl e1 rfl) (EC rfl) rfl) (t_ (aR (d_ (os:=[.sl 1,.sl 2]) rfl rfl rfl ea rfl) (EC rfl) rfl) e);unfold iT rX;cases hn:decide (fs=[]) with
 | true=>
  rw[hn] at k;obtain⟨y,h2,e2,i2,H2⟩:=jd (n:=M) (xs:=cs.map cM++[cM (0,0),cM (30,30),cM (15,2)]) H1 (by simp) (by rw[ZH,Z4];show _+3 < _;lia);obtain⟨s,rfl⟩:∃ s:n_,y=cM s:=by
   rcases ZD.mp i2 with z | z
   ·obtain⟨c,_,rfl⟩:=Zi.mp z;exact⟨c,rfl⟩
   ·simp at z;rcases z with rfl | rfl | rfl<;>exact⟨_,rfl⟩
  obtain⟨q2,rfl⟩:=bi H2;refine⟨w,s,.lst q2,bn (D:=[some (.lst q2),some<|cT cs,some<|iI w,some<|cT fs]) rfl (go<|m9<|dt k<|bz ?_) rfl,hw,H2⟩;refine Hr (a_ rfl (a_ (v_ (d_ (os:=[.sl 0,.vl<|.lst<|cs.map cM++[cM (0,0),cM (30,30),cM (15,2)]]) (D1:=[some (.lst q1),some<|cT cs,some<|iI w,some<|cT fs]) (a_ rfl (a_ (v_ (b_ (v_<|EH (a_ rfl rfl) rfl rfl) rfl rfl rfl (Bt (y:=[cM (0,0),cM (30,30),cM (15,2)]) (by rw[Z4];show _+3<=_;lia)))) rfl)) rfl rfl e2 rfl)) rfl)) rfl (ZM rfl) rfl
 | false=>
  rw[hn] at k;have Hu:fs.map cM≠[]:=fun z=>of_decide_eq_false hn (List.map_eq_nil_iff.mp z);obtain⟨y,h2,e2,i2,H2⟩:=tU (n:=M) (xs:=fs.map cM) H1 Hu (by rw[Z4];lia);obtain⟨s,_,rfl⟩:=Zi.mp i2;obtain⟨q2,rfl⟩:=bi H2;refine⟨w,s,.lst q2,bn (D:=[some (.lst q2),some<|cT cs,some<|iI w,some<|cT fs]) rfl (go<|t_ (cb k rfl)<|bz ?_) rfl,hw,H2⟩;exact Hr (a_ rfl<|a_ (v_<|d_ (os:=[.sl 0,.sl 3]) (D1:=[some (.lst q1),some<|cT cs,some<|iI w,some<|cT fs]) rfl rfl rfl e2 rfl) rfl) rfl (ZM rfl) rfl
def Ga:Nat->Im->Bool
 | _,.int _=>true
 | _,.i_=>true
 | _,.str _=>true
 | n+1,.tup ds=>decide (ds.length<100000) && ds.all (Ga n)
 | _,_=>false
theorem Bv(ds:List Im):cW ds ds=ds.map fun d=>.tup [d,d]:=by
 induction ds with
 | nil=>rfl
 | cons d r ih=>rw[cW,ih];rfl
theorem tY:∀ ds:List Im,bls (ds.map fun _=>.bl true)=some (ds.map fun _=>true)
 | []=>rfl
 | d::r=>by rw[ZF,bls,tY r];rfl
theorem nE:∀ (k:Nat) (d:Im),Ga k d=true->cv (k+1) [.im d,.im d]=some (.im<|.bl true,[.im d,.im d])
 | k,.int i,_=>by simp -implicitDefEqProofs [cv,kn,Im.pl,aB]
 | k,.i_,_=>by simp -implicitDefEqProofs [cv,kn,Im.pl,aB]
 | k,.str i,_=>by simp -implicitDefEqProofs [cv,kn,Im.pl,aB]
 | 0,.tup ds,h=>by simp[Ga] at h
 | 0,.bl b,h=>by simp[Ga] at h
 | 0,.fn b,h=>by simp[Ga] at h
 | 0,.fl b,h=>by simp[Ga] at h
 | 0,.fd,h=>by simp[Ga] at h
 | k+1,.bl b,h=>by simp[Ga] at h
 | k+1,.fn b,h=>by simp[Ga] at h
 | k+1,.fl b,h=>by simp[Ga] at h
 | k+1,.fd,h=>by simp[Ga] at h
 | k+1,.tup ds,h=>by
  rw[Ga,ZV,Zn] at h;have hl:=Zk h.1;have c1:aV 2 [] (iZ<|aa (oSl 0)<|aa (oSl 1) aNil) (gT 2<|cE (gN 0)<|cE (gN 1) gNil') kYes (G.km<|cv<|k+1) [some (.im<|.tup ds),some<|.im<|.tup ds]=some (.lst<|ds.map fun _=>.bl true,[some (.im<|.tup ds),some<|.im<|.tup ds]):=by
   refine (sO (xs:=ds.map fun d=>.tup [d,d]) (o:=none) (D1:=[some (.im<|.tup ds),some<|.im<|.tup ds]) ?_<|fo _ (fun _=>.bl true) _ (fun d hd=>?_) ?_).trans ?_
   ·simp -implicitDefEqProofs [Bv]
   ·have e:=nE k d (h.2 d hd);exact⟨[some (.im d),some<|.im d],_,[some (.im d),some<|.im d],by simp -implicitDefEqProofs,by simp -implicitDefEqProofs;rfl,by simp -implicitDefEqProofs [km,e],by simp⟩
   ·omega
   ·simp -implicitDefEqProofs
  have c2:ay vAll (aa (oV<|aV 2 [] (iZ<|aa (oSl 0)<|aa (oSl 1) aNil) (gT 2<|cE (gN 0)<|cE (gN 1) gNil') kYes<|G.km<|cv<|k+1) aNil) [some (.im<|.tup ds),some<|.im<|.tup ds]=some (.im<|.bl true,[some (.im<|.tup ds),some<|.im<|.tup ds]):=by
   simp -implicitDefEqProofs only[oV,ay,aa,c1,sI,Wk,WR,sL,sJ,sK,vAll,tY ds];rw[show (ds.map fun _=>true).all id=true by rw[XF];exact Zn.mpr fun _ _=>rfl]
  have hk:kOr (cS<|bS<|oV<|eV "tuple"<|oSl 0) (kB<|ad vNe (oV<|ay vLen<|aa (oSl 0) aNil)<|oV<|ay vLen<|aa (oSl 1) aNil) [some (.im<|.tup ds),some<|.im<|.tup ds]=some (false,[some (.im<|.tup ds),some<|.im<|.tup ds]):=by
   simp -implicitDefEqProofs [Im.pl,aB]
  rw[cv];refine sR [some (.im<|.tup ds),some<|.im<|.tup ds] rfl ?_ (by simp -implicitDefEqProofs);refine m9 ((sP (D1:=[some (.im<|.tup ds),some<|.im<|.tup ds]) (by simp -implicitDefEqProofs)).trans<|(sN<|(sQ hk).trans rfl).trans<|bz c2)
section
variable{cs:List n_}{w:Int}{s:n_}
theorem tZ(nd:cs.Nodup)(hl:cs.length<=144)(hw:Fa w):ao 3 (am 2 G.fi<|aa (oSl 0)<|aa (oSl 1) aNil) [some (cT cs),some<|iI w,some<|.im<|cM s,none]=some (.nx,[some (cT cs),some<|iI w,some<|.im<|cM s,some<|.dT<|mt<|cs.filter<|bh cs w]):=
 aR (d_ (os:=[.sl 0,.sl 1]) rfl rfl rfl (Bc nd (by lia) hw) rfl) (EC rfl) rfl
theorem uc(fs:List n_):kB (ad vNotIn (oSl 2)<|oSl 3) [some (cT cs),some<|iI w,some<|.im<|cM s,some<|.dT<|mt fs]=some (!decide (s∈fs),[some (cT cs),some<|iI w,some<|.im<|cM s,some<|.dT<|mt fs]):=FL (b_ rfl rfl rfl rfl<|tN fs s)
theorem Bw(nd:cs.Nodup)(hl:cs.length<=144)(hw:Fa w)(hs:s∈cs.filter (bh cs w)):∃ p,de [cT cs,iI w,.im<|cM s]=some (cT p,[cT cs,iI w,.im<|cM s])/\Up p/\∀ x,x∈p↔Cn (cs.filter<|bh cs w) s x:=by
 have f1:=tZ (s:=s) nd hl hw;have lf:(cs.filter<|bh cs w).length<=144:=Zo (Y8 _ _) hl;generalize cs.filter (bh cs w)=fs at *;obtain⟨p,r1,u1,m1⟩:=Bs (cs:=fs) (s:=s) (by lia);have t:=uc (cs:=cs) (w:=w) (s:=s) fs;rw[Zr hs] at t;refine⟨p,?_,u1,m1⟩;unfold de iV;exact bn (D:=[some (cT cs),some<|iI w,some<|.im<|cM s,some<|.dT<|mt fs]) rfl (t_ f1<|t_ (cb t rfl)<|bz<|d_ (os:=[.sl 3,.sl 2]) rfl rfl rfl r1 rfl) rfl
theorem Bx(nd:cs.Nodup)(hl:cs.length<=144)(hw:Fa w)(hs:s∉cs.filter (bh cs w)):de [cT cs,iI w,.im<|cM s]=none/\Gv 3 4 fX [cT cs,iI w,.im<|cM s]=true:=by
 have f1:=tZ (s:=s) nd hl hw;generalize cs.filter (bh cs w)=fs at *;have t:=uc (cs:=cs) (w:=w) (s:=s) fs;rw[Zs hs] at t;have e1:iV [some (cT cs),some<|iI w,some<|.im<|cM s,none]=none:=by
  unfold iV;exact t_ f1 (by unfold aj;rw[dt t rfl];rfl)
 constructor
 ·unfold de aM;rw[ZZ (show [cT cs,iI w,.im<|cM s].length=3 from rfl),show iV ([cT cs,iI w,.im<|cM s].map some++replicate (4 - 3) none)=none from e1]
 ·unfold Gv fX;show (kb _ _ [some (cT cs),some<|iI w,some<|.im<|cM s,none]).isSome=true;unfold kb;rw[f1];show (M6 _ _ _).isSome=true;unfold M6;rw[show kB _ _=_ from t];rfl
end
theorem By(p:List n_)(hl:p.length<100000):Ga 5 (.tup [.str "",.tup<|p.map cM])=true:=by
 show (true && (true && ((decide ((p.map cM).length<100000) && (p.map cM).all (Ga 3)) && true)))=true;rw[Z4,Zr hl,XF];rw[show (p.all<|Ga 3 ∘ cM)=true from Zn.mpr fun x _=>rfl];rfl
section
variable{cs:List n_}{w:Int}{s:n_}{o0 o1 o2 o5 o7 o8 o9:Option Vl}
end
noncomputable def mid:MS:=(sIf (kOr (kB<|ad vEq (oSl 2)<|oV<|eC<|.int 1)<|kB<|ad vEq (oSl 2)<|oV<|eC<|.int 2) (bC (iR1<|aa (oV<|am 2 G.i8<|aa (oSl 0)<|aa (oV<|ad vAdd (oV<|eC<|.int 1)<|oV<|ad vDiv (oV<|ay vLen<|aa (oSl 5) aNil)<|oV<|eC<|.int 2) aNil) aNil) (gN 6) G.AJ)<|sIf (kB<|ad vEq (oSl 2)<|oV<|eC<|.int 3) (ao 5<|aV 1 [] (aX<|oSl 5) (gN 0) G.AL G.AK)<|sIf (kB<|ad vGt (oSl 2)<|oV<|eC<|.int 3) (ao 5<|am 2 G.AI<|aa (oSl 0)<|aa (oSl 1) aNil) sNil)
abbrev Ed:=(Int×Int)×(Int×Int)
abbrev Ce:=Int×Int
def cl(b:Ce):Nat->Ce
 | 0=>b
 | 1=>(b.1,b.2+1)
 | 2=>(b.1+1,b.2+1)
 | _=>(b.1+1,b.2)
def ot(b:Ce):Nat->Ce
 | 0=>(b.1 - 2,b.2)
 | 1=>(b.1,b.2+2)
 | 2=>(b.1+2,b.2)
 | _=>(b.1,b.2 - 2)
def Bz(b:Ce):List Ce:=[b,(b.1,b.2+1),(b.1+1,b.2+1),(b.1+1,b.2)]
def jn(T:List Ed)(a b:Ce):Bool:=decide ((a,b)∈T\/(b,a)∈T)
def nx(T:List Ed)(p:Ce×Nat):Ce×Nat:=if jn T p.1 (ot p.1 p.2)=true then (ot p.1 p.2,(p.2+3) % 4) else (p.1,(p.2+1) % 4)
def px(T:List Ed)(p:Ce×Nat):Ce×Nat:=if jn T p.1 (ot p.1<|(p.2+3) % 4)=true then (ot p.1<|(p.2+3) % 4,(p.2+1) % 4) else (p.1,(p.2+3) % 4)
def bl(o c:Ce):Ce:=(c.1 - (c.1 - o.1) % 2,c.2 - (c.2 - o.2) % 2)
def kk(o c:Ce):Nat:=if (c.1 - o.1) % 2=0 then (if (c.2 - o.2) % 2=0 then 0 else 1) else (if (c.2 - o.2) % 2=0 then 3 else 2)
theorem ud{α:Type}[DecidableEq α]:∀ {l m:List α},l.Nodup->(∀ x∈l,x∈m)->m.length<=l.length->l.Perm m
 | [],m,_,_,h=>by rw[XH.mp (Nat.le_zero.mp h)]
 | x::l,m,nd,s,h=>by
  have hx:=s x (.head _);obtain⟨n1,n2⟩:=Zl.mp nd;have p:=List.perm_cons_erase hx;refine .trans (.cons x (ud n2 (fun y hy=>(WY (fun e=>n1 (by rw[<- e];exact hy))).mpr<|s y<|.tail _ hy) ?_)) p.symm;have:=p.length_eq;simp at this h;lia
def cells(bs:List Ce):List Ce:=bs.flatMap Bz
def mC(l:List Ce):Prop:=(l.map cM).Pairwise (fun a b=>C_ a b=true)
theorem BA{ks:List Ce}(nd:ks.Nodup)(hl:ks.length<=1000):∃ ms:List Ce,ms.Perm ks/\cX (ks.map cM)=some (cL ms)/\mC ms:=by
 have so:=ja nd hl;obtain⟨ms,pm,em⟩:=sX (fU<|ks.map cM);refine⟨ms,pm,?_,?_⟩
 ·unfold cX;rw[ZZ (iK.mpr so),em]
 ·unfold mC;rw[<- em];exact kl so.1.3 so.1.2
theorem ue{g:M Vl}{x:List Im}(h:g D=some (.lst x,D1)):ay vTuple (aa (oV g) aNil) D=some (.im<|.tup x,D1):=by
 simp -implicitDefEqProofs only[ay,aa,oV,sI,h,Wk,WR,sL,sK,sJ,vTuple,dD]
def Lc(a b:Ce):Prop:=a.1<b.1\/(a.1=b.1/\a.2<b.2)
theorem kL:∀ (l ks:List Ce),ks.Nodup->(l.foldl aN ks).Nodup/\∀ c,c∈l.foldl aN ks↔c∈ks\/c∈l
 | [],ks,nd=>⟨nd,fun c=>by simp⟩
 | x::l,ks,nd=>by
  have h1:(aN ks x).Nodup/\∀ c,c∈aN ks x↔c∈ks\/c=x:=by
   unfold aN;split
   ·rename_i h;exact⟨nd,fun c=>⟨.inl,fun z=>z.elim id fun e=>by rw[e];exact h⟩⟩
   ·rename_i h;refine⟨ZP.mpr ⟨nd,by simp,fun a ha b hb=>?_⟩,fun c=>by simp⟩;rw[ZX.mp hb];exact fun e=>h (e ▸ ha)
  obtain⟨a,b⟩:=kL l (aN ks x) h1.1;refine⟨a,fun c=>?_⟩;rw[YH,b c,h1.2 c,ZT,or_assoc]
def bk(o:Ce)(fs:List Ce):List Ce:=(fs.map<|bl o).foldl aN []
theorem kN(c:n_){w:Int}(h:Fa w):(Eu c w).Nodup:=by
 unfold Eu;refine Xo.mpr (List.nodup_range.imp fun {a b} ne e=>ne ?_);have e1:(a:Int) / w=(b:Int) / w:=by have:=congrArg Prod.fst e;simp only at this;lia
 have e2:(a:Int) % w=(b:Int) % w:=by have:=congrArg Prod.snd e;simp only at this;lia
 have d1:=Xj (a:Int) w;have d2:=Xj (b:Int) w;rw[e1,e2,d2] at d1;lia
theorem fZ(c:n_){w:Int}(h:Fa w)(x:n_):x∈Eb c w w.toNat↔x∈Eu c w:=(nu h).trans (nt h).symm
theorem kO(h:Fa w):(w * w).toNat=w.toNat * w.toNat/\(w * w).toNat<=36:=by
 have:w=1\/w=2\/w=3\/w=4\/w=5\/w=6:=by have:=h.1;have:=h.2;lia
 rcases this with rfl | rfl | rfl | rfl | rfl | rfl<;>decide
theorem uf(c:n_)(w:Int):(Eu c w).length=(w * w).toNat:=by unfold Eu;rw[Z4,Y5]
theorem ug(c:n_){w:Int}(h:Fa w):(Eb c w w.toNat).Nodup:=
 (ud (kN c h) (fun x hx=>(fZ c h x).mpr hx) (by rw[je,uf,(kO h).1];exact ZR _)).nodup_iff.mp (kN c h)
theorem uh{ks us:List n_}(nd:us.Nodup)(hb:∀ c∈us,0<=c.1/\c.1<=30/\0<=c.2/\c.2<=30)(h1:ks.length<=1000)(h2:us.length<=1000):EM (.dT<|mt ks) [.dT (mt us)]=some (.im .i_,.dT<|mt<|us.foldl aN ks):=by
 have e:(mt us).map (·.1)=us.map cI:=by
  unfold mt;rw[YV];rfl
 show (cells? ((mt us).map (·.1))).bind _=_;rw[e,sw];refine (ZZ ⟨nd,hb,by unfold mt;rw[Z4];exact h1,by unfold mt;rw[Z4];exact h2⟩).trans ?_;rw[<- nz us ks];rfl
def Ht(f:n_->List n_)(ps ks:List n_):List n_:=ps.foldl (fun k c=>(f c).foldl aN k) ks
theorem kP(f:n_->List n_):∀ (ps ks:List n_),ks.Nodup->(Ht f ps ks).Nodup/\∀ x,x∈Ht f ps ks↔x∈ks\/∃ c∈ps,x∈f c
 | [],ks,nd=>⟨nd,fun x=>⟨.inl,fun h=>h.elim id fun ⟨_,z,_⟩=>nomatch z⟩⟩
 | p::ps,ks,nd=>by
  obtain⟨a1,a2⟩:=kL (f p) ks nd;obtain⟨b1,b2⟩:=kP f ps ((f p).foldl aN ks) a1;refine⟨b1,fun x=>?_⟩;show x∈Ht f ps ((f p).foldl aN ks)↔_;rw[b2,a2];constructor
  ·rintro ((h | h) | ⟨c,hc,h⟩)
   ·exact .inl h
   ·exact .inr ⟨p,.head _,h⟩
   ·exact .inr ⟨c,.tail _ hc,h⟩
  ·rintro (h | ⟨c,hc,h⟩)
   ·exact .inl (.inl h)
   ·rcases ZT.mp hc with z | z
    ·rw[z] at h;exact .inl (.inr h)
    ·exact .inr ⟨c,z,h⟩
structure Kp(cs:List n_):Prop where
 HW:∀ c∈cs,0<=c.1/\c.1<=30/\0<=c.2/\c.2<=30
 len:cs.length<=144
section
variable{cs:List n_}{w:Int}
variable{ks:List n_}
theorem BB(F:Kp cs)(hw:Fa w)(hc:∀ x∈Eu c w,x∈cs)(nd:ks.Nodup)(hk:∀ x∈ks,x∈cs):iX [o0,some<|iI w,some<|.dT<|mt ks,some<|.im<|cM c]=some (.nx,[o0,some<|iI w,some<|.dT<|mt<|(Eu c w).foldl aN ks,some<|.im<|cM c]):=by
 have l1:=nd.length_le_of_subset hk;have l2:=F.len;have l3:=uf c w;have l4:=(kO hw).2;unfold iX;exact KK (Kl rfl rfl (a_ (v_ (d_ (os:=[.vl (cL<|Eu c w)]) (a_ (v_<|d_ (os:=[.sl 3,.sl 1]) rfl rfl rfl (tw c hw) rfl) rfl) rfl rfl (tu (kN c hw) (by lia)) rfl)) rfl) rfl rfl (uh (kN c hw) (fun x hx=>F.HW x<|hc x hx) (by lia) (by lia)) rfl)
theorem ui{o0:Option Vl}(F:Kp cs)(hw:Fa w):∀ (ps ks:List n_) (o3:Option Vl),(∀ c∈ps,∀ x∈Eu c w,x∈cs)->ks.Nodup->(∀ x∈ks,x∈cs)->∃ OF,bj (gN 3) iX (ps.map cM) [o0,some<|iI w,some<|.dT<|mt ks,o3]=some (.nx,[o0,some<|iI w,some<|.dT<|mt<|Ht (fun c=>Eu c w) ps ks,OF])
 | [],ks,o3,_,_,_=>⟨o3,rfl⟩
 | c::ps,ks,o3,hp,nd,hk=>by
  have e:=BB (o0:=o0) F hw (hp c<|.head _) nd hk;obtain⟨a1,a2⟩:=kL (Eu c w) ks nd;obtain⟨OF,ih⟩:=ui (o0:=o0) F hw ps ((Eu c w).foldl aN ks) (some<|.im<|cM c) (fun d hd=>hp d<|.tail _ hd) a1 (fun x hx=>((a2 x).mp hx).elim (hk x)<|hp c (.head _) x);refine⟨OF,?_⟩;rw[ZF,bj];show (iX [o0,some<|iI w,some<|.dT<|mt ks,some<|.im<|cM c]).bind _=_;rw[e];exact ih
theorem uj(nd:ks.Nodup)(hl:ks.length<=1000):∃ m,DE [.dT (mt ks)]=some (cL m)/\Up m/\∀ x,x∈m↔x∈ks:=by
 obtain⟨m,pm,es,rs⟩:=BA nd hl;refine⟨m,?_,Xo.mp rs,fun x=>pm.mem_iff⟩;show cX ((mt ks).map fun p=>.tup p.1)=_;rw[mt,YV];exact es
variable{p:List n_}
theorem uk(F:Kp cs)(hw:Fa w)(hp:∀ c∈p,∀ x∈Eu c w,x∈cs):∃ m,dr [cT p,iI w]=some (cT m,[cT p,iI w])/\Up m/\∀ x,x∈m↔∃ c∈p,x∈Eu c w:=by
 obtain⟨o3,lp⟩:=ui (o0:=some (cT p)) F hw p [] none hp .nil (fun _ z=>nomatch z);obtain⟨a1,a2⟩:=kP (fun c=>Eu c w) p [] .nil;have a3:∀ x,x∈Ht (fun c=>Eu c w) p []↔∃ c∈p,x∈Eu c w:=fun x=>(a2 x).trans ⟨fun h=>h.elim (fun z=>nomatch z) id,.inr⟩;have l1:=a1.length_le_of_subset (fun x hx=>(by obtain⟨c,hc,h⟩:=(a3 x).mp hx;exact hp c hc x h:x∈cs));have l2:=F.len;obtain⟨m,es,um,mm⟩:=uj a1 (by lia);refine⟨m,?_,um,fun x=>(mm x).trans<|a3 x⟩;unfold dr sG;exact bn (D:=[some (cT p),some<|iI w,some<|.dT<|mt<|Ht (fun c=>Eu c w) p [],o3]) rfl (t_ (D1:=[some (cT p),some<|iI w,some<|.dT<|mt [],none]) rfl<|t_ (du (o:=none) rfl lp rfl)<|bz<|ue<|EH (a_ rfl rfl) rfl es) rfl
theorem BC{fs:List n_}(hs:s∈fs)(h:Cn fs s x):x∈fs:=by
 cases h with
 | self=>exact hs
 | step _ hb _=>exact hb
variable{s u:n_}
abbrev nD(cs:List n_)(w:Int)(s u:n_)(o4:Option Vl):SD:=[some (cT cs),some<|iI w,some<|.im<|cM s,some<|.im<|cM u,o4]
theorem BD{m:List n_}(e1:de [cT cs,iI w,.im<|cM s]=some (cT p,[cT cs,iI w,.im<|cM s]))(e2:dr [cT p,iI w]=some (cT m,[cT p,iI w])):bY [cT cs,iI w,.im<|cM s,.im<|cM u]=some (if decide (u∈m)=true then .im .i_ else cT p,[cT cs,iI w,.im<|cM s,.im<|cM u]):=by
 have t:kB (ad vIn (oSl 3)<|oV<|am 2 G.dr<|aa (oSl 4)<|aa (oSl 1) aNil) (nD cs w s u<|some<|cT p)=some (decide (u∈m),nD cs w s u<|some<|cT p):=FL (b_ rfl (v_<|d_ (os:=[.sl 4,.sl 1]) rfl rfl rfl e2 rfl) rfl rfl<|tL m u);have s1:ao 4 (am 3 G.de<|aa (oSl 0)<|aa (oSl 1)<|aa (oSl 2) aNil) (nD cs w s u none)=some (.nx,nD cs w s u<|some<|cT p):=aR (d_ (os:=[.sl 0,.sl 1,.sl 2]) rfl rfl rfl e1 rfl) (EC rfl) rfl;unfold bY iY;cases hb:decide (u∈m) with
 | true=>
  rw[hb] at t;refine bn (D:=nD cs w s u (some<|cT p)) rfl (t_ s1 ?_) rfl;unfold aj;rw[dt t rfl];rfl
 | false=>
  rw[hb] at t;exact bn (D:=nD cs w s u (some<|cT p)) rfl (t_ s1<|t_ (cb t rfl)<|bz rfl) rfl
theorem BE(e1:de [cT cs,iI w,.im<|cM s]=none)(e2:Gv 3 4 fX [cT cs,iI w,.im<|cM s]=true):bY [cT cs,iI w,.im<|cM s,.im<|cM u]=none/\Gv 4 5 fk [cT cs,iI w,.im<|cM s,.im<|cM u]=true:=by
 have c0:am 3 G.de (aa (oSl 0)<|aa (oSl 1)<|aa (oSl 2) aNil) (nD cs w s u none)=none:=by
  show ((de [cT cs,iI w,.im<|cM s]).map _)=none;rw[e1];rfl
 have g0:iY (nD cs w s u none)=none:=by
  unfold iY aj ao;rw[c0];rfl
 constructor
 ·unfold bY aM;rw[ZZ (show [cT cs,iI w,.im<|cM s,.im<|cM u].length=4 from rfl),show iY ([cT cs,iI w,.im<|cM s,.im<|cM u].map some++replicate (5 - 4) none)=none from g0]
 ·unfold Gv;have:fk (nD cs w s u none)=some (nD cs w s u none):=by
   show (if Gv 3 4 fX [cT cs,iI w,.im<|cM s]=true then some _ else none)=_;rw[ZZ e2]
  show (fk<|nD cs w s u none).isSome=true;rw[this];rfl
abbrev Gn(cs:List n_)(w:Int)(s u:n_)(d:Im):SD:=[some (cT cs),some<|iI w,some<|.im<|cM s,some<|.im<|cM u,some<|.im d,none]
theorem BF{d:Im}(e:bY [cT cs,iI w,.im<|cM s,.im<|cM u]=some (.im d,[cT cs,iI w,.im<|cM s,.im<|cM u])):dG [cT cs,iI w,.im<|cM s,.im<|cM u]=some (.im<|.tup [.str "",d],[cT cs,iI w,.im<|cM s,.im<|cM u]):=by
 unfold dG m5;have t:ao 4 (aA<|aa (oV<|eC<|.str "")<|aa (oV<|am 4 G.bY<|aa (oSl 0)<|aa (oSl 1)<|aa (oSl 2)<|aa (oSl 3) aNil) aNil) (Gn cs w s u<|.tup [.str "?",.i_])=some (.nx,Gn cs w s u<|.tup [.str "",d]):=aR (Hr (a_ rfl<|a_ (v_<|d_ (os:=[.sl 0,.sl 1,.sl 2,.sl 3]) rfl rfl rfl e rfl) rfl) rfl (ZM rfl) rfl) (EC rfl) rfl;refine bn (D:=Gn cs w s u (.tup [.str "",d])) rfl (t_ (D1:=Gn cs w s u (.tup [.str "?",.i_])) rfl<|t_ (D1:=Gn cs w s u (.tup [.str "",d])) ?_<|bz rfl) rfl;unfold gK;rw[t]
theorem BG(e1:bY [cT cs,iI w,.im<|cM s,.im<|cM u]=none)(e2:Gv 4 5 fk [cT cs,iI w,.im<|cM s,.im<|cM u]=true):dG [cT cs,iI w,.im<|cM s,.im<|cM u]=some (.im<|.tup [.str "NoFit",.i_],[cT cs,iI w,.im<|cM s,.im<|cM u]):=by
 unfold dG m5;have t:ao 4 (aA<|aa (oV<|eC<|.str "")<|aa (oV<|am 4 G.bY<|aa (oSl 0)<|aa (oSl 1)<|aa (oSl 2)<|aa (oSl 3) aNil) aNil) (Gn cs w s u<|.tup [.str "?",.i_])=none:=by
  have a0:am 4 G.bY (aa (oSl 0)<|aa (oSl 1)<|aa (oSl 2)<|aa (oSl 3) aNil) (Gn cs w s u<|.tup [.str "?",.i_])=none:=by
   show ((bY [cT cs,iI w,.im<|cM s,.im<|cM u]).map _)=none;rw[e1];rfl
  have a1:aa (oV<|am 4 G.bY<|aa (oSl 0)<|aa (oSl 1)<|aa (oSl 2)<|aa (oSl 3) aNil) aNil (Gn cs w s u<|.tup [.str "?",.i_])=none:=by
   show ((am 4 G.bY (aa (oSl 0)<|aa (oSl 1)<|aa (oSl 2)<|aa (oSl 3) aNil)<|Gn cs w s u<|.tup [.str "?",.i_]).map _).bind _=none;rw[a0];rfl
  have a2:aa (oV<|eC<|.str "") (aa (oV<|am 4 G.bY<|aa (oSl 0)<|aa (oSl 1)<|aa (oSl 2)<|aa (oSl 3) aNil) aNil) (Gn cs w s u<|.tup [.str "?",.i_])=none:=by
   show (aa (oV<|am 4 G.bY<|aa (oSl 0)<|aa (oSl 1)<|aa (oSl 2)<|aa (oSl 3) aNil) aNil<|Gn cs w s u<|.tup [.str "?",.i_]).map _=none;rw[a1];rfl
  show ((aa (oV<|eC<|.str "") (aa (oV<|am 4 G.bY<|aa (oSl 0)<|aa (oSl 1)<|aa (oSl 2)<|aa (oSl 3) aNil) aNil)<|Gn cs w s u<|.tup [.str "?",.i_]).bind _).bind _=none;rw[a2];rfl
 refine bn (D:=Gn cs w s u (.tup [.str "NoFit",.i_])) rfl (t_ (D1:=Gn cs w s u (.tup [.str "?",.i_])) rfl<|t_ (D1:=Gn cs w s u (.tup [.str "NoFit",.i_])) ?_<|bz rfl) rfl;unfold gK;rw[t];have v:mY (Gn cs w s u<|.tup [.str "?",.i_])=some (Gn cs w s u<|.tup [.str "?",.i_]):=by
  show (if Gv 4 5 fk [cT cs,iI w,.im<|cM s,.im<|cM u]=true then some _ else none)=_;rw[ZZ e2]
 show kc _ _ _=_;unfold kc;rw[v];rfl
end
abbrev xD(o0 o1 o2 o3 o4 o5 o6 o7 o8 o9 o10 o11 o12:Option Vl):SD:=[o0,o1,o2,o3,o4,o5,o6,o7,o8,o9,o10,o11,o12]
theorem ul{a b:List n_}(ua:Up a)(ub:Up b)(m:∀ x,x∈a↔x∈b):a=b:=
 List.Perm.eq_of_pairwise (le:=fun a b=>C_ (cM a) (cM b)=true) (fun a b _ _ x y=>by have:=Ba x y;rw[kh] at this;cases this) ua ub ((List.perm_ext_iff_of_nodup (gZ ua)<|gZ ub).mpr m)
section
variable{cs:List n_}{w:Int}{s:n_}{o0 o1 o2 o3 o5 o6 o7 o8 o9 o10 o11 o12:Option Vl}
theorem BH{ks:List n_}(F:Kp cs)(hw:Fa w)(hc:∀ x∈Eu c w,x∈cs)(nd:ks.Nodup)(hk:∀ x∈ks,x∈cs):gU (xD o0 o1 o2 o3 (some<|iI w) o5 o6 o7 (some<|.dT<|mt ks) (some<|.im<|cM c) o10 o11 o12)=some (.nx,xD o0 o1 o2 o3 (some<|iI w) o5 o6 o7 (some<|.dT<|mt<|(Eb c w w.toNat).foldl aN ks) (some<|.im<|cM c) o10 o11 o12):=by
 have l1:=nd.length_le_of_subset hk;have l2:=F.len;have l3:=je c w w.toNat;have l4:=(kO hw).2;have l5:=(kO hw).1;have c1:aV 1 [] (aX<|oV<|am 2 G.en<|aa (oSl 9)<|aa (oSl 4) aNil) (gN 0) kYes G.sH (xD o0 o1 o2 o3 (some<|iI w) o5 o6 o7 (some<|.dT<|mt ks) (some<|.im<|cM c) o10 o11 o12)=some (.lst<|(Eb c w w.toNat).map fun x=>.tup [cM x,.bl true],xD o0 o1 o2 o3 (some<|iI w) o5 o6 o7 (some<|.dT<|mt ks) (some<|.im<|cM c) o10 o11 o12):=by
  refine HV (xs:=(Eb c w w.toNat).map cM) (o:=none) (D1:=xD o0 o1 o2 o3 (some<|iI w) o5 o6 o7 (some<|.dT<|mt ks) (some<|.im<|cM c) o10 o11 o12) (Nc (d_ (os:=[.sl 9,.sl 4]) rfl rfl rfl (tz c hw) rfl) rfl) (fo cM (fun x=>.tup [cM x,.bl true]) _ (fun x hx=>?_) (by lia)) rfl;exact⟨[some (.im<|cM x)],_,[some (.im<|cM x)],rfl,rfl,Hr (a_ rfl<|a_ rfl rfl) rfl (ZM rfl) rfl,rfl⟩
 unfold gU;exact KK (Kl rfl rfl (a_ (v_ (EH (a_ (v_ c1) rfl) rfl (tF (ug c hw) (by lia)))) rfl) rfl rfl (uh (ug c hw) (fun x hx=>F.HW x<|hc x<|(fZ c hw x).mp hx) (by lia) (by lia)) rfl)
theorem uo{o0 o1 o2 o3 o5 o6 o7 o10 o11 o12:Option Vl}(F:Kp cs)(hw:Fa w):∀ (ps ks:List n_) (o9:Option Vl),(∀ c∈ps,∀ x∈Eu c w,x∈cs)->ks.Nodup->(∀ x∈ks,x∈cs)->∃ p9,bj (gN 9) gU (ps.map cM) (xD o0 o1 o2 o3 (some<|iI w) o5 o6 o7 (some<|.dT<|mt ks) o9 o10 o11 o12)=some (.nx,xD o0 o1 o2 o3 (some<|iI w) o5 o6 o7 (some<|.dT<|mt<|Ht (fun c=>Eb c w w.toNat) ps ks) p9 o10 o11 o12)
 | [],ks,o9,_,_,_=>⟨o9,rfl⟩
 | c::ps,ks,o9,hp,nd,hk=>by
  have e:=BH (o0:=o0) (o1:=o1) (o2:=o2) (o3:=o3) (o5:=o5) (o6:=o6) (o7:=o7) (o10:=o10) (o11:=o11) (o12:=o12) F hw (hp c<|.head _) nd hk;obtain⟨a1,a2⟩:=kL (Eb c w w.toNat) ks nd;obtain⟨p9,ih⟩:=uo F hw ps ((Eb c w w.toNat).foldl aN ks) (some<|.im<|cM c) (fun d hd=>hp d<|.tail _ hd) a1 (fun x hx=>((a2 x).mp hx).elim (hk x) fun z=>hp c (.head _) x<|(fZ c hw x).mp z);refine⟨p9,?_⟩;rw[ZF,bj];show (gU<|xD o0 o1 o2 o3 (some<|iI w) o5 o6 o7 (some<|.dT<|mt ks) (some<|.im<|cM c) o10 o11 o12).bind _=_;rw[e];exact ih
structure Ask(cs:List n_)(w:Int)(s:n_)(p K:List n_):Prop where
 yes:∀ u,p≠[]->dG [cT cs,iI w,.im<|cM s,.im<|cM u]=some (.im<|.tup [.str "",if decide (u∈K)=true then .i_ else .tup (p.map cM)],[cT cs,iI w,.im<|cM s,.im<|cM u])
 no:∀ u,p=[]->dG [cT cs,iI w,.im<|cM s,.im<|cM u]=some (.im<|.tup [.str "NoFit",.i_],[cT cs,iI w,.im<|cM s,.im<|cM u])
 len:p.length<1000
theorem BI{M:Nat}{p K:List n_}(H:aW (M+1) h)(Hu:cs≠[])(hl:cs.length<=144)(A:Ask cs w s p K):∃ h' L3 L4,kE (xD o0 o1 (some h) (some<|cT cs) (some<|iI w) (some<|.im<|cM s) o6 (some<|cT p) (some<|.dT<|mt K) o9 o10 o11 o12)=some (.nx,xD o0 o1 (some h') (some<|cT cs) (some<|iI w) (some<|.im<|cM s) o6 (some<|cT p) (some<|.dT<|mt K) o9 o10 L3 L4)/\aW M h':=by
 obtain⟨y,h1,e1,i1,H1⟩:=tU (n:=M) (xs:=cs.map cM) H (fun z=>Hu<|List.map_eq_nil_iff.mp z) (by rw[Z4];lia);obtain⟨u,_,rfl⟩:=Zi.mp i1;obtain⟨q,rfl⟩:=bi H;obtain⟨q1,rfl⟩:=bi H1;have fin:∀ d:Im,Ga 5 d=true->dG [cT cs,iI w,.im<|cM s,.im<|cM u]=some (.im d,[cT cs,iI w,.im<|cM s,.im<|cM u])->sIf (cS<|bS<|oV<|am 2 (G.cv 6)<|aa (oV<|am 4 G.dG<|aa (oSl 3)<|aa (oSl 4)<|aa (oSl 5)<|aa (oSl 11) aNil)<|aa (oSl 12) aNil) (aI<|eC<|.bl false) sNil (xD o0 o1 (some<|.lst q1) (some<|cT cs) (some<|iI w) (some<|.im<|cM s) o6 (some<|cT p) (some<|.dT<|mt K) o9 o10 (some<|.im<|cM u)<|some<|.im d)=some (.nx,xD o0 o1 (some<|.lst q1) (some<|cT cs) (some<|iI w) (some<|.im<|cM s) o6 (some<|cT p) (some<|.dT<|mt K) o9 o10 (some<|.im<|cM u)<|some<|.im d):=fun d ok e=>
  cb (OA<|Ix (v_<|d_ (os:=[.vl (.im d),.sl 12]) (a_ (v_<|d_ (os:=[.sl 3,.sl 4,.sl 5,.sl 11]) rfl rfl rfl e rfl)<|a_ rfl rfl) rfl rfl (nE 5 d ok) rfl) rfl rfl) rfl;have t1:∀ d:Im,kB (ad vIn (oSl 11)<|oSl 8) (xD o0 o1 (some<|.lst q1) (some<|cT cs) (some<|iI w) (some<|.im<|cM s) o6 (some<|cT p) (some<|.dT<|mt K) o9 o10 (some<|.im<|cM u)<|some<|.im d)=some (decide (u∈K),xD o0 o1 (some<|.lst q1) (some<|cT cs) (some<|iI w) (some<|.im<|cM s) o6 (some<|cT p) (some<|.dT<|mt K) o9 o10 (some<|.im<|cM u)<|some<|.im d):=fun d=>FL (b_ rfl rfl rfl rfl<|jf K u);have t2:∀ d:Im,kB (ad vEq (oSl 7)<|oV<|aA aNil) (xD o0 o1 (some<|.lst q1) (some<|cT cs) (some<|iI w) (some<|.im<|cM s) o6 (some<|cT p) (some<|.dT<|mt K) o9 o10 (some<|.im<|cM u)<|some<|.im d)=some (decide (p=[]),xD o0 o1 (some<|.lst q1) (some<|cT cs) (some<|iI w) (some<|.im<|cM s) o6 (some<|cT p) (some<|.dT<|mt K) o9 o10 (some<|.im<|cM u)<|some<|.im d):=fun d=>FL (b_ rfl rfl rfl rfl<|tW p);have s1:ao 11 (am 2 G.bU<|aa (oSl 2)<|aa (oSl 3) aNil) (xD o0 o1 (some<|.lst q) (some<|cT cs) (some<|iI w) (some<|.im<|cM s) o6 (some<|cT p) (some<|.dT<|mt K) o9 o10 o11 o12)=some (.nx,xD o0 o1 (some<|.lst q1) (some<|cT cs) (some<|iI w) (some<|.im<|cM s) o6 (some<|cT p) (some<|.dT<|mt K) o9 o10 (some<|.im<|cM u) o12):=aR (d_ (os:=[.sl 2,.sl 3]) rfl rfl rfl e1 rfl) (EC rfl) rfl;have s2:ao 12 (aA<|aa (oV<|eC<|.str "")<|aa (oSl 7) aNil) (xD o0 o1 (some<|.lst q1) (some<|cT cs) (some<|iI w) (some<|.im<|cM s) o6 (some<|cT p) (some<|.dT<|mt K) o9 o10 (some<|.im<|cM u) o12)=some (.nx,xD o0 o1 (some<|.lst q1) (some<|cT cs) (some<|iI w) (some<|.im<|cM s) o6 (some<|cT p) (some<|.dT<|mt K) o9 o10 (some<|.im<|cM u)<|some<|.im<|.tup [.str "",.tup<|p.map cM]):=aR (Hr (a_ rfl<|a_ rfl rfl) rfl (ZM rfl) rfl) (EC rfl) rfl;unfold kE;obtain⟨d,ok,s3⟩:∃ d:Im,(d=.tup [.str "",if decide (u∈K)=true then .i_ else .tup (p.map cM)])/\sIf (kB<|ad vIn (oSl 11)<|oSl 8) (ao 12<|aA<|aa (oV<|eC<|.str "")<|aa (oV<|eC .i_) aNil) sNil (xD o0 o1 (some<|.lst q1) (some<|cT cs) (some<|iI w) (some<|.im<|cM s) o6 (some<|cT p) (some<|.dT<|mt K) o9 o10 (some<|.im<|cM u)<|some<|.im<|.tup [.str "",.tup<|p.map cM])=some (.nx,xD o0 o1 (some<|.lst q1) (some<|cT cs) (some<|iI w) (some<|.im<|cM s) o6 (some<|cT p) (some<|.dT<|mt K) o9 o10 (some<|.im<|cM u)<|some<|.im d):=by
  have t:=t1 (.tup [.str "",.tup<|p.map cM]);cases hb:decide (u∈K) with
  | true=>rw[hb] at t;exact⟨_,rfl,dt t rfl⟩
  | false=>rw[hb] at t;exact⟨_,rfl,cb t rfl⟩
 have t:=t2 d;cases hb:decide (p=[]) with
 | true=>
  rw[hb] at t;exact⟨_,_,_,t_ s1<|t_ s2<|t_ s3<|t_ (dt t rfl)<|fin _ rfl<|A.no u<|Zk hb,H1⟩
 | false=>
  rw[hb] at t;refine⟨_,_,_,t_ s1<|t_ s2<|t_ s3<|t_ (cb t rfl)<|fin d ?_ ?_,H1⟩
  ·rw[ok];have:=A.len;cases decide (u∈K) with
   | true=>rfl
   | false=>exact By p (by lia)
  ·rw[ok];exact A.yes u (of_decide_eq_false hb)
end
theorem BJ(F:Kn cs)(hw:Fa w):∃ p,Up p/\(∀ c∈p,∀ x∈Eu c w,x∈cs)/\Ask cs w s p (Ht (fun c=>Eb c w w.toNat) p [])/\((s∈cs.filter (bh cs w)/\fW [cT (cs.filter<|bh cs w),.im<|cM s]=some (cT p,[cT (cs.filter<|bh cs w),.im<|cM s]))\/(s∉cs.filter (bh cs w)/\p=[])):=by
 have nd:=gZ F.up;have hl:=F.len;have I:Kp cs:=⟨F.HW,F.len⟩;by_cases hs:s∈cs.filter (bh cs w)
 ·obtain⟨p,e1,u1,m1⟩:=Bw nd hl hw hs;obtain⟨p2,e2,u2,m2,l2⟩:=Bn (cs:=cs.filter (bh cs w)) (s:=s) (nd.filter _) (Zo (Y8 _ _) (by lia));cases ul u1 u2 fun x=>(m1 x).trans (m2 x).symm;have hp:∀ c∈p,∀ x∈Eu c w,x∈cs:=fun c hc x hx=>by
   have:=(YW.mp<|BC hs<|(m1 c).mp hc).2;exact Zk (Zn.mp this x hx)
  obtain⟨m,e3,um,mm⟩:=uk I hw hp;have lf:(cs.filter<|bh cs w).length<=144:=Zo (Y8 _ _) hl;have hK:∀ u,u∈Ht (fun c=>Eb c w w.toNat) p []↔u∈m:=fun u=>by
   rw[(kP (fun c=>Eb c w w.toNat) p [] .nil).2,mm];constructor
   ·rintro (h | ⟨c,hc,h⟩)
    ·cases h
    ·exact⟨c,hc,(fZ c hw u).mp h⟩
   ·rintro⟨c,hc,h⟩;exact .inr ⟨c,hc,(fZ c hw u).mpr h⟩
  refine⟨p,u1,hp,⟨fun u _=>?_,fun u z=>?_,by lia⟩,.inl ⟨hs,e2⟩⟩
  ·have e5:=BD (u:=u) e1 e3;have e6:decide (u∈m)=decide (u∈Ht (fun c=>Eb c w w.toNat) p []):=decide_eq_decide.mpr (hK u).symm;rw[e6] at e5;refine BF (e5.trans ?_);cases decide (u∈Ht (fun c=>Eb c w w.toNat) p [])<;>rfl
  ·have:=(m1 s).mpr .self;rw[z] at this;cases this
 ·obtain⟨a,b⟩:=Bx nd hl hw hs;refine⟨[],.nil,(fun _ z=>nomatch z),⟨fun u z=>absurd rfl z,fun u _=>?_,by decide⟩,.inr ⟨hs,rfl⟩⟩;obtain⟨c,d⟩:=BE (u:=u) a b;exact BG c d
theorem BK{p:List n_}(hl:p.length<100000):Ga 5 (.tup<|p.map cM)=true:=by
 rw[Ga,ZV,Z4,XF];exact⟨Zr hl,Zn.mpr fun x _=>rfl⟩
theorem BL{o2 o3 o7:Option Vl}(hk:0<=k)(Gr:k<1000):
  ∃ D2,kF (xD (some<|.fz<|ns.map .int) (some<|iI k) o2 o3 o4 o5 o6 o7 o8 o9 o10 o11 o12)=some (.nx,D2)/\∃ p2 p3 p4 p5 p6 p7 p8 p9 OG L3 L4,D2=xD (some<|.fz<|ns.map .int) (some<|iI k) p2 p3 p4 p5 p6 p7 p8 p9 OG L3 L4:=by
 obtain⟨h,e1,H⟩:=AT (ns:=ns) hk Gr;obtain⟨cs,h',e2,F,H'⟩:=A5 (M:=999600) H;obtain⟨w,s,h1,e3,hw,H1⟩:=Bu (M:=999598) H' F;have hl:=F.len;have nd:=gZ F.up;have I:Kp cs:=⟨F.HW,F.len⟩;have e4:=tJ nd (by lia) hw;obtain⟨p,up,hp,A,Jx⟩:=BJ (s:=s) F hw;obtain⟨q,rfl⟩:=bi H;obtain⟨q',rfl⟩:=bi H';obtain⟨q1,rfl⟩:=bi H1;generalize cs.filter (bh cs w)=fs at e4 Jx;generalize hK:Ht (fun c=>Eb c w w.toNat) p []=K at A;obtain⟨a1,a2⟩:=kP (fun c=>Eb c w w.toNat) p [] .nil;rw[hK] at a1 a2;have a3:∀ x,x∈K↔∃ c∈p,x∈Eu c w:=fun x=>by
  rw[a2];constructor
  ·rintro (h | ⟨c,hc,h⟩)
   ·cases h
   ·exact⟨c,hc,(fZ c hw x).mp h⟩
  ·rintro⟨c,hc,h⟩;exact .inr ⟨c,hc,(fZ c hw x).mpr h⟩
 have lK:=a1.length_le_of_subset (fun x hx=>(by obtain⟨c,hc,h⟩:=(a3 x).mp hx;exact hp c hc x h:x∈cs));obtain⟨m,em,um,mm⟩:=uk I hw hp;obtain⟨m2,es,R9,P1⟩:=uj a1 (by lia);cases ul um R9 fun x=>(mm x).trans ((a3 x).symm.trans (P1 x).symm);have lm:m.length<=K.length:=(gZ um).length_le_of_subset fun x hx=>(P1 x).mp hx;obtain⟨p9,lp⟩:=uo (o0:=some (.fz<|ns.map .int)) (o1:=some (iI k)) (o2:=some (.lst q1)) (o3:=some (cT cs)) (o5:=some (.im<|cM s)) (o6:=some (cT fs)) (o7:=some (cT p)) (o10:=o10) (o11:=o11) (o12:=o12) I hw p [] o9 hp .nil (fun _ z=>nomatch z);rw[hK] at lp;generalize ez:some (Vl.fz<|ns.map .int)=o0 at *;generalize ey:some (iI k)=o1 at *;have s1:ao 2 (am 2 G.gR<|aa (oSl 0)<|aa (oSl 1) aNil) (xD o0 o1 o2 o3 o4 o5 o6 o7 o8 o9 o10 o11 o12)=some (.nx,xD o0 o1 (some<|.lst q) o3 o4 o5 o6 o7 o8 o9 o10 o11 o12):=by
  rw[<- ez,<- ey];exact aR (d_ (os:=[.sl 0,.sl 1]) rfl rfl rfl e1 rfl) (EC rfl) rfl
 obtain⟨D6,P2⟩:∃ D6,D6=xD o0 o1 (some<|.lst q1) (some<|cT cs) (some<|iI w) (some<|.im<|cM s) (some<|cT fs) (some<|cT p) (some<|.dT<|mt []) o9 o10 o11 o12:=⟨_,rfl⟩;have s6:sIf (kB<|ad vIn (oSl 5)<|oSl 6) (ao 7<|am 2 G.fW<|aa (oSl 6)<|aa (oSl 5) aNil) sNil (xD o0 o1 (some<|.lst q1) (some<|cT cs) (some<|iI w) (some<|.im<|cM s) (some<|cT fs) (some<|cT []) (some<|.dT<|mt []) o9 o10 o11 o12)=some (.nx,D6):=by
  have t:kB (ad vIn (oSl 5)<|oSl 6) (xD o0 o1 (some<|.lst q1) (some<|cT cs) (some<|iI w) (some<|.im<|cM s) (some<|cT fs) (some<|cT []) (some<|.dT<|mt []) o9 o10 o11 o12)=some (decide (s∈fs),xD o0 o1 (some<|.lst q1) (some<|cT cs) (some<|iI w) (some<|.im<|cM s) (some<|cT fs) (some<|cT []) (some<|.dT<|mt []) o9 o10 o11 o12):=FL (b_ rfl rfl rfl rfl<|tL fs s);rw[P2];rcases Jx with ⟨z,ep⟩ | ⟨z,ep⟩
  ·rw[Zr z] at t;exact dt t (aR (d_ (os:=[.sl 6,.sl 5]) rfl rfl rfl ep rfl) (EC rfl) rfl)
  ·rw[Zs z] at t;rw[ep];exact cb t rfl
 obtain⟨D8,L5⟩:∃ D8,D8=xD o0 o1 (some<|.lst q1) (some<|cT cs) (some<|iI w) (some<|.im<|cM s) (some<|cT fs) (some<|cT p) (some<|.dT<|mt K) p9 o10 o11 o12:=⟨_,rfl⟩;have s7:bC (aX<|oSl 7) (gN 9) G.gU D6=some (.nx,D8):=by
  rw[P2,L5];exact du (o:=none) rfl lp rfl
 have s8:sIf (cD (kB<|ad vNe (oSl 7)<|oV<|aA aNil)<|cS<|bS<|oV<|am 2 (G.cv 6)<|aa (oV<|am 2 G.dr<|aa (oSl 7)<|aa (oSl 4) aNil)<|aa (oV<|ay vTuple<|aa (oV<|ay DE<|aa (oSl 8) aNil) aNil) aNil) (aI<|eC<|.bl false) sNil D8=some (.nx,D8):=by
  have t1:kB (ad vNe (oSl 7)<|oV<|aA aNil) D8=some (!decide (p=[]),D8):=by
   rw[L5];exact FL (b_ rfl rfl rfl rfl<|tX p)
  have t2:cS (bS<|oV<|am 2 (G.cv 6)<|aa (oV<|am 2 G.dr<|aa (oSl 7)<|aa (oSl 4) aNil)<|aa (oV<|ay vTuple<|aa (oV<|ay DE<|aa (oSl 8) aNil) aNil) aNil) D8=some (false,D8):=by
   rw[L5];exact OA (Ix (v_ (d_ (os:=[.vl (cT m),.vl<|cT m]) (a_ (v_<|d_ (os:=[.sl 7,.sl 4]) rfl rfl rfl em rfl)<|a_ (v_<|ue<|EH (a_ rfl rfl) rfl es) rfl) rfl rfl (nE 5 _ (BK (by lia))) rfl)) rfl rfl)
  cases hb:decide (p=[]) with
  | true=>rw[hb] at t1;exact cb (tf t1) rfl
  | false=>rw[hb] at t1;exact cb (nj t1 t2) rfl
 obtain⟨n,hn,r1⟩:∃ n:Int,n=20 * (if (!decide (cs=[]))=true then 1 else 0)/\iR1 (aa (oV<|ad vMul (oV<|eC<|.int 20)<|oV<|ay vInt<|aa (oV<|ad vNe (oSl 3)<|oV<|aA aNil) aNil) aNil) D8=some ((bx 0 n.toNat,none),D8):=by
  refine⟨_,rfl,?_⟩;rw[L5];exact Ju (a_ (v_ (b_ rfl (v_<|EH (a_ (v_<|b_ rfl rfl rfl rfl<|tX cs) rfl) rfl rfl) rfl rfl (df (fm (by decide) (by decide))))) rfl) rfl (by cases decide (cs=[])<;>exact⟨by decide,by decide⟩)
 have SI:n.toNat<=20:=by
  rw[hn];cases decide (cs=[])<;>decide
 obtain⟨D',l1,h3,SJ,SK,SL,rfl,_⟩:=gW (tg:=gN 10) (b:=kE) (xs:=bx 0 n.toNat) (fun i D=>∃ h o10 o11 o12,D=xD o0 o1 (some h) (some<|cT cs) (some<|iI w) (some<|.im<|cM s) (some<|cT fs) (some<|cT p) (some<|.dT<|mt K) p9 o10 o11 o12/\aW (999598 - i) h) (D:=D8)
  ⟨.lst q1,o10,o11,o12,L5,H1⟩ (fun i x D hx hI=>by
   obtain⟨h,o10,o11,o12,rfl,H⟩:=hI;obtain⟨hi,rfl⟩:=gY hx;have Hu:cs≠[]:=fun z=>by
    rw[hn,Zr z] at hi;exact absurd hi (Nat.not_lt_zero i)
   obtain⟨h',a,b,e,H'⟩:=BI (M:=999598 - (i+1)) (o0:=o0) (o1:=o1) (o6:=some (cT fs)) (o9:=p9) (o10:=some (iI<|0+(i:Int))) (o11:=o11) (o12:=o12) (H.mono (by lia)) Hu hl A;exact⟨_,_,_,rfl,e,.inl rfl,h',_,a,b,rfl,H'⟩)
 unfold kF;exact⟨_,t_ s1<|t_ (D1:=xD o0 o1 (some<|.lst q') (some<|cT cs) o4 o5 o6 o7 o8 o9 o10 o11 o12) (aR (d_ (os:=[.sl 2]) rfl rfl rfl e2 rfl) (EC rfl) rfl) (t_ (D1:=xD o0 o1 (some<|.lst q1) (some<|cT cs) (some<|iI w) (some<|.im<|cM s) o6 o7 o8 o9 o10 o11 o12) (Kk (d_ (os:=[.sl 2,.sl 3]) rfl rfl rfl e3 rfl) rfl)
  (t_ (D1:=xD o0 o1 (some<|.lst q1) (some<|cT cs) (some<|iI w) (some<|.im<|cM s) (some<|cT fs) o7 o8 o9 o10 o11 o12) (aR (d_ (os:=[.sl 3,.sl 4]) rfl rfl rfl e4 rfl) (EC rfl) rfl)
   (t_ (D1:=xD o0 o1 (some<|.lst q1) (some<|cT cs) (some<|iI w) (some<|.im<|cM s) (some<|cT fs) (some<|cT []) (some<|.dT<|mt []) o9 o10 o11 o12) (nk (a_ (v_ rfl)<|a_ (v_ rfl) rfl) rfl (EC rfl) (EC rfl) rfl)<|t_ s6<|t_ s7<|t_ s8<|du r1 l1 rfl))),_,_,_,_,_,_,_,_,_,_,_,rfl⟩
theorem BM(ns:List Int)(NE:ns.length<100000):∃ outs,i7 [.fz (ns.map .int)]=some (.im<|.bl true,outs):=by
 obtain⟨n,hn,n0,n1⟩:∃ n:Int,ay vMax2 (aa (oV<|eC<|.int 1)<|aa (oV<|ay vMin2<|aa (oV<|eC<|.int 12)<|aa (oV<|ay vLen<|aa (oSl 0) aNil) aNil) aNil) (xD (some<|.fz<|ns.map .int) none none none none none none none none none none none none)=some (iI n,xD (some<|.fz<|ns.map .int) none none none none none none none none none none none none)/\0<=n/\n<=12:=by
  refine⟨_,EH (a_ rfl<|a_ (v_<|EH (a_ rfl<|a_ (v_<|EH (a_ rfl rfl) rfl rfl) rfl) rfl rfl) rfl) rfl rfl,?_,?_⟩
  ·split<;>split<;>lia
  ·split<;>split<;>lia
 obtain⟨D',l1,k',o2,o3,o4,o5,o6,o7,o8,o9,o10,o11,o12,rfl⟩:=gW (tg:=gN 1) (b:=kF) (xs:=bx 0 n.toNat) (fun i D=>∃ o1 o2 o3 o4 o5 o6 o7 o8 o9 o10 o11 o12,D=xD (some<|.fz<|ns.map .int) o1 o2 o3 o4 o5 o6 o7 o8 o9 o10 o11 o12) (D:=xD (some<|.fz<|ns.map .int) none none none none none none none none none none none none)
  ⟨_,_,_,_,_,_,_,_,_,_,_,_,rfl⟩ (fun i x D hx hI=>by
   obtain⟨o1,o2,o3,o4,o5,o6,o7,o8,o9,o10,o11,o12,rfl⟩:=hI;obtain⟨hi,rfl⟩:=gY hx;obtain⟨D2,e,p2,p3,p4,p5,p6,p7,p8,p9,OG,L3,L4,rfl⟩:=BL (ns:=ns) (k:=0+(i:Int)) (o2:=o2) (o3:=o3) (o4:=o4) (o5:=o5) (o6:=o6) (o7:=o7) (o8:=o8) (o9:=o9) (o10:=o10) (o11:=o11) (o12:=o12) (by lia) (by lia);exact⟨_,_,_,rfl,e,.inl rfl,_,p2,p3,p4,p5,p6,p7,p8,p9,OG,L3,L4,rfl⟩)
 refine⟨_,bn (D:=xD (some<|.fz<|ns.map .int) k' o2 o3 o4 o5 o6 o7 o8 o9 o10 o11 o12) rfl ?_ rfl⟩;show m6 (xD (some<|.fz<|ns.map .int) none none none none none none none none none none none none)=_;unfold m6;exact t_ (du (o:=none) (Ju (a_ (v_ hn) rfl) rfl ⟨by lia,by lia⟩) l1 rfl) (bz rfl)
end G
namespace L2
open PySem
end L2
set_option maxHeartbeats 4000000
namespace K08
open PySem L2 PyProof.Rows
variable{l:PySem.W.OpenLaw}{f:Addr}{k:Nat}{A:Around}
def top(i:Nat):Stmt:=PySem.Challenge.pw_mowfloor_k08_mown_or_never.main.body.getD i (.Pass ⟨0,0,0,0⟩)
structure Txt(mg:Str->Option Value):Prop where
 FZ:mg "ValueError" = none
 Jy:mg "abs" = none
 HX:mg "all" = none
 L6:mg "any" = none
 Kq:mg "bool" = none
 HY:mg "dict" = none
 GV:mg "int" = none
 k_:mg "isinstance" = none
 Go:mg "len" = none
 Kr:mg "list" = none
 HZ:mg "max" = none
 H9:mg "min" = none
 DR:mg "range" = none
 El:mg "sorted" = none
 Jz:mg "str" = none
 DS:mg "tuple" = none
 L7:mg "zip" = none
theorem BN:bootBuiltins "ValueError" = some (.type "ValueError"):=by decide +kernel
theorem uq:bootBuiltins "abs" = some (.builtin "abs"):=by decide +kernel
theorem nF:bootBuiltins "all" = some (.builtin "all"):=by decide +kernel
theorem BO:bootBuiltins "any" = some (.builtin "any"):=by decide +kernel
theorem BP:bootBuiltins "bool" = some (.type "bool"):=by decide +kernel
theorem ur:bootBuiltins "dict" = some (.type "dict"):=by decide +kernel
theorem kQ:bootBuiltins "int" = some (.type "int"):=by decide +kernel
theorem cG:bootBuiltins "isinstance" = some (.builtin "isinstance"):=by decide +kernel
theorem jg:bootBuiltins "len" = some (.builtin "len"):=by decide +kernel
theorem BQ:bootBuiltins "list" = some (.type "list"):=by decide +kernel
theorem nG:bootBuiltins "max" = some (.builtin "max"):=by decide +kernel
theorem nH:bootBuiltins "min" = some (.builtin "min"):=by decide +kernel
theorem jh:bootBuiltins "sorted" = some (.builtin "sorted"):=by decide +kernel
theorem ut:bootBuiltins "str" = some (.type "str"):=by decide +kernel
theorem fu:bootBuiltins "tuple" = some (.type "tuple"):=by decide +kernel
theorem aH(hr:A_ k A):A.units+20<cLine:=by have:=hr.un;omega
theorem uu(hr:A_ k A):A.units+30<cLine:=by have:=hr.un;omega
abbrev g7:Stmt:=top 1
abbrev BR:List Str:=["things","found","thing"]
abbrev ji:Stmt:=top 2
abbrev BS:List Str:=["cell","row","column"]
abbrev g8:Stmt:=top 3
abbrev BT:List Str:=["free","start","found","waiting","cell"]
abbrev f8:Stmt:=top 15
abbrev uw:List Str:=["place","width"]
abbrev f9:Stmt:=top 16
abbrev ux:List Str:=["floor","width","free"]
abbrev er:Stmt:=top 17
abbrev BU:List Str:=["floor","width","start","fits"]
abbrev gf:Stmt:=top 18
abbrev BV:List Str:=["field","width","found","place"]
abbrev fw:Stmt:=top 19
abbrev BW:List Str:=["floor","width","start","cell","field"]
abbrev jj:Stmt:=top 21
abbrev BX:List Str:=["_law_script","_law_k","_law_cell","_law_bound","_law_digits"]
abbrev g9:Stmt:=top 22
abbrev BY:List Str:=["_law_hand_here","_law_many","_law_digit","_law_turn","_law_mixed","_law_odd"]
abbrev gg:Stmt:=top 23
abbrev BZ:List Str:=["_law_hand_here","_law_some"]
abbrev jl:Stmt:=top 24
abbrev B1:List Str:=["_law_hand_here","_law_most","_law_high","_law_wide","_law_top","_law_side","_law_way","_law_cells","_law_row","_law_column","_law_free","_law_turn","_law_down","_law_right"]
abbrev jm:Stmt:=top 25
abbrev B2:List Str:=["_law_one","_law_other"]
abbrev fy:Stmt:=top 26
abbrev kR:List Str:=["_law_floor_here","_law_cell","_law_part_here","_law_last","_law_rest","_law_more","_law_one"]
abbrev gj:Stmt:=top 27
abbrev uy:List Str:=["_law_place","_law_width","_law_cells","_law_down"]
abbrev hU:Stmt:=top 28
abbrev uz:List Str:=["_law_known","_law_width","_law_place"]
abbrev fA:Stmt:=top 29
abbrev nJ:List Str:=["_law_floor_here","_law_width","_law_known"]
abbrev jo:Stmt:=top 30
abbrev B3:List Str:=["_law_hand_here","_law_floor_here","_law_width","_law_stands_here"]
abbrev hV:Stmt:=top 31
abbrev uA:List Str:=["_law_told","_law_due"]
abbrev jp:Stmt:=top 32
abbrev B4:List Str:=["_law_e","_law_marks","_law_words"]
abbrev jq:Stmt:=top 33
abbrev B5:List Str:=["_law_floor_here","_law_width","_law_start","_law_cell","_law_told","_law_e"]
abbrev jr:Stmt:=top 34
abbrev uB:List Str:=["_law_script","_law_k","_law_hand_here","_law_floor_here","_law_width","_law_start","_law_stands_here","_law_field","_law_cells","_law_place","_law_turn","_law_cell","_law_due"]
section
variable{P:Program}{w:World}{K:PySem.W.Frag}{mg:Str->Option Value}{base:Heap}
theorem B6:j_ BR ["things"] (au g7):=⟨rfl,rfl,rfl,by decide +kernel,rfl,by decide +kernel,by decide +kernel⟩
theorem B7(F:EG K mg "lookup" g7 f ["things"])(T:Txt mg):
  DH P w K mg base 1 "lookup" g7 f ["things"] 1 G.d0:=by
 refine bH F B6 rfl (by decide) fun nd o_ A outer s H E hr=>?_;exact (aq (aD (i:=1) nd rfl (Or.inl rfl) jW (by decide)) (aq (dC (fx:=[0]) Y6 rfl (cV<|vv 0) (ba (i:=2) nd rfl (Or.inl rfl) (by decide)) (aC<|ee cy<|gH (pv 1) (c5<|pv 2)<|jX<|aH hr) (by decide) (jL (by decide)))<|aC<|aU<|c5<|pv 1))
theorem B8:j_ BS ["cell"] (au ji):=⟨rfl,rfl,rfl,by decide +kernel,rfl,by decide +kernel,by decide +kernel⟩
theorem B9(F:EG K mg "around" ji f ["cell"])(T:Txt mg):
  DH P w K mg base 1 "around" ji f ["cell"] 1 G.ku:=by
 refine bH F B8 rfl (by decide) fun nd o_ A outer s H E hr=>?_;exact (aq (aD (i:=1) nd rfl (Or.inl rfl) (bT hr (vv 0) ai) (by decide)) (aq (aD (i:=2) nd rfl (Or.inl rfl) (bT hr (vv 0) ai) (by decide)) (aC (aU (bG (by exact (ah (ae (aP (by exact (ah (ae<|av dU (vv 1) ai) (by exact (ag<|vv 2)))))) (by exact (ah (ae (aP (by exact (ah (vv 1) (by exact (ag<|ae<|av dU (vv 2) ai)))))) (by exact (ah (ae (aP (by exact (ah (vv 1) (by exact (ag<|ae<|av bf (vv 2) ai)))))) (by exact (ag (ae (aP (by exact (ah (ae<|av bf (vv 1) ai) (by exact (ag<|vv 2)))))))))))))))))))
theorem Ca:j_ BT ["free","start"] (au g8):=⟨rfl,rfl,rfl,by decide +kernel,rfl,by decide +kernel,by decide +kernel⟩
theorem Cb(F:EG K mg "reached" g8 f ["free","start"])(T:Txt mg){H_:Addr}(C1:DH P w K mg base 1 "around" ji H_ ["cell"] 1 G.ku):
  DH P w K mg base 2 "reached" g8 f ["free","start"] 2 G.gS:=by
 refine bH F Ca rfl (by decide) fun nd o_ A outer s H E hr=>?_;exact (aq (aD (i:=2) nd rfl (Or.inl rfl) (Aa (aH hr) (c5<|pv 1) cy) (by decide)) (aq (aD (i:=3) nd rfl (Or.inl rfl) (bG (by exact (ag<|vv 1))) (by decide)) (aq (pO 1000000 Y6 (dF<|vv 3) (aC (dC (fx:=[0,1]) Y6 rfl (cV<|ae<|aJ C1 hr rfl<|ag<|ae<|yE fQ Yz PySem.F.slot_list_pop PySem.F.type_list_pop yF<|pv 3) (ba (i:=4) nd rfl (Or.inl rfl) (by decide)) (aC<|bQ (VW.vt<|pE (bO (fe<|aH hr) (vv 4) (vv 0) rfl)<|pB<|bO (kf<|aH hr) (vv 4) (vv 2) rfl) (aq (ee cy<|gH (pv 2) (c5<|pv 4)<|jX<|aH hr)<|aC<|gx<|gG fQ Yz XS XR mh (pv 3)<|ag<|vv 4) bP) (by decide) yj))) (aC (aU (di gE rfl T.DS fu (ag (ae (bw (iL rfl<|aH hr) (by rfl) T.El jh<|ag<|vv 2)))))))))
theorem Cc:j_ uw ["place","width"] (au f8):=⟨rfl,rfl,rfl,by decide +kernel,rfl,by decide +kernel,by decide +kernel⟩
theorem Cd(F:EG K mg "under" f8 f ["place","width"])(T:Txt mg):
  DH P w K mg base 1 "under" f8 f ["place","width"] 2 G.fh:=by
 refine bH F Cc rfl (by decide) fun nd o_ A outer s H E hr=>?_;exact (aC (aU (dS (own:=["step"]) (caps:=[0,1]) rfl (dg (au f8) uw (by decide +kernel)) (by decide) (eS rfl T.DR<|ag<|ae<|av c9 (vv 1)<|vv 1) (fun Y=>(ba (i:=0) (show (["step","place","width"]:List Str).Nodup by decide +kernel) rfl (Or.inl rfl) (by decide))) (fun Y=>eT) (fun Y=>(aP (by exact (ah (ae<|av bf (ae<|bT hr (vv 1) ai)<|ae<|av iB (vv 0)<|vv 2) (by exact (ag<|ae<|av bf (ae<|bT hr (vv 1) ai)<|ae<|av dW (vv 0)<|vv 2)))))))))
theorem Cf:j_ ux ["floor","width"] (au f9):=⟨rfl,rfl,rfl,by decide +kernel,rfl,by decide +kernel,by decide +kernel⟩
theorem Cg(F:EG K mg "fitting" f9 f ["floor","width"])(T:Txt mg){Ft:Addr}(C0:DH P w K mg base 1 "lookup" g7 Ft ["things"] 1 G.d0){F7:Addr}(C3:DH P w K mg base 1 "under" f8 F7 ["place","width"] 2 G.fh):
  DH P w K mg base 2 "fitting" f9 f ["floor","width"] 2 G.fi:=by
 refine bH F Cf rfl (by decide) fun nd o_ A outer s H E hr=>?_;exact (aq (aD (i:=2) nd rfl (Or.inr rfl) (aJ C0 hr rfl<|ag<|vv 0) (by decide)) (aC (aU (aJ C0 hr rfl (ag (ae (dS (own:=["place"]) (caps:=[1,2]) rfl (dg (au f9) ux (by decide +kernel)) (by decide) (cV<|vv 0) (fun Y=>(ba (i:=0) (show (["place","width","free"]:List Str).Nodup by decide +kernel) rfl (Or.inl rfl) (by decide))) (fun Y=>(jN (dF (ae (bw (ma rfl) (by rfl) T.HX nF (ag (ae (dS (own:=["cell"]) (caps:=[2]) rfl (zS (by with_unfolding_all rfl)) (by decide) (cV (ae (aJ C3 hr rfl (ah (vv 0) (by exact (ag<|vv 1)))))) (fun Y=>(ba (i:=0) (show (["cell","free"]:List Str).Nodup by decide +kernel) rfl (Or.inl rfl) (by decide))) (fun Y=>eT)<|fun Y=>(cC (fe<|aH hr) (vv 0) (vv 1) rfl)))))))))<|fun Y=>(c5<|pv 0))))))))
theorem uD:j_ BU ["floor","width","start"] (au er):=⟨rfl,rfl,rfl,by decide +kernel,rfl,by decide +kernel,by decide +kernel⟩
theorem Ch(F:EG K mg "places" er f ["floor","width","start"])(T:Txt mg){EV:Addr}(C4:DH P w K mg base 2 "fitting" f9 EV ["floor","width"] 2 G.fi){EW:Addr}(C2:DH P w K mg base 2 "reached" g8 EW ["free","start"] 2 G.gS):
  DH P w K mg base 3 "places" er f ["floor","width","start"] 3 G.de:=by
 refine bH F uD rfl (by decide) fun nd o_ A outer s H E hr=>?_;exact (aq (aD (i:=3) nd rfl (Or.inl rfl) (aJ C4 hr rfl (ah (vv 0) (by exact (ag<|vv 1)))) (by decide)) (aq (bQ (bO (kf<|aH hr) (vv 2) (vv 3) rfl) (aC yd) bP) (aC (aU (aJ C2 hr rfl (ah (vv 3) (by exact (ag<|vv 2))))))))
theorem Ci(F:EG K mg "places" er f ["floor","width","start"])(T:Txt mg){EV:Addr}(C4:DH P w K mg base 2 "fitting" f9 EV ["floor","width"] 2 G.fi){EW:Addr}(C2:DH P w K mg base 2 "reached" g8 EW ["free","start"] 2 G.gS){g_:Addr}(DF:LM K mg "NoFit" g_):
  gL P w K mg base 3 "places" er f ["floor","width","start"] 3 (Gv 3 4 G.fX) g_:=by
 refine qG (fix:=[]) F uD rfl fun nd o_ A outer s H E hr=>?_;exact (zq (aD (i:=3) nd rfl (Or.inl rfl) (aJ C4 hr rfl (ah (vv 0) (by exact (ag<|vv 1)))) (by decide))<|zr (bO (kf<|aH hr) (vv 2) (vv 3) rfl)<|zt rfl rfl DF.1 DF.2<|fun D σ H z=>ze D σ H z)
theorem Cj:j_ BV ["field","width"] (au gf):=⟨rfl,rfl,rfl,by decide +kernel,rfl,by decide +kernel,by decide +kernel⟩
theorem Ck(F:EG K mg "mown" gf f ["field","width"])(T:Txt mg){Ft:Addr}(C0:DH P w K mg base 1 "lookup" g7 Ft ["things"] 1 G.d0){F7:Addr}(C3:DH P w K mg base 1 "under" f8 F7 ["place","width"] 2 G.fh):
  DH P w K mg base 2 "mown" gf f ["field","width"] 2 G.dr:=by
 refine bH F Cj rfl (by decide) fun nd o_ A outer s H E hr=>?_;exact (aq (aD (i:=2) nd rfl (Or.inl rfl) jW (by decide)) (aq (dC (fx:=[0,1]) Y6 rfl (cV<|vv 0) (ba (i:=3) nd rfl (Or.inl rfl) (by decide)) (aC (gx (gG qg Wh XT Wp (sF<|aH hr) (pv 2) (ag (ae (aJ C0 hr rfl (ag (ae (aJ C3 hr rfl (ah (vv 3) (by exact (ag<|vv 1)))))))))))) (by decide) (jL (by decide))) (aC (aU (di gE rfl T.DS fu (ag (ae (bw (iL rfl<|aH hr) (by rfl) T.El jh<|ag<|vv 2))))))))
theorem uE:j_ BW ["floor","width","start","cell"] (au fw):=⟨rfl,rfl,rfl,by decide +kernel,rfl,by decide +kernel,by decide +kernel⟩
theorem Cl(F:EG K mg "never" fw f ["floor","width","start","cell"])(T:Txt mg){EN:Addr}(C5:DH P w K mg base 3 "places" er EN ["floor","width","start"] 3 G.de){Fu:Addr}(C6:DH P w K mg base 2 "mown" gf Fu ["field","width"] 2 G.dr):
  DH P w K mg base 4 "never" fw f ["floor","width","start","cell"] 4 G.bY:=by
 refine bH F uE rfl (by decide) fun nd o_ A outer s H E hr=>?_;exact (aq (aD (i:=4) nd rfl (Or.inl rfl) (aJ C5 hr rfl (ah (vv 0) (by exact (ah (vv 1) (by exact (ag<|vv 2)))))) (by decide)) (aq (bQ (bO (fe<|aH hr) (vv 3) (ae (aJ C6 hr rfl (ah (vv 4) (by exact (ag<|vv 1))))) rfl) (aC<|aU fN) bP)<|aC<|aU<|c5<|pv 4))
theorem Cm(F:EG K mg "never" fw f ["floor","width","start","cell"])(T:Txt mg){EN:Addr}(C5:DH P w K mg base 3 "places" er EN ["floor","width","start"] 3 G.de){Fu:Addr}(C6:DH P w K mg base 2 "mown" gf Fu ["field","width"] 2 G.dr){g_:Addr}(DF:LM K mg "NoFit" g_)(Hf:gL P w K mg base 3 "places" er EN ["floor","width","start"] 3 (Gv 3 4 G.fX) g_):
  gL P w K mg base 4 "never" fw f ["floor","width","start","cell"] 4 (Gv 4 5 G.fk) g_:=by
 refine qG (fix:=[]) F uE rfl fun nd o_ A outer s H E hr=>?_;exact (qF (i:=4) nd rfl (Or.inl rfl) (qH Hf hr rfl rfl (fun σ H z=>Am σ H z) (ah (vv 0) (by exact (ah (vv 1) (by exact (ag<|vv 2)))))))
theorem Co:j_ BX ["_law_script","_law_k"] (au jj):=⟨rfl,rfl,rfl,by decide +kernel,rfl,by decide +kernel,by decide +kernel⟩
theorem Cp(F:EG K mg "_law_hand" jj f ["_law_script","_law_k"])(T:Txt mg):
  DH P w K mg base 1 "_law_hand" jj f ["_law_script","_law_k"] 2 G.gR:=by
 refine bH F Co rfl (by decide) fun nd o_ A outer s H E hr=>?_;exact (aq (aD (i:=2) nd rfl (Or.inl rfl) eJ (by decide)) (aq (bQ (bO yo (vv 1) (ae (bw iC (by rfl) T.Go jg<|ag<|vv 0))<|bv _) (aC (aD (i:=2) nd rfl (Or.inl rfl) (bT hr (vv 0)<|vv 1) (by decide))) bP) (aq (aD (i:=3) nd rfl (Or.inl rfl) (av c9 (ae<|av c9 (ae<|av jS ai ai)<|ae<|av jS ai ai)<|ae<|av jS ai ai) (by decide)) (aq (aD (i:=4) nd rfl (Or.inl rfl) (av c9 (ae<|av dW (vv 2)<|vv 3)<|ae<|di l6 rfl T.GV kQ<|ag<|ae<|cC yp (vv 2) (ae<|av jS ai ai)<|bv _) (by decide)) (aC (aU (bG (by exact (ah (vv 4) (by exact (ah (ae<|av bf (ae<|av bf (ae<|av dW (vv 2) ai)<|ae<|av c9 ai<|vv 1) ai) (by exact (ag ai)))))))))))))
theorem Cq:j_ BY ["_law_hand_here","_law_many"] (au g9):=⟨rfl,rfl,rfl,by decide +kernel,rfl,by decide +kernel,by decide +kernel⟩
theorem Cr(F:EG K mg "_law_take" g9 f ["_law_hand_here","_law_many"])(T:Txt mg):
  DH P w K mg base 1 "_law_take" g9 f ["_law_hand_here","_law_many"] 2 G.bJ:=by
 refine bH F Cq rfl (by decide) fun nd o_ A outer s H E hr=>?_;exact (aq (bQ (bO pW (ae<|bT hr (vv 0) ai) ai<|bv _) (aq (aD (i:=2) nd rfl (Or.inl rfl) (av dW (ae<|bT hr (vv 0) ai)<|vv 1) (by decide))<|aq (ee (av iB (ae<|bT hr (vv 0) ai)<|vv 1)<|gH (pv 0) eJ<|qy<|aH hr)<|aC<|aU<|c5<|pv 2) bP) (aq (ee (av bf (ae<|bT hr (vv 0) ai) ai)<|gH (pv 0) eJ<|qy<|aH hr) (aq (aD (i:=3) nd rfl (Or.inl rfl) (bT hr (vv 0) ai) (by decide)) (aq (aD (i:=4) nd rfl (Or.inl rfl) (av dW (ae<|av c9 (ae<|bT hr (vv 0) ai)<|ae<|av bf (ae<|av bf ai<|ae<|av c9 (ae<|av c9 ai<|vv 3)<|vv 3)<|ae<|av c9 ai<|vv 3) ai) (by decide)) (aq (aD (i:=5) nd rfl (Or.inl rfl) (av bf (ae<|av bf (ae<|av dW (vv 4) ai)<|ae<|av c9 (vv 3) ai) ai) (by decide)) (aq (aD (i:=4) nd rfl (Or.inl rfl) (av dW (ae<|av c9 (vv 4)<|vv 5) ai) (by decide))<|aC<|aU<|av dW (ae<|av bf (ae<|av iB (vv 4) ai)<|ae<|av iB (vv 4) ai)<|vv 1))))))
theorem Cs:j_ BZ ["_law_hand_here","_law_some"] (au gg):=⟨rfl,rfl,rfl,by decide +kernel,rfl,by decide +kernel,by decide +kernel⟩
theorem Ct(F:EG K mg "_law_of" gg f ["_law_hand_here","_law_some"])(T:Txt mg){Fv:Addr}(C9:DH P w K mg base 1 "_law_take" g9 Fv ["_law_hand_here","_law_many"] 2 G.bJ):
  DH P w K mg base 2 "_law_of" gg f ["_law_hand_here","_law_some"] 2 G.bU:=by
 refine bH F Cs rfl (by decide) fun nd o_ A outer s H E hr=>?_;exact (aC (aU (bT hr (vv 1) (ae (aJ C9 hr rfl (ah (vv 0) (by exact (ag (ae (bw iC (by rfl) T.Go jg<|ag<|vv 1))))))))))
theorem Cu:j_ B1 ["_law_hand_here"] (au jl):=⟨rfl,rfl,rfl,by decide +kernel,rfl,by decide +kernel,by decide +kernel⟩
theorem Cv(F:EG K mg "_law_floor" jl f ["_law_hand_here"])(T:Txt mg){Fv:Addr}(C9:DH P w K mg base 1 "_law_take" g9 Fv ["_law_hand_here","_law_many"] 2 G.bJ){Fw:Addr}(IY:DH P w K mg base 2 "_law_of" gg Fw ["_law_hand_here","_law_some"] 2 G.bU):
  DH P w K mg base 3 "_law_floor" jl f ["_law_hand_here"] 1 G.iO:=by
 refine bH F Cu rfl (by decide) fun nd o_ A outer s H E hr=>?_;exact (aq (aD (i:=1) nd rfl (Or.inl rfl) eJ (by decide)) (aq (bQ (bO (dX<|aH hr) (ae (aJ C9 hr rfl (ah (vv 0) (by exact (ag ai))))) ai<|bv _) (aC (aD (i:=1) nd rfl (Or.inl rfl) eJ (by decide))) bP) (aq (jK (i:=2) (j:=3) rfl nd rfl rfl (by decide) rfl rfl (ah (ae (av bf ai (ae (aJ C9 hr rfl (ah (vv 0) (by exact (ag<|vv 1))))))) (by exact (ag (ae (av bf ai (ae (aJ C9 hr rfl (ah (vv 0) (by exact (ag<|vv 1)))))))))) (by decide) (by decide) rfl) (aq (jK (i:=4) (j:=5) rfl nd rfl rfl (by decide) rfl rfl (ah (ae (aJ IY hr rfl (ah (vv 0) (by exact (ag (ae (bG (by exact (ah ai (by exact (ah ai (by exact (ah ai (by exact (ag<|ae<|av dU ai<|vv 2))))))))))))))) (by exact (ag (ae (aJ IY hr rfl (ah (vv 0) (by exact (ag (ae (bG (by exact (ah ai (by exact (ah ai (by exact (ah ai (by exact (ag<|ae<|av dU ai<|vv 3)))))))))))))))))) (by decide) (by decide) rfl) (aq (aD (i:=6) nd rfl (Or.inl rfl) (aJ C9 hr rfl (ah (vv 0) (by exact (ag ai)))) (by decide)) (aq (aD (i:=7) nd rfl (Or.inl rfl) jW (by decide)) (aq (dC (fx:=[0]) Y6 rfl (eS rfl T.DR<|ag<|vv 2) (ba (i:=8) nd rfl (Or.inl rfl) (by decide)) (aC (dC (fx:=[0]) Y6 rfl (eS rfl T.DR<|ag<|vv 3) (ba (i:=9) nd rfl (Or.inl rfl) (by decide)) (aq (aD (i:=10) nd rfl (Or.inl rfl) (bG (by exact (ah (ae (cC (dX<|aH hr) (ae (aJ C9 hr rfl (ah (vv 0) (by exact (ag ai))))) ai<|bv _)) (by exact (ah (ae (cC pW (ae (aJ C9 hr rfl (ah (vv 0) (by exact (ag ai))))) ai<|bv _)) (by exact (ag<|ae cy))))))) (by decide)) (aq (gx<|gG fQ Yz XS XR mh (pv 10)<|ag<|ae<|pG (dL<|cC (dX<|aH hr) (ae<|av dW (vv 8) ai) ai<|bv _)<|dL<|jG<|cC (dX<|aH hr) (vv 9) (ae<|av dW (ae<|av iB (vv 8) ai)<|vv 3)<|bv _) (aq (aD (i:=10) nd rfl (Or.inl rfl) (av bf (vv 10) (ae (bG (by exact (ah (ae (pG (dL (cC (fe<|aH hr) (vv 8) (ae (aP (by exact (ah ai (by exact (ag<|ae<|av dU (vv 2) ai)))))) rfl)) (dL (jG (cC (fe<|aH hr) (vv 9) (ae (aP (by exact (ah ai (by exact (ag<|ae<|av dU (vv 3) ai)))))) rfl))))) (by exact (ag<|ae cy))))))) (by decide)) (aC (bQ (dF<|ae<|bT hr (vv 10)<|vv 6) (aC (ee cy (gH (pv 7) (aP (by exact (ah (ae<|av bf (vv 8)<|vv 4) (by exact (ag<|ae<|av bf (vv 9)<|vv 5)))))<|jX<|aH hr))) bP))))) (by decide) gy)) (by decide) gy) (aq (ee (aP (by exact (ah ai (by exact (ag ai))))) (jJ rfl (eR (ba (i:=8) nd rfl (Or.inl rfl) (by decide)) (eR (ba (i:=9) nd rfl (Or.inl rfl) (by decide)) jI)))) (aq (dC (fx:=[0]) Y6 rfl (eS rfl T.DR<|ag<|ae<|av c9 ai<|ae<|di l6 rfl T.GV kQ<|ag<|ae<|cC (dX<|aH hr) (vv 6) ai<|bv _) (ba (i:=11) nd rfl (Or.inl rfl) (by decide)) (aq (ee cy (gH (pv 7) (aP (by exact (ah (ae<|av bf (vv 8)<|vv 4) (by exact (ag<|ae<|av bf (vv 9)<|vv 5)))))<|jX<|aH hr)) (aq (ee (aJ IY hr rfl (ah (vv 0) (by exact (ag (ae (bG (by exact (ah (ae (aP (by exact (ah ai (by exact (ag ai)))))) (by exact (ah (ae (aP (by exact (ah ai (by exact (ag ai)))))) (by exact (ah (ae (aP (by exact (ah ai (by exact (ag ai)))))) (by exact (ah (ae (aP (by exact (ah (ae<|pZ eJ) (by exact (ag ai)))))) (by exact (ah (ae (aP (by exact (ah ai (by exact (ag<|ae<|pZ eJ)))))) (by exact (ag (ae (aP (by exact (ah ai (by exact (ag ai)))))))))))))))))))))))) (jJ rfl (eR (ba (i:=12) nd rfl (Or.inl rfl) (by decide)) (eR (ba (i:=13) nd rfl (Or.inl rfl) (by decide)) jI)))) (aq (aD (i:=8) nd rfl (Or.inl rfl) (bw (l8 rfl) (by rfl) T.H9 nH (ah (ae<|av dU (vv 2) ai) (by exact (ag (ae (bw (l7 rfl) (by rfl) T.HZ nG (ah ai (by exact (ag<|ae<|av bf (vv 8)<|vv 12))))))))) (by decide)) (aC (aD (i:=9) nd rfl (Or.inl rfl) (bw (l8 rfl) (by rfl) T.H9 nH (ah (ae<|av dU (vv 3) ai) (by exact (ag (ae (bw (l7 rfl) (by rfl) T.HZ nG (ah ai (by exact (ag<|ae<|av bf (vv 9)<|vv 13))))))))) (by decide)))))) (by decide) gy) (aC (aU (di gE rfl T.DS fu (ag (ae (bw (iL rfl<|aH hr) (by rfl) T.El jh<|ag<|vv 7)))))))))))))))
theorem Cw:j_ B2 ["_law_one","_law_other"] (au jm):=⟨rfl,rfl,rfl,by decide +kernel,rfl,by decide +kernel,by decide +kernel⟩
theorem Cy(F:EG K mg "_law_are_beside" jm f ["_law_one","_law_other"])(T:Txt mg):
  DH P w K mg base 1 "_law_are_beside" jm f ["_law_one","_law_other"] 2 G.iQ:=by
 refine bH F Cw rfl (by decide) fun nd o_ A outer s H E hr=>?_;exact (aC (aU (cC (dX<|aH hr) (ae (av bf (ae (bw qe (by rfl) T.Jy uq<|ag<|ae<|av dU (ae<|bT hr (vv 0) ai)<|ae<|bT hr (vv 1) ai)) (ae (bw qe (by rfl) T.Jy uq<|ag<|ae<|av dU (ae<|bT hr (vv 0) ai)<|ae<|bT hr (vv 1) ai)))) ai<|bv _)))
theorem Cz:j_ kR ["_law_floor_here","_law_cell"] (au fy):=⟨rfl,rfl,rfl,by decide +kernel,rfl,by decide +kernel,by decide +kernel⟩
theorem CA(F:EG K mg "_law_part" fy f ["_law_floor_here","_law_cell"])(T:Txt mg){Fx:Addr}(R_:DH P w K mg base 1 "_law_are_beside" jm Fx ["_law_one","_law_other"] 2 G.iQ):
  DH P w K mg base 2 "_law_part" fy f ["_law_floor_here","_law_cell"] 2 G.fW:=by
 refine bH F Cz rfl (by decide) fun nd o_ A outer s H E hr=>?_;exact (aq (jK (i:=2) (j:=3) rfl nd rfl rfl (by decide) rfl rfl (ah (ae (bG (by exact (ag<|vv 1)))) (by exact (ag (ae (bG (by exact (ag<|vv 1))))))) (by decide) (by decide) rfl) (aq (qB (i:=4) (own:=["_law_one"]) (caps:=[1]) nd rfl (Or.inl rfl) rfl (dg (au fy) kR (by decide +kernel)) (by decide) (cV<|vv 0) (fun Y=>(ba (i:=0) (show (["_law_one","_law_cell"]:List Str).Nodup by decide +kernel) rfl (Or.inl rfl) (by decide))) (fun Y=>(jN<|bO (gC<|aH hr) (vv 0) (vv 1)<|bv _)) (fun Y=>(c5<|pv 0)) (by decide)) (aq (pO 1000000 Y6 (bO (gC<|aH hr) (vv 3) (ae (bG (by exact dB)))<|bv _) (aq (aD (i:=5) nd rfl (Or.inr rfl) (bG (by exact dB)) (by decide)) (aq (dC (fx:=[4,0,1]) Y6 rfl (cV<|vv 4) (ba (i:=6) nd rfl (Or.inr rfl) (by decide)) (aC (bQ (dF (ae (bw (yB rfl) (by rfl) T.L6 BO (ag (ae (dS (own:=["_law_other"]) (caps:=[6]) rfl (dg (au fy) kR (by decide +kernel)) (by decide) (cV<|vv 3) (fun Y=>(ba (i:=0) (show (["_law_other","_law_one"]:List Str).Nodup by decide +kernel) rfl (Or.inl rfl) (by decide))) (fun Y=>eT) (fun Y=>(aJ R_ hr rfl (ah (vv 1) (by exact (ag<|vv 0))))))))))) (aC<|gx<|gG fQ Yz XS XR mh (pv 5)<|ag<|vv 6) bP)) (by decide) (jL (by decide))) (aq (aD (i:=2) nd rfl (Or.inl rfl) (av bf (vv 2)<|vv 5) (by decide)) (aq (qB (i:=4) (own:=["_law_one"]) (caps:=[5]) nd rfl (Or.inl rfl) rfl (dg (au fy) kR (by decide +kernel)) (by decide) (cV<|vv 4) (fun Y=>(ba (i:=0) (show (["_law_one","_law_more"]:List Str).Nodup by decide +kernel) rfl (Or.inl rfl) (by decide))) (fun Y=>(jN<|bO (kf<|aH hr) (vv 0) (vv 1) rfl)) (fun Y=>(c5<|pv 0)) (by decide)) (aC (aD (i:=3) nd rfl (Or.inl rfl) (c5<|pv 5) (by decide)))))))) (aC (aU (di gE rfl T.DS fu (ag (ae (bw (iL rfl<|aH hr) (by rfl) T.El jh<|ag<|vv 2)))))))))
theorem CB:j_ uy ["_law_place","_law_width"] (au gj):=⟨rfl,rfl,rfl,by decide +kernel,rfl,by decide +kernel,by decide +kernel⟩
theorem CC(F:EG K mg "_law_under" gj f ["_law_place","_law_width"])(T:Txt mg):
  DH P w K mg base 1 "_law_under" gj f ["_law_place","_law_width"] 2 G.en:=by
 refine bH F CB rfl (by decide) fun nd o_ A outer s H E hr=>?_;exact (aq (aD (i:=2) nd rfl (Or.inl rfl) (bG (by exact dB)) (by decide)) (aq (dC (fx:=[0,1]) Y6 rfl (eS rfl T.DR<|ag<|vv 1) (ba (i:=3) nd rfl (Or.inr rfl) (by decide)) (aC (gx (gG fQ Yz PySem.F.slot_list_extend PySem.F.type_list_extend yH (pv 2) (ag (ae (dS (own:=["_law_right"]) (caps:=[0,3]) rfl (dg (au gj) uy (by decide +kernel)) (by decide) (eS rfl T.DR<|ag<|vv 1) (fun Y=>(ba (i:=0) (show (["_law_right","_law_place","_law_down"]:List Str).Nodup by decide +kernel) rfl (Or.inl rfl) (by decide))) (fun Y=>eT) (fun Y=>(aP (by exact (ah (ae<|av bf (ae<|bT hr (vv 1) ai)<|vv 2) (by exact (ag<|ae<|av bf (ae<|bT hr (vv 1) ai)<|vv 0)))))))))))) (by decide) gy)<|aC<|aU<|c5<|pv 2))
theorem CD:j_ uz ["_law_known","_law_width","_law_place"] (au hU):=⟨rfl,rfl,rfl,by decide +kernel,rfl,by decide +kernel,by decide +kernel⟩
theorem CF(F:EG K mg "_law_stands" hU f ["_law_known","_law_width","_law_place"])(T:Txt mg){EX:Addr}(OH:DH P w K mg base 1 "_law_under" gj EX ["_law_place","_law_width"] 2 G.en):
  DH P w K mg base 2 "_law_stands" hU f ["_law_known","_law_width","_law_place"] 3 G.iS:=by
 refine bH F CD rfl (by decide) fun nd o_ A outer s H E hr=>?_;exact (aC (aU (bw (ma rfl) (by rfl) T.HX nF (ag (ae (dS (own:=["_law_cell"]) (caps:=[0]) rfl (dg (au hU) uz (by decide +kernel)) (by decide) (cV (ae (aJ OH hr rfl (ah (vv 2) (by exact (ag<|vv 1)))))) (fun Y=>(ba (i:=0) (show (["_law_cell","_law_known"]:List Str).Nodup by decide +kernel) rfl (Or.inl rfl) (by decide))) (fun Y=>eT)<|fun Y=>(cC (fe<|aH hr) (vv 0) (vv 1) rfl)))))))
theorem CG:j_ nJ ["_law_floor_here","_law_width"] (au fA):=⟨rfl,rfl,rfl,by decide +kernel,rfl,by decide +kernel,by decide +kernel⟩
theorem CH(F:EG K mg "_law_all_stands" fA f ["_law_floor_here","_law_width"])(T:Txt mg){GM:Addr}(Sa:DH P w K mg base 2 "_law_stands" hU GM ["_law_known","_law_width","_law_place"] 3 G.iS):
  DH P w K mg base 3 "_law_all_stands" fA f ["_law_floor_here","_law_width"] 2 G.fj:=by
 refine bH F CG rfl (by decide) fun nd o_ A outer s H E hr=>?_;exact (aq (aD (i:=2) nd rfl (Or.inr rfl) (di (rh rfl<|uu hr) rfl T.HY ur (ag (ae (dS (own:=["_law_cell"]) (caps:=[]) rfl (dg (au fA) nJ (by decide +kernel)) (by decide) (cV<|vv 0) (fun Y=>(ba (i:=0) (show (["_law_cell"]:List Str).Nodup by decide +kernel) rfl (Or.inl rfl) (by decide))) (fun Y=>eT) (fun Y=>(aP (by exact (ah (vv 0) (by exact (ag<|ae cy)))))))))) (by decide)) (aC (aU (di gE rfl T.DS fu (ag (ae (dS (own:=["_law_cell"]) (caps:=[2,1]) rfl (dg (au fA) nJ (by decide +kernel)) (by decide) (cV<|vv 0) (fun Y=>(ba (i:=0) (show (["_law_cell","_law_known","_law_width"]:List Str).Nodup by decide +kernel) rfl (Or.inl rfl) (by decide))) (fun Y=>(jN (dF (ae (aJ Sa hr rfl (ah (vv 1) (by exact (ah (vv 2) (by exact (ag<|vv 0))))))))))<|fun Y=>(c5<|pv 0))))))))
theorem CI:j_ B3 ["_law_hand_here","_law_floor_here"] (au jo):=⟨rfl,rfl,rfl,by decide +kernel,rfl,by decide +kernel,by decide +kernel⟩
theorem CJ(F:EG K mg "_law_mower" jo f ["_law_hand_here","_law_floor_here"])(T:Txt mg){Fw:Addr}(IY:DH P w K mg base 2 "_law_of" gg Fw ["_law_hand_here","_law_some"] 2 G.bU){DN:Addr}(OI:DH P w K mg base 3 "_law_all_stands" fA DN ["_law_floor_here","_law_width"] 2 G.fj):
  DH P w K mg base 4 "_law_mower" jo f ["_law_hand_here","_law_floor_here"] 2 G.iT:=by
 refine bH F CI rfl (by decide) fun nd o_ A outer s H E hr=>?_;exact (aq (aD (i:=2) nd rfl (Or.inl rfl) (aJ IY hr rfl (ah (vv 0) (by exact (ag (ae (bG (by exact (ah ai (by exact (ah ai (by exact (ah ai (by exact (ah ai (by exact (ah ai (by exact (ah ai (by exact (ah ai (by exact (ag ai)))))))))))))))))))))) (by decide)) (aq (aD (i:=3) nd rfl (Or.inl rfl) (aJ OI hr rfl (ah (vv 1) (by exact (ag<|vv 2)))) (by decide)) (aq (bQ (bO (dX<|aH hr) (vv 3) (ae (aP (by exact dB)))<|bv _) (aC (aU (aP (by exact (ah (vv 2) (by exact (ag (ae (aJ IY hr rfl (ah (vv 0) (by exact (ag (ae (av bf (ae<|di yz rfl T.Kr BQ<|ag<|vv 1) (ae (bG (by exact (ah (ae (aP (by exact (ah ai (by exact (ag ai)))))) (by exact (ah (ae (aP (by exact (ah ai (by exact (ag ai)))))) (by exact (ag (ae (aP (by exact (ah ai (by exact (ag ai)))))))))))))))))))))))))))) bP) (aC (aU (aP (by exact (ah (vv 2) (by exact (ag (ae (aJ IY hr rfl (ah (vv 0) (by exact (ag<|vv 3)))))))))))))))
theorem uF:j_ uA ["_law_told","_law_due"] (au hV):=⟨rfl,rfl,rfl,by decide +kernel,rfl,by decide +kernel,by decide +kernel⟩
theorem CK{Em:Addr}{EY:FuncData}(Gp:Fi K "_law_same" "_law_same" hV Em EY)(T:Txt mg)(Ia:cf K EY ["_law_told","_law_due"] [])(Ib:mg "_law_same" = some (.ref Em)):
  ∀ k,Eg P w K mg base FS (1+k) Em EY ["_law_told","_law_due"] (GS 2<|G.cv k):=by
 intro k;induction k with
 | zero=>exact⟨fun vs H Q E h=>h.1,fun A outer s H args us vs Q E hr he hb hv h=>absurd h.2 (by rintro⟨_,_,_,_,_,_,e,_⟩;cases e)⟩
 | succ k OJ=>
  have nd:=uF.nd;refine Pt (k:=1+k) Gp uF rfl (by decide) (fun o_ A outer s H E hr=>?_);exact (aq (bQ (dF<|ae<|gF rfl T.k_ cG rfl T.DS fu<|vv 1) (aq (bQ (VW.vt (pF (jF<|dF<|ae<|gF rfl T.k_ cG rfl T.DS fu<|vv 0) (pC (bO (gC<|aH hr) (ae (bw iC (by rfl) T.Go jg<|ag<|vv 0)) (ae (bw iC (by rfl) T.Go jg<|ag<|vv 1))<|bv _)))) (aC<|aU cy) bP) (aC (aU (bw (ma rfl) (by rfl) T.HX nF (ag (ae (dS (own:=["_law_one","_law_other"]) (caps:=[]) rfl (dg (au hV) uA (by decide +kernel)) (by decide) (yL rfl T.L7 (ah (vv 0) (by exact (ag<|vv 1)))) (fun Y=>(jJ rfl (eR (ba (i:=0) (show (["_law_one","_law_other"]:List Str).Nodup by decide +kernel) rfl (Or.inl rfl) (by decide)) (eR (ba (i:=1) (show (["_law_one","_law_other"]:List Str).Nodup by decide +kernel) rfl (Or.inl rfl) (by decide)) jI)))) (fun Y=>eT) (fun Y=>(pL OJ (hr.mono<|ZR _) rfl Ib Gp.kp Ia (ah (vv 0) (by exact (ag<|vv 1)))))))))))) bP)<|aq (bQ (bO pX (vv 1) (ae fN)<|bv _) (aC<|aU<|cC pX (vv 0) (ae fN)<|bv _) bP)<|aq (bQ (dF<|ae<|gF rfl T.k_ cG rfl T.Jz ut<|vv 1) (aC<|aU<|lR (dL<|gF rfl T.k_ cG rfl T.Jz ut<|vv 0)<|dL<|jG<|cC (dX<|aH hr) (vv 0) (vv 1)<|bv _) bP)<|aC<|aU<|lR (dL<|gF rfl T.k_ cG rfl T.GV kQ<|vv 0)<|lR (dL<|x9<|dL<|gF rfl T.k_ cG rfl T.Kq BP<|vv 0)<|dL<|jG<|cC (dX<|aH hr) (vv 0) (vv 1)<|bv _)
theorem CL:j_ B4 ["_law_e"] (au jp):=⟨rfl,rfl,rfl,by decide +kernel,rfl,by decide +kernel,by decide +kernel⟩
theorem CO(F:EG K mg "_law_word" jp f ["_law_e"])(T:Txt mg){g_:Addr}(DF:LM K mg "NoFit" g_)(EK_NoFit:Iu K g_){Fy:Addr}(GN:mg "Here" = some (.ref Fy)){Fz:Addr}(GO:mg "Near" = some (.ref Fz)){DX:Addr}(EZ:mg "NoBlock" = some (.ref DX)){DO:Addr}(ED:mg "NoBlocks" = some (.ref DO)){DY:Addr}(E1:mg "NoField" = some (.ref DY)){En:Addr}(FA:mg "NoText" = some (.ref En)){DZ:Addr}(E2:mg "TooMany" = some (.ref DZ))(KF_Here:PySem.W.kitOne K (.ref g_) (.ref Fy)=some false)(KF_Near:PySem.W.kitOne K (.ref g_) (.ref Fz)=some false)(KF_NoBlock:PySem.W.kitOne K (.ref g_) (.ref DX)=some false)(KF_NoBlocks:PySem.W.kitOne K (.ref g_) (.ref DO)=some false)(KF_NoField:PySem.W.kitOne K (.ref g_) (.ref DY)=some false)(KF_NoText:PySem.W.kitOne K (.ref g_) (.ref En)=some false)(KF_TooMany:PySem.W.kitOne K (.ref g_) (.ref DZ)=some false)(V_ValueError:PySem.W.kitOne K (.ref g_) (.type "ValueError")=some true):
  ke P w K mg base 1 "_law_word" jp f ["_law_e"] 1 G.iW g_:=by
 refine zF F CL rfl fun nd e oe hc o_ A outer s H hr=>?_;exact (aq (aD (i:=1) nd rfl (Or.inl rfl) (bG (by exact (ah (ae<|fc EK_NoFit (List.Mem.head _) hc KF_NoText rfl T.k_ cG rfl FA<|vv 0) (by exact (ah (ae<|fc EK_NoFit (List.Mem.head _) hc zv rfl T.k_ cG rfl DF.1<|vv 0) (by exact (ag<|ae<|fc EK_NoFit (List.Mem.head _) hc KF_TooMany rfl T.k_ cG rfl E2<|vv 0))))))) (by decide)) (aq (aD (i:=1) nd rfl (Or.inl rfl) (av bf (vv 1) (ae (bG (by exact (ag<|ae<|fc EK_NoFit (List.Mem.head _) hc KF_Near rfl T.k_ cG rfl GO<|vv 0))))) (by decide)) (aq (aD (i:=1) nd rfl (Or.inl rfl) (av bf (vv 1) (ae (bG (by exact (ah (ae<|fc EK_NoFit (List.Mem.head _) hc KF_NoBlocks rfl T.k_ cG rfl ED<|vv 0) (by exact (ah (ae<|fc EK_NoFit (List.Mem.head _) hc KF_NoBlock rfl T.k_ cG rfl EZ<|vv 0) (by exact (ag<|ae<|fc EK_NoFit (List.Mem.head _) hc KF_Here rfl T.k_ cG rfl GN<|vv 0))))))))) (by decide)) (aq (aD (i:=1) nd rfl (Or.inl rfl) (av bf (vv 1) (ae (bG (by exact (ag<|ae<|fc EK_NoFit (List.Mem.head _) hc KF_NoField rfl T.k_ cG rfl E1<|vv 0))))) (by decide)) (aq (aD (i:=2) nd rfl (Or.inl rfl) (bG (by exact (ah (ae cz) (by exact (ah (ae cz) (by exact (ah (ae cz) (by exact (ah (ae cz) (by exact (ah (ae cz) (by exact (ah (ae cz) (by exact (ah (ae cz) (by exact (ag<|ae cz))))))))))))))))) (by decide))<|aq (bQ (VW.vt<|pF (bO (gC (have z:=aH hr;z)) (ae<|Ai (have z:=aH hr;z) (vv 1)<|ae cy) ai<|bv _)<|pC<|jF<|dF<|ae<|zo (List.Mem.head _) hc V_ValueError rfl T.k_ cG rfl T.FZ BN<|vv 0) (aC<|aU cz) bP)<|aC<|aU<|pp (pY (have z:=aH hr;z)) (vv 2) (ae<|Af (have z:=aH hr;z) (vv 1)<|ae cy)<|fun _ _=>rfl)))))
theorem CP:j_ B5 ["_law_floor_here","_law_width","_law_start","_law_cell"] (au jq):=⟨rfl,rfl,rfl,by decide +kernel,rfl,by decide +kernel,by decide +kernel⟩
theorem CQ(F:EG K mg "_law_asked" jq f ["_law_floor_here","_law_width","_law_start","_law_cell"])(T:Txt mg){GW:Addr}(C7:DH P w K mg base 4 "never" fw GW ["floor","width","start","cell"] 4 G.bY){g_:Addr}(DF:LM K mg "NoFit" g_)(Ic:gL P w K mg base 4 "never" fw GW ["floor","width","start","cell"] 4 (Gv 4 5 G.fk) g_){Id:Addr}(Hg:ke P w K mg base 1 "_law_word" jp Id ["_law_e"] 1 G.iW g_){DP:Addr}(EF:mg "MowError" = some (.ref DP))(Q_MowError:PySem.W.exmOne K (.ref g_) (.ref DP)=some true):
  DH P w K mg base 5 "_law_asked" jq f ["_law_floor_here","_law_width","_law_start","_law_cell"] 4 G.dG:=by
 refine bH F CP rfl (by decide) fun nd o_ A outer s H E hr=>?_;exact (aq (aD (i:=4) nd rfl (Or.inl rfl) (aP (by exact (ah (ae cz) (by exact (ag<|ae fN))))) (by decide)) (aq (zu (i:=5) (r:=G.mY) (g:=G.mZ) (gs:=G.kC) rfl rfl rfl rfl EF Q_MowError nd rfl rfl (by decide) (fun E p=>(aC (aD (i:=4) nd rfl (Or.inl rfl) (aP (by exact (ah (ae cz) (by exact (ag (ae (aJ C7 hr rfl (ah (vv 0) (by exact (ah (vv 1) (by exact (ah (vv 2) (by exact (ag<|vv 3)))))))))))))) (by decide)))) (fun E p Z hz=>(qF (i:=4) nd rfl (Or.inl rfl) (zJ (zI (ae cz) (zH (qH Ic hr rfl rfl hz (ah (vv 0) (by exact (ah (vv 1) (by exact (ah (vv 2) (by exact (ag<|vv 3))))))))))))) (fun p e oe hc hp=>(aC (aD (i:=4) nd rfl (Or.inl rfl) (aP (by exact (ah (ae<|zG Hg hc hp (hr.Iv _) rfl rfl<|ag<|vv 5) (by exact (ag<|ae fN))))) (by decide)))) G.AX)<|aC<|aU<|c5<|pv 4))
theorem CS:j_ uB ["_law_script"] (au jr):=⟨rfl,rfl,rfl,by decide +kernel,rfl,by decide +kernel,by decide +kernel⟩
theorem CT(F:EG K mg "law" jr f ["_law_script"])(T:Txt mg){Ie:Addr}(C8:DH P w K mg base 1 "_law_hand" jj Ie ["_law_script","_law_k"] 2 G.gR){Hh:Addr}(Sb:DH P w K mg base 3 "_law_floor" jl Hh ["_law_hand_here"] 1 G.iO){Hi:Addr}(Sc:DH P w K mg base 4 "_law_mower" jo Hi ["_law_hand_here","_law_floor_here"] 2 G.iT){DN:Addr}(OI:DH P w K mg base 3 "_law_all_stands" fA DN ["_law_floor_here","_law_width"] 2 G.fj){Ig:Addr}(Sd:DH P w K mg base 2 "_law_part" fy Ig ["_law_floor_here","_law_cell"] 2 G.fW){EX:Addr}(OH:DH P w K mg base 1 "_law_under" gj EX ["_law_place","_law_width"] 2 G.en){Em:Addr}(P3:DH P w K mg base 7 "_law_same" hV Em ["_law_told","_law_due"] 2 (G.cv 6)){Fu:Addr}(C6:DH P w K mg base 2 "mown" gf Fu ["field","width"] 2 G.dr){Fw:Addr}(IY:DH P w K mg base 2 "_law_of" gg Fw ["_law_hand_here","_law_some"] 2 G.bU){Hj:Addr}(Se:DH P w K mg base 5 "_law_asked" jq Hj ["_law_floor_here","_law_width","_law_start","_law_cell"] 4 G.dG):
  DH P w K mg base 8 "law" jr f ["_law_script"] 1 G.i7:=by
 refine bH F CS rfl (by decide) fun nd o_ A outer s H E hr=>?_;exact (aq (dC (fx:=[0]) Y6 rfl (eS rfl T.DR (ag (ae (bw (l7 rfl) (by rfl) T.HZ nG (ah ai (by exact (ag (ae (bw (l8 rfl) (by rfl) T.H9 nH (ah ai (by exact (ag (ae (bw iC (by rfl) T.Go jg<|ag<|vv 0)))))))))))))) (ba (i:=1) nd rfl (Or.inl rfl) (by decide)) (aq (aD (i:=2) nd rfl (Or.inl rfl) (aJ C8 hr rfl (ah (vv 0) (by exact (ag<|vv 1)))) (by decide)) (aq (aD (i:=3) nd rfl (Or.inl rfl) (aJ Sb hr rfl<|ag<|vv 2) (by decide)) (aq (ee (aJ Sc hr rfl (ah (vv 2) (by exact (ag<|vv 3)))) (jJ rfl (eR (ba (i:=4) nd rfl (Or.inl rfl) (by decide)) (eR (ba (i:=5) nd rfl (Or.inl rfl) (by decide)) jI)))) (aq (aD (i:=6) nd rfl (Or.inl rfl) (aJ OI hr rfl (ah (vv 3) (by exact (ag<|vv 4)))) (by decide)) (aq (jK (i:=7) (j:=8) rfl nd rfl rfl (by decide) rfl rfl (ah (ae (aP (by exact dB))) (by exact (ag<|ae jW))) (by decide) (by decide) rfl) (aq (bQ (bO (fe<|aH hr) (vv 5) (vv 6) rfl) (aC (aD (i:=7) nd rfl (Or.inl rfl) (aJ Sd hr rfl (ah (vv 6) (by exact (ag<|vv 5)))) (by decide))) bP) (aq (dC (fx:=[7,0]) Y6 rfl (cV<|vv 7) (ba (i:=9) nd rfl (Or.inl rfl) (by decide)) (aC (gx (gG qg Wh XT Wp (sF<|aH hr) (pv 8) (ag (ae (di (rh rfl<|uu hr) rfl T.HY ur (ag (ae (dS (own:=["_law_cell"]) (caps:=[]) rfl (dg (au jr) uB (by decide +kernel)) (by decide) (cV (ae (aJ OH hr rfl (ah (vv 9) (by exact (ag<|vv 4)))))) (fun Y=>(ba (i:=0) (show (["_law_cell"]:List Str).Nodup by decide +kernel) rfl (Or.inl rfl) (by decide))) (fun Y=>eT) (fun Y=>(aP (by exact (ah (vv 0) (by exact (ag<|ae cy))))))))))))))) (by decide) (jL (by decide))) (aq (bQ (VW.vt (pE (bO (gC<|aH hr) (vv 7) (ae (aP (by exact dB)))<|bv _) (pB (jF (dF (ae (aJ P3 hr rfl (ah (ae (aJ C6 hr rfl (ah (vv 7) (by exact (ag<|vv 4))))) (by exact (ag (ae (di gE rfl T.DS fu (ag (ae (bw (iL rfl<|aH hr) (by rfl) T.El jh<|ag<|vv 8))))))))))))))) (aC<|aU cy) bP) (aC (dC (fx:=[0]) Y6 rfl (eS rfl T.DR (ag (ae (av c9 ai (ae (di l6 rfl T.GV kQ (ag (ae (cC (gC<|aH hr) (vv 3) (ae (aP (by exact dB)))<|bv _))))))))) (ba (i:=10) nd rfl (Or.inl rfl) (by decide)) (aq (aD (i:=11) nd rfl (Or.inl rfl) (aJ IY hr rfl (ah (vv 2) (by exact (ag<|vv 3)))) (by decide)) (aq (aD (i:=12) nd rfl (Or.inl rfl) (aP (by exact (ah (ae cz) (by exact (ag<|vv 7))))) (by decide)) (aq (bQ (bO (fe<|aH hr) (vv 11) (vv 8) rfl) (aC (aD (i:=12) nd rfl (Or.inl rfl) (aP (by exact (ah (ae cz) (by exact (ag<|ae fN))))) (by decide))) bP) (aq (bQ (bO (dX<|aH hr) (vv 7) (ae (aP (by exact dB)))<|bv _) (aC (aD (i:=12) nd rfl (Or.inl rfl) (aP (by exact (ah (ae cz) (by exact (ag<|ae fN))))) (by decide))) bP) (aC (bQ (jF (dF (ae (aJ P3 hr rfl (ah (ae (aJ Se hr rfl (ah (vv 3) (by exact (ah (vv 4) (by exact (ah (vv 5) (by exact (ag<|vv 11))))))))) (by exact (ag<|vv 12))))))) (aC<|aU cy) bP)))))) (by decide) gy)))))))))) (by decide) gy)<|aC<|aU cy)
end
theorem all_mk{w:World}{K:PySem.W.Frag}{h:Heap}{mg:Str->Option Value}{fa OK OL OM ON OO OP OQ OR OS OT L8 L9 L' L_ Ma Mb Mc Md JA Me Mf Mg:Addr}(X:K.In h)(Gg:h.Ns mainGlobals mg)(Oc:mg "law" = some (.ref fa))(r_w0:Raw K "lookup" g7 OK)(r_w1:Raw K "around" ji OL)(r_w2:Raw K "reached" g8 OM)(r_w3:Raw K "under" f8 ON)(r_w4:Raw K "fitting" f9 OO)(r_w5:Raw K "places" er OP)(r_w6:Raw K "mown" gf OQ)(r_w7:Raw K "never" fw OR)(r_w8:Raw K "_law_hand" jj OS)(r_w9:Raw K "_law_take" g9 OT)(r_w10:Raw K "_law_of" gg L8)(r_w11:Raw K "_law_floor" jl L9)(r_w12:Raw K "_law_are_beside" jm L')(r_w13:Raw K "_law_part" fy L_)(r_w14:Raw K "_law_under" gj Ma)(r_w15:Raw K "_law_stands" hU Mb)(r_w16:Raw K "_law_all_stands" fA Mc)(r_w17:Raw K "_law_mower" jo Md)(r_w18:Raw K "_law_same" hV JA)(r_w19:Raw K "_law_word" jp Me)(r_w20:Raw K "_law_asked" jq Mf)(r_law:Raw K "law" jr Mg){g_:Addr}(g_NoFit:PySem.W.nsIn K mainGlobals "NoFit" = some (some<|.ref g_))(x_NoFit:PySem.W.excIn K g_ [.type "ValueError",.type "Exception",.type "BaseException",.type "object"] "ValueError.__new__" = true){Fy:Addr}(g_Here:PySem.W.nsIn K mainGlobals "Here" = some (some<|.ref Fy)){DP:Addr}(g_MowError:PySem.W.nsIn K mainGlobals "MowError" = some (some<|.ref DP)){Fz:Addr}(g_Near:PySem.W.nsIn K mainGlobals "Near" = some (some<|.ref Fz)){DX:Addr}(g_NoBlock:PySem.W.nsIn K mainGlobals "NoBlock" = some (some<|.ref DX)){DO:Addr}(g_NoBlocks:PySem.W.nsIn K mainGlobals "NoBlocks" = some (some<|.ref DO)){DY:Addr}(g_NoField:PySem.W.nsIn K mainGlobals "NoField" = some (some<|.ref DY)){En:Addr}(g_NoText:PySem.W.nsIn K mainGlobals "NoText" = some (some<|.ref En)){DZ:Addr}(g_TooMany:PySem.W.nsIn K mainGlobals "TooMany" = some (some<|.ref DZ))(Q_MowError:PySem.W.exmOne K (.ref g_) (.ref DP)=some true)(EK_NoFit:Iu K g_)(KF_Here:PySem.W.kitOne K (.ref g_) (.ref Fy)=some false)(KF_Near:PySem.W.kitOne K (.ref g_) (.ref Fz)=some false)(KF_NoBlock:PySem.W.kitOne K (.ref g_) (.ref DX)=some false)(KF_NoBlocks:PySem.W.kitOne K (.ref g_) (.ref DO)=some false)(KF_NoField:PySem.W.kitOne K (.ref g_) (.ref DY)=some false)(KF_NoText:PySem.W.kitOne K (.ref g_) (.ref En)=some false)(KF_TooMany:PySem.W.kitOne K (.ref g_) (.ref DZ)=some false)(V_ValueError:PySem.W.kitOne K (.ref g_) (.type "ValueError")=some true)(z_ValueError:PySem.W.nsIn K mainGlobals "ValueError" = some none)(z_abs:PySem.W.nsIn K mainGlobals "abs" = some none)(z_all:PySem.W.nsIn K mainGlobals "all" = some none)(z_any:PySem.W.nsIn K mainGlobals "any" = some none)(z_bool:PySem.W.nsIn K mainGlobals "bool" = some none)(z_dict:PySem.W.nsIn K mainGlobals "dict" = some none)(z_int:PySem.W.nsIn K mainGlobals "int" = some none)(z_isinstance:PySem.W.nsIn K mainGlobals "isinstance" = some none)(z_len:PySem.W.nsIn K mainGlobals "len" = some none)(z_list:PySem.W.nsIn K mainGlobals "list" = some none)(z_max:PySem.W.nsIn K mainGlobals "max" = some none)(z_min:PySem.W.nsIn K mainGlobals "min" = some none)(z_range:PySem.W.nsIn K mainGlobals "range" = some none)(z_sorted:PySem.W.nsIn K mainGlobals "sorted" = some none)(z_str:PySem.W.nsIn K mainGlobals "str" = some none)(z_tuple:PySem.W.nsIn K mainGlobals "tuple" = some none)(z_zip:PySem.W.nsIn K mainGlobals "zip" = some none):
  ∃ fd:FuncData,(∀ (s:Shared) (v:Value),BindsTo s fd ⟨[v],[]⟩ [("_law_script",v)])/\∀ base:Heap,K.In base->base.Ns mainGlobals mg->Eg l.prog w K mg base FS 8 fa fd ["_law_script"] (GS 1 G.i7):=by
 have T:Txt mg:=⟨Zu X Gg z_ValueError,Zu X Gg z_abs,Zu X Gg z_all,Zu X Gg z_any,Zu X Gg z_bool,Zu X Gg z_dict,Zu X Gg z_int,Zu X Gg z_isinstance,Zu X Gg z_len,Zu X Gg z_list,Zu X Gg z_max,Zu X Gg z_min,Zu X Gg z_range,Zu X Gg z_sorted,Zu X Gg z_str,Zu X Gg z_tuple,Zu X Gg z_zip⟩;have h_w0:=r_w0.b1 (ps:=["things"]) X Gg fun _ _ _ _ _ _ _=>rfl;have h_w1:=r_w1.b1 (ps:=["cell"]) X Gg fun _ _ _ _ _ _ _=>rfl;have h_w2:=r_w2.b2 (ps:=["free","start"]) X Gg fun _ _ _ _ _ _ _ _=>rfl;have h_w3:=r_w3.b2 (ps:=["place","width"]) X Gg fun _ _ _ _ _ _ _ _=>rfl;have h_w4:=r_w4.b2 (ps:=["floor","width"]) X Gg fun _ _ _ _ _ _ _ _=>rfl;have h_w5:=r_w5.b3 (ps:=["floor","width","start"]) X Gg fun _ _ _ _ _ _ _ _ _=>rfl;have h_w6:=r_w6.b2 (ps:=["field","width"]) X Gg fun _ _ _ _ _ _ _ _=>rfl;have h_w7:=r_w7.b4 (ps:=["floor","width","start","cell"]) X Gg fun _ _ _ _ _ _ _ _ _ _=>rfl;have h_w8:=r_w8.b2 (ps:=["_law_script","_law_k"]) X Gg fun _ _ _ _ _ _ _ _=>rfl;have h_w9:=r_w9.b2 (ps:=["_law_hand_here","_law_many"]) X Gg fun _ _ _ _ _ _ _ _=>rfl;have h_w10:=r_w10.b2 (ps:=["_law_hand_here","_law_some"]) X Gg fun _ _ _ _ _ _ _ _=>rfl;have h_w11:=r_w11.b1 (ps:=["_law_hand_here"]) X Gg fun _ _ _ _ _ _ _=>rfl;have h_w12:=r_w12.b2 (ps:=["_law_one","_law_other"]) X Gg fun _ _ _ _ _ _ _ _=>rfl;have h_w13:=r_w13.b2 (ps:=["_law_floor_here","_law_cell"]) X Gg fun _ _ _ _ _ _ _ _=>rfl;have h_w14:=r_w14.b2 (ps:=["_law_place","_law_width"]) X Gg fun _ _ _ _ _ _ _ _=>rfl;have h_w15:=r_w15.b3 (ps:=["_law_known","_law_width","_law_place"]) X Gg fun _ _ _ _ _ _ _ _ _=>rfl;have h_w16:=r_w16.b2 (ps:=["_law_floor_here","_law_width"]) X Gg fun _ _ _ _ _ _ _ _=>rfl;have h_w17:=r_w17.b2 (ps:=["_law_hand_here","_law_floor_here"]) X Gg fun _ _ _ _ _ _ _ _=>rfl;have h_w18:=r_w18.b2 (ps:=["_law_told","_law_due"]) X Gg fun _ _ _ _ _ _ _ _=>rfl;have h_w19:=r_w19.b1 (ps:=["_law_e"]) X Gg fun _ _ _ _ _ _ _=>rfl;have h_w20:=r_w20.b4 (ps:=["_law_floor_here","_law_width","_law_start","_law_cell"]) X Gg fun _ _ _ _ _ _ _ _ _ _=>rfl;have h_law:=r_law.b1 (ps:=["_law_script"]) X Gg fun _ _ _ _ _ _ _=>rfl;have DF:LM K mg "NoFit" g_:=⟨Y1 X Gg g_NoFit,x_NoFit⟩;have GN:=Y1 X Gg g_Here;have EF:=Y1 X Gg g_MowError;have GO:=Y1 X Gg g_Near;have EZ:=Y1 X Gg g_NoBlock;have ED:=Y1 X Gg g_NoBlocks;have E1:=Y1 X Gg g_NoField;have FA:=Y1 X Gg g_NoText;have E2:=Y1 X Gg g_TooMany;refine yU r_law X Gg Oc (fun _ _ _ _ _ _ _ _=>.of_eq rfl) fun base=>?_;have Mh:=B7 (P:=l.prog) (w:=w) (base:=base) h_w0 T;have OU:=B9 (P:=l.prog) (w:=w) (base:=base) h_w1 T;have Mi:=Cb (P:=l.prog) (w:=w) (base:=base) h_w2 T OU;have Mj:=Cd (P:=l.prog) (w:=w) (base:=base) h_w3 T;have Mk:=Cg (P:=l.prog) (w:=w) (base:=base) h_w4 T Mh Mj;have Ml:=Ci (P:=l.prog) (w:=w) (base:=base) h_w5 T Mk Mi DF;have Mm:=Ch (P:=l.prog) (w:=w) (base:=base) h_w5 T Mk Mi;have Ks:=Ck (P:=l.prog) (w:=w) (base:=base) h_w6 T Mh Mj;have Mn:=Cm (P:=l.prog) (w:=w) (base:=base) h_w7 T Mm Ks DF Ml;have OV:=Cl (P:=l.prog) (w:=w) (base:=base) h_w7 T Mm Ks;have OW:=Cp (P:=l.prog) (w:=w) (base:=base) h_w8 T;have Mo:=Cr (P:=l.prog) (w:=w) (base:=base) h_w9 T;have Ih:=Ct (P:=l.prog) (w:=w) (base:=base) h_w10 T Mo;have Mp:=Cv (P:=l.prog) (w:=w) (base:=base) h_w11 T Mo Ih;have Mq:=Cy (P:=l.prog) (w:=w) (base:=base) h_w12 T;have Mr:=CA (P:=l.prog) (w:=w) (base:=base) h_w13 T Mq;have JB:=CC (P:=l.prog) (w:=w) (base:=base) h_w14 T;have Ms:=CF (P:=l.prog) (w:=w) (base:=base) h_w15 T JB;have JC:=CH (P:=l.prog) (w:=w) (base:=base) h_w16 T Ms;have Mt:=CJ (P:=l.prog) (w:=w) (base:=base) h_w17 T Ih JC;have Mu:DH l.prog w K mg base 7 "_law_same" hV JA ["_law_told","_law_due"] 2 (G.cv 6):=have ⟨_,U,b,m⟩:=h_w18;⟨_,U,b,m,CK U T b m 6⟩;have Kt:=CO (P:=l.prog) (w:=w) (base:=base) h_w19 T  DF EK_NoFit GN GO EZ ED E1 FA E2 KF_Here KF_Near KF_NoBlock KF_NoBlocks KF_NoField KF_NoText KF_TooMany V_ValueError;have Mv:=CQ (P:=l.prog) (w:=w) (base:=base) h_w20 T OV DF Mn Kt EF Q_MowError;exact CT h_law T OW Mp Mt JC Mr JB Mu Ks Ih Mv
theorem walk{q:Program}{loose:List Str}{XP:(Str->Option Value)->Heap->Prop}{YP:World->Heap->Prop}{d:DefRec}{K:Params->PySem.W.Frag}(hn:l.most=some 63)(K6:d.params.defaults=[])(hY:∀ (w:World) (h:Heap),YP w h->(K w.params).In h)(hK:∀ p,iE (K p)=true)(F:∀ (w:World) (mg:Str->Option Value) (fa:Addr) (h:Heap),(K w.params).In h->h.Ns mainGlobals mg->mg d.name=some (.ref fa)->
   ∃ fd:FuncData,(∀ (s:Shared) (u:Value),BindsTo s fd ⟨[u],[]⟩ [("_law_script",u)])/\∀ base:Heap,(K w.params).In base->base.Ns mainGlobals mg->Eg l.prog w (K w.params) mg base FS 8 fa fd ["_law_script"] (GS 1 G.i7)):
  PySem.W.WalkO q loose XP YP l.row.toRowW d [] (fun f vs=>PySem.call f vs):=
 L2.xm (n:=63) (k:=8) (x := "_law_script") (CX:=fun _=>FS) (sp:=fun w=>GS 1 G.i7) hn (by decide) K6 ⟨rfl,by decide,by decide,rfl⟩ hY F (fun w H a ns hl hO hS=>yP (hK w.params) H a ns hO hS (G.BM ns (WA hl (by decide)))) fun _ _ _ _ _ z=>z
end K08
def PySem.W.Fast.tw4649164272853303861:=0
def PySem.W.Fast.tw4013731978688987616:=0
def PySem.W.Fast.tw8236537470361886400:=0
def PySem.W.Fast.tw10306127527456893025:=0
def PySem.W.Fast.tw7227297977258693825:=0
def PySem.W.Fast.tw17417924560556547234:=0
def PySem.W.Fast.tw6258812429399064419:=0
def PySem.W.Fast.tw13526114117188769731:=0
def PySem.W.Fast.tw14660043106197199972:=0
def PySem.W.Fast.tw14049803635342556388:=0
def PySem.W.Fast.tw1759958233647934148:=0
def PySem.W.Fast.tw13747723593870579974:=0
def PySem.W.Fast.tw16003129592501156198:=0
def PySem.W.Fast.tw3518766893088326215:=0
def PySem.W.Fast.tw11012614107178060583:=0
def PySem.W.Fast.tw4690360951365348744:=0
def PySem.W.Fast.tw13277941029351733643:=0
def PySem.W.Fast.tw15891080216949355788:=0
def PySem.W.Fast.tw9534829351589072652:=0
def PySem.W.Fast.tw12576820412058640077:=0
def PySem.W.Fast.tw12565799764577998190:=0
def PySem.W.Fast.tw8952231346720774191:=0
def PySem.W.Fast.tw3778472756349180079:=0
def PySem.W.Fast.tw17679049305426082929:=0
def PySem.W.Fast.tw14097352564915532913:=0
def PySem.W.Fast.tw4689936509185755313:=0
def PySem.W.Fast.tw12862163292937437457:=0
def PySem.W.Fast.tw10715317714731965201:=0
def PySem.W.Fast.tw5471088323250867121:=0
def PySem.W.Fast.tw15562058996035464145:=0
def PySem.W.Fast.tw8671721440647365362:=0
def PySem.W.Fast.tw15594927477353229202:=0
def PySem.W.Fast.tw7764803182784379635:=0
def PySem.W.Fast.tw3475479363620850451:=0
def PySem.W.Fast.tw17637312119159398836:=0
def PySem.W.Fast.tw16676398122229585428:=0
def PySem.W.Fast.tw11180243777740116660:=0
def PySem.W.Fast.tw12786917804751917270:=0
def PySem.W.Fast.tw958855414624772406:=0
def PySem.W.Fast.tw16725149662110393046:=0
def PySem.W.Fast.tw17587140399705806679:=0
def PySem.W.Fast.tw16518093082876399479:=0
def PySem.W.Fast.tw18441704873653870712:=0
def PySem.W.Fast.tw2582388558381329080:=0
def PySem.W.Fast.tw8890047185096702648:=0
def PySem.W.Fast.tw10604013999855118489:=0
def PySem.W.Fast.tw16033979063722635770:=0
def PySem.W.Fast.tw13855146496362615514:=0
def PySem.W.Fast.tw18368830276355563195:=0
def PySem.W.Fast.tw9983861213822221243:=0
def PySem.W.Fast.tw11321287603954643900:=0
def PySem.W.Fast.tw2746849645377034269:=0
def PySem.W.Fast.tw16185106768119210365:=0
def PySem.W.Fast.tw5972522410781079965:=0
def PySem.W.Fast.tw2625629668804902333:=0
def PySem.W.Fast.tw16691325615427448349:=0
def PySem.W.Fast.tw2030891789394830910:=0
open PySem PySem.W PyProof.Rows
set_option maxRecDepth 100000 in
set_option maxHeartbeats 0 in
theorem PySem.Challenge.cw_mowfloor_k08_mown_or_never_holds : PySem.Challenge.rw_mowfloor_k08_mown_or_never.Holds := by
  w_on; o_law; k_head; (case hw => w_witness2)
  k_fill
  refine K08.walk (l := PySem.Challenge.rw_mowfloor_k08_mown_or_never) rfl rfl (fun w h Y => PySem.W.kIn_of Y) ?hK ?F
  case hK => intro p; rfl
  case F =>
    intro w mg fa h KX G hmg
    refine' K08.all_mk KX G hmg ?r_w0 ?r_w1 ?r_w2 ?r_w3 ?r_w4 ?r_w5 ?r_w6 ?r_w7 ?r_w8 ?r_w9 ?r_w10 ?r_w11 ?r_w12 ?r_w13 ?r_w14 ?r_w15 ?r_w16 ?r_w17 ?r_w18 ?r_w19 ?r_w20 ?r_law ?g_NoFit ?x_NoFit ?g_Here ?g_MowError ?g_Near ?g_NoBlock ?g_NoBlocks ?g_NoField ?g_NoText ?g_TooMany ?Q_MowError ?EK_NoFit ?KF_Here ?KF_Near ?KF_NoBlock ?KF_NoBlocks ?KF_NoField ?KF_NoText ?KF_TooMany ?V_ValueError ?z_ValueError ?z_abs ?z_all ?z_any ?z_bool ?z_dict ?z_int ?z_isinstance ?z_len ?z_list ?z_max ?z_min ?z_range ?z_sorted ?z_str ?z_tuple ?z_zip
    case r_w0 | r_w1 | r_w2 | r_w3 | r_w4 | r_w5 | r_w6 | r_w7 | r_w8 | r_w9 | r_w10 | r_w11 | r_w12 | r_w13 | r_w14 | r_w15 | r_w16 | r_w17 | r_w18 | r_w19 | r_w20 | r_law => refine' L2.yT ?a ?l ?c ?k; (case a => k_is); (case l => k_is); (case c => k_is); (case k => k_is)
    case g_NoFit | g_Here | g_MowError | g_Near | g_NoBlock | g_NoBlocks | g_NoField | g_NoText | g_TooMany | z_ValueError | z_abs | z_all | z_any | z_bool | z_dict | z_int | z_isinstance | z_len | z_list | z_max | z_min | z_range | z_sorted | z_str | z_tuple | z_zip => k_is
    case x_NoFit => k_exc
    case Q_MowError => kts_exm
    case V_ValueError | KF_Here | KF_Near | KF_NoBlock | KF_NoBlocks | KF_NoField | KF_NoText | KF_TooMany => kit_is
    case EK_NoFit => refine' ⟨?_, ?_, ?_, ?_, ?_, ?_, ?_, ?_⟩ <;> k_is
