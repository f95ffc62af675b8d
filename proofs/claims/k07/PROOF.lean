import PyProof.Rows.All
import Wide.All
import OpenK.AllK
import Wide.FinOn
import Lean
import PyProof.EqAt
import PyProof.EqKinds
import PyProof.TupleCall
import PyProof.IsiNone
import PyProof.NeKinds
import PyProof.MaxThree
import PyProof.NsDelKeeps
import KE.KTryMore
import KE.KIsAll
import PyProof.ExcAttrAll.ValueError
import PyProof.Rows.SetFrom
import PyProof.WalksMore
import PyProof.CallStr
import PySem.Challenge.RW_mowfloor_k07_places
set_option maxHeartbeats 4000000
set_option Elab.async false
set_option linter.all false
set_option maxRecDepth 100000
open List (range range' replicate)
open Option (bind_some)
abbrev Z9:=@Option.bind_eq_some_iff
abbrev Z8:=@PySem.wpAny_bind
abbrev Z7:=@List.append_assoc
abbrev Z6:=@List.getD_eq_getElem?_getD
abbrev Z5:=@Option.map_eq_some_iff
abbrev Z4:=@PySem.W.kasC_pure
abbrev Z3:=@PySem.Heap.get?_push_of_some
abbrev Z2:=@PySem.W.kasC_bind
abbrev Z1:=@List.perm_append_comm
abbrev Z0:=@if_pos
abbrev ZZ:=@List.append_nil
abbrev ZY:=@List.length_map
abbrev ZX:=@if_neg
abbrev ZW:=@List.mem_singleton
abbrev ZV:=@Bool.and_eq_true
abbrev ZU:=@List.size_toArray
abbrev ZT:=@List.Perm.append_left
abbrev ZS:=@PySem.wpAny_pure
abbrev ZR:=@Nat.le_refl
abbrev ZQ:=@Nat.le_of_ble_eq_true
abbrev ZP:=@PySem.Heap.lt_size
abbrev ZO:=@List.mem_cons
abbrev ZN:=@List.mem_append_right
abbrev ZM:=@List.nodup_append
abbrev ZL:=@List.getElem?_eq_getElem
abbrev ZK:=@List.Perm.append_right
abbrev ZJ:=@Bool.false_ne_true
abbrev ZI:=@List.Perm.refl
abbrev ZH:=@List.mem_append_left
abbrev ZG:=@List.length_append
abbrev ZF:=@PySem.Heap.get?_push_size
abbrev ZE:=@List.mem_append
abbrev ZD:=@List.take_append_drop
abbrev ZC:=@List.length_cons
abbrev ZB:=@List.pairwise_singleton
abbrev ZA:=@List.getElem?_eq_some_iff
abbrev Zz:=@Nat.lt_of_lt_of_le
abbrev Zy:=@List.map_cons
abbrev Zx:=@Nat.ne_of_lt
abbrev Zw:=@Option.some.inj
abbrev Zv:=@Array.length_toList
abbrev Zu:=@PySem.W.mg_none_of
abbrev Zt:=@Array.getElem?_toList
abbrev Zs:=@decide_eq_false
abbrev Zr:=@List.getElem?_map
abbrev Zq:=@decide_eq_true
abbrev Zp:=@List.mem_range
abbrev Zo:=@Nat.le_trans
abbrev Zn:=@List.pairwise_cons
abbrev Zm:=@List.drop_eq_getElem_cons
abbrev Zl:=@List.lookup_cons
abbrev Zk:=@List.all_eq_true
abbrev Zj:=@List.length_drop
abbrev Zi:=@List.mem_cons_of_mem
abbrev Zh:=@PySem.W.kasC_range
abbrev Zg:=@List.length_take
abbrev Zf:=@of_decide_eq_true
abbrev Ze:=@List.getElem?_append_left
abbrev Zd:=@Bool.false_eq_true
abbrev Zc:=@PySem.wpAny_mono
abbrev Zb:=@List.length_singleton
abbrev Za:=@List.length_filter_le
abbrev Y9:=@List.length_range
abbrev Y8:=@List.mem_cons_self
abbrev Y7:=@List.getElem?_set_ne
abbrev Y6:=@List.getElem?_append_right
abbrev Y5:=@List.map_append
abbrev Y4:=@PySem.W.mg_of
abbrev Y3:=@PySem.PassesOwn.never
abbrev Y2:=@PySem.wpAny_call_entry
abbrev Y1:=@List.pairwise_iff_getElem
abbrev Y0:=@List.nodup_cons
abbrev YZ:=@PySem.F.slot_dict_keyiterator_next
abbrev YY:=@List.getElem?_drop
abbrev YX:=@PySem.wpAny_callSpecial?_slot
abbrev YW:=@List.mem_of_mem_drop
abbrev YV:=@PySem.W.kasC_modify
abbrev YU:=@PySem.wpAny_seqItems
abbrev YT:=@List.mem_map
abbrev YS:=@List.mem_filter
abbrev YR:=@List.find?_cons
abbrev YQ:=@List.getElem?_take
abbrev YO:=@List.map_map
abbrev YN:=@PySem.W.hideAll_none
abbrev YM:=@List.mem_of_getElem?
abbrev YL:=@PySem.wpAny_typeNameOfWhole_keyiter
abbrev YK:=@List.mem_of_mem_take
abbrev YJ:=@List.eq_nil_of_length_eq_zero
abbrev YI:=@PySem.wpAny_field
abbrev YH:=@PySem.wpAny_truthy_bool
abbrev YG:=@PySem.wpAny_newObj_type
abbrev YF:=@PySem.F.plainAttrs_list
abbrev YE:=@PySem.wpAny_rule
abbrev YD:=@List.filterMap_cons
abbrev YC:=@PySem.Heap.get?_update_other
abbrev YB:=@Nat.lt_irrefl
abbrev YA:=@PySem.wpAny_holding
abbrev Yz:=@PySem.F.slot_tuple_iterator_next
abbrev Yy:=@PySem.wpAny_setField_rec
abbrev Yx:=@decide_eq_true_iff
abbrev Yw:=@Ne.symm
abbrev Yv:=@PySem.wpAny_passesOwn
abbrev Yu:=@List.length_nil
abbrev Yt:=@List.foldl_cons
abbrev Ys:=@Nat.zero_le
abbrev Yr:=@List.ext_getElem?
abbrev Yq:=@PySem.Paired.length
abbrev Yp:=@List.map_drop
abbrev Yo:=@List.map_take
abbrev Yn:=@PySem.W.hideAll_get
abbrev Ym:=@PySem.mem_of_lookup
abbrev Yl:=@beq_self_eq_true
abbrev Yk:=@List.drop_drop
abbrev Yj:=@decide_eq_false_iff_not
abbrev Yi:=@List.drop_zero
abbrev Yh:=@List.getElem?_set_self
abbrev Yg:=@PySem.wpAny_Call_Name_kw
abbrev Yf:=@Array.ext'
abbrev Ye:=@List.drop_of_length_le
abbrev Yd:=@Int.emod_lt_of_pos
abbrev Yc:=@PySem.wpAny_execs_nil
abbrev Yb:=@PySem.W.kasC_get
abbrev Ya:=@Int.emod_nonneg
abbrev X9:=@List.any_cons
abbrev X8:=@PyProof.Rows.callWith_type1
abbrev X7:=@if_false
abbrev X6:=@List.mem_nil_iff
abbrev X5:=@PySem.W.Looks.ld
abbrev X4:=@PySem.Heap.SameBut.update
abbrev X3:=@List.map_congr_left
abbrev X2:=@PySem.F.args_tuple_add_2
abbrev X1:=@PySem.F.slot_list_getattribute
abbrev X0:=@PySem.F.slot_list_append
abbrev XZ:=@PySem.F.type_list_append
abbrev XY:=@Bool.eq_iff_iff
abbrev XX:=@List.length_set
abbrev XW:=@PySem.W.of_hideAll
abbrev XV:=@PySem.Obj.data_mapFields
abbrev XU:=@PySem.F.entry_tuple_add
abbrev XT:=@Int.le_refl
abbrev XS:=@PySem.F.slot_tuple_hash
abbrev XR:=@PySem.W.cellsFrom_some
abbrev XQ:=@List.take_sublist
abbrev XO:=@PySem.F.slot_tuple_add
abbrev XN:=@Option.isSome_map
abbrev XM:=@List.nodup_nil
abbrev XL:=@PySem.Heap.size_push
abbrev XJ:=@Int.toNat_natCast
abbrev XI:=@List.getElem_drop
abbrev XH:=@List.take_of_length_le
abbrev XG:=@Bool.not_eq_true'
abbrev XF:=@decide_eq_true_eq
abbrev XE:=@List.drop_take
abbrev XD:=@List.getElem?_set
abbrev XC:=@Array.toList_push
abbrev XB:=@PySem.wpAny_pyIter_list
abbrev XA:=@PySem.wpAny_loadPart_at
abbrev Xz:=@List.eraseIdxIfInBounds_toArray
abbrev Xy:=@PySem.Heap.get?_update_self
abbrev Xx:=@List.getElem?_eq_none
abbrev Xw:=@PySem.F.typeOf_object_class
abbrev Xv:=@List.cons_append
abbrev Xu:=@PySem.call_meets
abbrev Xt:=@PySem.F.args_dict_keyiterator_next_1
abbrev Xs:=@Nat.le_add_right
abbrev Xr:=@Option.getD_some
abbrev Xq:=@List.not_mem_nil
abbrev Xp:=@List.any_toArray
abbrev Xo:=@List.countP_cons
abbrev Xn:=@List.any_eq_true
abbrev Xm:=@Nat.add_assoc
abbrev Xl:=@PySem.wpAny_attempt
abbrev Xk:=@PySem.Heap.get?_none_of_le
abbrev Xj:=@PySem.F.entry_dict_keyiterator_next
abbrev Xi:=@List.mem_iff_getElem
abbrev Xh:=@PySem.wpAny_updateSeq_pair
abbrev Xg:=@PySem.W.looks_findIn
abbrev Xf:=@List.of_mem_zip
abbrev Xe:=@List.forIn_cons
abbrev Xd:=@Nat.min_eq_left
abbrev Xc:=@PySem.F.args_tuple_iterator_next_1
abbrev Xb:=@PySem.F.slot_zip_next
abbrev Xa:=@beq_eq_false_iff_ne
abbrev W9:=@List.length_pos_iff
abbrev W8:=@List.all_map
abbrev W7:=@Nat.ne_of_gt
abbrev W6:=@PySem.codeAny_mono
abbrev W5:=@Array.getD_eq_getD_getElem?
abbrev W4:=@PySem.W.kasC_lift
abbrev W3:=@PySem.W.callWith_K
abbrev W2:=@PySem.wpAny_setField
abbrev W1:=@Array.perm_iff_toList_perm
abbrev W0:=@List.take_take
abbrev WZ:=@List.setIfInBounds_toArray
abbrev WX:=@Nat.lt_of_le_of_lt
abbrev WW:=@PySem.F.excBase_ValueError
abbrev WV:=@Array.getElem?_eq_getElem
abbrev WU:=@PySem.wpAny_dictEntries
abbrev WT:=@List.getElem_take
abbrev WS:=@List.drop_sublist
abbrev WR:=@Bool.not_true
abbrev WQ:=@PySem.wpAny_standAt
abbrev WP:=@List.set_comm
abbrev WO:=@Option.isSome_iff_exists
abbrev WN:=@PySem.wpAny_onRaise
abbrev WM:=@List.length_erase_of_mem
abbrev WL:=@PySem.wpAny_forIn_list
abbrev WK:=@PySem.wpAny_isInstance
abbrev WJ:=@List.getElem_inj
abbrev WI:=@PySem.noFill_tuple_add
abbrev WH:=@List.drop_length
abbrev WG:=@List.take_length
abbrev WF:=@List.zipIdx_cons
abbrev WE:=@PySem.F.attr_ValueError
abbrev WD:=@List.filter_cons
abbrev WC:=@List.filter_append_perm
abbrev WB:=@Nat.le_of_lt
abbrev WA:=@beq_iff_eq
abbrev Wz:=@if_true
abbrev Wy:=@List.set_set
abbrev Wx:=@List.length_pos_of_mem
abbrev Ww:=@PySem.wpAny_specialOf
abbrev Wv:=@PySem.wpAny_dictEpoch
abbrev Wu:=@PySem.codeAny_builtin
abbrev Wt:=@Option.map_some
abbrev Ws:=@or_false
abbrev Wr:=@Int.mul_nonneg
abbrev Wq:=@Int.le_trans
abbrev Wp:=@Nat.add_comm
abbrev Wo:=@List.any_map
namespace L2
open PySem PySem.Spec PyProof.Rows
variable{scope:Scope}{qual x:Str}{base h:Heap}{mg:Str->Option Value}{ps N:List Str}{us:List Value}{op:CmpOp}{f:Value->Value->Sem Value}{fp ch:List Addr}{body:List Stmt}{j n k i t':Nat}{g:Int->Int->Int}{tg c e:Expr}{es:List Expr}{K:PySem.W.Frag}{pins:List (Addr×Obj)}{pos:Pos}{s s':Shared}{Q E:Value->Shared->Prop}{A:Around}{it b a:Addr}{d':Drawn}{g':Array GenState}{w:World}{P:Program}{u:Value}
inductive Im where
 | j_ | bl (b:Bool) | int (i:Int) | str (x:Str) | tup (ds:List Im) | fn (a:Addr) | fl (ds:List Im) | fd
mutual
def Im.beq:Im->Im->Bool
 | .j_,.j_=>true
 | .bl a,.bl b=>a == b
 | .int i,.int j=>decide (i=j)
 | .str x,.str y=>decide (x=y)
 | .tup a,.tup b=>Im.DF a b
 | .fn a,.fn b=>decide (a=b)
 | .fl a,.fl b=>Im.DF a b
 | .fd,.fd=>true
 | _,_=>false
def Im.DF:List Im->List Im->Bool
 | [],[]=>true
 | a::r,b::t=>Im.beq a b && Im.DF r t
 | _,_=>false
end
mutual
theorem Im.beq_iff:∀ a b:Im,Im.beq a b=true↔a=b
 | .j_,b=>by cases b<;>simp[Im.beq]
 | .bl a,b=>by cases b<;>simp[Im.beq]
 | .int i,b=>by cases b<;>simp[Im.beq]
 | .str x,b=>by cases b<;>simp[Im.beq]
 | .tup x,b=>by
  cases b with
  | tup y=>rw[Im.beq,Im.C_ x y];simp
  | _=>simp[Im.beq]
 | .fn a,b=>by cases b<;>simp[Im.beq]
 | .fl x,b=>by
  cases b with
  | fl y=>rw[Im.beq,Im.C_ x y];simp
  | _=>simp[Im.beq]
 | .fd,b=>by cases b<;>simp[Im.beq]
theorem Im.C_:∀ a b:List Im,Im.DF a b=true↔a=b
 | [],b=>by cases b<;>simp[Im.DF]
 | x::r,b=>by
  cases b with
  | nil=>simp[Im.DF]
  | cons y t=>rw[Im.DF,ZV,Im.beq_iff x y,Im.C_ r t];simp
end
instance:DecidableEq Im:=fun a b=>decidable_of_iff (Im.beq a b=true) (Im.beq_iff a b)
mutual
def Ci(h:Heap):Im->Value->Prop
 | .j_,v=>v=.none
 | .bl b,v=>v=.bool b
 | .int i,v=>∃ t,v=.int i t
 | .str x,v=>∃ t,v=.str x t
 | .fn a,v=>v=.ref a
 | .fl _,v=>∃ a,v=.ref a
 | .fd,v=>∃ a,v=.ref a
 | .tup ds,v=>∃ a o items n,v=.ref a/\h.get? a=some o/\o.cls=.type "tuple" /\ o.data=.seq items n/\aJ h ds items.toList
def aJ(h:Heap):List Im->List Value->Prop
 | [],vs=>vs=[]
 | d::ds,vs=>∃ v r,vs=v::r/\Ci h d v/\aJ h ds r
end
mutual
def Im.key:Nat->Im->Bool
 | _,.int _=>true
 | _,.str _=>true
 | n+1,.tup ds=>Im.keys n ds
 | _,_=>false
def Im.keys:Nat->List Im->Bool
 | _,[]=>true
 | n,d::ds=>Im.key n d && Im.keys n ds
end
mutual
def JL(w:World):Im->Int
 | .int i=>hashInt i
 | .str x=>hashStr w x
 | .tup ds=>reduceHash (Builtin.Tuple.tupleHashOf<|cv w ds)
 | _=>0
def cv(w:World):List Im->List Int
 | []=>[]
 | d::ds=>JL w d::cv w ds
end
mutual
def JM:Im->Nat
 | .tup ds=>de ds+1
 | _=>1
def de:List Im->Nat
 | []=>0
 | d::ds=>JM d+de ds
end
theorem j9(w:World):∀ a b:List Im,cv w (a++b)=cv w a++cv w b
 | [],b=>rfl
 | d::a,b=>by rw[Xv,cv,cv,j9 w a b,Xv]
theorem ka:∀ a b:List Im,de (a++b)=de a+de b
 | [],b=>by simp[de]
 | d::a,b=>by rw[Xv,de,de,ka a b];lia
theorem mI{n:Nat}:∀ {a b:List Im},Im.keys n (a++b)=true->Im.keys n b=true
 | [],b,h=>h
 | d::a,b,h=>by rw[Xv,Im.keys,ZV] at h;exact mI h.2
theorem aJ.length{h:Heap}:∀ {ds:List Im}{vs:List Value},aJ h ds vs->ds.length=vs.length
 | [],vs,e=>by rw[show vs=[] from e];rfl
 | d::ds,vs,e=>by
  obtain⟨v,r,rfl,_,e⟩:=e;rw[ZC,ZC,aJ.length e]
def mJ(h h':Heap):Prop:=∀ a o items n,h.get? a=some o->o.cls=.type "tuple" -> o.data=.seq items n->h'.get? a=some o
mutual
theorem Ci.keep{h h':Heap}(k:mJ h h'):∀ {d:Im}{v:Value},Ci h d v->Ci h' d v
 | .j_,_,e=>e
 | .bl _,_,e=>e
 | .int _,_,e=>e
 | .str _,_,e=>e
 | .fn _,_,e=>e
 | .fl _,_,e=>e
 | .fd,_,e=>e
 | .tup ds,_,e=>by
  obtain⟨a,o,items,n,rfl,h1,h2,h3,h4⟩:=e;exact⟨a,o,items,n,rfl,k a o items n h1 h2 h3,h2,h3,aJ.keep k h4⟩
theorem aJ.keep{h h':Heap}(k:mJ h h'):∀ {ds:List Im}{vs:List Value},aJ h ds vs->aJ h' ds vs
 | [],_,e=>e
 | d::ds,_,e=>by
  obtain⟨v,r,rfl,h1,h2⟩:=e;exact⟨v,r,rfl,Ci.keep k h1,aJ.keep k h2⟩
end
theorem mK{h:Heap}:∀ (n:Nat) {x y:Im}{v:Value},Im.key n x=true->Im.key n y=true->Ci h x v->Ci h y v->x=y
 | n,.int i,y,v,_,ky,hx,hy=>by
  obtain⟨t,rfl⟩:=hx;cases y with
  | int j=>obtain⟨u,e⟩:=hy;injection e with e;rw[e]
  | str z=>obtain⟨u,e⟩:=hy;cases e
  | tup ds=>obtain⟨_,_,_,_,e,_⟩:=hy;cases e
  | _=>cases n<;>cases ky
 | n,.str z,y,v,_,ky,hx,hy=>by
  obtain⟨t,rfl⟩:=hx;cases y with
  | int j=>obtain⟨u,e⟩:=hy;cases e
  | str z=>obtain⟨u,e⟩:=hy;injection e with e;rw[e]
  | tup ds=>obtain⟨_,_,_,_,e,_⟩:=hy;cases e
  | _=>cases n<;>cases ky
 | n+1,.tup ds,y,v,kx,ky,hx,hy=>by
  obtain⟨a,o,items,m,rfl,h1,h2,h3,h4⟩:=hx;cases y with
  | int j=>obtain⟨u,e⟩:=hy;cases e
  | str z=>obtain⟨u,e⟩:=hy;cases e
  | tup es=>
   obtain⟨a',o',x_,m',e,g1,g2,g3,g4⟩:=hy;cases e;rw[h1] at g1;cases g1;rw[h3] at g3;injection g3 with g3 _;subst g3;have all:∀ (ds es:List Im) (vs:List Value),Im.keys n ds=true->Im.keys n es=true->aJ h ds vs->aJ h es vs->ds=es:=by
    intro ds;induction ds with
    | nil=>
     intro es vs _ _ a b;cases es with
     | nil=>rfl
     | cons e es=>obtain⟨_,_,q,_⟩:=b;rw[show vs=[] from a] at q;cases q
    | cons d ds ih=>
     intro es vs k1 k2 a b;obtain⟨v,r,rfl,a1,a2⟩:=a;cases es with
     | nil=>cases (show v::r=[] from b)
     | cons e es=>
      obtain⟨v',r',q,b1,b2⟩:=b;cases q;rw[Im.keys,ZV] at k1 k2;rw[mK n k1.1 k2.1 a1 b1,ih es r k1.2 k2.2 a2 b2]
   rw[all ds es _ kx ky h4 g4]
  | _=>cases ky
 | _,.j_,_,_,k,_,_,_=>by cases ‹Nat›<;>cases k
 | _,.bl _,_,_,k,_,_,_=>by cases ‹Nat›<;>cases k
 | _,.fn _,_,_,k,_,_,_=>by cases ‹Nat›<;>cases k
 | _,.fl _,_,_,k,_,_,_=>by cases ‹Nat›<;>cases k
 | _,.fd,_,_,k,_,_,_=>by cases ‹Nat›<;>cases k
 | 0,.tup _,_,_,k,_,_,_=>by cases k
section
variable{prog:Program}{w:World}
theorem mL:∀ (n:Nat) {A:Around}{E:Value->Shared->Prop}{s:Shared}{d:Im}{v:Value}{Q:Int->Shared->Prop},Im.key n d=true->A.units+n<cLine->Ci s.heap d v->Q (JL w d) { s with toks:=s.toks+JM d }->
  wpAny (model prog w) A (pyHash v) Q E s
 | n,A,E,s,.int i,v,Q,_,_,hv,h=>by
  obtain⟨t,rfl⟩:=hv;exact wpAny_pyHash_int h
 | n,A,E,s,.str i,v,Q,_,_,hv,h=>by
  obtain⟨t,rfl⟩:=hv;exact wpAny_pyHash_str h
 | n+1,A,E,s,.tup ds,v,Q,k,hu,hv,h=>by
  obtain⟨a,o,items,m,rfl,ho,hc,hd,hi⟩:=hv;have hT:s.TypeIs (.ref a) "tuple" := ⟨o,ho,hc⟩;unfold pyHash;first | unfold pyHashByItsType | skip
  first | refine Z8 (wpAny_cRoomFor_or (.inr (by lia)) ?_) | skip
  refine Z8 (Ww hT XS.lookup ?_);show wpAny _ _ (if (some (Value.builtin "tuple.__hash__") == some Value.none)=true then _ else _) Q E s;rw[ZX (by rw[beq_builtin_none];exact ZJ)];refine Z8 (Ww hT XS.lookup ?_);show wpAny _ _ (callSpecialIfBoundUnlessNone? (.ref a) "__hash__" _ >>= _) Q E s;refine Z8 (wpAny_callSpecialIfBoundUnlessNone?_slot hT XS<|Y2 XS hT F.entry_tuple_hash ?_<|F.args_tuple_hash_1 _);show wpAny _ _ (Builtin.Tuple.tupleItemsOf (.ref a) >>= _) _ _ s;refine Z8 (wpAny_tupleItemsOf ho hd ?_);refine Z8 ?_;rw[<- Array.forIn_toList];refine WL _
   (fun rest (b:Array Int) s'=>∃ done left,ds=done++left/\aJ s.heap left rest/\b.toList=cv w done/\s'={ s with toks:=s.toks+de done })
   _ ?_ ?_ _ _ ⟨[],ds,rfl,hi,rfl,rfl⟩
  ·rintro x rest b s' ⟨done,left,rfl,hl,hb,rfl⟩;cases left with
   | nil=>cases (show x::rest=[] from hl)
   | cons d left=>
    obtain⟨v,r,e,h1,Ee⟩:=hl;cases e;have k2:=mI (a:=done) (show Im.keys n (done++d::left)=true from k);rw[Im.keys,ZV] at k2;refine Z8 (mL n k2.1 (by show A.units+1+n<cLine;lia) h1 ?_);first
     | exact ZS ⟨done++[d],left,by simp,Ee,by simp[hb,j9,cv],by simp[ka,de,Xm]⟩
     | exact Z8 (ZS (ZS ⟨done++[d],left,by simp,Ee,by simp[hb,j9,cv],by simp[ka,de,Xm]⟩))
  ·rintro b s' ⟨done,left,rfl,hl,hb,rfl⟩;cases left with
   | cons d left=>obtain⟨_,_,e,_⟩:=hl;cases e
   | nil=>
   rw[ZZ] at h;show wpAny _ _ (retInt<|Builtin.Tuple.tupleHashOf b.toList) _ _ _;rw[hb];refine wpAny_ret_mkInt ?_;show wpAny _ _ (if (decide (-(2:Int) ^ 63<=Builtin.Tuple.tupleHashOf (cv w done)) && decide (Builtin.Tuple.tupleHashOf (cv w done)<2 ^ 63))=true then _ else _) Q E _;rw[JL,JM] at h;unfold reduceHash at h;by_cases hr:(decide (-(2:Int) ^ 63<=Builtin.Tuple.tupleHashOf (cv w done)) && decide (Builtin.Tuple.tupleHashOf (cv w done)<2 ^ 63))=true
   ·rw[Z0 hr];rw[Z0 hr] at h;exact ZS (by simpa [Xm] using h)
   ·rw[ZX hr];rw[ZX hr] at h;exact Z8 (YE (ZS (by simpa [Xm] using h)))
 | _,_,_,_,.j_,_,_,k,_,_,_=>by cases ‹Nat›<;>cases k
 | _,_,_,_,.bl _,_,_,k,_,_,_=>by cases ‹Nat›<;>cases k
 | _,_,_,_,.fn _,_,_,k,_,_,_=>by cases ‹Nat›<;>cases k
 | _,_,_,_,.fl _,_,_,k,_,_,_=>by cases ‹Nat›<;>cases k
 | _,_,_,_,.fd,_,_,k,_,_,_=>by cases ‹Nat›<;>cases k
 | 0,_,_,_,.tup _,_,_,k,_,_,_=>by cases k
mutual
def az:Im->Im->Bool
 | .j_,.j_=>true
 | .bl a,.bl b=>a == b
 | .bl a,.int j=>(if a then 1 else 0) == j
 | .int i,.bl b=>i == (if b then 1 else 0)
 | .int i,.int j=>i == j
 | .str x,.str y=>x == y
 | .tup a,.tup b=>bx a b
 | _,_=>false
def bx:List Im->List Im->Bool
 | [],[]=>true
 | a::r,b::t=>az a b && bx r t
 | _,_=>false
end
mutual
def Im.pl:Nat->Im->Bool
 | _,.j_=>true
 | _,.bl _=>true
 | _,.int _=>true
 | _,.str _=>true
 | n+1,.tup ds=>Im.pls n ds
 | _,_=>false
def Im.pls:Nat->List Im->Bool
 | _,[]=>true
 | n,d::ds=>Im.pl n d && Im.pls n ds
end
theorem df{n:Nat}:∀ {ds:List Im}{j:Nat}{d:Im},Im.pls n ds=true->ds[j]?=some d->Im.pl n d=true
 | [],j,d,_,h=>by simp at h
 | e::ds,0,d,k,h=>by
  rw[Im.pls,ZV] at k;simp at h;subst h;exact k.1
 | e::ds,j+1,d,k,h=>by
  rw[Im.pls,ZV] at k;exact df k.2 (by simpa using h)
theorem aJ.get{h:Heap}:∀ {ds:List Im}{vs:List Value}{j:Nat}{v:Value},aJ h ds vs->vs[j]?=some v->∃ d,ds[j]?=some d/\Ci h d v
 | [],vs,j,v,a,e=>by rw[show vs=[] from a] at e;simp at e
 | d::ds,vs,0,v,a,e=>by
  obtain⟨u,r,rfl,a1,a2⟩:=a;simp at e;subst e;exact⟨d,rfl,a1⟩
 | d::ds,vs,j+1,v,a,e=>by
  obtain⟨u,r,rfl,a1,a2⟩:=a;obtain⟨d',h1,h2⟩:=aJ.get (j:=j) a2 (by simpa using e);exact⟨d',by simpa using h1,h2⟩
theorem mM{h:Heap}:∀ (n:Nat) {x y:Im}{v:Value},Im.pl n x=true->Im.pl n y=true->Ci h x v->Ci h y v->az x y=true
 | n,.j_,y,v,_,ky,hx,hy=>by
  cases (show v=.none from hx);cases y with
  | j_=>rfl
  | bl b=>cases hy
  | int j=>obtain⟨u,e⟩:=hy;cases e
  | str z=>obtain⟨u,e⟩:=hy;cases e
  | tup ds=>obtain⟨_,_,_,_,e,_⟩:=hy;cases e
  | fn a=>cases n<;>cases ky
  | fl a=>cases n<;>cases ky
  | fd=>cases n<;>cases ky
 | n,.bl b,y,v,_,ky,hx,hy=>by
  cases (show v=.bool b from hx);cases y with
  | j_=>cases hy
  | bl c=>cases hy;simp[az]
  | int j=>obtain⟨u,e⟩:=hy;cases e
  | str z=>obtain⟨u,e⟩:=hy;cases e
  | tup ds=>obtain⟨_,_,_,_,e,_⟩:=hy;cases e
  | fn a=>cases n<;>cases ky
  | fl a=>cases n<;>cases ky
  | fd=>cases n<;>cases ky
 | n,.int i,y,v,_,ky,hx,hy=>by
  obtain⟨t,rfl⟩:=hx;cases y with
  | j_=>cases hy
  | bl c=>cases hy
  | int j=>obtain⟨u,e⟩:=hy;cases e;simp[az]
  | str z=>obtain⟨u,e⟩:=hy;cases e
  | tup ds=>obtain⟨_,_,_,_,e,_⟩:=hy;cases e
  | fn a=>cases n<;>cases ky
  | fl a=>cases n<;>cases ky
  | fd=>cases n<;>cases ky
 | n,.str i,y,v,_,ky,hx,hy=>by
  obtain⟨t,rfl⟩:=hx;cases y with
  | j_=>cases hy
  | bl c=>cases hy
  | int j=>obtain⟨u,e⟩:=hy;cases e
  | str z=>obtain⟨u,e⟩:=hy;cases e;simp[az]
  | tup ds=>obtain⟨_,_,_,_,e,_⟩:=hy;cases e
  | fn a=>cases n<;>cases ky
  | fl a=>cases n<;>cases ky
  | fd=>cases n<;>cases ky
 | n+1,.tup ds,y,v,kx,ky,hx,hy=>by
  obtain⟨a,o,items,m,rfl,h1,h2,h3,h4⟩:=hx;cases y with
  | j_=>cases hy
  | bl c=>cases hy
  | int j=>obtain⟨u,e⟩:=hy;cases e
  | str z=>obtain⟨u,e⟩:=hy;cases e
  | fn a=>cases ky
  | fl a=>cases ky
  | fd=>cases ky
  | tup es=>
   obtain⟨a',o',x_,m',e,g1,g2,g3,g4⟩:=hy;cases e;rw[h1] at g1;cases g1;rw[h3] at g3;injection g3 with g3 _;subst g3;have all:∀ (ds es:List Im) (vs:List Value),Im.pls n ds=true->Im.pls n es=true->aJ h ds vs->aJ h es vs->bx ds es=true:=by
    intro ds;induction ds with
    | nil=>
     intro es vs _ _ a b;cases es with
     | nil=>rfl
     | cons e es=>obtain⟨_,_,q,_⟩:=b;rw[show vs=[] from a] at q;cases q
    | cons d ds ih=>
     intro es vs k1 k2 a b;obtain⟨v,r,rfl,a1,a2⟩:=a;cases es with
     | nil=>cases (show v::r=[] from b)
     | cons e es=>
      obtain⟨v',r',q,b1,b2⟩:=b;cases q;rw[Im.pls,ZV] at k1 k2;rw[bx,mM n k1.1 k2.1 a1 b1,ih es r k1.2 k2.2 a2 b2];rfl
   rw[az];exact all ds es _ kx ky h4 g4
 | n,.fn _,_,_,k,_,_,_=>by cases n<;>cases k
 | n,.fl _,_,_,k,_,_,_=>by cases n<;>cases k
 | n,.fd,_,_,k,_,_,_=>by cases n<;>cases k
 | 0,.tup _,_,_,k,_,_,_=>by cases k
theorem gF{e:Nat->Bool}:∀ {ds es:List Im},(∀ (j:Nat) (x y:Im),ds[j]?=some x->es[j]?=some y->e j=az x y)->((range<|min ds.length es.length).all e && ds.length == es.length)=bx ds es:=by
 have key:∀ (ds es:List Im) (f:Nat->Bool),(∀ (j:Nat) (x y:Im),ds[j]?=some x->es[j]?=some y->f j=az x y)->((range<|min ds.length es.length).all f && ds.length == es.length)=bx ds es:=by
  intro ds;induction ds with
  | nil=>intro es f _;cases es<;>simp[bx]
  | cons d ds ih=>
   intro es f h;cases es with
   | nil=>simp[bx]
   | cons c es=>
    have:=ih es (fun j=>f<|j+1) fun j x y a b=>h (j+1) x y (by simpa using a) (by simpa using b);rw[bx,<- this,<- h 0 d c rfl rfl];rw[ZC,ZC,show min (ds.length+1) (es.length+1)=min ds.length es.length+1 by lia,List.range_succ_eq_map,List.all_cons,W8,Bool.and_assoc];congr 2;rw[XY];simp
 exact fun {ds es} h=>key ds es e h
theorem cw{s:Shared}:∀ (n:Nat) {A:Around}{x y:Im}{u v:Value},Im.pl n x=true->Im.pl n y=true->A.units+n+1<cLine->Ci s.heap x u->Ci s.heap y v->SeqAt.EqAt A s u v (az x y)
 | n,A,.j_,y,u,v,_,ky,hu,hx,hy=>by
  cases (show u=.none from hx);cases y with
  | j_=>cases (show v=.none from hy);exact SeqAt.EqAt.same _
  | bl b=>cases (show v=.bool b from hy);exact SeqAt.EqAt.none_bool b
  | int j=>obtain⟨t,rfl⟩:=hy;exact SeqAt.EqAt.none_int j t
  | str z=>obtain⟨t,rfl⟩:=hy;exact SeqAt.EqAt.none_str z t
  | tup ds=>obtain⟨a,o,items,m,rfl,h1,h2,h3,_⟩:=hy;exact SeqAt.EqAt.none_tuple ⟨o,h1,h2,m,h3⟩ (by lia)
  | fn a=>cases n<;>cases ky
  | fl a=>cases n<;>cases ky
  | fd=>cases n<;>cases ky
 | n,A,.bl b,y,u,v,_,ky,hu,hx,hy=>by
  cases (show u=.bool b from hx);cases y with
  | j_=>cases (show v=.none from hy);exact SeqAt.EqAt.bool_none b
  | bl c=>cases (show v=.bool c from hy);exact SeqAt.EqAt.bool_bool b c
  | int j=>obtain⟨t,rfl⟩:=hy;exact SeqAt.EqAt.bool_int b j t
  | str z=>obtain⟨t,rfl⟩:=hy;exact SeqAt.EqAt.bool_str b z t
  | tup ds=>obtain⟨a,o,items,m,rfl,h1,h2,h3,_⟩:=hy;exact SeqAt.EqAt.bool_tuple b ⟨o,h1,h2,m,h3⟩ (by lia)
  | fn a=>cases n<;>cases ky
  | fl a=>cases n<;>cases ky
  | fd=>cases n<;>cases ky
 | n,A,.int i,y,u,v,_,ky,hu,hx,hy=>by
  obtain⟨t0,rfl⟩:=hx;cases y with
  | j_=>cases (show v=.none from hy);exact SeqAt.EqAt.int_none i t0
  | bl c=>cases (show v=.bool c from hy);exact SeqAt.EqAt.int_bool i t0 c
  | int j=>obtain⟨t,rfl⟩:=hy;exact SeqAt.EqAt.int_int i t0 j t
  | str z=>obtain⟨t,rfl⟩:=hy;exact SeqAt.EqAt.int_str i t0 z t
  | tup ds=>obtain⟨a,o,items,m,rfl,h1,h2,h3,_⟩:=hy;exact SeqAt.EqAt.int_tuple i t0 ⟨o,h1,h2,m,h3⟩ (by lia)
  | fn a=>cases n<;>cases ky
  | fl a=>cases n<;>cases ky
  | fd=>cases n<;>cases ky
 | n,A,.str i,y,u,v,_,ky,hu,hx,hy=>by
  obtain⟨t0,rfl⟩:=hx;cases y with
  | j_=>cases (show v=.none from hy);exact SeqAt.EqAt.str_none i t0
  | bl c=>cases (show v=.bool c from hy);exact SeqAt.EqAt.str_bool i t0 c
  | int j=>obtain⟨t,rfl⟩:=hy;exact SeqAt.EqAt.str_int i t0 j t
  | str z=>obtain⟨t,rfl⟩:=hy;exact SeqAt.EqAt.str_str i t0 z t
  | tup ds=>obtain⟨a,o,items,m,rfl,h1,h2,h3,_⟩:=hy;exact SeqAt.EqAt.str_tuple i t0 ⟨o,h1,h2,m,h3⟩ (by lia)
  | fn a=>cases n<;>cases ky
  | fl a=>cases n<;>cases ky
  | fd=>cases n<;>cases ky
 | n+1,A,.tup ds,y,u,v,kx,ky,hu,hx,hy=>by
  have Ek:=hx;obtain⟨a,o,items,m,rfl,h1,h2,h3,h4⟩:=hx;have ta:s.heap.IsTuple a items:=⟨o,h1,h2,m,h3⟩;cases y with
  | j_=>cases (show v=.none from hy);exact SeqAt.EqAt.tuple_none ta (by lia)
  | bl c=>cases (show v=.bool c from hy);exact SeqAt.EqAt.tuple_bool c ta (by lia)
  | int j=>obtain⟨t,rfl⟩:=hy;exact SeqAt.EqAt.tuple_int j t ta (by lia)
  | str z=>obtain⟨t,rfl⟩:=hy;exact SeqAt.EqAt.tuple_str z t ta (by lia)
  | fn a=>cases ky
  | fl a=>cases ky
  | fd=>cases ky
  | tup es=>
   have Ks:=hy;obtain⟨b,o',x_,m',rfl,g1,g2,g3,g4⟩:=hy;by_cases e:a=b
   ·subst e;rw[mM (n+1) kx ky Ek Ks];exact SeqAt.EqAt.same _
   ·have tb:s.heap.IsTuple b x_:=⟨o',g1,g2,m',g3⟩;have l1:=h4.length;have l2:=g4.length;have l3:items.toList.length=items.size:=by simp
    have l4:x_.toList.length=x_.size:=by simp
    rw[l3] at l1;rw[l4] at l2;have q:=SeqAt.EqAt.of_refs (A:=A) e (SeqAt.RcAt.tuples (e:=fun j=>az (ds.getD j .j_)<|es.getD j .j_) ta tb (by lia) fun j j1 j2=>by
     obtain⟨d1,e1,r1⟩:=h4.get (j:=j) (v:=items[j]) (by rw[Zt];simp[j1]);obtain⟨d2,e2,r2⟩:=g4.get (j:=j) (v:=x_[j]) (by rw[Zt];simp[j2]);rw[Z6,e1,Z6,e2];exact cw n (df kx e1) (df ky e2) (by show A.units+1+n+1<cLine;lia) r1 r2)
    rw[<- l1,<- l2,gF (ds:=ds) (es:=es) (fun j x y a b=>by rw[Z6,a,Z6,b];rfl)] at q;rw[az];exact q
 | n,A,.fn _,_,_,_,k,_,_,_,_=>by cases n<;>cases k
 | n,A,.fl _,_,_,_,k,_,_,_,_=>by cases n<;>cases k
 | n,A,.fd,_,_,_,k,_,_,_,_=>by cases n<;>cases k
 | 0,A,.tup _,_,_,_,k,_,_,_,_=>by cases k
mutual
theorem kb:∀ {n:Nat}{d:Im},Im.key n d=true->Im.pl n d=true
 | n,.int _,_=>by cases n<;>rfl
 | n,.str _,_=>by cases n<;>rfl
 | n+1,.tup ds,h=>by rw[Im.key] at h;rw[Im.pl];exact mO h
 | 0,.tup _,h=>by cases h
 | n,.j_,h=>by cases n<;>cases h
 | n,.bl _,h=>by cases n<;>cases h
 | n,.fn _,h=>by cases n<;>cases h
 | n,.fl _,h=>by cases n<;>cases h
 | n,.fd,h=>by cases n<;>cases h
theorem mO:∀ {n:Nat}{ds:List Im},Im.keys n ds=true->Im.pls n ds=true
 | n,[],_=>by rw[Im.pls]
 | n,d::ds,h=>by rw[Im.keys,ZV] at h;rw[Im.pls,kb h.1,mO h.2];rfl
end
mutual
theorem mP:∀ {n:Nat}{x y:Im},Im.key n x=true->Im.key n y=true->az x y=decide (x=y)
 | n,.int i,y,_,hy=>by
  cases y with
  | int j=>rw[az];by_cases e:i=j<;>simp[e]
  | str z=>simp[az]
  | tup z=>simp[az]
  | _=>cases n<;>cases hy
 | n,.str i,y,_,hy=>by
  cases y with
  | int j=>simp[az]
  | str z=>rw[az];by_cases e:i=z<;>simp[e]
  | tup z=>simp[az]
  | _=>cases n<;>cases hy
 | n+1,.tup ds,y,hx,hy=>by
  cases y with
  | int j=>simp[az]
  | str z=>simp[az]
  | tup es=>
   rw[Im.key] at hx hy;rw[az,mQ hx hy];simp
  | _=>cases hy
 | 0,.tup _,_,h,_=>by cases h
 | n,.j_,_,h,_=>by cases n<;>cases h
 | n,.bl _,_,h,_=>by cases n<;>cases h
 | n,.fn _,_,h,_=>by cases n<;>cases h
 | n,.fl _,_,h,_=>by cases n<;>cases h
 | n,.fd,_,h,_=>by cases n<;>cases h
theorem mQ:∀ {n:Nat}{x y:List Im},Im.keys n x=true->Im.keys n y=true->bx x y=decide (x=y)
 | n,[],y,_,_=>by cases y<;>simp[bx]
 | n,d::ds,[],_,_=>by simp[bx]
 | n,d::ds,e::es,hx,hy=>by
  rw[Im.keys,ZV] at hx hy;rw[bx,mP hx.1 hy.1,mQ hx.2 hy.2];by_cases h1:d=e<;>by_cases h2:ds=es<;>simp[h1,h2]
end
theorem mR:∀ (n:Nat) {A:Around}{E:Value->Shared->Prop}{s:Shared}{d:Im}{v:Value}{Q:Bool->Shared->Prop},Im.key n d=true->Ci s.heap d v->Q true s->wpAny (model prog w) A (eqIsQuiet n v) Q E s
 | n,A,E,s,.int i,v,Q,_,hv,h=>by
  obtain⟨t,rfl⟩:=hv;rw[eqIsQuiet_byValue n rfl];exact ZS h
 | n,A,E,s,.str i,v,Q,_,hv,h=>by
  obtain⟨t,rfl⟩:=hv;rw[eqIsQuiet_byValue n rfl];exact ZS h
 | n+1,A,E,s,.tup ds,v,Q,k,hv,h=>by
  obtain⟨a,o,items,m,rfl,ho,hc,hd,hi⟩:=hv;have hT:s.TypeIs (.ref a) "tuple" := ⟨o,ho,hc⟩;unfold eqIsQuiet;refine Z8 (Ww hT F.slot_tuple_eq.lookup ?_);show wpAny _ _ (isInstance (.ref a) (.type "tuple") >>= _) _ _ s;refine Z8 (WK hT isSubtype_tuple_tuple ?_);simp only[WR,Zd,X7];refine Z8 (YU ho hd ?_);refine Z8 ?_;show wpAny _ _ (forIn items _ _) _ _ s;rw[<- Array.forIn_toList];rw[Im.key] at k;refine WL _ (fun rest r s'=>r.1=none/\s'=s/\∃ left,Im.keys n left=true/\aJ s.heap left rest) _ ?_ ?_ _ _ ⟨rfl,rfl,ds,k,hi⟩
  ·rintro v rest r s' ⟨hr,rfl,left,hk,hl⟩;cases left with
   | nil=>cases (show v::rest=[] from hl)
   | cons d left=>
    obtain⟨v',r',e,h1,Ee⟩:=hl;cases e;rw[Im.keys,ZV] at hk;refine Z8 (mR n hk.1 h1 ?_);simp only[WR,Zd,X7];exact ZS ⟨rfl,rfl,left,hk.2,Ee⟩
  ·rintro⟨r1,r2⟩ s' ⟨hr,rfl,_⟩;simp only at hr;subst hr;exact ZS h
 | _,_,_,_,.j_,_,_,k,_,_=>by cases ‹Nat›<;>cases k
 | _,_,_,_,.bl _,_,_,k,_,_=>by cases ‹Nat›<;>cases k
 | _,_,_,_,.fn _,_,_,k,_,_=>by cases ‹Nat›<;>cases k
 | _,_,_,_,.fl _,_,_,k,_,_=>by cases ‹Nat›<;>cases k
 | _,_,_,_,.fd,_,_,k,_,_=>by cases ‹Nat›<;>cases k
 | 0,_,_,_,.tup _,_,_,k,_,_=>by cases k
def cx(prog:Program)(w:World):HeapKind prog w (List Im) where
 is:=fun h ds a=>Im.keys 7 ds=true/\Ci h (.tup ds) (.ref a)
 hash:=fun ds=>JL w (.tup ds)
 draws:=fun ds=>JM (.tup ds)
 room:=fun A=>A.units+10<cLine
 inj:=fun hx hy=>by
  have:=mK 8 (x:=.tup _) (y:=.tup _) hx.1 hy.1 hx.2 hy.2;injection this
 keeps:=fun {h h' k a d o es ep} x ho hd hs=>⟨x.1,x.2.keep fun b u items n hb hc Ef=>by
  have Kt:b≠d:=by
   rintro rfl;rw[ho] at hb;cases hb;rw[hd] at Ef;cases Ef
  exact (hs.2 b Kt).trans hb⟩
 pyHash:=fun hu hk h=>mL 8 (d:=.tup _) hk.1 (show _ < _ by have:_+10<cLine:=hu;lia) hk.2 h
 eqBool:=fun {A E s x y a b Q} hu hx hy h=>by
  have q:=cw (s:=s) 8 (A:=A) (x:=.tup x) (y:=.tup y) (kb (n:=8) (d:=.tup x) hx.1) (kb (n:=8) (d:=.tup y) hy.1) (show _ < _ by have:A.units+10<cLine:=hu;lia) hx.2 hy.2;rw[mP (n:=8) (x:=.tup x) (y:=.tup y) hx.1 hy.1] at q;exact q _ _ E Q (by simpa using h)
 quiet:=fun hk h=>mR 8 (d:=.tup _) hk.1 hk.2 h
end
abbrev Key:=Sum Int Str
def fM:Key->Value->Bool
 | .inl k,v=>Value.isInt k v
 | .inr x,v=>Value.isStrOf x v
def sf(w:World):Key->Int
 | .inl k=>hashInt k
 | .inr x=>hashStr w x
theorem dO:∀ {k:Key}{v:Value},fM k v=true->(∃ i t,k=Sum.inl i/\v=Value.int i t)\/(∃ x t,k=Sum.inr x/\v=Value.str x t)
 | .inl i,v,h=>by
  obtain⟨t,e⟩:=Value.isInt_shape (k:=i) (v:=v) h;exact .inl ⟨i,t,rfl,e⟩
 | .inr x,v,h=>by
  obtain⟨t,e⟩:=Value.isStrOf_shape (x:=x) (v:=v) h;exact .inr ⟨x,t,rfl,e⟩
theorem si(i:Int)(t:Tok):fM (.inl i) (.int i t)=true:=by simp[fM,Value.isInt]
theorem sj(x:Str)(t:Tok):fM (.inr x) (.str x t)=true:=by simp[fM,Value.isStrOf]
theorem sk(a b:Int):decide ((Sum.inl a:Key)=Sum.inl b)=(a == b):=by
 by_cases e:a=b
 ·subst e;simp
 ·have h:¬ (Sum.inl a:Key)=Sum.inl b:=fun q=>e (Sum.inl.inj q);rw[Zs h];exact (Xa.mpr e).symm
theorem sr(a b:Str):decide ((Sum.inr a:Key)=Sum.inr b)=decide (a=b):=by
 by_cases e:a=b
 ·subst e;simp
 ·have h:¬ (Sum.inr a:Key)=Sum.inr b:=fun q=>e (Sum.inr.inj q);rw[Zs h,Zs e]
theorem su(a:Int)(b:Str):decide ((Sum.inl a:Key)=Sum.inr b)=false:=Zs (fun q=>nomatch q)
theorem sv(a:Str)(b:Int):decide ((Sum.inr a:Key)=Sum.inl b)=false:=Zs (fun q=>nomatch q)
def d6(prog:Program)(w:World):PySem.KeyKind prog w Key where
 is:=fM
 hash:=sf w
 inj:=fun v a b ha hb=>by
  rcases dO ha with ⟨i,t,rfl,rfl⟩ | ⟨x,t,rfl,rfl⟩
  ·rcases dO hb with ⟨j,u,rfl,e⟩ | ⟨y,u,rfl,e⟩
   ·injection e with e1 _;rw[e1]
   ·exact nomatch e
  ·rcases dO hb with ⟨j,u,rfl,e⟩ | ⟨y,u,rfl,e⟩
   ·exact nomatch e
   ·injection e with e1 _;rw[e1]
 byValue:=fun k v h=>by
  rcases dO h with ⟨i,t,rfl,rfl⟩ | ⟨x,t,rfl,rfl⟩<;>rfl
 pyHash:=fun hv h=>by
  rcases dO hv with ⟨i,t,rfl,rfl⟩ | ⟨x,t,rfl,rfl⟩
  ·exact wpAny_pyHash_int h
  ·exact wpAny_pyHash_str h
 eqBool:=fun hu hv h=>by
  rcases dO hu with ⟨i,t,rfl,rfl⟩ | ⟨x,t,rfl,rfl⟩
  ·rcases dO hv with ⟨j,u,rfl,rfl⟩ | ⟨y,u,rfl,rfl⟩
   ·rw[sk] at h;exact wpAny_eqBool_int h
   ·rw[su] at h;exact SeqAt.EqAt.int_str i t y u _ _ _ _ h
  ·rcases dO hv with ⟨j,u,rfl,rfl⟩ | ⟨y,u,rfl,rfl⟩
   ·rw[sv] at h;exact SeqAt.EqAt.str_int x t j u _ _ _ _ h
   ·rw[sr] at h;exact wpAny_eqBool_str h
 «strs»:=fun k x t v h=>by
  rcases dO h with ⟨i,u,rfl,e⟩ | ⟨y,u,rfl,e⟩
  ·exact nomatch e
  ·injection e with e1 _;subst e1;cases v<;>rfl
theorem sw(prog:Program)(w:World)(i:Int)(t:Tok):(d6 prog w).is (.inl i) (.int i t)=true:=si i t
theorem sx(prog:Program)(w:World)(x:Str)(t:Tok):(d6 prog w).is (.inr x) (.str x t)=true:=sj x t
inductive V where
 | j_ | bl (b:Bool) | int (i:Int) | str (x:Str) | Id (b:Array UInt8) | Ku (b:UInt64) | ref (a:Addr) | ty (n:String)
 deriving DecidableEq
variable{vs:List V}{v:V}
def av:V->Value->Prop
 | .j_,u=>u=Value.none
 | .bl b,u=>u=Value.bool b
 | .int i,u=>∃ t,u=Value.int i t
 | .str x,u=>∃ t,u=Value.str x t
 | .Id b,u=>∃ t,u=Value.bytes b t
 | .Ku b,u=>∃ t,u=Value.float b t
 | .ref a,u=>u=Value.ref a
 | .ty n,u=>u=Value.type n
abbrev ay:List V->List Value->Prop:=Paired av
theorem ay.length{xs:List V}{us:List Value}(r:ay xs us):xs.length=us.length:=Yq r
theorem ay.get:∀ {xs:List V}{us:List Value}{i:Nat}{x:V},ay xs us->xs[i]?=some x->∃ u,us[i]?=some u/\av x u
 | _,_,_,_,.nil,e=>by simp at e
 | _,_,0,_,.cons r _,e=>by simp at e;subst e;exact⟨_,rfl,r⟩
 | _,_,i+1,x,.cons _ t,e=>by
  obtain⟨u,h1,h2⟩:=ay.get (i:=i) (x:=x) t (by simpa using e);exact⟨u,by simpa using h1,h2⟩
theorem ay.set{x:V}{u:Value}(r:av x u):∀ {xs:List V}{us:List Value} (i:Nat),ay xs us->ay (xs.set i x) (us.set i u)
 | _,_,_,.nil=>.nil
 | _,_,0,.cons _ t=>.cons r t
 | _,_,i+1,.cons q t=>.cons q (ay.set r i t)
theorem ay.append:∀ {xs ys:List V}{us ws:List Value},ay xs us->ay ys ws->ay (xs++ys) (us++ws)
 | _,_,_,_,.nil,s=>s
 | _,_,_,_,.cons r t,s=>.cons r (ay.append t s)
def du:Option V->Option Value->Prop
 | some v,some u=>av v u
 | none,none=>True
 | _,_=>False
def KV{κ:Type}:List (κ×V)->List (κ×Value)->Prop:=Paired fun (p:κ×V) (q:κ×Value)=>p.1=q.1/\av p.2 q.2
def kV:Key->V
 | .inl i=>.int i
 | .inr x=>.str x
inductive HO where
 | lst (xs:List V)
 | tup (xs:List V)
 | dK (kvs:List (Key×V)) | dT (kvs:List (List Im×V))
 | set (S:Int->Bool) (n:Nat)
 | ins (C dx:Addr) (fs:List (Str×V))
 | own (x:Addr)
 | xd (fs:List (Str×V))
 | met (f x:Addr)
 | JN (lo hi:Int)
 | Cg (o:Obj) (u:HO)
 | Gu (ps:Array Value)
 | ext (φ:Heap->Prop)
variable{o:HO}
abbrev Hp:=Addr->Option HO
variable{H' H:Hp}
def upd(H:Hp)(a:Addr)(o:HO):Hp:=fun b=>if b=a then some o else H b
theorem bo:upd H a o a=some o:=by unfold upd;rw[Z0 rfl]
theorem aE(h:b≠a):upd H a o b=H b:=by unfold upd;rw[ZX h]
theorem mS{u:HO}(h:H a=some o)(h':H b=some u)(d:o≠u):a≠b:=by
 intro e;subst e;rw[h] at h';exact d (Zw h')
theorem bU(h:H a=some o)(h':H b=none):a≠b:=by
 intro e;subst e;rw[h] at h';cases h'
mutual
def BI(H:Hp):Im->V->Prop
 | .j_,v=>v=.j_
 | .bl b,v=>v=.bl b
 | .int i,v=>v=.int i
 | .str x,v=>v=.str x
 | .fn a,v=>v=.ref a
 | .fl ds,v=>∃ a xs o,v=.ref a/\H a=some (.Cg o<|.lst xs)/\am H ds xs
 | .fd,v=>∃ a o,v=.ref a/\H a=some (.Cg o<|.dT [])
 | .tup ds,v=>∃ a xs,v=.ref a/\H a=some (.tup xs)/\am H ds xs
def am(H:Hp):List Im->List V->Prop
 | [],vs=>vs=[]
 | d::ds,vs=>∃ v r,vs=v::r/\BI H d v/\am H ds r
end
def gG(H H':Hp):Prop:=∀ a xs,H a=some (.tup xs)->H' a=some (.tup xs)
structure EM(H H':Hp):Prop where
 t:gG H H'
 z:∀ a o u,H a=some (.Cg o u)->H' a=some (.Cg o u)
instance {H H':Hp}:CoeFun (EM H H') (fun _=>∀ a xs,H a=some (.tup xs)->H' a=some (.tup xs)):=⟨fun t=>t.t⟩
mutual
theorem BI.mono{H H':Hp}(k:EM H H'):∀ {d:Im}{v:V},BI H d v->BI H' d v
 | .j_,_,e=>e
 | .bl _,_,e=>e
 | .int _,_,e=>e
 | .str _,_,e=>e
 | .fn _,_,e=>e
 | .tup ds,_,e=>by
  obtain⟨a,xs,rfl,h1,h2⟩:=e;exact⟨a,xs,rfl,k.t a xs h1,am.mono k h2⟩
 | .fl ds,_,e=>by
  obtain⟨a,xs,o,rfl,h1,h2⟩:=e;exact⟨a,xs,o,rfl,k.z a _ _ h1,am.mono k h2⟩
 | .fd,_,e=>by
  obtain⟨a,o,rfl,h1⟩:=e;exact⟨a,o,rfl,k.z a _ _ h1⟩
theorem am.mono{H H':Hp}(k:EM H H'):∀ {ds:List Im}{vs:List V},am H ds vs->am H' ds vs
 | [],_,e=>e
 | d::ds,_,e=>by
  obtain⟨v,r,rfl,h1,h2⟩:=e;exact⟨v,r,rfl,BI.mono k h1,am.mono k h2⟩
end
def El(H:Hp)(k:List Im)(b:Addr):Prop:=Im.keys 7 k=true/\BI H (.tup k) (.ref b)
mutual
theorem BI.DX{H H':Hp}(k:gG H H'):∀ {d:Im}{n:Nat}{v:V},Im.key n d=true->BI H d v->BI H' d v
 | .j_,_,_,_,e=>e
 | .bl _,_,_,_,e=>e
 | .int _,_,_,_,e=>e
 | .str _,_,_,_,e=>e
 | .fn _,_,_,_,e=>e
 | .tup ds,n+1,_,q,e=>by
  obtain⟨a,xs,rfl,h1,h2⟩:=e;exact⟨a,xs,rfl,k a xs h1,am.DX k q h2⟩
 | .tup ds,0,_,q,e=>nomatch q
 | .fl ds,0,_,q,e=>nomatch q
 | .fl ds,n+1,_,q,e=>nomatch q
 | .fd,0,_,q,e=>nomatch q
 | .fd,n+1,_,q,e=>nomatch q
theorem am.DX{H H':Hp}(k:gG H H'):∀ {ds:List Im}{n:Nat}{vs:List V},Im.keys n ds=true->am H ds vs->am H' ds vs
 | [],_,_,_,e=>e
 | d::ds,n,_,q,e=>by
  obtain⟨v,r,rfl,h1,h2⟩:=e;rw[Im.keys,ZV] at q;exact⟨v,r,rfl,BI.DX k q.1 h1,am.DX k q.2 h2⟩
end
theorem El.mono{k:List Im}(h:El H k b)(t:gG H H'):El H' k b:=by
 obtain⟨h0,a,xs,e,h1,h2⟩:=h;exact⟨h0,a,xs,e,t a xs h1,h2.DX t h0⟩
section
variable(P:Program)(w:World)
def bj(H:Hp)(h:Heap)(a:Addr):HO->Prop
 | .lst xs=>xs.length<=sizeLine/\∃ (f':List Value) (n:Nat),ay xs f'/\h.get? a=some { cls:=.type "list",data:=.seq f'.toArray n }
 | .tup xs=>xs.length<=sizeLine/\∃ f':List Value,ay xs f'/\IsTup h a f'.toArray
 | .dK kvs=>kvs.length<=sizeLine/\(a == sysModules)=false/\∃ vs,KV kvs vs/\h.DictOf (d6 P w) a vs
 | .dT kvs=>kvs.length<=sizeLine/\(a == sysModules)=false/\∃ xs:List (List Im×Addr×Value),
   Paired (fun (p:List Im×V) (q:List Im×Addr×Value)=>p.1=q.1/\El H p.1 q.2.1/\av p.2 q.2.2) kvs xs/\
   ∃ o es ep,h.get? a=some o/\o.ExactDict/\o.data=.dict es ep/\es.toList=xs.map (entryOfKey<|cx P w)/\(xs.map (·.1)).Nodup
 | .set S n=>h.SetOf (intKind P w) a S n
 | .ins C dx fs=>H dx=some (.own a)/\fs.length<=1000/\dx≠a/\h.get? a=some (PySem.W.instObj C dx)/\
   ∃ mA,h.Ns1 dx mA/\(∀ f,du (fs.lookup f)<|mA f)/\PySem.Within mA (fs.map (·.1))
 | .own _=>∃ o,h.get? a=some o
 | .xd fs=>∃ mA,h.Ns1 a mA/\∀ f,du (fs.lookup f) (mA f)
 | .JN lo hi=>∃ t u v,h.get? a=some { cls:=.type "range",data:=.fields #[.int lo t,.int hi u,.int 1 v] }
 | .Cg o u=>h.get? a=some o/\bj H h a u
 | .Gu ps=>h.get? a=some { cls:=.none,data:=.fields ps }
 | .met f x=>h.get? a=some (PySem.W.methodObj (.ref f)<|.ref x)
 | .ext φ=>φ h/\(∃ o,h.get? a=some o)/\∀ h1 h2:Heap,φ h1->(∀ o,h1.get? a=some o->h2.get? a=some o)->φ h2
def BX(H:Hp)(h:Heap):Prop:=∀ a o,H a=some o->bj P w H h a o
end
section
variable{P:Program}{w:World}{H H':Hp}{h h':Heap}{a:Addr}{o:HO}
theorem bj.lt(x:bj P w H h a o):a<h.objs.size:=by
 cases o with
 | lst xs=>obtain⟨_,_,_,_,e⟩:=x;exact ZP e
 | tup xs=>obtain⟨_,_,_,p⟩:=x;exact p.lt
 | dK kvs=>obtain⟨_,_,_,_,o,_,_,e,_⟩:=x;exact ZP e
 | dT kvs=>obtain⟨_,_,_,_,o,_,_,e,_⟩:=x;exact ZP e
 | set S n=>obtain⟨o,_,_,_,e,_⟩:=x;exact ZP e
 | ins C dx fs=>obtain⟨_,_,_,e,_⟩:=x;exact ZP e
 | own y=>obtain⟨_,e⟩:=x;exact ZP e
 | xd fs=>obtain⟨_,⟨_,_,_,e,_⟩,_⟩:=x;exact ZP e
 | JN lo hi=>obtain⟨_,_,_,e⟩:=x;exact ZP e
 | Cg ob u=>obtain⟨e,_⟩:=x;exact ZP e
 | Gu ps=>exact ZP (show h.get? a=some _ from x)
 | met f y=>exact ZP (show h.get? a=some _ from x)
 | ext φ=>obtain⟨_,⟨_,e⟩,_⟩:=x;exact ZP e
theorem Paired.FX{α β:Type}{F G:α->β->Prop}:∀ {l₁:List α}{l₂:List β},Paired F l₁ l₂->(∀ a b,F a b->G a b)->Paired G l₁ l₂
 | _,_,.nil,_=>.nil
 | _,_,.cons r t,f=>.cons (f _ _ r) (Paired.FX t f)
theorem bj.Cs(x:bj P w H h a o)(k:∀ b u,(b=a\/H b=some (.own a))->h.get? b=some u->h'.get? b=some u)(ho:∀ b,H b=some (.own a)->H' b=some (.own a))(ht:∀ b xs,H b=some (.tup xs)->H' b=some (.tup xs)):bj P w H' h' a o:=by
 induction o with
 | lst xs=>obtain⟨z,f',n,r,e⟩:=x;exact⟨z,f',n,r,k _ _ (.inl rfl) e⟩
 | tup xs=>obtain⟨z,f',r,ob,e,c⟩:=x;exact⟨z,f',r,ob,k _ _ (.inl rfl) e,c⟩
 | dK kvs=>obtain⟨z,y,vs,r,ob,es,ep,e,c⟩:=x;exact⟨z,y,vs,r,ob,es,ep,k _ _ (.inl rfl) e,c⟩
 | dT kvs=>
  obtain⟨z,y,xs,r,ob,es,ep,e,c⟩:=x;exact⟨z,y,xs,Paired.FX r fun p q z=>⟨z.1,z.2.1.mono ht,z.2.2⟩,ob,es,ep,k _ _ (.inl rfl) e,c⟩
 | set S n=>obtain⟨ob,es,ep,t,e,c⟩:=x;exact⟨ob,es,ep,t,k _ _ (.inl rfl) e,c⟩
 | ins C dx fs=>
  obtain⟨d,z,ne,e,mA,⟨od,es,ep,e2,c⟩,r⟩:=x;exact⟨ho _ d,z,ne,k _ _ (.inl rfl) e,mA,⟨od,es,ep,k _ _ (.inr d) e2,c⟩,r⟩
 | own y=>obtain⟨ob,e⟩:=x;exact⟨ob,k _ _ (.inl rfl) e⟩
 | xd fs=>obtain⟨mA,⟨od,es,ep,e,c⟩,r⟩:=x;exact⟨mA,⟨od,es,ep,k _ _ (.inl rfl) e,c⟩,r⟩
 | JN lo hi=>obtain⟨t,u,v,e⟩:=x;exact⟨t,u,v,k _ _ (.inl rfl) e⟩
 | Cg ob u ih=>obtain⟨e,q⟩:=x;exact⟨k _ _ (.inl rfl) e,ih q⟩
 | Gu ps=>
  have e:h.get? a=some { cls:=.none,data:=.fields ps }:=x;show h'.get? a=some { cls:=.none,data:=.fields ps };exact k a _ (.inl rfl) e
 | met f y=>
  have e:h.get? a=some (PySem.W.methodObj (.ref f)<|.ref y):=x;show h'.get? a=some (PySem.W.methodObj (.ref f)<|.ref y);exact k a _ (.inl rfl) e
 | ext φ=>obtain⟨p,⟨o,e⟩,st⟩:=x;exact⟨st _ _ p fun o q=>k _ _ (.inl rfl) q,⟨o,k _ _ (.inl rfl) e⟩,st⟩
theorem BX.lt(x:BX P w H h)(e:H a=some o):a<h.objs.size:=(x a o e).lt
theorem BX.fresh(x:BX P w H h)(e:h.objs.size<=a):H a=none:=by
 cases q:H a with
 | none=>rfl
 | some u=>exact absurd (Zz (x.lt q) e) (YB _)
theorem BX.kept(x:BX P w H h)(k:∀ b u,h.get? b=some u->h'.get? b=some u):BX P w H h':=fun a o e=>
 (x a o e).Cs (fun b u _ q=>k b u q) (fun _ q=>q) fun _ _ q=>q
theorem BX.laid(x:BX P w H h)(k:∀ b u,h.get? b=some u->h'.get? b=some u)(hp:h.objs.size<=a)(new:bj P w (upd H a o) h' a o):BX P w (upd H a o) h':=fun b u e=>by
 have hn:=x.fresh hp;by_cases hb:b=a
 ·subst hb;rw[bo] at e;cases e;exact new
 ·rw[aE hb] at e;exact (x b u e).Cs (fun c v _ q=>k c v q) (fun c q=>by rw[aE (bU q hn)];exact q) fun c xs q=>by rw[aE (bU q hn)];exact q
end
def Rd(H:Hp)(a:Addr)(u:HO):Prop:=H a=some u\/∃ o,H a=some (.Cg o u)
theorem Rd.ok{u:HO}(r:Rd H a u)(x:BX P w H h):bj P w H h a u:=by
 rcases r with r | ⟨o,r⟩
 ·exact x a u r
 ·obtain⟨_,q⟩:=x a _ r;exact q
def Ie:Option HO->Prop
 | some (.lst _)=>True
 | some (.dK _)=>True
 | some (.dT _)=>True
 | some (.set _ _)=>True
 | some (.ins _ _ _)=>True
 | some (.ext _)=>True
 | _=>False
section
variable{P:Program}{w:World}{H:Hp}{h h':Heap}{x e:Addr}{o':HO}
theorem BX.write(ok:BX P w H h)(mu:Ie (H x))(he:e=x\/H e=some (.own x))(k:∀ b u,b≠e->h.get? b=some u->h'.get? b=some u)(HS:∃ u,h'.get? e=some u)(new:bj P w (upd H x o') h' x o'):BX P w (upd H x o') h':=fun b u q=>by
 have Ig:∀ c y,H c=some (.own y)->c≠x:=fun c y r z=>by subst z;rw[r] at mu;exact mu
 have Kv:∀ c xs,H c=some (.tup xs)->c≠x:=fun c xs r z=>by subst z;rw[r] at mu;exact mu
 by_cases hb:b=x
 ·subst hb;rw[bo] at q;cases q;exact new
 ·rw[aE hb] at q;by_cases G0:b=e
  ·have q':H b=some (.own x):=by
    rcases he with z | z
    ·exact absurd (G0.trans z) hb
    ·rw[G0];exact z
   rw[q] at q';cases q';obtain⟨v,hv⟩:=HS;exact⟨v,by rw[G0];exact hv⟩
  ·refine (ok b u q).Cs (fun c v hc r=>k c v ?_ r) (fun c r=>by rw[aE (Ig c b r)];exact r) fun c xs r=>by rw[aE (Kv c xs r)];exact r
   rcases hc with rfl | hc
   ·exact G0
   ·rintro rfl;rcases he with z | z
    ·exact Ig c b hc z
    ·rw[hc] at z;cases z;exact hb rfl
end
structure Un(fs ex:List Addr)(H H':Hp)(h h':Heap):Prop where
 keep:∀ b o,h.get? b=some o->H b=none->b∉fs->b∉ex->h'.get? b=some o
 slot:∀ b o,h.get? b=some o->H b=none->b∈fs->b∉ex->∃ sl,h'.get? b=some { o with slots:=sl }
 free:∀ b o,h.get? b=some o->H b=none->b∉ex->H' b=none
 there:∀ b o,h.get? b=some o->b∉ex->∃ o',h'.get? b=some o'
 Cj:∀ b xs,H b=some (.tup xs)->H' b=some (.tup xs)
 Ch:∀ b o u,H b=some (.Cg o u)->H' b=some (.Cg o u)
 Ct:∀ b ps,H b=some (.Gu ps)->∃ more,H' b=some (.Gu<|ps++more)
section
variable{fs Kw ex Mk:List Addr}{H H1 H2:Hp}{h h1 h2 h':Heap}{a x e:Addr}{o:HO}
theorem Un.any(u:Un fs ex H H1 h h1){b:Addr}{ob:Obj}(q:h.get? b=some ob)(n:H b=none)(hx:b∉ex):∃ sl,h1.get? b=some { ob with slots:=sl }:=by
 by_cases hb:b∈fs
 ·exact u.slot b ob q n hb hx
 ·exact⟨ob.slots,u.keep b ob q n hb hx⟩
theorem Un.kept(k:∀ b u,h.get? b=some u->h'.get? b=some u):Un fs ex H H h h':=
 ⟨fun b ob q _ _ _=>k b ob q,fun b ob q _ _ _=>⟨ob.slots,k b ob q⟩,fun _ _ _ n _=>n,fun b ob q _=>⟨ob,k b ob q⟩,fun _ _ q=>q,fun _ _ _ q=>q,fun _ ps q=>⟨#[],by rw[q];simp⟩⟩
theorem Un.refl:Un fs ex H H h h:=Un.kept fun _ _ q=>q
theorem Un.laid(k:∀ b u,h.get? b=some u->h'.get? b=some u)(hp:h.objs.size<=a)(hn:H a=none):Un fs ex H (upd H a o) h h' where
 keep:=fun b u q _ _ _=>k b u q
 slot:=fun b u q _ _ _=>⟨u.slots,k b u q⟩
 free:=fun b u q n _=>by rw[aE (Zx<|Zz (ZP q) hp)];exact n
 there:=fun b u q _=>⟨u,k b u q⟩
 Cj:=fun b xs q=>by rw[aE (bU q hn)];exact q
 Ch:=fun b u xs q=>by rw[aE (bU q hn)];exact q
 Ct:=fun b ps q=>⟨#[],by rw[aE (bU q hn),q];simp⟩
theorem Un.write(mu:Ie (H x))(he:e=x\/H e=some (.own x))(k:∀ b u,b≠e->h.get? b=some u->h'.get? b=some u)(HS:∃ u,h'.get? e=some u):Un fs ex H (upd H x o) h h':=by
 have hx:∀ b,H b=none->b≠x:=fun b n z=>by subst z;rw[n] at mu;exact mu
 have hb:∀ b,H b=none->b≠e:=fun b n z=>by
  subst z;rcases he with r | r
  ·exact hx b n r
  ·rw[n] at r;cases r
 have hm:∀ b u,H b=some u->¬ Ie (some u)->b≠x:=fun b u q nm z=>by subst z;rw[q] at mu;exact nm mu
 refine⟨fun b u q n _ _=>k b u (hb b n) q,fun b u q n _ _=>⟨u.slots,k b u (hb b n) q⟩,fun b u q n _=>by rw[aE (hx b n)];exact n,fun b u q _=>?_,
  fun b xs q=>by rw[aE (hm b _ q fun z=>z)];exact q,fun b u xs q=>by rw[aE (hm b _ q fun z=>z)];exact q,fun b ps q=>⟨#[],by rw[aE (hm b _ q fun z=>z),q];simp⟩⟩;by_cases G0:b=e
 ·subst G0;exact HS
 ·exact⟨u,k b u G0 q⟩
theorem Un.mono(u:Un fs ex H H1 h h1)(hs:∀ b∈fs,b∈Kw)(hx:∀ b∈ex,b∈Mk):Un Kw Mk H H1 h h1:=
 ⟨fun b ob q n hb he=>u.keep b ob q n (fun z=>hb<|hs b z) fun z=>he<|hx b z,fun _ _ q n _ he=>u.any q n fun z=>he<|hx _ z,fun b ob q n he=>u.free b ob q n fun z=>he<|hx b z,fun b ob q he=>u.there b ob q fun z=>he<|hx b z,u.Cj,u.Ch,u.Ct⟩
end
def JO(h:Heap)(H:Hp):List Addr:=(range h.objs.size).filter fun a=>(H a).isSome
def dP(h:Heap)(H:Hp):Heap:=PySem.W.hideAll h (JO h H)
theorem sy(h:Heap)(H:Hp):(dP h H).objs.size=h.objs.size:=PySem.W.hideAll_size _ _
theorem sE{o:Obj}(e:h.get? b=some o)(n:H b=none):(dP h H).get? b=some o:=
 Yn _ e fun hm=>by
  have q:(H b).isSome=true:=(YS.mp hm).2;rw[n] at q;simp at q
theorem sF{o:Obj}(e:(dP h H).get? b=some o):h.get? b=some o/\H b=none:=by
 have e':h.get? b=some o:=XW (JO h H) e;refine⟨e',?_⟩;cases q:H b with
 | none=>rfl
 | some x=>
  have hm:b∈JO h H:=YS.mpr ⟨Zp.mpr<|ZP e',by simp[q]⟩;have z:(dP h H).get? b=none:=YN (JO h H) hm;rw[z] at e;cases e
def sG(g h:Heap)(L:Addr):List (Addr×Obj):=(range h.objs.size).filterMap fun a=>if a=L\/(g.get? a).isSome=true then none else (h.get? a).map fun o=>(a,o)
def rest(g h:Heap)(L d:Addr):List (Addr×Obj):=(sG g h L).filter fun p=>decide (p.1≠d)
structure Mod(K:PySem.W.Frag)(mg:Str->Option Value)(base:Heap):Prop where
 G7:K.In base
 glob:base.Ns mainGlobals mg
 blt:∃ mb,base.Ns builtinsNs mb/\∀ x:Str,x ≠ "__name__" -> mb x=bootBuiltins x
 nolimit:base.NoLimit
structure Cx where
 prog:Program
 w:World
 K:PySem.W.Frag
 mg:Str->Option Value
 base:Heap
 A:Around
 N:List Str
 s₀:Shared
 H₀:Hp
 env:Env
 outer:List Env
 stack:List Env
 ex:List Addr
 fn:Str->Bool
 calm:Bool
 pn:List (Addr×Obj)
 xe:Value->Shared->Prop
variable{X:Cx}
def BS(l:List Env):List Addr:=l.filterMap (·.frame)
abbrev Cx.fs(X:Cx):List Addr:=BS X.outer
def JP(sc:Scope)(x:Str):Prop:=sc.names.lookup x=some .local\/sc.names.lookup x=some .cell\/sc.names.lookup x=some .free
def Loc(sc:Scope)(x:Str):Prop:=sc.names.lookup x=some .local\/sc.names.lookup x=some .cell
def sH(env:Env)(h:Heap)(m:Str->Option Value)(x:Str)(u:Value):Prop:=
 (env.kindOf x=some .local/\m x=some u)\/((env.kindOf x=some .cell\/env.kindOf x=some .free)/\∃ c,env.cells.lookup x=some c/\h.IsCell c (some u))
structure Cx.Ok(X:Cx):Prop where
 mod:Mod X.K X.mg X.base
 kind:X.env.scope.kind=.function
 glob:X.env.globals=mainGlobals
 blt:X.env.builtins=builtinsNs
 above:X.s₀.heap.objs.size<=X.env.locals
 inj:∀ x y c,X.env.cells.lookup x=some c->X.env.cells.lookup y=some c->x=y
 has:∀ x,(X.env.kindOf x=some .cell\/X.env.kindOf x=some .free)->∃ c,X.env.cells.lookup x=some c
 E_:∀ x c,X.fn x=true->X.env.cells.lookup x=some c->X.s₀.heap.objs.size<=c
 hd:X.calm=true->X.A.handled=none
 frames:X.A.frames=some X.stack
 Fa:X.stack=X.outer\/(X.stack=X.env::X.outer/\X.env.frame=some X.env.locals)
 Gv:∀ b∈X.ex,b≠X.env.locals/\∀ x c,X.env.cells.lookup x=some c->c≠b
 bs:∀ b o,X.base.get? b=some o->X.s₀.heap.get? b=some o/\X.H₀ b=none
 Em:X.base.objs.size<=X.s₀.heap.objs.size
 Da:∀ b o,X.base.get? b=some o->b∉X.ex
 Db:∀ b∈X.ex,b∉X.fs
 BQ:X.s₀.heap.FunFrames X.base X.outer
 EN:∀ b∈X.fs,X.H₀ b=none
structure Inv(X:Cx)(pins:List (Addr×Obj))(σ:List (Option V))(H:Hp)(s:Shared):Prop where
 ok:X.Ok
 os:s.os=X.s₀.os
 bare:AllBare s.gens
 base:Un X.fs X.ex X.H₀ H X.s₀.heap s.heap
 loc:∃ m,s.heap.Ns X.env.locals m/\∀ (i:Nat) (x:Str) (v:V),X.N[i]?=some x->σ[i]?=some (some v)->JP X.env.scope x->∃ u,av v u/\sH X.env s.heap m x u
 cell:∀ x c,X.env.cells.lookup x=some c->∃ v,s.heap.IsCell c v
 free:H X.env.locals=none
 BC:∀ x c,X.env.cells.lookup x=some c->H c=none
 pin:∀ p∈X.pn++pins,s.heap.get? p.1=some p.2/\H p.1=none/\p.1≠X.env.locals/\p.1∉X.fs/\∀ v,p.2.data≠.cell v
 l_:BX X.prog X.w H s.heap
 len:σ.length=X.N.length
section
variable{X:Cx}{pins:List (Addr×Obj)}{σ:List (Option V)}{H H':Hp}{s:Shared}{h':Heap}
theorem Cx.Ok.Kx(ok:X.Ok){b:Addr}{o:Obj}(e:X.base.get? b=some o):b∉X.fs:=fun hb=>by
 have:=(ok.BQ.mem hb).1;rw[e] at this;cases this
theorem Inv.bs(I:Inv X pins σ H s):∀ b o,X.base.get? b=some o->s.heap.get? b=some o/\H b=none:=fun b o e=>
 ⟨I.base.keep b o (I.ok.bs b o e).1 (I.ok.bs b o e).2 (I.ok.Kx e) (I.ok.Da b o e),I.base.free b o (I.ok.bs b o e).1 (I.ok.bs b o e).2 (I.ok.Da b o e)⟩
theorem Inv.bk(I:Inv X pins σ H s):∀ b o,X.base.get? b=some o->s.heap.get? b=some o:=fun b o e=>(I.bs b o e).1
theorem Inv.mod(I:Inv X pins σ H s):Mod X.K X.mg X.base:=I.ok.mod
theorem Inv.EO(I:Inv X pins σ H s):X.K.In s.heap:=I.ok.mod.G7.keeps I.bk
theorem Inv.lt(I:Inv X pins σ H s):X.env.locals<s.heap.objs.size:=let ⟨_,hn,_⟩:=I.loc;hn.lt
theorem Inv.sz(I:Inv X pins σ H s):X.s₀.heap.objs.size<=s.heap.objs.size:=Zo I.ok.above (WB I.lt)
theorem Inv.Ky(I:Inv X pins σ H s){a:Addr}(h:s.heap.objs.size<=a):a∉X.fs:=fun hb=>by
 obtain⟨_,o,ho,_⟩:=I.ok.BQ.mem hb;exact absurd (Zz (ZP ho)<|Zo I.sz h) (YB _)
theorem Inv.FY(I:Inv X pins σ H s):∀ x c,X.env.cells.lookup x=some c->c≠X.env.locals:=fun x c e z=>by
 obtain⟨v,o,ho,hd⟩:=I.cell x c e;obtain⟨m,⟨o',es,ep,EQ,Ef,_⟩,_⟩:=I.loc;rw[z,EQ] at ho;cases ho;rw[Ef] at hd;cases hd
theorem Inv.BQ(I:Inv X pins σ H s):s.heap.FunFrames X.base X.outer:=by
 have all:∀ (l:List Env),(∀ b∈BS l,b∈X.fs)->X.s₀.heap.FunFrames X.base l->s.heap.FunFrames X.base l:=by
  intro l;induction l with
  | nil=>intro _ _;trivial
  | cons env r ih=>
   intro hs hl;obtain⟨hk,⟨L,o,hf,hn,ho,hd⟩,hr⟩:=hl;have hL:L∈X.fs:=hs L (by unfold BS;rw[YD,hf];exact Y8);obtain⟨sl,e⟩:=I.base.slot L o ho (I.ok.EN L hL) hL fun z=>I.ok.Db L z hL;exact⟨hk,⟨L,_,hf,hn,e,hd⟩,ih (fun b hb=>hs b (by unfold BS;rw[YD,hf];exact Zi _ hb)) hr⟩
 exact all X.outer (fun _ hb=>hb) I.ok.BQ
theorem Inv.stack(I:Inv X pins σ H s):s.heap.FunFrames X.base X.stack:=by
 rcases I.ok.Fa with e | ⟨e,hf⟩
 ·rw[e];exact I.BQ
 ·rw[e];obtain⟨m,hn,_⟩:=I.loc;refine .cons (by rw[I.ok.kind];decide) hf hn ?_ I.BQ;exact Xk (Zo I.ok.Em I.ok.above)
theorem Inv.En(I:Inv X pins σ H s):∀ b∈BS X.stack,b∈X.env.locals::X.fs:=fun b hb=>by
 rcases I.ok.Fa with e | ⟨e,hf⟩
 ·rw[e] at hb;exact Zi _ hb
 ·rw[e] at hb;unfold BS at hb;rw[YD,hf] at hb;exact hb
theorem Inv.Cu(I:Inv X pins σ H s):∀ b∈BS X.stack,H b=none:=fun b hb=>by
 rcases ZO.mp (I.En b hb) with e | hb
 ·rw[e];exact I.free
 ·obtain⟨_,o,ho,_⟩:=I.ok.BQ.mem hb;exact I.base.free b o ho (I.ok.EN b hb) fun z=>I.ok.Db b z hb
theorem Inv.step(I:Inv X pins σ H s)(CV:∀ b∈ch,(b∈X.ex\/X.s₀.heap.objs.size<=b)/\b≠X.env.locals/\(∀ x c,X.env.cells.lookup x=some c->c≠b)/\∀ p∈X.pn++pins,p.1≠b)(keep:∀ b o,b≠X.env.locals->b∉X.fs->b∉ch->s.heap.get? b=some o->H b=none->h'.get? b=some o)(slot:∀ b o,b≠X.env.locals->b∈X.fs->b∉ch->s.heap.get? b=some o->H b=none->∃ sl,h'.get? b=some { o with slots:=sl })(free:∀ b o,b∉ch->s.heap.get? b=some o->H b=none->H' b=none)(there:∀ b o,b∉ch->s.heap.get? b=some o->∃ o',h'.get? b=some o')(Cj:∀ b xs,H b=some (.tup xs)->H' b=some (.tup xs))(Ch:∀ b o u,H b=some (.Cg o u)->H' b=some (.Cg o u))(Ct:∀ b ps,H b=some (.Gu ps)->∃ more,H' b=some (.Gu<|ps++more))(ns:∀ m,s.heap.Ns X.env.locals m->h'.Ns X.env.locals m)(l_:BX X.prog X.w H' h')(hg:AllBare g'):
  Inv X pins σ H' { s with heap:=h',gens:=g',drawn:=d',toks:=t' }:=by
 have Ml:∀ b o,X.s₀.heap.get? b=some o->b≠X.env.locals:=fun b o e=>Zx (Zz (ZP e) I.ok.above);have JQ:∀ b o,X.s₀.heap.get? b=some o->b∉X.ex->b∉ch:=fun b o e hx hb=>by
  rcases (CV b hb).1 with z | z
  ·exact hx z
  ·exact absurd (Zz (ZP e) z) (YB _)
 have cellK:∀ x c,X.env.cells.lookup x=some c->∀ v,s.heap.IsCell c v->h'.IsCell c v:=fun x c e v ⟨o,ho,hd⟩=>by
  have Ih:c∉ch:=fun z=>(CV c z).2.2.1 x c e rfl;by_cases hc:c∈X.fs
  ·obtain⟨sl,q⟩:=slot c o (I.FY x c e) hc Ih ho (I.BC x c e);exact⟨_,q,hd⟩
  ·exact⟨o,keep c o (I.FY x c e) hc Ih ho<|I.BC x c e,hd⟩
 refine⟨I.ok,I.os,hg,⟨fun b o e n hb hx=>?_,fun b o e n hb hx=>?_,fun b o e n hx=>?_,fun b o e hx=>?_,fun b xs e=>Cj b xs<|I.base.Cj b xs e,fun b o xs e=>Ch b o xs<|I.base.Ch b o xs e,fun b ps e=>?_⟩,?_,fun x c e=>?_,?_,fun x c e=>?_,fun p hp=>?_,l_,I.len⟩
 ·exact keep b o (Ml b o e) hb (JQ b o e hx) (I.base.keep b o e n hb hx) (I.base.free b o e n hx)
 ·obtain⟨sl,e1⟩:=I.base.slot b o e n hb hx;obtain⟨Ii,e2⟩:=slot b _ (Ml b o e) hb (JQ b o e hx) e1 (I.base.free b o e n hx);exact⟨Ii,e2⟩
 ·obtain⟨o',e1⟩:=I.base.there b o e hx;exact free b o' (JQ b o e hx) e1 (I.base.free b o e n hx)
 ·obtain⟨o',e1⟩:=I.base.there b o e hx;exact there b o' (JQ b o e hx) e1
 ·obtain⟨m1,e1⟩:=I.base.Ct b ps e;obtain⟨m2,e2⟩:=Ct b _ e1;exact⟨m1++m2,by rw[e2,Array.append_assoc]⟩
 ·obtain⟨m,hn,hl⟩:=I.loc;refine⟨m,ns m hn,fun i x v e1 e2 e3=>?_⟩;obtain⟨u,r,l⟩:=hl i x v e1 e2 e3;refine⟨u,r,?_⟩;rcases l with l | ⟨k,c,e,z⟩
  ·exact .inl l
  ·exact .inr ⟨k,c,e,cellK x c e _ z⟩
 ·obtain⟨v,z⟩:=I.cell x c e;exact⟨v,cellK x c e v z⟩
 ·obtain⟨m,⟨o,_,_,ho,_⟩,_⟩:=I.loc;exact free _ o (fun z=>(CV _ z).2.1 rfl) ho I.free
 ·obtain⟨v,o,ho,hd⟩:=I.cell x c e;exact free c o (fun z=>(CV c z).2.2.1 x c e rfl) ho (I.BC x c e)
 ·obtain⟨e,n,ne,nf,d⟩:=I.pin p hp;have Ih:p.1∉ch:=fun z=>(CV p.1 z).2.2.2 p hp rfl;exact⟨keep p.1 p.2 ne nf Ih e n,free p.1 p.2 Ih e n,ne,nf,d⟩
theorem Inv.un(I:Inv X pins σ H s)(u:Un X.fs [] H H' s.heap h')(l_:BX X.prog X.w H' h'):Inv X pins σ H' { s with heap:=h',toks:=t' }:=by
 obtain⟨m,⟨o,es,ep,ho,r⟩,_⟩:=id I.loc;obtain⟨sl,hL⟩:=u.any ho I.free (by simp);exact I.step (g':=s.gens) (d':=s.drawn) (ch:=[]) (fun _ z=>nomatch z) (fun b o _ hb _ e n=>u.keep b o e n hb (by simp)) (fun b o _ hb _ e n=>u.slot b o e n hb (by simp)) (fun b o _ e n=>u.free b o e n (by simp)) (fun b o _ e=>u.there b o e (by simp)) u.Cj u.Ch u.Ct (fun m' hm=>by
  obtain⟨o',Kz,KA,EQ,r'⟩:=hm;rw[ho] at EQ;cases EQ;exact⟨_,Kz,KA,hL,r'⟩) l_ I.bare
theorem Inv.call(I:Inv X pins σ H s)(u:Un (BS X.stack) ch H H' s.heap h')(l_:BX X.prog X.w H' h')(hg:AllBare g')(CV:∀ b∈ch,(b∈X.ex\/X.s₀.heap.objs.size<=b)/\b≠X.env.locals/\(∀ x c,X.env.cells.lookup x=some c->c≠b)/\∀ p∈X.pn++pins,p.1≠b):
  Inv X pins σ H' { s with heap:=h',gens:=g',drawn:=d',toks:=t' }:=by
 obtain⟨m,⟨o,es,ep,ho,r⟩,_⟩:=id I.loc;obtain⟨sl,hL⟩:=u.any ho I.free fun z=>(CV _ z).2.1 rfl;exact I.step (ch:=ch) CV (fun b o hL hb hc e n=>u.keep b o e n (fun z=>(ZO.mp<|I.En b z).elim hL hb) hc) (fun b o _ _ hc e n=>u.any e n hc) (fun b o hc e n=>u.free b o e n hc) (fun b o hc e=>u.there b o e hc) u.Cj u.Ch u.Ct (fun m' hm=>by
  obtain⟨o',Kz,KA,EQ,r'⟩:=hm;rw[ho] at EQ;cases EQ;exact⟨_,Kz,KA,hL,r'⟩) l_ hg
theorem Inv.turned(I:Inv X pins σ H s)(k:∀ b o,b≠it->s.heap.get? b=some o->h'.get? b=some o)(hn:H it=none)(hL:it≠X.env.locals)(h1:it∈X.ex\/X.s₀.heap.objs.size<=it)(h2:∀ x c,X.env.cells.lookup x=some c->c≠it)(h3:∀ p∈X.pn++pins,p.1≠it):Inv X pins σ H { s with heap:=h',toks:=t' }:=by
 have Mm:∀ b u,H b=some u->b≠it:=fun b u e z=>by rw[z,hn] at e;cases e
 refine I.step (g':=s.gens) (d':=s.drawn) (ch:=[it]) (fun b hb=>?_) (fun b o _ _ hc e _=>k b o (fun z=>hc (by simp[z])) e) (fun b o _ _ hc e _=>⟨o.slots,k b o (fun z=>hc (by simp[z])) e⟩) (fun _ _ _ _ n=>n)
  (fun b o hc e=>⟨o,k b o (fun z=>hc (by simp[z])) e⟩) (fun _ _ e=>e) (fun _ _ _ e=>e) (fun b ps e=>⟨#[],by rw[e];simp⟩) (fun m hm=>?_) (fun b u e=>?_) I.bare
 ·have e:b=it:=by simpa using hb
  subst e;exact⟨h1,hL,h2,h3⟩
 ·obtain⟨o,es,ep,ho,r⟩:=hm;exact⟨o,es,ep,k _ o (Yw hL) ho,r⟩
 ·refine (I.l_ b u e).Cs (fun c v hc q=>k c v ?_ q) (fun _ q=>q) fun _ _ q=>q;rcases hc with z | z
  ·rw[z];exact Mm b u e
  ·exact Mm c _ z
theorem Inv.tok(I:Inv X pins σ H s)(t:Nat):Inv X pins σ H { s with toks:=t }:=I.un (h':=s.heap) (t':=t) Un.refl I.l_
theorem Inv.kept(I:Inv X pins σ H s)(k:∀ b u,s.heap.get? b=some u->h'.get? b=some u):Inv X pins σ H { s with heap:=h',toks:=t' }:=I.un (Un.kept k) (I.l_.kept k)
theorem Inv.laid(I:Inv X pins σ H s)(k:∀ b u,s.heap.get? b=some u->h'.get? b=some u)(hp:s.heap.objs.size<=a)(new:bj X.prog X.w (upd H a o) h' a o):
  Inv X pins σ (upd H a o) { s with heap:=h',toks:=t' }:=I.un (Un.laid k hp<|I.l_.fresh hp) (I.l_.laid k hp new)
theorem Inv.write{x e:Addr}(I:Inv X pins σ H s)(mu:Ie (H x))(he:e=x\/H e=some (.own x))(k:∀ b u,b≠e->s.heap.get? b=some u->h'.get? b=some u)(HS:∃ u,h'.get? e=some u)(new:bj X.prog X.w (upd H x o) h' x o):Inv X pins σ (upd H x o) { s with heap:=h',toks:=t' }:=I.un (Un.write mu he k HS) (I.l_.write mu he k HS new)
theorem Inv.weak{σ':List (Option V)}(I:Inv X pins σ H s)(hl:σ'.length=σ.length)(w:∀ (i:Nat) v,σ'[i]?=some (some v)->σ[i]?=some (some v)):Inv X pins σ' H s:=
 ⟨I.ok,I.os,I.bare,I.base,let ⟨m,hn,Ee⟩:=I.loc;⟨m,hn,fun i x v e1 e2 e3=>Ee i x v e1 (w i v e2) e3⟩,I.cell,I.free,I.BC,I.pin,I.l_,hl.trans I.len⟩
theorem Inv.Cd{DB:List (Addr×Obj)}(I:Inv X pins σ H s)(h:∀ p∈DB,s.heap.get? p.1=some p.2/\H p.1=none/\p.1≠X.env.locals/\p.1∉X.fs/\∀ v,p.2.data≠.cell v):Inv X DB σ H s:=
 ⟨I.ok,I.os,I.bare,I.base,I.loc,I.cell,I.free,I.BC,fun p hp=>(ZE.mp hp).elim (fun z=>I.pin p<|ZH _ z)<|h p,I.l_,I.len⟩
theorem kc(hN:N.Nodup){i j:Nat}{x:Str}(a:N[i]?=some x)(b:N[j]?=some x):i=j:=by
 obtain⟨h1,e1⟩:=ZA.mp a;obtain⟨h2,e2⟩:=ZA.mp b;exact (WJ hN).mp (e1.trans e2.symm)
variable{Q:Unit->Shared->Prop}
theorem ke{M:Model}(I:Inv X pins σ H s)(hN:X.N.Nodup)(hi:X.N[i]?=some x)(hx:Loc X.env.scope x)(r:av v u)(h:∀ s',Inv X pins (σ.set i<|some v) H s'->(∃ a,Heap.SameBut a s.heap s'.heap/\(a=X.env.locals\/X.env.cells.lookup x=some a))->Q () s')(hf:X.fn x=true\/X.env.scope.names.lookup x=some .local:=by first | exact .inl rfl | exact .inr rfl | assumption):wpAny M A (storeName X.env x u) Q E s:=by
 obtain⟨m,hn,hl⟩:=id I.loc;have KB:(X.env.scope.kind == .class || (X.env.scope.kind == .module && X.env.locals != X.env.globals))=false:=by rw[I.ok.kind];rfl
 have Ij:i < σ.length:=by rw[I.len];exact (ZA.mp hi).1
 have FY:=I.FY;have tracked:∀ {a:Addr}{h':Heap},(∃ o,s.heap.get? a=some o/\H a=none)->Heap.SameBut a s.heap h'->BX X.prog X.w H h':=fun {a h'} ha hs b ob e=>by
  obtain⟨_,_,Gw⟩:=ha;refine (I.l_ b ob e).Cs (fun c w' hc q=>(hs.2 c ?_).trans q) (fun _ q=>q) fun _ _ q=>q;rintro rfl;rcases hc with rfl | hc
  ·rw[Gw] at e;cases e
  ·rw[Gw] at hc;cases hc
 rcases hx with hk | hk
 ·refine wpAny_storeName_local hk hn (fun h' Ik hs=>?_) KB;obtain⟨oL,_,_,Nk,_⟩:=id hn;refine h _ ⟨I.ok,I.os,I.bare,⟨fun b o e n hb hx=>?_,fun b o e n hb hx=>?_,I.base.free,fun b o e hx=>?_,I.base.Cj,I.base.Ch,I.base.Ct⟩,⟨_,Ik,fun j y v' e1 e2 e3=>?_⟩,fun y c e=>?_,I.free,I.BC,fun p hp=>?_,tracked ⟨oL,Nk,I.free⟩ hs,by simpa using I.len⟩ ⟨_,hs,.inl rfl⟩
  ·exact (hs.2 b<|Zx<|Zz (ZP e) I.ok.above).trans (I.base.keep b o e n hb hx)
  ·obtain⟨sl,e1⟩:=I.base.slot b o e n hb hx;exact⟨sl,(hs.2 b<|Zx<|Zz (ZP e) I.ok.above).trans e1⟩
  ·obtain⟨o',e1⟩:=I.base.there b o e hx;exact⟨o',(hs.2 b<|Zx<|Zz (ZP e) I.ok.above).trans e1⟩
  ·by_cases hj:j=i
   ·subst hj;rw[hi] at e1;cases e1;rw[Yh Ij] at e2;cases e2;exact⟨u,r,.inl ⟨hk,by simp⟩⟩
   ·rw[Y7 (Yw hj)] at e2;obtain⟨u',r',q⟩:=hl j y v' e1 e2 e3;refine⟨u',r',?_⟩;rcases q with ⟨k,e⟩ | ⟨k,c,e,z⟩
    ·refine .inl ⟨k,?_⟩;have:y≠x:=fun e=>hj (kc hN e1<|e ▸ hi);simp[this,e]
    ·exact .inr ⟨k,c,e,z.sameBut hs<|FY y c e⟩
  ·obtain⟨w',z⟩:=I.cell y c e;exact⟨w',z.sameBut hs<|FY y c e⟩
  ·obtain⟨e,n,ne,nf,d⟩:=I.pin p hp;exact⟨(hs.2 p.1 ne).trans e,n,ne,nf,d⟩
 ·have Fb:X.fn x=true:=by
   rcases hf with z | z
   ·exact z
   ·rw[z] at hk;cases hk
  obtain⟨c,hc⟩:=I.ok.has x (.inl hk);obtain⟨w',z⟩:=I.cell x c hc;refine wpAny_storeName_cell I.ok.kind hk hc z (fun h' Il hs=>?_);obtain⟨oc,JR,KC⟩:=id z;refine h { s with heap:=h' } ⟨I.ok,I.os,I.bare,⟨fun b o e n hb hx=>?_,fun b o e n hb hx=>?_,I.base.free,fun b o e hx=>?_,I.base.Cj,I.base.Ch,I.base.Ct⟩,⟨m,hn.sameBut hs<|Yw<|FY x c hc,fun j y v' e1 e2 e3=>?_⟩,fun y c' e=>?_,I.free,I.BC,fun p hp=>?_,tracked ⟨oc,JR,I.BC x c hc⟩ hs,by simpa using I.len⟩ ⟨c,hs,.inr hc⟩
  ·exact (hs.2 b<|Zx<|Zz (ZP e)<|I.ok.E_ x c Fb hc).trans (I.base.keep b o e n hb hx)
  ·obtain⟨sl,e1⟩:=I.base.slot b o e n hb hx;exact⟨sl,(hs.2 b<|Zx<|Zz (ZP e)<|I.ok.E_ x c Fb hc).trans e1⟩
  ·obtain⟨o',e1⟩:=I.base.there b o e hx;exact⟨o',(hs.2 b<|Zx<|Zz (ZP e)<|I.ok.E_ x c Fb hc).trans e1⟩
  ·by_cases hj:j=i
   ·subst hj;rw[hi] at e1;cases e1;rw[Yh Ij] at e2;cases e2;exact⟨u,r,.inr ⟨.inl hk,c,hc,Il⟩⟩
   ·rw[Y7 (Yw hj)] at e2;obtain⟨u',r',q⟩:=hl j y v' e1 e2 e3;refine⟨u',r',?_⟩;rcases q with q | ⟨k,c',e,z'⟩
    ·exact .inl q
    ·refine .inr ⟨k,c',e,z'.sameBut hs ?_⟩;rintro rfl;exact hj (kc hN e1<|I.ok.inj _ _ _ e hc ▸ hi)
  ·by_cases Mn:c'=c
   ·subst Mn;exact⟨_,Il⟩
   ·obtain⟨w2,z2⟩:=I.cell y c' e;exact⟨w2,z2.sameBut hs Mn⟩
  ·obtain⟨e,n,ne,nf,d⟩:=I.pin p hp;refine⟨(hs.2 p.1 ?_).trans e,n,ne,nf,d⟩;intro q;rw[q,JR] at e;have q':oc=p.2:=Zw e;exact d w' (by rw[<- q'];exact KC)
theorem iT{M:Model}(I:Inv X pins σ H s)(hN:X.N.Nodup)(hi:X.N[i]?=some x)(hx:Loc X.env.scope x)(r:av v u)(h:∀ s',Inv X pins (σ.set i<|some v) H s'->Q () s')(hf:X.fn x=true\/X.env.scope.names.lookup x=some .local:=by first | exact .inl rfl | exact .inr rfl | assumption):wpAny M A (storeName X.env x u) Q E s:=
 ke I hN hi hx r (fun s' I' _=>h s' I') hf
theorem Inv.Gx(I:Inv X pins σ H s)(ho:s'.os=s.os)(u:Un (BS X.stack) ch H H' s.heap s'.heap)(l_:BX X.prog X.w H' s'.heap)(hg:AllBare s'.gens)(CV:∀ b∈ch,(b∈X.ex\/X.s₀.heap.objs.size<=b)/\b≠X.env.locals/\(∀ x c,X.env.cells.lookup x=some c->c≠b)/\∀ p∈X.pn++pins,p.1≠b):Inv X pins σ H' s':=by
 obtain⟨h',g',d',t',o'⟩:=s';have e:o'=s.os:=ho;subst e;exact I.call (g':=g') (t':=t') (d':=d') u l_ hg CV
end
abbrev XK:=Value->Option Addr->Hp->Prop
abbrev St:=List (Option V)
variable{σ:St}
abbrev VK:=V->Hp->Prop
abbrev TE:=St->Hp->VK->Prop
variable{te:TE}
abbrev TT:=St->Hp->(Bool->Hp->Prop)->Prop
variable{tc:TT}
abbrev TA:=St->Hp->(List V->Hp->Prop)->Prop
variable{ta:TA}
structure Ends where
 nx:St->Hp->Prop
 rt:VK
 bk:St->Hp->Prop:=fun _ _=>False
 ct:St->Hp->Prop:=fun _ _=>False
abbrev TS:=Ends->St->Hp->Prop
variable{tb:TS}
def EP(X:Cx)(pins:List (Addr×Obj))(σ:St)(Q:VK)(u:Value)(s':Shared):Prop:=∃ v H',Inv X pins σ H' s'/\av v u/\Q v H'
def TP(X:Cx)(pins:List (Addr×Obj))(σ:St)(Q:Bool->Hp->Prop)(b:Bool)(s':Shared):Prop:=∃ H',Inv X pins σ H' s'/\Q b H'
def AP(X:Cx)(pins:List (Addr×Obj))(σ:St)(Q:List V->Hp->Prop)(us:List Value)(s':Shared):Prop:=∃ vs H',Inv X pins σ H' s'/\ay vs us/\Q vs H'
def SP(X:Cx)(pins:List (Addr×Obj))(D:Ends)(f:Flow)(s':Shared):Prop:=
 match f with
 | .next=>∃ σ' H',Inv X pins σ' H' s'/\D.nx σ' H'
 | .brk=>∃ σ' H',Inv X pins σ' H' s'/\D.bk σ' H'
 | .cont=>∃ σ' H',Inv X pins σ' H' s'/\D.ct σ' H'
 | .ret u=>∃ v σ' H',Inv X pins σ' H' s'/\av v u/\D.rt v H'
def KD(X:Cx)(e:Expr)(t:TE)(pins:List (Addr×Obj)):Prop:=
 ∀ (s:Shared) (σ:St) (H:Hp) (Q:VK),Inv X pins σ H s->t σ H Q->wpAny (model X.prog X.w) X.A (eval e X.env) (EP X pins σ Q) X.xe s
def PE(X:Cx)(e:Expr)(t:TE):Prop:=∀ pins,KD X e t pins
def Mo(X:Cx)(e:Expr)(t:TT)(pins:List (Addr×Obj)):Prop:=
 ∀ (s:Shared) (σ:St) (H:Hp) (Q:Bool->Hp->Prop),Inv X pins σ H s->t σ H Q->wpAny (model X.prog X.w) X.A (isTrue e X.env<|eval e X.env) (TP X pins σ Q) X.xe s
def PT(X:Cx)(e:Expr)(t:TT):Prop:=∀ pins,Mo X e t pins
def Mp(X:Cx)(e:Expr)(t:TT)(whole:Sem Value):Prop:=
 ∀ (pins:List (Addr×Obj)) (s:Shared) (σ:St) (H:Hp) (Q:Bool->Hp->Prop),Inv X pins σ H s->t σ H Q->wpAny (model X.prog X.w) X.A (isTrue e X.env whole) (TP X pins σ Q) X.xe s
def PW(X:Cx)(e:Expr)(t:TT):Prop:=∀ whole,Mp X e t whole
theorem PW.pt{t:TT}(h:PW X e t):PT X e t:=h _
def Mq(X:Cx)(es:List Expr)(t:TA)(pos:Pos):Prop:=
 ∀ (pins:List (Addr×Obj)) (s:Shared) (σ:St) (H:Hp) (Q:List V->Hp->Prop),Inv X pins σ H s->t σ H Q->wpAny (model X.prog X.w) X.A (spliced<|backTo pos<|starEach es X.env) (AP X pins σ Q) X.xe s
def PA(X:Cx)(es:List Expr)(t:TA):Prop:=∀ pos,Mq X es t pos
def Mr(X:Cx)(st:Stmt)(t:TS)(pins:List (Addr×Obj)):Prop:=
 ∀ (s:Shared) (σ:St) (H:Hp) (D:Ends),Inv X pins σ H s->t D σ H->wpAny (model X.prog X.w) X.A (exec st X.env) (SP X pins D) X.xe s
def PS(X:Cx)(st:Stmt)(t:TS):Prop:=∀ pins,Mr X st t pins
def mT(X:Cx)(st:List Stmt)(t:TS)(pins:List (Addr×Obj)):Prop:=
 ∀ (s:Shared) (σ:St) (H:Hp) (D:Ends),Inv X pins σ H s->t D σ H->wpAny (model X.prog X.w) X.A (execs st X.env) (SP X pins D) X.xe s
def DG(X:Cx)(st:List Stmt)(t:TS):Prop:=∀ pins,mT X st t pins
theorem A_{α:Type}{t:Sem α}{Q Q':α->Shared->Prop}{M:Model}(h:wpAny M A t Q E s)(hQ:∀ a s,Q a s->Q' a s):wpAny M A t Q' E s:=Zc h hQ fun _ _ x=>x
section
variable{X:Cx}
def e8(i:Nat):TE:=fun σ H Q=>∃ v,σ[i]?=some (some v)/\Q v H
def tC(v:V):TE:=fun _ H Q=>Q v H
theorem mU(hN:X.N[i]?=some x)(hv:JP X.env.scope x)(hd:(x == ("__debug__" : Str))=false:=by decide)(DY:(x == ("__classdict__" : Str))=false:=by decide):PE X (.Name x pos) (e8 i):=by
 intro pins s σ H Q I h;obtain⟨v,e,h⟩:=h;obtain⟨m,hn,hl⟩:=I.loc;obtain⟨u,r,l⟩:=hl i x v hN e hv;have fin:EP X pins σ Q u s:=⟨v,H,I,r,h⟩;rcases l with ⟨hk,hm⟩ | ⟨hk,c,hc,EG⟩
 ·exact wpAny_Name (wpAny_loadName_local I.ok.kind hk hn hm fin) hd
 ·rcases hk with hk | hk
  ·exact wpAny_Name (wpAny_loadName_cell I.ok.kind hk hc EG fin) hd
  ·exact wpAny_Name (wpAny_loadName_free I.ok.kind hk hc EG fin DY) hd
theorem sI{i j pos}:PE X (.Constant (.int i) j pos) (tC<|.int i):=fun _ _ _ H _ I h=>wpAny_Constant_int ⟨.int i,H,I.tok _,⟨_,rfl⟩,h⟩
theorem sJ{b j pos}:PE X (.Constant (.bool b) j pos) (tC<|.bl b):=fun _ _ _ H _ I h=>Constant_bool ⟨.bl b,H,I,rfl,h⟩
theorem sK{j pos}:PE X (.Constant .none j pos) (tC .j_):=fun _ _ _ H _ I h=>Constant_none ⟨.j_,H,I,rfl,h⟩
theorem mV{x j pos}:PE X (.Constant (.str x) j pos) (tC<|.str x):=fun _ _ _ H _ I h=>Calls.Constant_str ⟨.str x,H,I.tok _,⟨_,rfl⟩,h⟩
def Gl(X:Cx)(x:Str):Prop:=X.env.kindOf x=some .globalImplicit
theorem gH(I:Inv X pins σ H s)(hg:Gl X x)(hm:X.mg x=some u)(h:Q u s)(hd:(x == ("__debug__" : Str))=false:=by decide):wpAny (model X.prog X.w) X.A (eval (.Name x pos) X.env) Q E s:=
 Calls.Name_function_global I.ok.kind hg (Calls.loadGlobal_global (by rw[I.ok.glob];exact I.mod.glob.keeps I.bk) hm h) hd
theorem gI(I:Inv X pins σ H s)(hg:Gl X x)(hm:X.mg x=none)(hv:bootBuiltins x=some u)(h:Q u s)(hn:x ≠ "__name__" := by decide)(hd:(x == ("__debug__" : Str))=false:=by decide):wpAny (model X.prog X.w) X.A (eval (.Name x pos) X.env) Q E s:=by
 obtain⟨mb,h1,h2⟩:=I.mod.blt;exact Calls.Name_function_global I.ok.kind hg (Calls.loadGlobal_builtin (by rw[I.ok.glob];exact I.mod.glob.keeps I.bk) hm (by rw[I.ok.blt];exact h1.keeps I.bk) ((h2 x hn).trans hv) h) hd
theorem mW(hg:Gl X x)(hm:X.mg x=some u)(r:av v u)(hd:(x == ("__debug__" : Str))=false:=by decide):PE X (.Name x pos) (tC v):=
 fun _ _ _ H _ I h=>gH I hg hm ⟨v,H,I,r,h⟩ hd
theorem mX(hg:Gl X x)(hm:X.mg x=none)(hv:bootBuiltins x=some u)(r:av v u)(hn:x ≠ "__name__" := by decide)(hd:(x == ("__debug__" : Str))=false:=by decide):PE X (.Name x pos) (tC v):=
 fun _ _ _ H _ I h=>gI I hg hm hv ⟨v,H,I,r,h⟩ hn hd
variable{a b:Expr}{ta tb:TE}{pos:Pos}
variable{tA JS:TT}{rest:List Expr}
def mY(t u:TT):TT:=fun σ H Q=>t σ H fun c H1=>if c=true then u σ H1 Q else Q false H1
def Ms(t u:TT):TT:=fun σ H Q=>t σ H fun c H1=>if c=true then Q true H1 else u σ H1 Q
def sL(t:TT):TT:=fun σ H Q=>t σ H fun c H1=>Q (!c) H1
theorem sM(ha:PT X a tA):PW X (.BoolOp .And [a] pos) tA:=by
 intro wh pins s σ H Q I h;refine isTrue_and (A_ (ha pins s σ H Q I h) fun c s1 e=>?_);cases c with
 | true=>exact isTrue_and_nil e
 | false=>exact e
theorem sN(ha:PT X a tA):PW X (.BoolOp .Or [a] pos) tA:=by
 intro wh pins s σ H Q I h;refine isTrue_or (A_ (ha pins s σ H Q I h) fun c s1 e=>?_);cases c with
 | false=>exact isTrue_or_nil e
 | true=>exact e
theorem sO(ha:PT X a tA)(hb:PW X (.BoolOp .And (b::rest) pos) JS):PW X (.BoolOp .And (a::b::rest) pos) (mY tA JS):=by
 intro wh pins s σ H Q I h;refine isTrue_and (A_ (ha pins s σ H _ I h) fun c s1 ⟨H1,I1,q1⟩=>?_);cases c with
 | true=>exact hb wh pins s1 σ H1 Q I1 q1
 | false=>exact⟨H1,I1,q1⟩
theorem sP(ha:PT X a tA)(hb:PW X (.BoolOp .Or (b::rest) pos) JS):PW X (.BoolOp .Or (a::b::rest) pos) (Ms tA JS):=by
 intro wh pins s σ H Q I h;refine isTrue_or (A_ (ha pins s σ H _ I h) fun c s1 ⟨H1,I1,q1⟩=>?_);cases c with
 | true=>exact⟨H1,I1,q1⟩
 | false=>exact hb wh pins s1 σ H1 Q I1 q1
theorem sQ(ha:PT X a tA):PT X (.UnaryOp .Not a pos) (sL tA):=by
 intro pins s σ H Q I h;exact isTrue_not (ha pins s σ H (fun c H1=>Q (!c) H1) I h)
def sR(ta tb:TE):TE:=fun σ H Q=>ta σ H fun x H1=>∃ c,x=.bl c/\if c=true then tb σ H1 Q else Q (.bl false) H1
def sS(ta tb:TE):TE:=fun σ H Q=>ta σ H fun x H1=>∃ c,x=.bl c/\if c=true then Q (.bl true) H1 else tb σ H1 Q
def sT(ta:TE):TE:=fun σ H Q=>ta σ H fun x H1=>∃ c,x=.bl c/\Q (.bl<|!c) H1
theorem sU{op}{t:TE}(h:PE X a t):PE X (.BoolOp op [a] pos) t:=fun pins s σ H Q I hw=>BoolOp_one (h pins s σ H Q I hw)
theorem sV(ha:PE X a ta)(hb:PE X (.BoolOp .And (b::rest) pos) tb):PE X (.BoolOp .And (a::b::rest) pos) (sR ta tb):=by
 intro pins s σ H Q I h;refine BoolOp_and (A_ (ha pins s σ H _ I h) fun v s1 ⟨x,H1,I1,r1,q1⟩=>?_);obtain⟨c,rfl,q1⟩:=q1;cases r1;refine YH ?_;cases c with
 | true=>exact hb pins s1 σ H1 Q I1 q1
 | false=>exact⟨.bl false,H1,I1,rfl,q1⟩
theorem sW(ha:PE X a ta)(hb:PE X (.BoolOp .Or (b::rest) pos) tb):PE X (.BoolOp .Or (a::b::rest) pos) (sS ta tb):=by
 intro pins s σ H Q I h;refine BoolOp_or (A_ (ha pins s σ H _ I h) fun v s1 ⟨x,H1,I1,r1,q1⟩=>?_);obtain⟨c,rfl,q1⟩:=q1;cases r1;refine YH ?_;cases c with
 | false=>exact hb pins s1 σ H1 Q I1 q1
 | true=>exact⟨.bl true,H1,I1,rfl,q1⟩
theorem sX(ha:PE X a ta):PE X (.UnaryOp .Not a pos) (sT ta):=by
 intro pins s σ H Q I h;refine UnaryOp_ (A_ (ha pins s σ H _ I h) fun v s1 ⟨x,H1,I1,r1,q1⟩=>?_);obtain⟨c,rfl,q1⟩:=q1;cases r1;exact not_of (YH ⟨.bl<|!c,H1,I1,rfl,q1⟩)
end
def BY(K:PySem.W.Frag)(H:Hp)(a:Addr)(xs:List V):Prop:=
 Rd H a (.lst xs)\/
  ∃ (o:Obj) (f':Array Value) (n:Nat),K.lookup a=some o/\o.cls=.type "list" /\ o.dict=none/\o.data=.seq f' n/\f'.size<=sizeLine/\ay xs f'.toList
def BG(K:PySem.W.Frag)(H:Hp)(a:Addr)(xs:List V):Prop:=
 Rd H a (.tup xs)\/
  ∃ (o:Obj) (f':Array Value) (n:Nat),K.lookup a=some o/\o.cls=.type "tuple" /\ o.data=.seq f' n/\f'.size<=sizeLine/\ay xs f'.toList
def sY:Value->Option V
 | .none=>some .j_
 | .bool b=>some (.bl b)
 | .int i _=>some (.int i)
 | .str x _=>some (.str x)
 | .bytes b _=>some (.Id b)
 | .float b _=>some (.Ku b)
 | .ref a=>some (.ref a)
 | .type n=>some (.ty n)
 | _=>none
theorem av.abs{x:V}(r:av x u):sY u=some x:=by
 cases x with
 | j_=>cases r;rfl
 | bl _=>cases r;rfl
 | int _=>obtain⟨t,rfl⟩:=r;rfl
 | str _=>obtain⟨t,rfl⟩:=r;rfl
 | Id _=>obtain⟨t,rfl⟩:=r;rfl
 | Ku _=>obtain⟨t,rfl⟩:=r;rfl
 | ref _=>cases r;rfl
 | ty _=>cases r;rfl
theorem av.inj{x y:V}{u:Value}(r:av x u)(q:av y u):x=y:=Zw (r.abs.symm.trans q.abs)
theorem ay.inj:∀ {xs ys:List V}{us:List Value},ay xs us->ay ys us->xs=ys
 | _,_,_,.nil,.nil=>rfl
 | _,_,_,.cons r t,.cons r' t'=>by rw[r.inj r',ay.inj t t']
section
variable{X:Cx}{pins:List (Addr×Obj)}{σ:St}{H:Hp}{s:Shared}{a:Addr}{xs ys:List V}
theorem BY.of(h:H a=some (.lst xs)):BY K H a xs:=.inl (.inl h)
theorem BG.of(h:H a=some (.tup xs)):BG K H a xs:=.inl (.inl h)
theorem Inv.list(I:Inv X pins σ H s)(h:BY X.K H a xs):∃ f':List Value,ay xs f'/\PlainL s.heap a f'.toArray/\xs.length<=sizeLine:=by
 rcases h with h | ⟨o,f',n,hk,hc,hd,hs,hz,r⟩
 ·obtain⟨z,f',n,r,e⟩:=h.ok I.l_;exact⟨f',r,⟨_,n,e,rfl,rfl,rfl⟩,z⟩
 ·refine⟨f'.toList,r,⟨o,n,I.EO a o hk,hc,hd,by simpa using hs⟩,?_⟩;have e:=r.length;simp only[Zv] at e;lia
theorem Inv.tuple(I:Inv X pins σ H s)(h:BG X.K H a xs):∃ f':List Value,ay xs f'/\IsTup s.heap a f'.toArray/\xs.length<=sizeLine:=by
 rcases h with h | ⟨o,f',n,hk,hc,hs,hz,r⟩
 ·obtain⟨z,f',r,p⟩:=h.ok I.l_;exact⟨f',r,p,z⟩
 ·refine⟨f'.toList,r,⟨o,I.EO a o hk,hc,n,by simpa using hs⟩,?_⟩;have e:=r.length;simp only[Zv] at e;lia
theorem Inv.Fd(I:Inv X pins σ H s)(h:BY X.K H a xs)(h':BY X.K H a ys):xs=ys:=by
 obtain⟨f',r,⟨o,n,e,_,_,d⟩,_⟩:=I.list h;obtain⟨its',r',⟨o',n',e',_,_,d'⟩,_⟩:=I.list h';rw[e] at e';cases e';rw[d] at d';injection d' with d1 _;have:f'=its':=by simpa using congrArg Array.toList d1
 subst this;exact r.inj r'
theorem Inv.CA(I:Inv X pins σ H s)(h:BG X.K H a xs)(h':BG X.K H a ys):xs=ys:=by
 obtain⟨f',r,⟨o,e,_,n,d⟩,_⟩:=I.tuple h;obtain⟨its',r',⟨o',e',_,n',d'⟩,_⟩:=I.tuple h';rw[e] at e';cases e';rw[d] at d';injection d' with d1 _;have:f'=its':=by simpa using congrArg Array.toList d1
 subst this;exact r.inj r'
end
abbrev Cx.Dw(X:Cx)(E:Value->Shared->Prop):Cx:={ X with xe:=E }
abbrev Cx.G8(X:Cx):Cx:=X.Dw fun _ _=>False
theorem Cx.Ok.Dw(ok:X.Ok)(E:Value->Shared->Prop):(X.Dw E).Ok:=
 ⟨ok.mod,ok.kind,ok.glob,ok.blt,ok.above,ok.inj,ok.has,ok.E_,ok.hd,ok.frames,ok.Fa,ok.Gv,ok.bs,ok.Em,ok.Da,ok.Db,ok.BQ,ok.EN⟩
theorem Cx.Ok.B5(ok:(X.Dw E).Ok):X.Ok:=
 ⟨ok.mod,ok.kind,ok.glob,ok.blt,ok.above,ok.inj,ok.has,ok.E_,ok.hd,ok.frames,ok.Fa,ok.Gv,ok.bs,ok.Em,ok.Da,ok.Db,ok.BQ,ok.EN⟩
section
variable{X:Cx}{pins:List (Addr×Obj)}{σ:St}{H:Hp}{s:Shared}{E:Value->Shared->Prop}
theorem Inv.Dw(I:Inv X pins σ H s)(E:Value->Shared->Prop):Inv (X.Dw E) pins σ H s:=⟨I.ok.Dw E,I.os,I.bare,I.base,I.loc,I.cell,I.free,I.BC,I.pin,I.l_,I.len⟩
theorem Inv.B5(I:Inv (X.Dw E) pins σ H s):Inv X pins σ H s:=⟨I.ok.B5,I.os,I.bare,I.base,I.loc,I.cell,I.free,I.BC,I.pin,I.l_,I.len⟩
theorem SP.B5{D:Ends}{f:Flow}(h:SP (X.Dw E) pins D f s'):SP X pins D f s':=by
 cases f with
 | next=>obtain⟨σ',H',I,q⟩:=h;exact⟨σ',H',I.B5,q⟩
 | brk=>obtain⟨σ',H',I,q⟩:=h;exact⟨σ',H',I.B5,q⟩
 | cont=>obtain⟨σ',H',I,q⟩:=h;exact⟨σ',H',I.B5,q⟩
 | ret u=>obtain⟨v,σ',H',I,r,q⟩:=h;exact⟨v,σ',H',I.B5,r,q⟩
theorem DG.G8{st:List Stmt}{t:TS}(h:DG X.G8 st t):DG X st t:=fun pins s σ H D I hw=>
 Zc (h pins s σ H D (I.Dw _) hw) (fun _ _ q=>q.B5) fun _ _ z=>False.elim z
end
section
variable{X:Cx}{st:Stmt}{rest:List Stmt}{t u:TS}{e:Expr}{te:TE}{pos:Pos}
def Io:TS:=fun D σ H=>D.nx σ H
def mZ(t u:TS):TS:=fun D σ H=>t { D with nx:=u D } σ H
theorem sZ:DG X [] Io:=fun _ _ σ H _ I h=>Yc ⟨σ,H,I,h⟩
theorem gJ(h1:PS X st t)(h2:DG X rest u):DG X (st::rest) (mZ t u):=by
 intro pins s σ H D I h;refine wpAny_execs_cons (A_ (h1 pins s σ H { D with nx:=u D } I h) fun f s1 q=>?_);cases f with
 | next=>
  obtain⟨σ',H',I',q⟩:=q;exact h2 pins s1 σ' H' D I' q
 | ret v=>exact q
 | brk=>exact q
 | cont=>exact q
theorem tf(h1:PS X st t):DG X [st] t:=by
 intro pins s σ H D I h;refine wpAny_execs_cons (A_ (h1 pins s σ H D I h) fun f s1 q=>?_);cases f with
 | next=>exact Yc q
 | ret v=>exact q
 | brk=>exact q
 | cont=>exact q
theorem Inv.quiet(I:Inv X pins σ H s):interactive X.env=false:=by simp[interactive,I.ok.kind]
def tj(te:TE):TS:=fun D σ H=>te σ H fun _ H1=>D.nx σ H1
theorem tm(he:PE X e te)(hs:swapsWith e none pos.line X.env=pure false:=by rfl):PS X (.Expr e pos) (tj te):=by
 intro pins s σ H D I h;exact wpAny_Expr_any (A_ (he pins s σ H _ I h) fun v s1 ⟨x,H1,I1,r1,q1⟩=>⟨σ,H1,I1,q1⟩) I.quiet hs
def tq(te:TE):TS:=fun D σ H=>te σ H D.rt
theorem tu(he:PE X e te):PS X (.Return (some e) pos) (tq te):=by
 intro pins s σ H D I h;exact wpAny_Return_some (A_ (he pins s σ H _ I h) fun v s1 ⟨x,H1,I1,r1,q1⟩=>⟨x,σ,H1,I1,r1,q1⟩)
def tw(c:TT)(t u:TS):TS:=fun D σ H=>c σ H fun b H1=>if b=true then t D σ H1 else u D σ H1
theorem m5{a b:List Stmt}(hc:PT X c tc)(ha:DG X a t)(hb:DG X b u):PS X (.If c a b pos) (tw tc t u):=by
 intro pins s σ H D I h;refine wpAny_If (A_ (hc pins s σ H _ I h) fun d s1 ⟨H1,I1,q1⟩=>?_);cases d with
 | true=>exact ha pins s1 σ H1 D I1 q1
 | false=>exact hb pins s1 σ H1 D I1 q1
def G9:TS:=fun _ _ _=>False
theorem tz:PS X st G9:=fun _ _ _ _ _ _ h=>h.elim
end
abbrev TG:=V->St->Hp->(St->Hp->Prop)->Prop
abbrev FK:=List V->St->Hp->(St->Hp->Prop)->Prop
def Mt(X:Cx)(target:Expr)(t:TG)(pins:List (Addr×Obj)):Prop:=
 ∀ (s:Shared) (σ:St) (H:Hp) (v:V) (u:Value) (Q:St->Hp->Prop),Inv X pins σ H s->av v u->t v σ H Q->
  wpAny (model X.prog X.w) X.A (assign target X.env u) (fun _ s'=>∃ σ' H',Inv X pins σ' H' s'/\Q σ' H') X.xe s
def PG(X:Cx)(target:Expr)(t:TG):Prop:=∀ pins,Mt X target t pins
def m6(X:Cx)(ts:List Expr)(t:FK)(pins:List (Addr×Obj)):Prop:=
 ∀ (s:Shared) (σ:St) (H:Hp) (vs:List V) (us:List Value) (Q:St->Hp->Prop),Inv X pins σ H s->ay vs us->t vs σ H Q->
  wpAny (model X.prog X.w) X.A (assignInOrder ((assignEach ts X.env).map (·.2)) us) (fun _ s'=>∃ σ' H',Inv X pins σ' H' s'/\Q σ' H') X.xe s
def HU(X:Cx)(ts:List Expr)(t:FK):Prop:=∀ pins,m6 X ts t pins
abbrev G':=V->V->V->Hp->(Hp->Prop)->Prop
def kf(X:Cx)(t:G'):Prop:=
 ∀ (pins:List (Addr×Obj)) (s:Shared) (σ:St) (H:Hp) (o i v:V) (ov iv u:Value) (Q:Hp->Prop),Inv X pins σ H s->av o ov->av i iv->av v u->t o i v H Q->
  wpAny (model X.prog X.w) X.A (setItem ov iv u) (fun _ s'=>∃ H',Inv X pins σ H' s'/\Q H') X.xe s
section
variable{X:Cx}{pos:Pos}
def kg(i:Nat):TG:=fun v σ H Q=>Q (σ.set i<|some v) H
theorem tB(hN:X.N.Nodup)(hi:X.N[i]?=some x)(hx:Loc X.env.scope x)(hf:X.fn x=true\/X.env.scope.names.lookup x=some .local:=by first | exact .inl rfl | exact .inr rfl | assumption):PG X (.Name x pos) (kg i):=by
 intro pins s σ H v u Q I r h;exact wpAny_assign_Name (iT I hN hi hx r (fun s' I'=>⟨_,H,I',h⟩) hf)
def KF:FK:=fun vs σ H Q=>vs=[]/\Q σ H
def tD(t:TG)(u:FK):FK:=fun vs σ H Q=>∃ v r,vs=v::r/\t v σ H fun σ' H'=>u r σ' H' Q
theorem tE:HU X [] KF:=by
 intro pins s σ H vs us Q I r h;obtain⟨e,h⟩:=h;subst e;cases r;exact assignInOrder_nil ⟨σ,H,I,h⟩
theorem tF{t:TG}{u:FK}(h1:PG X e t)(h2:HU X es u)(hs:(assignEach (e::es) X.env).map (·.2)=assign e X.env::(assignEach es X.env).map (·.2):=by rfl):HU X (e::es) (tD t u):=by
 intro pins s σ H vs us Q I r h;obtain⟨v,vr,e1,h⟩:=h;subst e1;cases r with
 | cons r rr=>
  rw[hs];refine assignInOrder_cons (A_ (h1 pins s σ H _ _ _ I r h) fun _ s1 ⟨σ1,H1,I1,q1⟩=>?_);exact h2 pins s1 σ1 H1 _ _ Q I1 rr q1
def tJ(K:PySem.W.Frag)(n:Nat)(t:FK):TG:=fun v σ H Q=>∃ a xs,v=.ref a/\BG K H a xs/\xs.length=n/\t xs σ H Q
theorem tK{t:FK}(hc:X.calm=true)(h:HU X es t)(hn:(assignEach es X.env).length=n:=by rfl)(DH:(assignEach es X.env).findIdx? (·.1)=none:=by rfl):PG X (.Tuple es k pos) (tJ X.K n t):=by
 intro pins s σ H v u Q I r hw;obtain⟨a,xs,e1,hq,hl,hw⟩:=hw;subst e1;cases r;obtain⟨f',rv,ht,hz⟩:=I.tuple hq;refine assign_Tuple_tuple (I.ok.hd hc) ht (by simp[hn,<- hl,rv.length]) DH fun h' hx=>?_;have I1:Inv X pins σ H { s with heap:=h' }:=I.kept (t':=s.toks) fun b o e=>hx b o (Zx<|ZP e) e;exact h pins _ σ H xs _ Q I1 (by simpa using rv) hw
def tL(to ti:TE)(t:G'):TG:=fun v σ H Q=>to σ H fun o H1=>ti σ H1 fun i H2=>t o i v H2 fun H3=>Q σ H3
theorem tM{o i:Expr}{to ti:TE}{t:G'}(ho:PE X o to)(hi:PE X i ti)(hs:kf X t)(ha:∀ v,assign (.Subscript o i pos) X.env v=(do
   let ov <- holding [v] (eval o X.env)
   let iv <- holding [v,ov] (eval i X.env)
   standAt pos
   holding [v,ov,iv] (setItem ov iv v)
   release [v,ov,iv] []):=by intro _;rfl):PG X (.Subscript o i pos) (tL to ti t):=by
 intro pins s σ H v u Q I r h;rw[ha];refine Z8 (YA<|A_ (ho pins s σ H _ I h) fun ov s1 ⟨x,H1,I1,r1,q1⟩=>?_);refine Z8 (YA<|A_ (hi pins s1 σ H1 _ I1 q1) fun iv s2 ⟨y,H2,I2,r2,q2⟩=>?_);refine Z8 (WQ<|Z8<|YA<|A_ (hs pins s2 σ H2 x y v ov iv u _ I2 r1 r2 r q2) fun _ s3 ⟨H3,I3,q3⟩=>?_);exact wpAny_release ⟨σ,H3,I3,q3⟩
def kh(te:TE)(g:TG):TS:=fun D σ H=>te σ H fun x H1=>g x σ H1 D.nx
theorem tN{g:TG}(he:PE X e te)(hg:PG X tg g)(hs:swapsWithSole [tg] e pos.line X.env=pure false:=by rfl)(hw:swappedStores [tg] e X.env=pure none:=by rfl)(h1:(assignEach [tg] X.env).map (·.2)=[assign tg X.env]:=by rfl):PS X (.Assign [tg] e pos) (kh te g):=by
 intro pins s σ H D I h;refine wpAny_Assign_stores (A_ (he pins s σ H _ I h) fun v s1 ⟨x,H1,I1,r1,q1⟩=>?_) hs hw;rw[h1];exact A_ (hg pins s1 σ H1 x v _ I1 r1 q1) fun _ s2 q=>q
theorem m7{pos':Pos}(hN:X.N.Nodup)(hi:X.N[i]?=some x)(hx:Loc X.env.scope x)(he:PE X e te)(hs:swapsWith e (some<|.Name x pos') pos.line X.env=pure false:=by rfl)(hf:X.fn x=true\/X.env.scope.names.lookup x=some .local:=by first | exact .inl rfl | exact .inr rfl | assumption):
  PS X (.Assign [.Name x pos'] e pos) (kh te<|kg i):=by
 intro pins s σ H D I h;refine wpAny_Assign_Name (A_ (he pins s σ H _ I h) fun v s1 ⟨y,H1,I1,r1,q1⟩=>?_) hs;exact iT I1 hN hi hx r1 (fun s2 I2=>⟨_,H1,I2,q1⟩) hf
def tP(i j:Nat)(ta:TA):TS:=fun D σ H=>ta σ H fun vs H1=>∃ v w,vs=[v,w]/\D.nx ((σ.set i<|some v).set j<|some w) H1
theorem tR{y:Str}{a b:Expr}{px py pt:Pos}{kt k2 G_}(hc:X.calm=true)(hN:X.N.Nodup)(hi:X.N[i]?=some x)(hj:X.N[j]?=some y)(Dc:i≠j)(hx:X.env.scope.names.lookup x=some .local)(hy:X.env.scope.names.lookup y=some .local)(ha:PA X [a,b] ta)(hw:swappedStores [.Tuple [.Name x px,.Name y py] kt pt] (.Tuple [a,b] k2 G_) X.env=pure (some [x,y]))(hs:swapsWithSole [.Tuple [.Name x px,.Name y py] kt pt] (.Tuple [a,b] k2 G_) pos.line X.env=pure false:=by rfl):
  PS X (.Assign [.Tuple [.Name x px,.Name y py] kt pt] (.Tuple [a,b] k2 G_) pos) (tP i j ta):=by
 intro pins s σ H D I h;rw[exec_Assign_arm];refine Z8 (WQ ?_);rw[hs];refine Z8 (ZS ?_);rw[ZX (by decide)];refine Z8 (Tuple_<|A_ (ha _ pins s σ H _ I h) fun us s1 ⟨vs,H1,I1,r1,q1⟩=>?_);obtain⟨v,w,e1,q1⟩:=q1;subst e1;obtain⟨u1,u2,rfl,rv,Fe⟩:∃ u1 u2,us=[u1,u2]/\av v u1/\av w u2:=by
  cases r1 with
  | cons p q=>
   cases q with
   | cons p' q'=>
    cases q';exact⟨_,_,rfl,p,p'⟩
 refine YG ?_ (by show 2<=sizeLine;decide);have I2:Inv X pins σ H1 { s1 with heap:=s1.heap.push { cls:=.type "tuple",data:=.seq [u1,u2].toArray } }:=I1.kept (t':=s1.toks) fun b o e=>Z3 _ e;rw[hw];refine Z8 (ZS ?_);show wpAny (model X.prog X.w) X.A (do rule "assign.swapped-stores";let items <- unpackItems (.ref s1.heap.objs.size) 2 none;assignInOrder [fun v=>bindName X.env y v,fun v=>bindName X.env x v] items.reverse;pure Flow.next) _ _ _;refine Z8 (YE<|Z8<|unpackItems_tuple (items:=#[u1,u2]) (I.ok.hd hc) (IsTup.new s1.heap _) fun h' Ek=>?_);have I3:=I2.kept (h':=h') (t':=s1.toks) fun b o e=>Ek b o (Zx<|ZP e) e;show wpAny _ _ (assignInOrder [fun v=>bindName X.env y v,fun v=>bindName X.env x v] [u2,u1] >>= fun _=>pure Flow.next) _ _ _;refine Z8 (assignInOrder_cons<|wpAny_bindName<|iT I3 hN hj (.inl hy) Fe (fun s2 I4=>?_)<|.inr hy);refine assignInOrder_cons (wpAny_bindName<|iT I4 hN hi (.inl hx) rv (fun s3 I5=>assignInOrder_nil<|ZS ?_)<|.inr hx);rw[WP _ _ (Yw Dc)] at I5;exact⟨_,H1,I5,q1⟩
end
section
variable{X:Cx}{pos:Pos}
def tT(c:TT)(tb:TS):TS:=fun D σ H=>∃ W:Nat->St->Hp->Prop,(∃ m,W m σ H)/\∀ m σ H,W m σ H->
 c σ H fun b H1=>if b=true then ∃ N:St->Hp->Prop,(∀ σ' H',N σ' H'->∃ m',m'<m/\W m' σ' H')/\tb { D with nx:=N,ct:=N,bk:=D.nx } σ H1 else D.nx σ H1
theorem tU(hp:PassesOwn (model X.prog X.w) X.A X.env X.xe)(hc:PT X c tc)(hb:DG X body tb):PS X (.While c body [] pos) (tT tc tb):=by
 intro pins s σ H D I h;obtain⟨W,⟨m0,w0⟩,turn⟩:=h;refine wpAny_While (codeAny_whileLoop (fun n s'=>∃ σ' H',Inv X pins σ' H' s'/\W n σ' H') ?_ m0 ⟨σ,H,I,w0⟩);rintro n s1 ⟨σ1,H1,I1,w1⟩;refine Yv hp (A_ (hc pins s1 σ1 H1 _ I1<|turn n σ1 H1 w1) fun b s2 ⟨H2,I2,q2⟩=>?_);cases b with
 | true=>
  obtain⟨N,hN,q2⟩:=q2;rw[Z0 rfl];refine Yv hp (A_ (hb pins s2 σ1 H2 _ I2 q2) fun f s3 q3=>?_);cases f with
  | next=>
   obtain⟨σ3,H3,I3,n3⟩:=q3;obtain⟨m',hm,w3⟩:=hN σ3 H3 n3;exact⟨m',hm,σ3,H3,I3,w3⟩
  | cont=>
   obtain⟨σ3,H3,I3,n3⟩:=q3;obtain⟨m',hm,w3⟩:=hN σ3 H3 n3;exact⟨m',hm,σ3,H3,I3,w3⟩
  | brk=>exact q3
  | ret v=>exact q3
 | false=>
  rw[ZX ZJ];exact Yc ⟨σ1,H2,I2,q2⟩
end
structure It where
 go:Nat->Hp->Prop
 Ip:Nat->Hp->V->Hp->Prop
 stop:Nat->Hp->Prop
def dg(X:Cx)(pins:List (Addr×Obj))(H:Hp)(b:Addr):Prop:=
 H b=none/\b≠X.env.locals/\b∉X.fs/\(b∈X.ex\/X.s₀.heap.objs.size<=b)/\(∀ x c,X.env.cells.lookup x=some c->c≠b)/\∀ p∈X.pn++pins,p.1≠b
theorem Inv.FZ(I:Inv X pins σ H s)(hb:s.heap.objs.size<=b)(hn:H' b=none):dg X pins H' b:=by
 refine⟨hn,W7<|Zz I.lt hb,I.Ky hb,.inr<|Zo I.sz hb,fun x c e z=>?_,fun p hp z=>?_⟩
 ·obtain⟨v,q⟩:=I.cell x c e;exact absurd (Zz q.lt (by rw[z];exact hb)) (YB _)
 ·exact absurd (Zz (ZP (I.pin p hp).1) (by rw[z];exact hb)) (YB _)
structure Turn(P:Program)(w:World)(K:PySem.W.Frag)(tg:Expr)(J:It)(fp:List Addr)(it:Addr)(tn:Nat->Heap->Prop):Prop where
 mem:it∈fp
 obj:∀ i h,tn i h->∀ b∈fp,∃ o,h.get? b=some o/\∀ v,o.data≠.cell v
 keep:∀ i h h',tn i h->(∀ b∈fp,∀ o,h.get? b=some o->h'.get? b=some o)->tn i h'
 item:∀ (X:Cx),X.prog=P->X.w=w->X.K=K->X.calm=true->∀ (i:Nat) (pins:List (Addr×Obj)) (s:Shared) (σ:St) (H:Hp) (E:Value->Shared->Prop),Inv X pins σ H s->(∀ b∈fp,dg X pins H b)->tn i s.heap->J.go i H->
  wpAny (model P w) X.A (pyNext<|.ref it) (fun r s1=>∃ u,r=some u/\
   wpAny (model P w) X.A (letOwnedTupleGo tg (.ref it) u) (fun _ s2=>∃ x H',Inv X pins σ H' s2/\av x u/\J.Ip i H x H'/\tn (i+1) s2.heap/\∀ b∈fp,H' b=none) E s1) E s
 done:∀ (X:Cx),X.prog=P->X.w=w->X.K=K->X.calm=true->∀ (i:Nat) (pins:List (Addr×Obj)) (s:Shared) (σ:St) (H:Hp) (E:Value->Shared->Prop),Inv X pins σ H s->(∀ b∈fp,dg X pins H b)->tn i s.heap->J.stop i H->
  wpAny (model P w) X.A (pyNext<|.ref it) (fun r s1=>r=none/\Inv X pins σ H s1) E s
 self:∀ (A:Around) (i:Nat) (s:Shared) (Q:Value->Shared->Prop) (E:Value->Shared->Prop),tn i s.heap->Q (.ref it) s->wpAny (model P w) A (pyIter<|.ref it) Q E s
abbrev TI:=St->Hp->(It->Hp->Prop)->Prop
def Mu(X:Cx)(pins:List (Addr×Obj))(σ:St)(tg:Expr)(R:It->Hp->Prop)(KG:Value)(s2:Shared):Prop:=
 ∃ (it:Addr) (fp:List Addr) (tn:Nat->Heap->Prop) (J:It) (H':Hp),KG=.ref it/\Inv X pins σ H' s2/\Turn X.prog X.w X.K tg J fp it tn/\tn 0 s2.heap/\(∀ b∈fp,dg X pins H' b)/\R J H'
def Mv(X:Cx)(tg iter:Expr)(wi:TI)(pins:List (Addr×Obj)):Prop:=
 ∀ (s:Shared) (σ:St) (H:Hp) (R:It->Hp->Prop),Inv X pins σ H s->wi σ H R->
  wpAny (model X.prog X.w) X.A (eval iter X.env) (fun v s1=>wpAny (model X.prog X.w) X.A (pyIter v) (Mu X pins σ tg R) X.xe s1) X.xe s
def PI(X:Cx)(tg iter:Expr)(wi:TI):Prop:=∀ pins,Mv X tg iter wi pins
theorem ki{M : Model}{E : Value -> Shared -> Prop}{o : Obj}{n : String}{vs : Array Value}{Q : Unit -> Shared -> Prop}(ho : s.heap.get? it = some o)(hc : o.cls = .type n)(hd : o.data = .fields vs)(hn : ["enumerate", "zip", "dict_itemiterator", "dict_reverseitemiterator", "odict_iterator", "itertools.zip_longest", "itertools.pairwise"].contains n = false)(hQ : Q () s): wpAny M A (letOwnedTupleGo tg (.ref it) u) Q E s := by
  unfold letOwnedTupleGo;cases tg <;> first
    | exact ZS hQ
    | (cases u <;> first
        | exact ZS hQ
        | (refine Z8 (wpAny_load ho ?_)
           rw [hc, hd];show wpAny M A (if (["enumerate", "zip", "dict_itemiterator", "dict_reverseitemiterator", "odict_iterator", "itertools.zip_longest", "itertools.pairwise"].contains n && vs[0]? == some (rawInt _)) = true then _ else _) Q E s;rw [ZX (by intro h; rw [hn, Bool.false_and] at h; cases h)];exact ZS hQ))
def Iq(K:PySem.W.Frag)(a:Addr):It:=
 ⟨fun i H=>∃ xs x,BY K H a xs/\xs[i]?=some x,fun i H x H'=>H'=H/\∀ xs,BY K H a xs->xs[i]?=some x,fun i H=>∃ xs,BY K H a xs/\xs.length<=i⟩
def JT(K:PySem.W.Frag)(a:Addr):It:=
 ⟨fun i H=>∃ xs x,BG K H a xs/\xs[i]?=some x,fun i H x H'=>H'=H/\∀ xs,BG K H a xs->xs[i]?=some x,fun i H=>∃ xs,BG K H a xs/\xs.length<=i⟩
def JU(lo:Int)(n:Nat):It:=⟨fun i _=>i<n,fun i H x H'=>H'=H/\x=.int (lo+i),fun i _=>n<=i⟩
theorem tW(a it:Addr):Turn P w K tg (Iq K a) [it] it (fun i h=>h.IsListIter it a i) where
 mem:=by simp
 obj:=fun i h st b hb=>by
  have e:b=it:=by simpa using hb
  subst e;obtain⟨o,e,c,d⟩:=st;exact⟨o,e,fun v z=>by rw[d] at z;cases z⟩
 keep:=fun i h h' st k=>st.at fun o e=>k it (by simp) o e
 item:=by
  intro X hP hw hK hc i pins s σ H E I hf st hg;subst hP hw hK;obtain⟨xs,x,hq,hx⟩:=hg;obtain⟨f',rv,p,hz⟩:=I.list hq;obtain⟨u,hu,ru⟩:=rv.get hx;obtain⟨f0,f1,f2,f3,f4,f5⟩:=hf it (by simp);refine wpAny_pyNext_list_item st p.isList (x:=u) (by simpa using hu) fun h' e_ sb=>?_;have I1:Inv X pins σ H { s with heap:=h' }:=I.turned (t':=s.toks) (fun b o hb e=>(sb.2 b hb).trans e) f0 f1 f3 f4 f5;obtain⟨o,e,c,d⟩:=id e_;exact⟨u,rfl,ki (s:={ s with heap:=h' }) e c d (by decide) ⟨x,H,I1,ru,⟨rfl,fun ys hy=>by rw[I.Fd hy hq];exact hx⟩,e_,fun b hb=>(hf b hb).1⟩⟩
 done:=by
  intro X hP hw hK hc i pins s σ H E I hf st hg;subst hP hw hK;obtain⟨xs,hq,hx⟩:=hg;obtain⟨f',rv,p,hz⟩:=I.list hq;obtain⟨f0,f1,f2,f3,f4,f5⟩:=hf it (by simp);have hl:=rv.length;exact wpAny_pyNext_list_end (I.ok.hd hc) st p.isList (by simp;lia) fun h' eb=>⟨rfl,I.turned (t':=s.toks) (fun b o hb e=>eb b o hb e) f0 f1 f3 f4 f5⟩
 self:=fun _ _ _ _ _ st h=>wpAny_pyIter_listiter st h
theorem tX(a it:Addr):Turn P w K tg (JT K a) [it] it (fun i h=>h.IsTupleIter it a i) where
 mem:=by simp
 obj:=fun i h st b hb=>by
  have e:b=it:=by simpa using hb
  subst e;obtain⟨o,e,c,d⟩:=st;exact⟨o,e,fun v z=>by rw[d] at z;cases z⟩
 keep:=fun i h h' st k=>st.at fun o e=>k it (by simp) o e
 item:=by
  intro X hP hw hK hc i pins s σ H E I hf st hg;subst hP hw hK;obtain⟨xs,x,hq,hx⟩:=hg;obtain⟨f',rv,p,hz⟩:=I.tuple hq;obtain⟨u,hu,ru⟩:=rv.get hx;obtain⟨f0,f1,f2,f3,f4,f5⟩:=hf it (by simp);refine wpAny_pyNext_tuple_item st (show s.heap.IsTuple a f'.toArray from p) (x:=u) (by simpa using hu) fun h' e_ sb=>?_;have I1:Inv X pins σ H { s with heap:=h' }:=I.turned (t':=s.toks) (fun b o hb e=>(sb.2 b hb).trans e) f0 f1 f3 f4 f5;obtain⟨o,e,c,d⟩:=id e_;exact⟨u,rfl,ki (s:={ s with heap:=h' }) e c d (by decide) ⟨x,H,I1,ru,⟨rfl,fun ys hy=>by rw[I.CA hy hq];exact hx⟩,e_,fun b hb=>(hf b hb).1⟩⟩
 done:=by
  intro X hP hw hK hc i pins s σ H E I hf st hg;subst hP hw hK;obtain⟨xs,hq,hx⟩:=hg;obtain⟨f',rv,p,hz⟩:=I.tuple hq;obtain⟨f0,f1,f2,f3,f4,f5⟩:=hf it (by simp);have hl:=rv.length;exact wpAny_pyNext_tuple_end (I.ok.hd hc) st (show s.heap.IsTuple a f'.toArray from p) (by simp;lia) fun h' eb=>⟨rfl,I.turned (t':=s.toks) (fun b o hb e=>eb b o hb e) f0 f1 f3 f4 f5⟩
 self:=fun _ _ _ _ _ st h=>wpAny_pyIter_tupleiter st h
theorem tY(it:Addr)(lo:Int)(n:Nat):Turn P w K tg (JU lo n) [it] it (fun i h=>IsRangeIter h it (lo+(i:Nat) * 1) ((n:Int) - (i:Nat)) 1) where
 mem:=by simp
 obj:=fun i h st b hb=>by
  have e:b=it:=by simpa using hb
  subst e;exact⟨_,st,fun v z=>by
   have z':Data.fields _=Data.cell v:=z;cases z'⟩
 keep:=fun i h h' st k=>k it (by simp) _ st
 item:=by
  intro X hP hw hK hc i pins s σ H E I hf st hg;subst hP hw hK;obtain⟨f0,f1,f2,f3,f4,f5⟩:=hf it (by simp);have W:=Walks.range (prog:=X.prog) (w:=X.w) (I.ok.hd hc) it lo 1 n;refine W.item i s _ _ hg st fun v h' tk hv e_ kk=>?_;obtain⟨t,rfl⟩:=hv;have I1:Inv X pins σ H { s with heap:=h',toks:=tk }:=I.turned (fun b o hb e=>kk b o (by simpa using hb) e) f0 f1 f3 f4 f5;refine⟨_,rfl,ki (s:={ s with heap:=h',toks:=tk }) (n := "range_iterator") e_ rfl rfl (by decide) ⟨.int<|lo+i,H,I1,⟨t,?_⟩,⟨rfl,rfl⟩,e_,fun b hb=>(hf b hb).1⟩⟩;rw[Int.mul_one]
 done:=by
  intro X hP hw hK hc i pins s σ H E I hf st hg;subst hP hw hK;obtain⟨f0,f1,f2,f3,f4,f5⟩:=hf it (by simp);exact wpAny_pyNext_range_end (I.ok.hd hc) st (by have:n<=i:=hg;lia) fun h' eb=>⟨rfl,I.turned (t':=s.toks) (fun b o hb e=>eb b o hb e) f0 f1 f3 f4 f5⟩
 self:=fun _ _ _ _ _ st h=>wpAny_pyIter_rangeiter st h
section
variable{X:Cx}{tg:Expr}
theorem tZ{R:It->Hp->Prop}{lo hi:Int}{t u v:Tok}{tk:Nat}(I:Inv X pins σ H s)(h1 : -(2 ^ 62)<=lo)(h2:lo<2 ^ 62)(h3 : -(2 ^ 62)<=hi)(h4:hi<2 ^ 62)(q:R (JU lo (hi - lo).toNat) H):wpAny (model X.prog X.w) X.A (pyIter<|.ref s.heap.objs.size) (Mu X pins σ tg R) E { s with heap:=s.heap.push { cls:=.type "range",data:=.fields #[.int lo t,.int hi u,.int 1 v] },toks:=tk }:=by
 refine wpAny_pyIter_range (IsRange.new ..) (small_one h1 h2 h3 h4) ?_;have I1:Inv X pins σ H { s with heap:=s.heap.push { cls:=.type "range",data:=.fields #[.int lo t,.int hi u,.int 1 v] },toks:=tk }:=I.kept fun b o e=>Z3 _ e;refine⟨(s.heap.push { cls:=.type "range",data:=.fields #[.int lo t,.int hi u,.int 1 v] }).objs.size,[(s.heap.push { cls:=.type "range",data:=.fields #[.int lo t,.int hi u,.int 1 v] }).objs.size],_,_,H,rfl,
  I1.kept (t':=tk) fun b o e=>Z3 _ e,tY _ lo (hi - lo).toNat,?_,fun b hb=>?_,q⟩
 ·have e1:lo+((0:Nat):Int) * 1=lo:=by simp
  have e2:(((hi - lo).toNat:Nat):Int) - ((0:Nat):Int)=Builtin.Range.rangeSize lo hi 1:=by rw[rangeSize_one];split<;>lia
  show IsRangeIter _ _ (lo+((0:Nat):Int) * 1) ((((hi - lo).toNat:Nat):Int) - ((0:Nat):Int)) 1;rw[e1,e2];exact ZF _ rfl
 ·have e:b=(s.heap.push { cls:=.type "range",data:=.fields #[.int lo t,.int hi u,.int 1 v] }).objs.size:=by simpa using hb
  subst e;exact I1.FZ (ZR _) (I1.l_.fresh<|ZR _)
def ua(ta:TA):TI:=fun σ H R=>ta σ H fun vs H1=>∃ j:Int,vs=[.int j] /\ -(2 ^ 62)<=j/\j<2 ^ 62/\R (JU 0 j.toNat) H1
theorem uc{a:Expr}{p:Pos}(hg:Gl X "range")(hm:X.mg "range" = none)(ha:PA X [a] ta)(hs:starEach [a] X.env=[(false,eval a X.env)]:=by rfl):PI X tg (.Call (.Name "range" p) [a] [] pos) (ua ta):=by
 intro pins s σ H R I h;refine Call_ (gI I hg hm boot_range<|X8 (A_ (ha pos pins s σ H _ I h) fun us s1 ⟨vs,H1,I1,r1,q1⟩=>?_) hs rfl);obtain⟨j,e,q1,q2,q⟩:=q1;subst e;cases r1 with
 | cons r rr=>
  cases rr;obtain⟨t,rfl⟩:=r;exact call_range_1 (tZ I1 (by lia) (by lia) q1 q2 (by simpa using q))
def m8(wi:TI)(g:TG)(tb:TS):TS:=fun D σ H=>wi σ H fun J H1=>∃ W:Nat->Nat->St->Hp->Prop,(∃ m,W 0 m σ H1)/\∀ i m σ H,W i m σ H->
 (J.stop i H/\D.nx σ H)\/(J.go i H/\∃ N:St->Hp->Prop,(∀ σ' H',N σ' H'->∃ m',m'<m/\W (i+1) m' σ' H')/\∀ x H',J.Ip i H x H'->g x σ H' fun σ2 H2=>tb { D with nx:=N,ct:=N,bk:=D.nx } σ2 H2)
def d7(fp:List Addr)(h:Heap):List (Addr×Obj):=fp.filterMap fun b=>(h.get? b).map fun o=>(b,o)
theorem iU{o:Obj}(hb:b∈fp)(e:h.get? b=some o):(b,o)∈d7 fp h:=List.mem_filterMap.mpr ⟨b,hb,by rw[e];rfl⟩
theorem m9{p:Addr×Obj}(hp:p∈d7 fp h):p.1∈fp/\h.get? p.1=some p.2:=by
 obtain⟨b,hb,e⟩:=List.mem_filterMap.mp hp;cases q:h.get? b with
 | none=>rw[q] at e;cases e
 | some o=>
  rw[q] at e;have e':(b,o)=p:=Zw e;subst e';exact⟨hb,q⟩
theorem Inv.pinned(I:Inv X pins σ H s)(hf:∀ b∈fp,dg X pins H b)(ho:∀ b∈fp,∃ o,s.heap.get? b=some o/\∀ v,o.data≠.cell v):Inv X (pins++d7 fp s.heap) σ H s:=
 I.Cd fun p hp=>(ZE.mp hp).elim (fun z=>I.pin p<|ZN _ z) fun z=>by
  obtain⟨hb,e⟩:=m9 z;obtain⟨f0,f1,f2,_⟩:=hf p.1 hb;obtain⟨o,e',d⟩:=ho p.1 hb;rw[e] at e';cases e';exact⟨e,f0,f1,f2,d⟩
theorem Inv.De{pl:List (Addr×Obj)}(I:Inv X (pins++pl) σ H s):Inv X pins σ H s:=I.Cd fun p hp=>I.pin p (ZN _<|ZH _ hp)
theorem ud{iter:Expr}{wi:TI}{g:TG}(hp:PassesOwn (model X.prog X.w) X.A X.env X.xe)(hc:X.calm=true)(hi:PI X tg iter wi)(hg:PG X tg g)(hb:DG X body tb)(hs:∀ x,foldedSetIterable iter X.env x=pure x:=by intro _;rfl):PS X (.For tg iter body [] pos) (m8 wi g tb):=by
 intro pins s σ H D I h;refine wpAny_For (A_ (hi pins s σ H _ I h) fun v s1 h1=>A_ h1 fun KG s2 h2=>?_) hs;obtain⟨it,fp,tn,J,H2,e,I2,T,o_,f2,W,⟨m0,w0⟩,turn⟩:=h2;subst e;have Ha:∀ {H':Hp},(∀ b∈fp,H' b=none)->∀ b∈fp,dg X pins H' b:=fun hn b hb=>⟨hn b hb,(f2 b hb).2⟩;refine codeAny_forLoop_any (fun n s'=>∃ i σ' H',Inv X pins σ' H' s'/\tn i s'.heap/\(∀ b∈fp,H' b=none)/\W i n σ' H') ?_ m0 ⟨0,σ,H2,I2,o_,fun b hb=>(f2 b hb).1,w0⟩;rintro n s3 ⟨i,σ3,H3,I3,Df,Ir,w3⟩;rcases turn i n σ3 H3 w3 with ⟨stop,qn⟩ | ⟨go,N,hN,step⟩
 ·refine Yv hp (A_ (T.done X rfl rfl rfl hc i pins s3 σ3 H3 X.xe I3 (Ha Ir) Df stop) fun r s4 ⟨hr,I4⟩=>?_);subst hr;exact Yc ⟨σ3,H3,I4,qn⟩
 ·refine Yv hp (A_ (T.item X rfl rfl rfl hc i pins s3 σ3 H3 X.xe I3 (Ha Ir) Df go) fun r s4 ⟨u,hr,h4⟩=>?_);subst hr;refine Yv hp (A_ h4 fun _ s5 ⟨x,H5,I5,r5,y5,CW,KH⟩=>?_);have KI:=I5.pinned (Ha KH) (T.obj _ _ CW);refine Yv hp (A_ (hg _ s5 σ3 H5 x u _ KI r5<|step x H5 y5) fun _ s6 ⟨σ6,H6,I6,q6⟩=>?_);refine Yv hp (A_ (hb _ s6 σ6 H6 _ I6 q6) fun f s7 q7=>?_);have again:∀ {σ7:St}{H7:Hp},Inv X (pins++d7 fp s5.heap) σ7 H7 s7->N σ7 H7->∃ m,m<n/\∃ i σ' H',Inv X pins σ' H' s7/\tn i s7.heap/\(∀ b∈fp,H' b=none)/\W i m σ' H':=fun {σ7 H7} I7 n7=>by
   obtain⟨m',hm,w7⟩:=hN σ7 H7 n7;refine⟨m',hm,i+1,σ7,H7,I7.De,T.keep _ _ _ CW fun b hb o e=>(I7.pin (b,o)<|ZN _<|ZN _<|iU hb e).1,fun b hb=>?_,w7⟩;obtain⟨o,e,d⟩:=T.obj _ _ CW b hb;exact (I7.pin (b,o)<|ZN _<|ZN _<|iU hb e).2.1
  cases f with
  | next=>obtain⟨σ7,H7,I7,n7⟩:=q7;exact again I7 n7
  | cont=>obtain⟨σ7,H7,I7,n7⟩:=q7;exact again I7 n7
  | brk=>obtain⟨σ7,H7,I7,q7⟩:=q7;exact⟨σ7,H7,I7.De,q7⟩
  | ret v=>obtain⟨x7,σ7,H7,I7,r7,q7⟩:=q7;exact⟨x7,σ7,H7,I7.De,r7,q7⟩
end
abbrev R2:=V->V->Hp->VK->Prop
variable{r:R2}
def Ck(X:Cx)(f:Value->Value->Sem Value)(r:R2):Prop:=
 ∀ (pins:List (Addr×Obj)) (s:Shared) (σ:St) (H:Hp) (x y:V) (v u:Value) (Q:VK),Inv X pins σ H s->av x v->av y u->r x y H Q->
  wpAny (model X.prog X.w) X.A (f v u) (EP X pins σ Q) X.xe s
def KJ(X:Cx)(f:Value->Sem Value)(r:V->Hp->VK->Prop):Prop:=
 ∀ (pins:List (Addr×Obj)) (s:Shared) (σ:St) (H:Hp) (x:V) (v:Value) (Q:VK),Inv X pins σ H s->av x v->r x H Q->
  wpAny (model X.prog X.w) X.A (f v) (EP X pins σ Q) X.xe s
def aX(X:Cx)(f:Value)(r:List V->Hp->VK->Prop):Prop:=
 ∀ (pins:List (Addr×Obj)) (s:Shared) (σ:St) (H:Hp) (xs:List V) (us:List Value) (Q:VK),Inv X pins σ H s->ay xs us->r xs H Q->
  wpAny (model X.prog X.w) X.A (call f us) (EP X pins σ Q) X.xe s
def ue(X:Cx)(r:V->Hp->(Bool->Hp->Prop)->Prop):Prop:=
 ∀ (pins:List (Addr×Obj)) (s:Shared) (σ:St) (H:Hp) (x:V) (v:Value) (Q:Bool->Hp->Prop),Inv X pins σ H s->av x v->r x H Q->
  wpAny (model X.prog X.w) X.A (truthy v) (TP X pins σ Q) X.xe s
def JV(r:R2)(ta tb:TE):TE:=fun σ H Q=>ta σ H fun x H1=>tb σ H1 fun y H2=>r x y H2 Q
def Nl(r:V->Hp->VK->Prop)(ta:TE):TE:=fun σ H Q=>ta σ H fun x H1=>r x H1 Q
def rI(C:Int->Int->Prop)(g:Int->Int->V):R2:=fun x y H Q=>∃ i j,x=.int i/\y=.int j/\C i j/\Q (g i j) H
def Gy(g:Int->Int->V):R2:=fun x y H Q=>∃ i j,x=.int i/\y=.int j/\Q (g i j) H
def rU(g:Int->V):V->Hp->VK->Prop:=fun x H Q=>∃ i,x=.int i/\Q (g i) H
section
variable{X:Cx}{a b c:Expr}{ta tb tc:TE}{pos:Pos}
theorem kj(ha:PE X a ta)(hb:PE X b tb){pins:List (Addr×Obj)}{s:Shared}{σ:St}{H:Hp}{R:V->V->Hp->Prop}(I:Inv X pins σ H s)(h:ta σ H fun x H1=>tb σ H1 fun y H2=>R x y H2){Q:Value->Shared->Prop}{f:Value->Value->Sem Value}(hf:∀ v u s2 x y H2,Inv X pins σ H2 s2->av x v->av y u->R x y H2->wpAny (model X.prog X.w) X.A (f v u) Q X.xe s2):
  wpAny (model X.prog X.w) X.A (eval a X.env) (fun v s₁=>wpAny (model X.prog X.w) X.A (eval b X.env) (fun u s₂=>wpAny (model X.prog X.w) X.A (f v u) Q X.xe s₂) X.xe s₁) X.xe s:=by
 refine A_ (ha pins s σ H _ I h) fun v s1 ⟨x,H1,I1,r1,q1⟩=>?_;refine A_ (hb pins s1 σ H1 _ I1 q1) fun u s2 ⟨y,H2,I2,r2,q2⟩=>?_;exact hf v u s2 x y H2 I2 r1 r2 q2
theorem uf{op:Operator}(ho:Ck X (binaryOp op) r)(ha:PE X a ta)(hb:PE X b tb):PE X (.BinOp a op b pos) (JV r ta tb):=by
 intro pins s σ H Q I h;exact wpAny_BinOp (kj ha hb I h fun v u s2 x y H2 I2 rx ry q=>ho pins s2 σ H2 x y v u Q I2 rx ry q)
theorem ug{op:UnaryOp}{r:V->Hp->VK->Prop}(ho:KJ X (unaryOp op) r)(ha:PE X a ta):PE X (.UnaryOp op a pos) (Nl r ta):=by
 intro pins s σ H Q I h;exact UnaryOp_ (A_ (ha pins s σ H _ I h) fun v s1 ⟨x,H1,I1,r1,q1⟩=>ho pins s1 σ H1 x v Q I1 r1 q1)
theorem JW{C:Int->Int->Prop}(rule:∀ (i j:Int) (t u:Tok) (s:Shared) (Q:Value->Shared->Prop) (E:Value->Shared->Prop),C i j->Q (.int (g i j) s.toks) { s with toks:=s.toks+1 }->wpAny (model X.prog X.w) X.A (f (.int i t)<|.int j u) Q E s):
  Ck X f (rI C fun i j=>.int<|g i j):=by
 intro pins s σ H x y v u Q I rx ry h;obtain⟨i,j,rfl,rfl,hc,q⟩:=h;obtain⟨t,rfl⟩:=rx;obtain⟨t',rfl⟩:=ry;exact rule i j t t' s _ _ hc ⟨.int<|g i j,H,I.tok _,⟨_,rfl⟩,q⟩
theorem ng(rule:∀ (i j:Int) (t u:Tok) (s:Shared) (Q:Value->Shared->Prop) (E:Value->Shared->Prop),Q (.int (g i j) s.toks) { s with toks:=s.toks+1 }->wpAny (model X.prog X.w) X.A (f (.int i t)<|.int j u) Q E s):
  Ck X f (Gy fun i j=>.int<|g i j):=by
 intro pins s σ H x y v u Q I rx ry h;obtain⟨i,j,rfl,rfl,q⟩:=h;obtain⟨t,rfl⟩:=rx;obtain⟨t',rfl⟩:=ry;exact rule i j t t' s _ _ ⟨.int<|g i j,H,I.tok _,⟨_,rfl⟩,q⟩
theorem kl{g:Int->Int->Bool}(rule:∀ (i j:Int) (t u:Tok) (s:Shared) (Q:Value->Shared->Prop) (E:Value->Shared->Prop),Q (.bool<|g i j) s->wpAny (model X.prog X.w) X.A (f (.int i t)<|.int j u) Q E s):
  Ck X f (Gy fun i j=>.bl<|g i j):=by
 intro pins s σ H x y v u Q I rx ry h;obtain⟨i,j,rfl,rfl,q⟩:=h;obtain⟨t,rfl⟩:=rx;obtain⟨t',rfl⟩:=ry;exact rule i j t t' s _ _ ⟨.bl<|g i j,H,I,rfl,q⟩
def uh(i j:Int):Prop:=0<j/\j<1073741824
def ui(i j:Int):Prop:=0<=j/\j<=1000000/\i.natAbs<2 ^ 64
theorem uj:Ck X (binaryOp .Add) (Gy fun i j=>.int<|i+j):=ng fun _ _ _ _ _ _ _ q=>add_int q
theorem uk:Ck X (binaryOp .Sub) (Gy fun i j=>.int<|i - j):=ng fun _ _ _ _ _ _ _ q=>sub_int q
theorem ul:Ck X (binaryOp .FloorDiv) (rI uh fun i j=>.int<|i / j):=JW fun i j _ _ _ _ _ hc q=>by
 have h1:(0:Int)<j:=hc.1;have h2:j<1073741824:=hc.2;exact floordiv_int (by lia) (by rw[Int.fdiv_eq_ediv_of_nonneg i (by lia)];exact q) (.inl (PyProof.noPylong_small (by lia)))
theorem um:Ck X (binaryOp .Mod) (rI (fun _ j=>0<j) fun i j=>.int<|i % j):=JW fun i j _ _ _ _ _ hc q=>by
 have h1:(0:Int)<j:=hc;exact mod_int' (by lia) (by rw[Int.fmod_eq_emod_of_nonneg i (by lia)];exact q)
theorem uo:Ck X (binaryOp .Pow) (rI ui fun i j=>.int<|i ^ j.toNat):=JW fun _ _ _ _ _ _ _ hc q=>pow_int_small hc.1 hc.2.1 hc.2.2 q
theorem Nm{f:Value->Sem Value}{g:Int->Int}(rule:∀ (i:Int) (t:Tok) (s:Shared) (Q:Value->Shared->Prop) (E:Value->Shared->Prop),Q (.int (g i) s.toks) { s with toks:=s.toks+1 }->wpAny (model X.prog X.w) X.A (f<|.int i t) Q E s):
  KJ X f (rU fun i=>.int<|g i):=by
 intro pins s σ H x v Q I rx h;obtain⟨i,rfl,q⟩:=h;obtain⟨t,rfl⟩:=rx;exact rule i t s _ _ ⟨.int<|g i,H,I.tok _,⟨_,rfl⟩,q⟩
theorem uq:KJ X (unaryOp .USub) (rU fun i=>.int<|-i):=Nm fun _ _ _ _ _ q=>neg_int q
end
section
variable{X:Cx}{a b c:Expr}{ta tb tc:TE}{pos:Pos}
theorem ur{Q:VK}{k k':Bool}(I:Inv X pins σ H s)(q:Q (.bl k) H)(e:k=k'):EP X pins σ Q (.bool k') s:=by
 subst e;exact⟨.bl k,H,I,rfl,q⟩
theorem ut:Ck X (compareOp .Lt) (Gy fun i j=>.bl<|decide (i<j)):=kl fun _ _ _ _ _ _ _ q=>lt_int q
theorem uu:Ck X (compareOp .Gt) (Gy fun i j=>.bl<|decide (j<i)):=kl fun _ _ _ _ _ _ _ q=>gt_int q
theorem uw:Ck X (compareOp .GtE) (Gy fun i j=>.bl<|decide (j<=i)):=kl fun _ _ _ _ _ _ _ q=>ge_int q
theorem ux:Ck X (compareOp .Is) (fun x y H Q=>y=.j_/\Q (.bl<|decide (x=.j_)) H):=by
 intro pins s σ H x y v u Q I rx ry h;obtain⟨rfl,q⟩:=h;cases ry;refine is_none_gen (ur I q ?_);cases x<;>first
  | (cases rx;rfl)
  | (obtain⟨t,rfl⟩:=rx;rfl)
theorem Ck.or{r':R2}(h:Ck X f r)(h':Ck X f r'):Ck X f (fun x y H Q=>r x y H Q\/r' x y H Q):=by
 intro pins s σ H x y v u Q I rx ry q;rcases q with q | q
 ·exact h pins s σ H x y v u Q I rx ry q
 ·exact h' pins s σ H x y v u Q I rx ry q
theorem bF(b:Expr){op:CmpOp}(h:op≠.In:=by decide)(h2:op≠.NotIn:=by decide):behindInMarks op b=false:=by
 have e1:(op == CmpOp.In)=false:=by cases op<;>first | rfl | exact absurd rfl h
 have e2:(op == CmpOp.NotIn)=false:=by cases op<;>first | rfl | exact absurd rfl h2
 cases b<;>simp[behindInMarks,e1,e2]
theorem uy(ho:Ck X (compareOp op) r)(ha:PE X a ta)(hb:PE X b tb)(hm:behindInMarks op b=false):PE X (.Compare a [op] [b] pos) (JV r ta tb):=by
 intro pins s σ H Q I h;exact wpAny_Compare1 (kj ha hb I h fun v u s2 x y H2 I2 rx ry q=>ho pins s2 σ H2 x y v u Q I2 rx ry q) hm
def uz(t:TE):TT:=fun σ H Q=>t σ H fun x H'=>∃ k,x=.bl k/\Q k H'
theorem uA(ho:Ck X (compareOp op) r)(ha:PE X a ta)(hb:PE X b tb)(hm:behindInMarks op b=false):PT X (.Compare a [op] [b] pos) (uz<|JV r ta tb):=by
 intro pins s σ H Q I h;refine wpAny_isTrue_Compare1 (A_ (ha pins s σ H _ I h) fun v s1 ⟨x,H1,I1,r1,q1⟩=>A_ (hb pins s1 σ H1 _ I1 q1) fun u s2 ⟨y,H2,I2,r2,q2⟩=>
  A_ (ho pins s2 σ H2 x y v u _ I2 r1 r2 q2) fun c s3 ⟨z,H3,I3,r3,k,e,q3⟩=>?_) hm;subst e;cases r3;exact YH ⟨H3,I3,q3⟩
def km(K:PySem.W.Frag)(x:V)(H:Hp)(k:Bool):Prop:=
 match x with
 | .j_=>k=false
 | .bl b=>k=b
 | .int i=>k=(i != 0)
 | .str y=>y.length<=sizeLine/\k=((y.length:Int) != 0)
 | .Id y=>y.size<=sizeLine/\k=((y.size:Int) != 0)
 | .ref p=>(∃ xs,BY K H p xs/\k=!xs.isEmpty)\/(∃ xs,BG K H p xs/\k=!xs.isEmpty)\/∃ kvs,H p=some (.dK kvs)/\k=!kvs.isEmpty
 | _=>False
theorem uB{κ:Type}{kvs:List (κ×V)}{vs:List (κ×Value)}(r:KV kvs vs):(!vs.isEmpty)=!kvs.isEmpty:=by
 cases r<;>rfl
theorem nh{xs:List V}{f':List Value}(r:ay xs f'):(!f'.toArray.isEmpty)=!xs.isEmpty:=by
 cases r<;>simp
theorem fN:(sizeLine:Nat)<2 ^ 63:=by rw[sizeLine_eq];decide
theorem uD:ue X (fun x H Q=>∃ k,km X.K x H k/\Q k H):=by
 intro pins s σ H x v Q I rx h;obtain⟨k,e,q⟩:=h;have hl:=fN;have hs:sizeLine=16777216:=sizeLine_eq;cases x with
 | j_=>
  cases rx;have e':k=false:=e;subst e';exact truthy_none ⟨H,I,q⟩
 | bl b=>
  cases rx;have e':k=b:=e;subst e';exact YH ⟨H,I,q⟩
 | int i=>
  obtain⟨t,rfl⟩:=rx;have e':k=(i != 0):=e;subst e';exact PySem.P.truthy_int ⟨H,I,q⟩
 | str y=>
  obtain⟨t,rfl⟩:=rx;obtain⟨hy,e'⟩:y.length<=sizeLine/\k=((y.length:Int) != 0):=e;subst e';exact PySem.P.truthy_str (by lia) ⟨H,I.tok _,q⟩
 | Id y=>
  obtain⟨t,rfl⟩:=rx;obtain⟨hy,e'⟩:y.size<=sizeLine/\k=((y.size:Int) != 0):=e;subst e';exact PySem.W.truthy_bytes (by lia) ⟨H,I.tok _,q⟩
 | ref p=>
  cases rx;have e':(∃ xs,BY X.K H p xs/\k=!xs.isEmpty)\/(∃ xs,BG X.K H p xs/\k=!xs.isEmpty)\/∃ kvs,H p=some (.dK kvs)/\k=!kvs.isEmpty:=e;rcases e' with ⟨xs,hx,e'⟩ | ⟨xs,hx,e'⟩ | ⟨kvs,hx,e'⟩
  ·subst e';obtain⟨f',r,pl,hz⟩:=I.list hx;have hlen:=r.length;exact wpAny_truthy_list pl.isList (by simp only[ZU];lia) ⟨H,I.tok _,by rw[nh r];exact q⟩
  ·subst e';obtain⟨f',r,pl,hz⟩:=I.tuple hx;have hlen:=r.length;exact truthy_tuple pl (by simp only[ZU];lia) ⟨H,I.tok _,by rw[nh r];exact q⟩
  ·subst e';obtain⟨hz,hS,vs,r,m⟩:kvs.length<=sizeLine/\(p == sysModules)=false/\∃ vs,KV kvs vs/\s.heap.DictOf (d6 X.prog X.w) p vs:=I.l_ p _ hx;have hlen:kvs.length=vs.length:=Yq r;exact wpAny_truthy_dict hS m (by lia) ⟨H,I.tok _,by rw[uB r];exact q⟩
 | _=>exact (show False from e).elim
theorem uE(ha:PE X a ta)(he:∀ whole,isTrue a X.env whole=(do let v <- whole;standAt a.pos;holding [v] (truthy v))):
  PT X a (fun σ H Q=>ta σ H fun x H'=>∃ k,km X.K x H' k/\Q k H'):=by
 intro pins s σ H Q I h;exact isTrue_plain (A_ (ha pins s σ H _ I h) fun v s1 ⟨x,H1,I1,r1,q1⟩=>uD pins s1 σ H1 x v Q I1 r1 q1) (he _)
theorem uF:Ck X (binaryOp .Add) (fun x y H Q=>∃ i j,x=.str i/\y=.str j/\i.length+j.length<=sizeLine/\Q (.str<|i++j) H):=by
 intro pins s σ H x y v u Q I rx ry h;obtain⟨i,j,rfl,rfl,hz,q⟩:=h;obtain⟨t,rfl⟩:=rx;obtain⟨t',rfl⟩:=ry;exact add_str (fun t' tk=>⟨.str<|i++j,H,I.tok _,⟨_,rfl⟩,q⟩) hz
theorem cy{x:V}(r:ay [x] us):∃ u,us=[u]/\av x u:=by
 cases r with
 | cons r1 r2=>cases r2;exact⟨_,rfl,r1⟩
theorem kn{x y:V}(r:ay [x,y] us):∃ u w',us=[u,w']/\av x u/\av y w':=by
 cases r with
 | cons r1 r2=>
  cases r2 with
  | cons r3 r4=>cases r4;exact⟨_,_,rfl,r1,r3⟩
theorem uG:aX X (.builtin "abs") (fun xs H Q=>∃ i,xs=[.int i]/\Q (.int<|if i<0 then -i else i) H):=by
 intro pins s σ H xs us Q I r h;obtain⟨i,rfl,q⟩:=h;obtain⟨u,rfl,t,rfl⟩:=cy r;exact call_abs_int fun u tk=>⟨.int<|if i<0 then -i else i,H,I.tok _,⟨_,rfl⟩,q⟩
theorem uH(hc:X.calm=true):aX X (.builtin "max") (fun xs H Q=>∃ i j,xs=[.int i,.int j]/\Q (.int<|if j > i then j else i) H):=by
 intro pins s σ H xs us Q I r h;obtain⟨i,j,rfl,q⟩:=h;obtain⟨u,w',rfl,⟨t,rfl⟩,⟨t',rfl⟩⟩:=kn r;refine max_two_ints (I.ok.hd hc) fun h' tk k=>⟨_,H,I.kept k,?_,q⟩;by_cases hj:j > i
 ·rw[Z0 hj,Z0 hj];exact⟨_,rfl⟩
 ·rw[ZX hj,ZX hj];exact⟨_,rfl⟩
theorem uI(hc:X.calm=true):aX X (.builtin "min") (fun xs H Q=>∃ i j,xs=[.int i,.int j]/\Q (.int<|if j<i then j else i) H):=by
 intro pins s σ H xs us Q I r h;obtain⟨i,j,rfl,q⟩:=h;obtain⟨u,w',rfl,⟨t,rfl⟩,⟨t',rfl⟩⟩:=kn r;refine min_two_ints (I.ok.hd hc) fun h' tk k=>⟨_,H,I.kept k,?_,q⟩;by_cases hj:j<i
 ·rw[Z0 hj,Z0 hj];exact⟨_,rfl⟩
 ·rw[ZX hj,ZX hj];exact⟨_,rfl⟩
theorem uJ:aX X (.type "int") (fun xs H Q=>(∃ i,xs=[.int i]/\Q (.int i) H)\/∃ k,xs=[.bl k]/\Q (.int<|if k then 1 else 0) H):=by
 intro pins s σ H xs us Q I r h;rcases h with ⟨i,rfl,q⟩ | ⟨k,rfl,q⟩
 ·obtain⟨u,rfl,t,rfl⟩:=cy r;exact call_int_int ⟨.int i,H,I,⟨_,rfl⟩,q⟩
 ·obtain⟨u,rfl,r1⟩:=cy r;cases r1;exact call_int_bool ⟨.int<|if k then 1 else 0,H,I.tok _,⟨_,rfl⟩,q⟩
end
section
variable{prog:Program}{w:World}{A:Around}{E:Value->Shared->Prop}{s:Shared}{K:PySem.W.Frag}{x dx C f:Addr}{mA:Str->Option Value}{name:Str}{v:Value}
end
theorem du.some_of{o:Option Value}(r:du (some v) o):∃ u,o=some u/\av v u:=by
 cases o with
 | none=>exact (show False from r).elim
 | some u=>exact⟨u,rfl,r⟩
section
variable{P:Program}{w:World}{H H':Hp}{h h':Heap}{a C dx:Addr}{fs Kw:List (Str×V)}
end
section
variable{X:Cx}{pins:List (Addr×Obj)}{σ:St}{H:Hp}{s:Shared}{a C dx:Addr}{fs:List (Str×V)}{f:Str}{v:V}{A:Around}{E:Value->Shared->Prop}
end
section
variable{X:Cx}{o e value:Expr}{f:Str}{pos pos' KK:Pos}{ta tv:TE}
end
section
variable{X:Cx}{pins:List (Addr×Obj)}{σ:St}{H:Hp}{s:Shared}{A:Around}{E:Value->Shared->Prop}{Q:Value->Shared->Prop}{c:Value}{b:Bool}
end
structure z_(k:Nat)(A:Around):Prop where
 hd:A.handled=none
 dp:A.depth+3 * k+5<recursionLimit
 un:A.units+16 * k+200<cLine
 gd:A.guards=some []
theorem z_.mono(r:z_ k A)(h:j<=k):z_ j A:=⟨r.hd,by have:=r.dp;lia,by have:=r.un;lia,r.gd⟩
theorem z_.deeper(r:z_ (k+1) A)(env:Env):z_ k (A.deeper env):=
 ⟨r.hd,by have:=r.dp;show A.depth+1+3 * k+5 < _;lia,by have:=r.un;show A.units+3+16 * k+200 < _;lia,r.gd⟩
theorem z_.depth(r:z_ k A):A.depth<recursionLimit:=by have:=r.dp;lia
def KL:TA:=fun _ H Q=>Q [] H
def uK(ta:TE)(tr:TA):TA:=fun σ H Q=>ta σ H fun x H1=>tr σ H1 fun xs H2=>Q (x::xs) H2
section
variable{X:Cx}{e:Expr}{es:List Expr}{te:TE}{t:TA}{pos:Pos}
theorem gK:PA X [] KL:=fun _ _ _ _ H Q I h=>Calls.spliced_nil ⟨[],H,I,.nil,h⟩
theorem dv(ha:PE X e te)(hr:PA X es t)(hs:starEach (e::es) X.env=(false,eval e X.env)::starEach es X.env:=by rfl):PA X (e::es) (uK te t):=by
 intro pos pins s σ H Q I h;rw[hs];show wpAny _ _ (spliced ((false,eval e X.env)::backTo pos (starEach es X.env))) _ _ s;refine Calls.spliced_cons (A_ (ha pins s σ H _ I h) fun u s1 ⟨x,H1,I1,r1,q1⟩=>?_);exact A_ (hr pos pins s1 σ H1 _ I1 q1) fun us s2 ⟨xs,H2,I2,r2,q2⟩=>⟨x::xs,H2,I2,.cons r1 r2,q2⟩
def uL(t:TA):TE:=fun σ H Q=>t σ H fun xs H1=>xs.length<=sizeLine/\∀ p,H1 p=none->Q (.ref p) (upd H1 p<|.tup xs)
def uM(t:TA):TE:=fun σ H Q=>t σ H fun xs H1=>xs.length<=sizeLine/\∀ p,H1 p=none->Q (.ref p) (upd H1 p<|.lst xs)
theorem ni{x1}(h:PA X es t):PE X (.Tuple es x1 pos) (uL t):=by
 intro pins s σ H Q I hq;refine wpAny_Tuple_spliced (A_ (h pos pins s σ H _ I hq) fun us s1 ⟨xs,H1,I1,r,z,q⟩=>⟨by rw[<- r.length];exact z,?_⟩);have hf:H1 s1.heap.objs.size=none:=I1.l_.fresh (ZR _);refine⟨.ref s1.heap.objs.size,upd H1 s1.heap.objs.size<|.tup xs,I1.laid (t':=s1.toks) (fun b u e=>Z3 _ e) (ZR _) ?_,rfl,q _ hf⟩;exact⟨z,us,r,⟨_,ZF _ rfl,rfl,_,rfl⟩⟩
theorem uN(h:PA X es t):PE X (.List es pos) (uM t):=by
 intro pins s σ H Q I hq;refine wpAny_List_spliced (A_ (h pos pins s σ H _ I hq) fun us s1 ⟨xs,H1,I1,r,z,q⟩=>⟨by rw[<- r.length];exact z,?_⟩);have hf:H1 s1.heap.objs.size=none:=I1.l_.fresh (ZR _);refine⟨.ref s1.heap.objs.size,upd H1 s1.heap.objs.size<|.lst xs,I1.laid (t':=s1.toks) (fun b u e=>Z3 _ e) (ZR _) ?_,rfl,q _ hf⟩;exact⟨z,us,0,r,ZF _ rfl⟩
end
abbrev Sp:=List V->Hp->VK->XK->Prop
abbrev Ff:=List Env->Hp->Shared->XK->Value->Shared->Prop
variable{CX:Ff}
structure ER(P:Program)(w:World)(K:PySem.W.Frag)(mg:Str->Option Value)(base:Heap)(A:Around)(outer:List Env)(s:Shared)(H:Hp):Prop where
 frames:A.frames=some outer
 mod:Mod K mg base
 bs:∀ b o,base.get? b=some o->s.heap.get? b=some o/\H b=none
 Em:base.objs.size<=s.heap.objs.size
 BQ:s.heap.FunFrames base outer
 EN:∀ b∈BS outer,H b=none
 l_:BX P w H s.heap
 bare:AllBare s.gens
def CE(outer:List Env)(P:Program)(w:World)(H:Hp)(s:Shared)(Q:VK)(u:Value)(s':Shared):Prop:=
 ∃ v H',s'.os=s.os/\AllBare s'.gens/\Un (BS outer) [] H H' s.heap s'.heap/\BX P w H' s'.heap/\av v u/\Q v H'
def CR(CX:Ff)(outer:List Env)(P:Program)(w:World)(H:Hp)(s:Shared)(Q:VK)(E:XK)(r:Result)(s':Shared):Prop:=
 match r with
 | .ok (.ret u)=>CE outer P w H s Q u s'
 | .ok _=>False
 | .error e=>CX outer H s E e s'
structure B6(P:Program)(w:World)(K:PySem.W.Frag)(mg:Str->Option Value)(base:Heap)(CX:Ff)(k:Nat)(f:Addr)(fd:FuncData)(ps:List Str)(sp:Sp):Prop where
 len:∀ vs H Q E,sp vs H Q E->vs.length=ps.length
 run:∀ (A:Around) (outer:List Env) (s:Shared) (H:Hp) (args:Args) (us:List Value) (vs:List V) (Q:VK) (E:XK),z_ k A->ER P w K mg base A outer s H->BindsTo s fd args (ps.zip us)->ay vs us->sp vs H Q E->
  codeAny (model P w) A (.call (.ref f) args) (CR CX outer P w H s Q E) s
section
variable{X:Cx}{pins:List (Addr×Obj)}{σ:St}{H:Hp}{s s':Shared}
theorem Inv.Hb(I:Inv X pins σ H s):ER X.prog X.w X.K X.mg X.base X.A X.stack s H:=
 ⟨I.ok.frames,I.ok.mod,I.bs,Zo I.ok.Em I.sz,I.stack,I.Cu,I.l_,I.bare⟩
theorem Inv.after{Q:VK}(I:Inv X pins σ H s)(h:CE X.stack X.prog X.w H s Q u s'):EP X pins σ Q u s':=by
 obtain⟨v,H',os,bare,un,l_,r,q⟩:=h;obtain⟨hh,g,d,t,Iu⟩:=s';obtain rfl:Iu=s.os:=os;exact⟨v,H',I.call (h':=hh) (g':=g) (d':=d) (t':=t) (ch:=[]) un l_ bare (fun b z=>absurd z (by simp)),r,q⟩
end
def ko(sp:Sp)(Gz:List V)(E:XK)(t:TA):TE:=fun σ H Q=>t σ H fun vs H1=>sp (vs++Gz) H1 Q E
def cf(K:PySem.W.Frag)(fd:FuncData)(ps:List Str)(ds:List Value):Prop:=
 ∀ (s:Shared) (us:List Value),K.In s.heap->(us++ds).length=ps.length->BindsTo s fd ⟨us,[]⟩ (ps.zip<|us++ds)
theorem cf.all{fd:FuncData}(h:∀ us:List Value,us.length=ps.length->bindArgs fd ⟨us,[]⟩=pure (ps.zip us)):cf K fd ps []:=fun s us _ hl=>by
 rw[ZZ] at hl ⊢;exact .of_eq (h us hl)
def kq(CX:Ff)(X:Cx)(E:XK):Prop:=∀ (pins:List (Addr×Obj)) (σ:St) (H:Hp) (s:Shared) (e:Value) (s':Shared),Inv X pins σ H s->CX X.stack H s E e s'->X.xe e s'
section
variable{X:Cx}{CX:Ff}{k:Nat}{f C:Addr}{fd:FuncData}{ps:List Str}{sp:Sp}{Gz:List V}{ds:List Value}{E:XK}{x m:Str}{p pos apos:Pos}{e o:Expr}{es:List Expr}{ta:TE}{t:TA}
theorem uO{Q:VK}(F:B6 X.prog X.w X.K X.mg X.base CX k f fd ps sp)(hr:z_ k X.A)(hb:cf X.K fd ps ds)(hd:ay Gz ds)(hx:kq CX X E)(I:Inv X pins σ H s)(r:ay vs us)(h:sp (vs++Gz) H Q E):wpAny (model X.prog X.w) X.A (call (.ref f) us) (EP X pins σ Q) X.xe s:=by
 have r2:ay (vs++Gz) (us++ds):=r.append hd;have hl:(us++ds).length=ps.length:=by rw[<- r2.length];exact F.len _ _ _ _ h
 refine wpAny_call (W6 (F.run X.A X.stack s H ⟨us,[]⟩ (us++ds) (vs++Gz) Q E hr I.Hb (hb s us I.EO hl) r2 h) fun r s' hq=>?_);cases r with
 | error e=>exact hx pins σ H s e s' I hq
 | ok fl=>
  cases fl with
  | ret u=>exact I.after hq
  | next=>exact False.elim hq
  | brk=>exact False.elim hq
  | cont=>exact False.elim hq
theorem uP(F:B6 X.prog X.w X.K X.mg X.base CX k f fd ps sp)(hr:z_ k X.A)(hg:Gl X x)(hm:X.mg x=some (.ref f))(hk:PySem.W.keepIn X.K (.ref f)=true)(hb:cf X.K fd ps ds)(hd:ay Gz ds)(hx:kq CX X E)(ha:PA X (e::es) t)(DJ:(x == ("__debug__" : Str))=false:=by decide)(he:starEach (e::es) X.env=(false,eval e X.env)::starEach es X.env:=by rfl)(CP:(backTo pos<|starEach es X.env).any (·.1)=false:=by rfl):
  PE X (.Call (.Name x p) (e::es) [] pos) (ko sp Gz E t):=by
 intro pins s σ H Q I h;refine Yg (gH I hg hm ?_ DJ);refine W3 (h₀:=X.base) I.ok.mod.G7 hk (A_ (ha pos pins s σ H _ I h) fun us s1 ⟨vs,H1,I1,r,q⟩=>⟨I1.EO,?_⟩) he CP;exact uO F hr hb hd hx I1 r q
end
section
variable{X:Cx}{CX:Ff}{k:Nat}{f C:Addr}{fd:FuncData}{ps ks:List Str}{sp:Sp}{E:XK}{x m:Str}{p pos apos Nn:Pos}{e o:Expr}{es:List Expr}{B7:List Keyword}{te ta:TE}{t tk:TA}{nm:Option Str}
variable{g:List Value->List Value->List Value}{gV:List V->List V->List V}
end
structure k_(N P:List Str)(sc:Scope):Prop where
 kind:sc.kind=.function
 co:sc.isCoroutine=false
 gen:sc.isGenerator=false
 nd:N.Nodup
 pre:N.take P.length=P
 par:∀ x∈P,sc.names.lookup x=some .local\/sc.names.lookup x=some .cell
 Hc:∀ y∈sc.names,y.2≠.free
theorem nj{kindOf:Str->Option NameKind}{x:Str}:∀ {binds:List (Str×Value)}{m:Str->Option Value},(∀ v,(x,v)∉binds)->bindL kindOf binds m x=m x
 | [],_,_=>rfl
 | (n,v)::r,m,h=>by
  unfold bindL;rw[nj fun w hw=>h w<|Zi _ hw];split
  ·have:x≠n:=by rintro rfl;exact h v Y8
   simp[this]
  ·rfl
theorem nk{kindOf:Str->Option NameKind}{x:Str}:∀ {binds:List (Str×Value)}{m:Str->Option Value},(∀ v,(x,v)∉binds)->bindC kindOf binds m x=m x
 | [],_,_=>rfl
 | (n,v)::r,m,h=>by
  unfold bindC;rw[nk fun w hw=>h w<|Zi _ hw];split
  ·rfl
  ·have:x≠n:=by rintro rfl;exact h v Y8
   simp[this]
theorem no{kindOf:Str->Option NameKind}{x:Str}{v:Value}:∀ {P:List Str}{vs:List Value}{i:Nat}{m:Str->Option Value},P.Nodup->P[i]?=some x->vs[i]?=some v->kindOf x=some .local->
  bindL kindOf (P.zip vs) m x=some v
 | [],_,_,_,_,h,_,_=>by simp at h
 | _::_,[],_,_,_,_,h,_=>by simp at h
 | p::P,w::vs,0,m,nd,h1,h2,hk=>by
  simp at h1 h2;subst h1;subst h2;show bindL kindOf ((p,w)::P.zip vs) m p=_;unfold bindL;rw[nj fun v hv=>(Y0.mp nd).1 (Xf hv).1,Z0 hk];simp
 | p::P,w::vs,i+1,m,nd,h1,h2,hk=>by
  show bindL kindOf ((p,w)::P.zip vs) m x=_;unfold bindL;exact no (i:=i) (Y0.mp nd).2 (by simpa using h1) (by simpa using h2) hk
theorem nq{kindOf:Str->Option NameKind}{x:Str}{v:Value}:∀ {P:List Str}{vs:List Value}{i:Nat}{m:Str->Option Value},P.Nodup->P[i]?=some x->vs[i]?=some v->kindOf x≠some .local->
  bindC kindOf (P.zip vs) m x=some v
 | [],_,_,_,_,h,_,_=>by simp at h
 | _::_,[],_,_,_,_,h,_=>by simp at h
 | p::P,w::vs,0,m,nd,h1,h2,hk=>by
  simp at h1 h2;subst h1;subst h2;show bindC kindOf ((p,w)::P.zip vs) m p=_;unfold bindC;rw[nk fun v hv=>(Y0.mp nd).1 (Xf hv).1,ZX hk];simp
 | p::P,w::vs,i+1,m,nd,h1,h2,hk=>by
  show bindC kindOf ((p,w)::P.zip vs) m x=_;unfold bindC;exact nq (i:=i) (Y0.mp nd).2 (by simpa using h1) (by simpa using h2) hk
def bW(N:List Str)(vs:List V):St:=vs.map some++replicate (N.length - vs.length) none
def bX(CX:Ff)(P:Program)(w:World)(K:PySem.W.Frag)(mg:Str->Option Value)(base:Heap)(N:List Str)(qual:Str)(scope:Scope)(f:Addr)(cd:Value)(A:Around)(outer:List Env)(s:Shared)(H:Hp)(E:XK):Cx where
 prog:=P
 w:=w
 K:=K
 mg:=mg
 base:=base
 A:=A.deeper (envOfC qual scope s.heap.objs.size f cd)
 N:=N
 s₀:=s
 H₀:=H
 env:=envOfC qual scope s.heap.objs.size f cd
 outer:=outer
 stack:=envOfC qual scope s.heap.objs.size f cd::outer
 ex:=[]
 calm:=true
 fn:=fun _=>true
 pn:=[]
 xe:=fun e s'=>wpAny (model P w) (A.deeper<|envOfC qual scope s.heap.objs.size f cd) (leaving (envOfC qual scope s.heap.objs.size f cd) e) (fun _ KM=>CX outer H s E e KM) (fun e' KM=>CX outer H s E e' KM) s'
theorem nr{sc:Scope}(h:sc.names.lookup x=some .cell):∃ c,(cellsFrom n sc.names []).lookup x=some c:=by
 have q:=XR sc.names n [] (.inl h);exact WO.mp q
theorem nt{f:Addr}{cd:Value}{outer:List Env}{s1:Shared}{E:XK}(S:k_ N ps scope)(hd:A.handled=none)(e0:ER P w K mg base A outer s H)(hl:vs.length=ps.length)(r:ay vs us)(x:InCallC s s.heap.objs.size (bindL (envOfC qual scope s.heap.objs.size f cd).kindOf (ps.zip us) fun _=>none) (cellsFrom (s.heap.objs.size+1) scope.names []) (bindC (envOfC qual scope s.heap.objs.size f cd).kindOf (ps.zip us) fun _=>none) s1):
  Inv (bX CX P w K mg base N qual scope f cd A outer s H E) [] (bW N vs) H s1:=by
 have CP:ps.length<=N.length:=by have:=congrArg List.length S.pre;rw[Zg] at this;lia
 obtain⟨h1,tk,rfl,hk⟩:=x.done;have Iv:∀ b:Addr,b∉(bX CX P w K mg base N qual scope f cd A outer s H E).ex:=fun b z=>absurd (show b∈([]:List Addr) from z) (by simp);refine⟨⟨e0.mod,S.kind,rfl,rfl,ZR _,fun y z c h1 h2=>?_,fun y hy=>?_,fun y c _ h=>?_,fun _=>hd,Around.frames_deeper e0.frames,.inr ⟨rfl,rfl⟩,fun b z=>absurd z<|Iv b,e0.bs,e0.Em,fun b _ _=>Iv b,fun b z=>absurd z<|Iv b,e0.BQ,e0.EN⟩,
  rfl,e0.bare,Un.kept hk,⟨_,x.toInCall.ns,fun i y v h1 h2 h3=>?_⟩,fun y c h=>⟨_,x.cell y c h⟩,e0.l_.fresh<|ZR _,fun y c h=>?_,fun p hp=>absurd (show p∈([]:List (Addr×Obj)) from hp) (by simp),e0.l_.kept hk,?_⟩
 ·exact name_of_addr x.apart (Ym h1) (Ym h2)
 ·have hy:scope.names.lookup y=some .cell\/scope.names.lookup y=some .free:=hy;rcases hy with hy | hy
  ·exact nr hy
  ·exact absurd rfl (S.Hc _<|Ym hy)
 ·exact WB (x.above y c<|Ym h)
 ·have hi:i<vs.length:=by
   unfold bW at h2;by_cases hi:i<vs.length
   ·exact hi
   ·rw[Y6 (by simpa using hi)] at h2;rw[List.getElem?_replicate] at h2;split at h2<;>cases h2
  have ha:vs[i]?=some v:=by
   unfold bW at h2;rw[Ze (by simpa using hi),Zr] at h2;cases e:vs[i]? with
   | none=>rw[e] at h2;cases h2
   | some a=>rw[e] at h2;cases h2;rfl
  obtain⟨u,hu,rv⟩:=r.get ha;have hp:ps[i]?=some y:=by
   rw[<- S.pre,List.getElem?_take_of_lt (by lia)];exact h1
  have Mw:ps.Nodup:=by rw[<- S.pre];exact S.nd.sublist (XQ _ _)
  refine⟨u,rv,?_⟩;rcases S.par y (YM hp) with k | k
  ·exact .inl ⟨k,no Mw hp hu k⟩
  ·obtain⟨c,e⟩:=nr (n:=s.heap.objs.size+1) k;refine .inr ⟨.inl k,c,e,?_⟩;have q:=x.cell y c e;rw[nq Mw hp hu (by show scope.names.lookup y≠_;rw[k];decide)] at q;exact q
 ·exact e0.l_.fresh (WB<|x.above y c<|Ym h)
 ·unfold bW;show _=N.length;rw[ZG,ZY,List.length_replicate];lia
theorem nu{f:Addr}{name:Str}{params:Arguments}{dV kV doc pm q_ ct oc:Value}{an od:Option Addr}{EH:Array (Option Value)}{sp:Sp}(lk:K.lookup f=some ⟨oc,od,.func<|PySem.W.fnOf name qual params body scope dV kV doc pm an q_ ct,EH⟩)(DY:PySem.W.codeIn K q_ qual=true)(S:k_ N ps scope)(len:∀ vs H Q E,sp vs H Q E->vs.length=ps.length)(Fg:∀ (A:Around) (outer:List Env) (s:Shared) (H:Hp) (vs:List V) (Q:VK) (E:XK),z_ k (A.deeper<|envOfC qual scope s.heap.objs.size f q_)->sp vs H Q E->
   ∃ t,DG (bX CX P w K mg base N qual scope f q_ A outer s H E) body t/\t { nx:=fun _ H'=>Q .j_ H',rt:=Q } (bW N vs) H):
  B6 P w K mg base CX (k+1) f (PySem.W.fnOf name qual params body scope dV kV doc pm an q_ ct) ps sp:=by
 refine⟨len,fun A outer s H args us vs Q E hr e0 hb r Fh=>?_⟩;have hl:=len _ _ _ _ Fh;have KX:K.In s.heap:=e0.mod.G7.keeps fun b o e=>(e0.bs b o e).1;have lim:s.heap.NoLimit:=e0.mod.nolimit.keeps fun b o e=>(e0.bs b o e).1;have r_:∀ y∈ps.zip us,scope.names.lookup y.1=some .local\/(scope.names.lookup y.1=some .cell/\((cellsFrom (s.heap.objs.size+1) scope.names []).lookup y.1).isSome=true):=fun ⟨n,v⟩ hy=>by
  rcases S.par n (Xf hy).1 with q | q
  ·exact .inl q
  ·exact .inr ⟨q,XR _ _ _<|.inl q⟩
 refine codeAny_call_function hr.depth (KX _ _ lk) rfl S.co S.gen rfl (PySem.W.codeRec_of KX DY) (hb _ _ _ _ ?_);refine wpAny_newFunctionEnv_cells S.kind r_ fun env he s1 x=>?_;subst he;refine⟨lim.keeps x.toInCall.keep,codeAny_func ?_⟩;obtain⟨t,ht,hq⟩:=Fg A outer s H vs Q E (hr.deeper _) Fh;have I:Inv (bX CX P w K mg base N qual scope f q_ A outer s H E) [] (bW N vs) H s1:=nt S hr.hd e0 hl r x;refine Zc (ht [] s1 (bW N vs) H _ I hq) (fun fl s' hs=>?_) fun e s' hs=>hs;have fin:∀ {σ':St}{H':Hp}{v:V}{u:Value},Inv (bX CX P w K mg base N qual scope f q_ A outer s H E) [] σ' H' s'->av v u->Q v H'->CE outer P w H s Q u s':=
  fun {σ' H' v u} J rv q=>⟨v,H',J.os,J.bare,J.base,J.l_,rv,q⟩;cases fl with
 | ret u=>
  obtain⟨v,σ',H',J,rv,q⟩:=hs;exact fin J rv q
 | next=>
  obtain⟨σ',H',J,q⟩:=hs;exact fin (v:=V.j_) (u:=Value.none) J rfl q
 | brk=>
  obtain⟨_,_,_,q⟩:=hs;exact False.elim q
 | cont=>
  obtain⟨_,_,_,q⟩:=hs;exact False.elim q
section
variable{X:Cx}{x:Str}{p pos:Pos}{e:Expr}{es:List Expr}{t:TA}{id T:String}{r:List V->Hp->VK->Prop}
def Mx(r:List V->Hp->VK->Prop)(t:TA):TE:=fun σ H Q=>t σ H fun vs H1=>r vs H1 Q
theorem iV(hc:aX X (.builtin id) r)(hg:Gl X x)(hm:X.mg x=none)(hv:bootBuiltins x=some (.builtin id))(ha:PA X (e::es) t)(hn:x ≠ "__name__" := by decide)(DJ:(x == ("__debug__" : Str))=false:=by decide)(he:starEach (e::es) X.env=(false,eval e X.env)::starEach es X.env:=by rfl)(CP:(backTo pos<|starEach es X.env).any (·.1)=false:=by rfl):PE X (.Call (.Name x p) (e::es) [] pos) (Mx r t):=by
 intro pins s σ H Q I h;refine Yg (gI I hg hm hv ?_ hn DJ);exact PyProof.Rows.callWith_builtin1 (A_ (ha pos pins s σ H _ I h) fun us s1 ⟨vs,H1,I1,r1,q1⟩=>hc pins s1 σ H1 vs us Q I1 r1 q1) he CP
theorem uQ(hc:aX X (.type T) r)(hg:Gl X x)(hm:X.mg x=none)(hv:bootBuiltins x=some (.type T))(ha:PA X (e::es) t)(hn:x ≠ "__name__" := by decide)(DJ:(x == ("__debug__" : Str))=false:=by decide)(he:starEach (e::es) X.env=(false,eval e X.env)::starEach es X.env:=by rfl)(CP:(backTo pos<|starEach es X.env).any (·.1)=false:=by rfl):PE X (.Call (.Name x p) (e::es) [] pos) (Mx r t):=by
 intro pins s σ H Q I h;refine Yg (gI I hg hm hv ?_ hn DJ);exact X8 (A_ (ha pos pins s σ H _ I h) fun us s1 ⟨vs,H1,I1,r1,q1⟩=>hc pins s1 σ H1 vs us Q I1 r1 q1) he CP
end
end L2
namespace HT
open PySem PyProof.Rows
theorem uR(A:Around)(s:Shared)(a:Int)(t:Tok)(c:Int)(u:Tok)(prog:Program)(w:World)(E:Value->Shared->Prop)(Q:Value->Shared->Prop)(h:Q (.bool<|decide (a<c)) s):
  wpAny (model prog w) A (richCompare .Lt (.int a t)<|.int c u) Q E s:=
 (PyProof.Rows.lt_int h:wpAny (model prog w) A (compareOp .Lt (.int a t)<|.int c u) Q E s)
section
open PySem.SeqAt
open PySem.AutoSeq1 (wpAny_loadPart')
open PySem.MeetsSeq PySem.MeetsSeq2 PySem.MeetsSeq3
end
section
variable{prog:Program}{w:World}{A:Around}{E:Value->Shared->Prop}{s:Shared}
theorem uS{t b:Addr}{vs ws:List Value}{Q:Value->Shared->Prop}(ht:IsTup s.heap t vs.toArray)(hb:IsTup s.heap b ws.toArray)(hv:vs≠[])(h1:ws=[]->Q (.ref t) s)(h2:ws≠[]->Q (.ref s.heap.objs.size) { s with heap:=s.heap.push { cls:=.type "tuple",data:=.seq (vs++ws).toArray } })(hsz:vs.length+ws.length<=sizeLine):wpAny (model prog w) A (binaryOp .Add (.ref t)<|.ref b) Q E s:=by
 obtain⟨⟨cls,dd,data,sl⟩,ho,hc,n,hd⟩:=id ht;obtain⟨⟨KN,GA,data2,HV⟩,He,Hf,n2,hd2⟩:=id hb;simp only at hc hd Hf hd2;subst hc hd Hf hd2;have e:vs.toArray++ws.toArray=(vs++ws).toArray:=by simp
 by_cases hw:ws=[]
 ·exact concat_meets ⟨_,ho,rfl⟩ ⟨_,He,rfl⟩ WI seq_tuple_add XO XU (X2 _ _)
   (tuple_addW1 t b vs.toArray ws.toArray n n2 dd GA sl HV (by simpa using hv) (by simp[hw])) ⟨ho,He,h1 hw⟩
 ·refine concat_meets ⟨_,ho,rfl⟩ ⟨_,He,rfl⟩ WI seq_tuple_add XO XU (X2 _ _)
   (tuple_addW2 t b vs.toArray ws.toArray n n2 dd GA sl HV (by simpa using hv) (by simpa using hw) (by rw[ZU,ZU];exact hsz)) ⟨ho,He,?_⟩;rw[e];exact h2 hw
end
end HT
namespace L2
open PySem PySem.Spec PyProof.Rows
variable{h':Heap}{Q:Value->Shared->Prop}{b a p:Addr}{H' H:Hp}{kvs:List (List Im×V)}{w:World}{P:Program}{o:Option V}{t' n:Nat}{its' f' us:List Value}{s:Shared}{σ:St}{pins:List (Addr×Obj)}{r:R2}{α:Type}{i:Int}{xs:List (List Im×Addr×Value)}
abbrev TO:=St->Hp->(Option Int->Hp->Prop)->Prop
section
variable{X:Cx}{e:Expr}{te:TE}{lo hi:Option Expr}{tl th:TO}{pos p2:Pos}
def uT(K:PySem.W.Frag):R2:=fun x y H Q=>∃ a b xs ys,x=.ref a/\y=.ref b/\BG K H a xs/\BG K H b ys/\xs≠[]/\xs.length+ys.length<=sizeLine/\
 (ys=[]->Q (.ref a) H)/\(ys≠[]->∀ p,H p=none->Q (.ref p) (upd H p<|.tup<|xs++ys))
theorem ay.CY{xs:List V}(r:ay xs us):us=[]↔xs=[]:=by
 cases r with
 | nil=>simp
 | cons _ _=>simp
theorem uU:Ck X (binaryOp .Add) (uT X.K):=by
 intro pins s σ H x y v u Q I rx ry h;obtain⟨a,b,xs,ys,rfl,rfl,ha,hb,hx,hz,q1,q2⟩:=h;cases rx;cases ry;obtain⟨f',r1,p1,_⟩:=I.tuple ha;obtain⟨Cl,r2,p2,_⟩:=I.tuple hb;refine HT.uS p1 p2 (fun z=>hx<|r1.CY.mp z) (fun z=>⟨.ref a,H,I,rfl,q1<|r2.CY.mp z⟩) (fun z=>?_) (by rw[<- r1.length,<- r2.length];exact hz);refine⟨.ref s.heap.objs.size,_,I.laid (t':=s.toks) (o:=.tup (xs++ys)) (fun b ob q=>Z3 _ q) (ZR _) ?_,rfl,q2 (fun w=>z<|r2.CY.mpr w) _<|I.l_.fresh<|ZR _⟩;exact⟨by rw[ZG];exact hz,_,r1.append r2,IsTup.new _ _⟩
end
def GB(n:Nat)(i:Int):Option Nat:=if 0<=i then (if i<n then some i.toNat else none) else if -(n:Int)<=i then some (i+n).toNat else none
def DK{α:Type}(xs:List α)(i:Int):Option α:=(GB xs.length i).bind fun j=>xs[j]?
theorem nz{j:Nat}(h:GB n i=some j):seqIndex? i n=some j/\j<n /\ -(n:Int)<=i/\i<n:=by
 unfold GB at h;by_cases h0:0<=i
 ·rw[Z0 h0] at h;by_cases h1:i<n
  ·rw[Z0 h1] at h;have e:i.toNat=j:=Zw h;exact⟨by rw[seqIndex_of h0 h1,e],by lia,by lia,h1⟩
  ·rw[ZX h1] at h;cases h
 ·rw[ZX h0] at h;by_cases h1 : -(n:Int)<=i
  ·rw[Z0 h1] at h;have e:(i+n).toNat=j:=Zw h;exact⟨by rw[seqIndex_neg (by lia) h1,e],by lia,h1,by lia⟩
  ·rw[ZX h1] at h;cases h
theorem nA{xs:List α}{v:α}(h:DK xs i=some v):∃ j,seqIndex? i xs.length=some j/\xs[j]?=some v/\j<xs.length /\ -(xs.length:Int)<=i/\i<xs.length:=by
 unfold DK at h;cases e:GB xs.length i with
 | none=>rw[e] at h;cases h
 | some j=>
  rw[e] at h;obtain⟨h1,h2,h3,h4⟩:=nz e;exact⟨j,h1,h,h2,h3,h4⟩
def ku(b:Expr):Prop:=∀ o i,subscripted b false o i=operate [o,i] (getItem o i)
def ES(X:Cx)(r:R2):Prop:=
 ∀ (value slice:Expr) (pins:List (Addr×Obj)) (s:Shared) (σ:St) (H:Hp) (x y:V) (v u:Value) (Q:VK),Inv X pins σ H s->av x v->av y u->r x y H Q->
  subscripted slice false v u=operate [v,u] (getItem v u)->wpAny (model X.prog X.w) X.A (subscriptTail value slice v u) (EP X pins σ Q) X.xe s
def Iw(X:Cx)(id:String)(r:V->List V->Hp->VK->Prop):Prop:=
 ∀ (pins:List (Addr×Obj)) (s:Shared) (σ:St) (H:Hp) (x:V) (xs:List V) (v:Value) (us:List Value) (Q:VK),Inv X pins σ H s->av x v->ay xs us->r x xs H Q->
  wpAny (model X.prog X.w) X.A (call (.builtin id) (v::us)) (EP X pins σ Q) X.xe s
section
variable{X:Cx}{a b:Expr}{ta tb:TE}{pos:Pos}
theorem ES.or{r':R2}(h:ES X r)(h':ES X r'):ES X (fun x y H Q=>r x y H Q\/r' x y H Q):=by
 intro value slice pins s σ H x y v u Q I rx ry q hs;rcases q with q | q
 ·exact h value slice pins s σ H x y v u Q I rx ry q hs
 ·exact h' value slice pins s σ H x y v u Q I rx ry q hs
theorem uV(hr:ES X r)(ha:PE X a ta)(hb:PE X b tb)(hs:ku b):PE X (.Subscript a b pos) (JV r ta tb):=by
 intro pins s σ H Q I h;exact Subscript_ (kj ha hb I h fun v u s2 x y H2 I2 rx ry q=>hr a b pins s2 σ H2 x y v u Q I2 rx ry q<|hs _ _)
def uW(K:PySem.W.Frag):R2:=fun x y H Q=>∃ p xs i v,x=.ref p/\y=.int i/\BY K H p xs/\DK xs i=some v/\Q v H
def uX(K:PySem.W.Frag):R2:=fun x y H Q=>∃ p xs i v,x=.ref p/\y=.int i/\BG K H p xs/\DK xs i=some v/\Q v H
theorem uY:ES X (uW X.K):=by
 intro value slice pins s σ H x y v u Q I rx ry h hs;obtain⟨p,xs,i,z,rfl,rfl,hq,he,q⟩:=h;cases rx;obtain⟨t,rfl⟩:=ry;obtain⟨f',r,pl,hz⟩:=I.list hq;obtain⟨j,h1,h2,h3,h4,h5⟩:=nA he;obtain⟨w,ew,Fe⟩:=r.get h2;have hl:=r.length;have hn:=fN;have fin:EP X pins σ Q w s:=⟨z,H,I,Fe,q⟩;by_cases h0:0<=i
 ·have hj:i.toNat=j:=by
   rw[seqIndex_of h0 h5] at h1;exact Zw h1
  exact item_listR pl.isList h0 (by lia) (by rw[hj];simpa using ew) fin hs
 ·have hj:(i+(f'.toArray.size:Int)).toNat=j:=by
   rw[seqIndex_neg (by lia) h4] at h1;rw[ZU,<- hl];exact Zw h1
  exact subscriptTail_builtinR (x:=w) pl.isList.typeIs slot_list_getitem.lookup
   (wpAny_getItem_list_neg (Q:=fun r s'=>r=w/\EP X pins σ Q r s') pl.isList (by lia) (by rw[ZU]<;>lia) (by lia) (by rw[hj];simpa using ew) ⟨rfl,fin⟩) hs
theorem uZ:ES X (uX X.K):=by
 intro value slice pins s σ H x y v u Q I rx ry h hs;obtain⟨p,xs,i,z,rfl,rfl,hq,he,q⟩:=h;cases rx;obtain⟨t,rfl⟩:=ry;obtain⟨f',r,pl,hz⟩:=I.tuple hq;obtain⟨j,h1,h2,h3,h4,h5⟩:=nA he;obtain⟨w,ew,Fe⟩:=r.get h2;have hl:=r.length;have hn:=fN;have fin:EP X pins σ Q w s:=⟨z,H,I,Fe,q⟩;exact subscriptTail_builtinR (x:=w) pl.typeIs slot_tuple_getitem.lookup
  (getItem_tuple (j:=j) (Q:=fun r s'=>r=w/\EP X pins σ Q r s') pl (by lia) (by lia) (by rw[ZU,<- hl];exact h1) (by simpa using ew) ⟨rfl,fin⟩) hs
theorem u0(f':List Value)(n j:Nat)(u:Value):Obj.mapSeq (·.setIfInBounds j u) { cls:=.type "list",data:=.seq f'.toArray n }={ cls:=.type "list",data:=.seq (f'.set j u).toArray n }:=by
 simp[Obj.mapSeq]
variable{xs:List V}
theorem Inv.lst(I:Inv X pins σ H s)(h:H p=some (.lst xs)):
  ∃ (f':List Value) (n:Nat),ay xs f'/\s.heap.get? p=some { cls:=.type "list",data:=.seq f'.toArray n }/\xs.length<=sizeLine:=by
 obtain⟨z,f',n,r,e⟩:=I.l_ p _ h;exact⟨f',n,r,e,z⟩
theorem Inv.Hg{ys:List V}{n':Nat}{f:Obj->Obj}(I:Inv X pins σ H s)(h:H p=some (.lst xs))(ho:s.heap.get? p=some { cls:=.type "list",data:=.seq f'.toArray n })(hf:f { cls:=.type "list",data:=.seq f'.toArray n }={ cls:=.type "list",data:=.seq its'.toArray n' })(r:ay ys its')(hz:ys.length<=sizeLine)(t:Nat):
  Inv X pins σ (upd H p<|.lst ys) { s with heap:=s.heap.update p f,toks:=t }:=by
 have e:(s.heap.update p f).get? p=some { cls:=.type "list",data:=.seq its'.toArray n' }:=by
  rw[Xy f ho (by rw[hf]<;>rfl),hf]
 refine I.write (x:=p) (e:=p) (by rw[h];trivial) (.inl rfl) (fun b u hb q=>(YC _ _<|Yw hb).trans q) ⟨_,e⟩ ?_;exact⟨hz,its',n',r,e⟩
def Ix:V->V->V->Hp->(Hp->Prop)->Prop:=fun o i v H Q=>∃ p xs k j,o=.ref p/\i=.int k/\H p=some (.lst xs)/\GB xs.length k=some j/\Q (upd H p<|.lst<|xs.set j v)
theorem u4:kf X Ix:=by
 intro pins s σ H o i v ov iv u Q I ro ri rv h;obtain⟨p,xs,k,j,rfl,rfl,hp,hj,q⟩:=h;cases ro;obtain⟨t,rfl⟩:=ri;obtain⟨f',n,r,ho,hz⟩:=I.lst hp;obtain⟨h1,h2,h3,h4⟩:=nz hj;have hl:=r.length;have hn:=fN;have I':Inv X pins σ (upd H p<|.lst<|xs.set j v) { s with heap:=s.heap.update p (Obj.mapSeq (·.setIfInBounds j u)) }:=
  I.Hg hp ho (u0 f' n j u) (r.set rv j) (by rw[XX];exact hz) s.toks;by_cases h0:0<=k
 ·have hk:k.toNat=j:=by
   rw[seqIndex_of h0 h4] at h1;exact Zw h1
  exact PySem.W.ki_setAt ho h0 (by lia) (by rw[ZU,<- hl];exact h4) (by rw[hk];exact⟨_,I',q⟩)
 ·have hk:(k+(f'.toArray.size:Int)).toNat=j:=by
   rw[seqIndex_neg (by lia) h3] at h1;rw[ZU,<- hl];exact Zw h1
  exact PySem.W.ki_setBack ho (by lia) (by rw[ZU,<- hl];exact h3) (by lia) (by rw[hk];exact⟨_,I',q⟩)
theorem u5:aX X (.builtin "len") (fun xs H Q=>∃ p ys,xs=[.ref p]/\(BY X.K H p ys\/BG X.K H p ys)/\Q (.int ys.length) H):=by
 intro pins s σ H xs us Q I r h;obtain⟨p,ys,rfl,hq,q⟩:=h;obtain⟨u,rfl,rx⟩:=cy r;cases rx;have hn:=fN;rcases hq with hq | hq
 ·obtain⟨f',r',pl,hz⟩:=I.list hq;have hlen:=r'.length;exact Calls.call_len_list pl.isList (by simp only[ZU]<;>lia) ⟨.int ys.length,H,I.tok _,⟨s.toks+1,by rw[ZU,hlen]⟩,q⟩
 ·obtain⟨f',r',pl,hz⟩:=I.tuple hq;have hlen:=r'.length;exact len_tuple pl (by simp only[ZU]<;>lia) ⟨.int ys.length,H,I.tok _,⟨s.toks+1,by rw[ZU,hlen]⟩,q⟩
theorem u6:aX X (.builtin "len") (fun xs H Q=>∃ z,xs=[.str z]/\z.length<=sizeLine/\Q (.int z.length) H):=by
 intro pins s σ H xs us Q I r h;obtain⟨z,rfl,hz,q⟩:=h;obtain⟨u,rfl,t,rfl⟩:=cy r;have hn:=fN;exact len_str (by lia) ⟨.int z.length,H,I.tok _,⟨_,rfl⟩,q⟩
theorem aX.or{f:Value}{r r':List V->Hp->VK->Prop}(h:aX X f r)(h':aX X f r'):aX X f (fun xs H Q=>r xs H Q\/r' xs H Q):=by
 intro pins s σ H xs us Q I rs q;rcases q with q | q
 ·exact h pins s σ H xs us Q I rs q
 ·exact h' pins s σ H xs us Q I rs q
theorem u7:aX X (.type "list") (fun xs H Q=>∃ p ys,xs=[.ref p]/\(BY X.K H p ys\/BG X.K H p ys)/\∀ l,H l=none->Q (.ref l) (upd H l<|.lst ys)):=by
 intro pins s σ H xs us Q I r h;obtain⟨p,ys,rfl,hq,q⟩:=h;obtain⟨u,rfl,rx⟩:=cy r;cases rx;have fin:∀ (f':List Value),ay ys f'->ys.length<=sizeLine->∀ (h':Heap) (c':Nat),(∀ b o',s.heap.get? b=some o'->h'.get? b=some o')->
   h'.get? s.heap.objs.size=some { cls:=.type "list",dict:=none,data:=.seq f'.toArray c',slots:=#[] }->EP X pins σ Q (.ref s.heap.objs.size) { s with heap:=h' }:=fun f' r' hz h' c' kp e=>
  ⟨.ref s.heap.objs.size,_,I.laid (t':=s.toks) kp (ZR _)<|show bj X.prog X.w _ h' _ (.lst ys) from ⟨hz,f',c',r',e⟩,rfl,q _<|I.l_.fresh<|ZR _⟩;rcases hq with hq | hq
 ·obtain⟨f',r',pl,hz⟩:=I.list hq;have hlen:=r'.length;obtain⟨o,ho,hc,n,hd⟩:=pl.isList;exact call_list_seq p (.inl rfl) ho hc hd (fun h' c' kp e=>fin f' r' hz h' c' kp e) (by simp only[ZU]<;>lia)
 ·obtain⟨f',r',pl,hz⟩:=I.tuple hq;have hlen:=r'.length;obtain⟨o,ho,hc,n,hd⟩:=pl;exact call_list_seq p (.inr rfl) ho hc hd (fun h' c' kp e=>fin f' r' hz h' c' kp e) (by simp only[ZU]<;>lia)
theorem u8:aX X (.type "tuple") (fun xs H Q=>∃ p ys,xs=[.ref p]/\((BY X.K H p ys/\∀ l,H l=none->Q (.ref l) (upd H l<|.tup ys))\/(BG X.K H p ys/\Q (.ref p) H))):=by
 intro pins s σ H xs us Q I r h;obtain⟨p,ys,rfl,h⟩:=h;obtain⟨u,rfl,rx⟩:=cy r;cases rx;rcases h with ⟨hq,q⟩ | ⟨hq,q⟩
 ·obtain⟨f',r',pl,hz⟩:=I.list hq;have hlen:=r'.length;refine call_tuple_list pl.isList (fun h' kp=>?_) (by simp only[ZU]<;>lia);have I1:Inv X pins σ H { s with heap:=h' }:=I.kept (t':=s.toks) kp;have I2:Inv X pins σ (upd H h'.objs.size<|.tup ys) { s with heap:=h'.push { cls:=.type "tuple",data:=.seq f'.toArray } }:=
   I1.laid (t':=s.toks) (fun b o e=>Z3 _ e) (ZR _) (show bj X.prog X.w _ _ _ (.tup ys) from ⟨hz,f',r',IsTup.new _ _⟩);exact⟨.ref h'.objs.size,_,I2,rfl,q _<|I1.l_.fresh<|ZR _⟩
 ·obtain⟨f',r',pl,hz⟩:=I.tuple hq;exact call_tuple_same pl ⟨.ref p,H,I,rfl,q⟩
def GC(K:PySem.W.Frag)(T:String)(x:V)(H:Hp):Prop:=match x with
 | .str _=>T = "str"
 | .int _=>T = "int"
 | .ref p=>(T = "list" /\ ∃ xs,BY K H p xs)\/(T = "tuple" /\ ∃ o,K.lookup p=some o/\o.cls=.type "tuple" /\ o.dict=none)\/
   (T = "dict" /\ ((∃ kvs,H p=some (.dK kvs))\/∃ kvs,H p=some (.dT kvs)))\/(T = "set" /\ ∃ S n,H p=some (.set S n))
 | _=>False
theorem nE{T:String}{x:V}{v:Value}(I:Inv X pins σ H s)(r:av x v)(ty:GC X.K T x H):
  s.TypeIs v T/\∀ a,v=.ref a->∃ ob,s.heap.get? a=some ob/\ob.dict=none:=by
 cases x with
 | str z=>
  obtain⟨t,rfl⟩:=r;cases (show T = "str" from ty);exact⟨typeIs_str s z t,fun _ e=>nomatch e⟩
 | int i=>
  obtain⟨t,rfl⟩:=r;cases (show T = "int" from ty);exact⟨typeIs_int s i t,fun _ e=>nomatch e⟩
 | ref p=>
  cases r;rcases ty with ⟨rfl,xs,hq⟩ | ⟨rfl,o,hk,hc,hd⟩ | ⟨rfl,hk⟩ | ⟨rfl,S,n,hk⟩
  ·obtain⟨f',_,pl,_⟩:=I.list hq;refine⟨pl.isList.typeIs,fun a e=>?_⟩;cases e;obtain⟨o,n,e,c,hd,_⟩:=pl;exact⟨o,e,hd⟩
  ·refine⟨⟨o,I.EO p o hk,hc⟩,fun a e=>?_⟩;cases e;exact⟨o,I.EO _ o hk,hd⟩
  ·have z:∃ o,s.heap.get? p=some o/\o.ExactDict:=by
    rcases hk with ⟨kvs,hk⟩ | ⟨kvs,hk⟩
    ·obtain⟨_,_,_,_,o,_,_,e,ex,_⟩:=I.l_ p _ hk;exact⟨o,e,ex⟩
    ·obtain⟨_,_,_,_,o,_,_,e,ex,_⟩:=I.l_ p _ hk;exact⟨o,e,ex⟩
   obtain⟨o,e,ex⟩:=z;refine⟨⟨o,e,ex.1⟩,fun a e2=>?_⟩;cases e2;exact⟨o,e,ex.2.1⟩
  ·obtain⟨o,_,_,_,e,ex,_⟩:=I.l_ p _ hk;refine⟨⟨o,e,ex.1⟩,fun a e2=>?_⟩;cases e2;exact⟨o,e,ex.2.1⟩
 | _=>exact False.elim ty
def u9(K:PySem.W.Frag)(T:String)(r:V->List V->Hp->VK->Prop)(to:TE):TE:=fun σ H Q=>to σ H fun x H1=>GC K T x H1/\r x [] H1 Q
def No(K:PySem.W.Frag)(T:String)(r:V->List V->Hp->VK->Prop)(to:TE)(t:TA):TE:=fun σ H Q=>to σ H fun x H1=>GC K T x H1/\t σ H1 fun xs H2=>r x xs H2 Q
variable{o e:Expr}{es:List Expr}{to:TE}{t:TA}{name:Str}{apos w_:Pos}{T id:String}{r:V->List V->Hp->VK->Prop}
theorem va(pa:PlainAttrs T)(slot:Slot T name id)(Fi:typeOf (.builtin id)=pure (.type "method_descriptor"))(hm:Iw X id r)(ho:PE X o to)(B8:attributeBase o name X.env (eval o X.env)=eval o X.env:=by rfl)(B9:(apos.endLine == w_.line)=true:=by rfl):PE X (.Call (.Attribute o name apos) [] [] w_) (u9 X.K T r to):=by
 intro pins s σ H Q I h;refine wpAny_Call_method0_late B8 B9 (A_ (ho pins s σ H _ I h) fun v s1 ⟨x,H1,I1,r1,ty,q1⟩=>?_);obtain⟨h1,h2⟩:=nE I1 r1 ty;exact⟨T,id,pa,slot,Fi,h1,h2,Calls.callWith_builtin rfl<|PySem.evalArgs_none<|hm pins s1 σ H1 x [] v [] Q I1 r1 .nil q1⟩
theorem kw(pa:PlainAttrs T)(slot:Slot T name id)(Fi:typeOf (.builtin id)=pure (.type "method_descriptor"))(hm:Iw X id r)(ho:PE X o to)(ha:PA X (e::es) t)(B8:attributeBase o name X.env (eval o X.env)=eval o X.env:=by rfl)(Eo:((backTo w_<|starEach (e::es) X.env).all (fun x=>!x.1) && (backToKw w_<|keywordEach [] X.env).all (fun x=>x.1.isSome)
   && decide ((e::es).length+([]:List Keyword).length+(if ([]:List Keyword).isEmpty then 0 else 1)<30))=true:=by rfl)(B9:(apos.endLine == w_.line)=true:=by rfl)(hs:starEach (e::es) X.env=(false,eval e X.env)::starEach es X.env:=by rfl)(Cm:(backTo w_<|starEach es X.env).any (·.1)=false:=by rfl):
  PE X (.Call (.Attribute o name apos) (e::es) [] w_) (No X.K T r to t):=by
 intro pins s σ H Q I h;refine wpAny_Call_method_late B8 Eo B9 rfl (A_ (ho pins s σ H _ I h) fun v s1 ⟨x,H1,I1,r1,ty,q1⟩=>?_);obtain⟨h1,h2⟩:=nE I1 r1 ty;refine⟨T,id,pa,slot,Fi,h1,h2,?_⟩;have hA:=ha w_ pins s1 σ H1 _ I1 q1;rw[hs] at hA ⊢;refine Calls.callWith_builtin (by show (false || (backTo w_<|starEach es X.env).any (·.1))=false;rw[Cm]<;>rfl) (Calls.evalArgs_plain ?_);exact A_ hA fun us s2 ⟨vs,H2,I2,r2,q2⟩=>hm pins s2 σ H2 x vs v us Q I2 r1 r2 q2
end
def KO(X:Cx)(id:String)(r:V->List V->Hp->VK->Prop):Prop:=
 ∀ (pins:List (Addr×Obj)) (s:Shared) (σ:St) (H:Hp) (x:V) (xs:List V) (v:Value) (us:List Value) (Q:VK),Inv X pins σ H s->av x v->ay xs us->r x xs H Q->
  wpAny (model X.prog X.w) X.A (call (.builtin id) (v::us)) (EP X pins σ Q) X.xe s
theorem ay.one:∀ {x:V}{us:List Value},ay [x] us->∃ u,us=[u]/\av x u
 | _,_,.cons r .nil=>⟨_,rfl,r⟩
theorem ay.zero:∀ {us:List Value},ay [] us->us=[]
 | _,.nil=>rfl
theorem ay.dropLast{xs:List V}(h:ay xs us):ay xs.dropLast us.dropLast:=by
 induction h with
 | nil=>exact .nil
 | cons r t ih=>
  cases t with
  | nil=>exact .nil
  | cons q t'=>exact .cons r ih
theorem vb(l:List α):l.eraseIdx (l.length - 1)=l.dropLast:=by
 induction l with
 | nil=>rfl
 | cons a r ih=>
  cases r with
  | nil=>rfl
  | cons b r=>
   have e:(a::b::r).length - 1=((b::r).length - 1)+1:=by
    have h1:(a::b::r).length=r.length+2:=rfl;have h2:(b::r).length=r.length+1:=rfl;lia
   rw[e,List.eraseIdx_cons_succ,ih];all_goals rfl
section
variable{X:Cx}{pins:List (Addr×Obj)}{σ:St}{H:Hp}{s:Shared}{l b:Addr}{xs ys zs:List V}
theorem Inv.Hh{f:Array Value->Array Value}(I:Inv X pins σ H s)(hH:H l=some (.lst xs))(e:s.heap.get? l=some { cls:=.type "list",data:=.seq f'.toArray n })(hf:f f'.toArray=its'.toArray)(hv:ay ys its')(hz:ys.length<=sizeLine):
  Inv X pins σ (upd H l<|.lst ys) { s with heap:=s.heap.update l (Obj.mapSeq f),toks:=t' }:=by
 have q:=PySem.IsL.update e f;rw[hf] at q;refine I.write (x:=l) (e:=l) (by rw[hH];exact trivial) (.inl rfl) (fun b' u hb hu=>(YC s.heap (Obj.mapSeq f)<|Yw hb).trans hu) ⟨_,q⟩ ?_;exact⟨hz,its',_,hv,q⟩
theorem Inv.KP(I:Inv X pins σ H s)(hv:ay ys f')(hz:ys.length<=sizeLine):
  Inv X pins σ (upd H s.heap.objs.size<|.lst ys) { s with heap:=s.heap.push { cls:=.type "list",data:=.seq f'.toArray },toks:=t' }:=
 I.laid (fun _ _ q=>Z3 _ q) (ZR _) ⟨hz,f',0,hv,ZF _ rfl⟩
theorem Inv.fresh(I:Inv X pins σ H s):H s.heap.objs.size=none:=I.l_.fresh (ZR _)
theorem Inv.Co(I:Inv X pins σ H s)(hH:H l=some (.lst xs)):xs.length<=sizeLine/\∃ (f':List Value) (n:Nat),ay xs f'/\xs.length=f'.length/\s.heap.get? l=some { cls:=.type "list",data:=.seq f'.toArray n }:=by
 obtain⟨z,f',n,r,e⟩:=I.l_ l _ hH;exact⟨z,f',n,r,r.length,e⟩
theorem vc(h:n<=sizeLine):Builtin.List.listTooLong n=false:=by
 unfold Builtin.List.listTooLong;exact Zs (by lia)
end
section
variable{X:Cx}
def F7:V->List V->Hp->VK->Prop:=fun x vs H Q=>∃ l xs y,x=.ref l/\vs=[y]/\H l=some (.lst xs)/\xs.length<sizeLine/\Q .j_ (upd H l<|.lst<|xs++[y])
theorem vd:KO X "list.append" F7:=by
 intro pins s σ H x vs v us Q I rx rv h;obtain⟨l,xs,y,rfl,rfl,hH,hz,q⟩:=h;cases rx;obtain⟨u,rfl,ru⟩:=rv.one;obtain⟨z,f',n,r,hl,e⟩:=I.Co hH;refine Xu F.slot_list_append ⟨_,e,rfl⟩ F.entry_list_append (F.args_list_append_2 _ _) (PySem.list_append l f'.toArray n u (by rw[ZU];lia)) ⟨e,?_⟩;refine⟨.j_,_,I.Hh (its':=f'++[u]) hH e (by simp) (r.append<|.cons ru .nil) ?_,rfl,q⟩;rw[ZG,Zb];lia
def F8:V->List V->Hp->VK->Prop:=fun x vs H Q=>∃ l b xs zs,x=.ref l/\vs=[.ref b]/\H l=some (.lst xs)/\H b=some (.lst zs)/\xs.length+zs.length<=sizeLine/\Q .j_ (upd H l<|.lst<|xs++zs)
theorem ve:KO X "list.extend" F8:=by
 intro pins s σ H x vs v us Q I rx rv h;obtain⟨l,b,xs,zs,rfl,rfl,hH,hB,hz,q⟩:=h;cases rx;obtain⟨u,rfl,ru⟩:=rv.one;cases ru;obtain⟨z,f',n,r,hl,e⟩:=I.Co hH;obtain⟨z2,Cl,n2,r2,FL,e2⟩:=I.Co hB;have hsz:f'.toArray.size+Cl.toArray.size<=sizeLine:=by rw[ZU,ZU];lia
 have Iy:¬ (!f'.toArray.isEmpty && Builtin.List.listTooLong (f'.toArray.size+Cl.toArray.size))=true:=by
  rw[vc hsz,Bool.and_false];exact ZJ
 refine Xu F.slot_list_extend ⟨_,e,rfl⟩ F.entry_list_extend (F.args_list_extend_2 _ _)
  (AutoSeq1.list_extend_list_list_0 l f'.toArray n b Cl.toArray n2 Iy (by rw[ZU];lia) (by lia)) ⟨e,e2,?_⟩;refine⟨.j_,_,I.Hh (its':=f'++Cl) hH e (by simp) (r.append r2) ?_,rfl,q⟩;rw[ZG];lia
def KQ:V->List V->Hp->VK->Prop:=fun x vs H Q=>∃ l xs y,x=.ref l/\vs=[]/\H l=some (.lst xs)/\xs[xs.length - 1]?=some y/\Q y (upd H l<|.lst xs.dropLast)
theorem vf:KO X "list.pop" KQ:=by
 intro pins s σ H x vs v us Q I rx rv h;obtain⟨l,xs,y,rfl,rfl,hH,hy,q⟩:=h;cases rx;have Np:=rv.zero;subst Np;obtain⟨z,f',n,r,hl,e⟩:=I.Co hH;obtain⟨u,hu,ru⟩:=r.get hy;have Ks:f'.toArray[f'.toArray.size - 1]?=some u:=by
  show f'.toArray[f'.length - 1]?=some u;rw[<- Zt,<- hl];exact hu
 refine Xu F.slot_list_pop ⟨_,e,rfl⟩ F.entry_list_pop (F.args_list_pop_1 _) (MeetsSeq.list_pop_last l f'.toArray n u Ks (by rw[ZU];lia)) ⟨e,?_⟩;refine⟨y,_,I.Hh (its':=f'.dropLast) hH e ?_ r.dropLast ?_,ru,q⟩
 ·show f'.toArray.eraseIdxIfInBounds (f'.toArray.size - 1)=f'.dropLast.toArray;rw[ZU,Xz,vb]
 ·rw[List.length_dropLast];lia
def KR:R2:=fun x y H Q=>∃ l b xs zs,x=.ref l/\y=.ref b/\H l=some (.lst xs)/\H b=some (.lst zs)/\xs.length+zs.length<=sizeLine/\∀ p,H p=none->Q (.ref p) (upd H p<|.lst<|xs++zs)
theorem vg:Ck X (binaryOp .Add) KR:=by
 intro pins s σ H x y v u Q I rx ry h;obtain⟨l,b,xs,zs,rfl,rfl,hH,hB,hz,q⟩:=h;cases rx;cases ry;obtain⟨z,f',n,r,hl,e⟩:=I.Co hH;obtain⟨z2,Cl,n2,r2,FL,e2⟩:=I.Co hB;refine PySem.P.add_list e e2 ?_ (by rw[ZU,ZU];lia);have ea:f'.toArray++Cl.toArray=(f'++Cl).toArray:=by simp
 rw[ea];exact⟨.ref _,_,I.KP (t':=s.toks) (r.append r2) (by rw[ZG];lia),rfl,q _ I.fresh⟩
end
section
variable{prog:Program}{w:World}{A:Around}{E:Value->Shared->Prop}{s:Shared}
end
section
variable{X:Cx}
end
section
variable{κ:Type}[DecidableEq κ]
def cg(kvs:List (κ×V))(k:κ):Option V:=(kvs.find? fun kv=>decide (kv.1=k)).map (·.2)
def bY(kvs:List (κ×V))(k:κ)(v:V):List (κ×V):=
 if (kvs.any fun kv=>decide (kv.1=k))=true then kvs.map (fun kv=>if kv.1=k then (kv.1,v) else kv) else kvs++[(k,v)]
theorem iW{p:κ×V}{r:List (κ×V)}{k:κ}(e:p.1=k):cg (p::r) k=some p.2:=by simp[cg,YR,e]
theorem iX{p:κ×V}{r:List (κ×V)}{k:κ}(e:¬ p.1=k):cg (p::r) k=cg r k:=by simp[cg,YR,e]
theorem nF(k:κ):∀ kvs:List (κ×V),(kvs.any fun kv=>decide (kv.1=k))=(cg kvs k).isSome
 | []=>rfl
 | p::r=>by
  rw[X9];by_cases e:p.1=k
  ·simp only[iW e,Zq e,Bool.true_or,Option.isSome_some]
  ·rw[iX e,Zs e,Bool.false_or];exact nF k r
theorem nG(kvs:List (κ×V))(k:κ)(v:V):(bY kvs k v).length<=kvs.length+1:=by
 unfold bY;split
 ·rw[ZY];lia
 ·rw[ZG,ZC,Yu];lia
theorem du.BT{u:Option Value}(r:du o u):o.isSome=u.isSome:=by
 cases o with
 | none=>cases u with
  | none=>rfl
  | some _=>exact (show False from r).elim
 | some _=>cases u with
  | none=>exact (show False from r).elim
  | some _=>rfl
theorem KV.val{kvs:List (κ×V)}{vs:List (κ×Value)}(r:KV kvs vs)(k:κ):du (cg kvs k) (valueAt vs k):=by
 unfold KV at r;induction r with
 | nil=>exact True.intro
 | @cons p q ps qs h t ih=>
  obtain⟨h1,h2⟩:=h;by_cases e:p.1=k
  ·have e':q.1=k:=h1.symm.trans e;have b:valueAt (q::qs) k=some q.2:=by simp[valueAt,YR,e']
   rw[iW e,b];exact h2
  ·have e':¬ q.1=k:=fun z=>e (h1.trans z);have b:valueAt (q::qs) k=valueAt qs k:=by simp[valueAt,YR,e']
   rw[iX e,b];exact ih
theorem KV.any{kvs:List (κ×V)}{vs:List (κ×Value)}(r:KV kvs vs)(k:κ):(kvs.any fun kv=>decide (kv.1=k))=vs.any fun kv=>decide (kv.1=k):=by
 unfold KV at r;induction r with
 | nil=>rfl
 | cons h t ih=>rw[X9,X9,ih,h.1]
theorem KV.Hi{kvs:List (κ×V)}{vs:List (κ×Value)}(r:KV kvs vs)(k:κ){y:V}{u:Value}(ry:av y u):
  KV (kvs.map fun kv=>if kv.1=k then (kv.1,y) else kv) (vs.map fun kv=>if kv.1=k then (kv.1,u) else kv):=by
 unfold KV at r ⊢;induction r with
 | nil=>exact .nil
 | @cons p q ps qs h t ih=>
  rw[Zy,Zy];refine .cons ?_ ih;obtain⟨h1,h2⟩:=h;by_cases e:p.1=k
  ·rw[Z0 e,Z0<|h1.symm.trans e];exact⟨h1,ry⟩
  ·rw[ZX e,ZX<|fun z=>e<|h1.trans z];exact⟨h1,h2⟩
theorem KV.put{kvs:List (κ×V)}{vs:List (κ×Value)}(r:KV kvs vs)(k:κ){y:V}{u:Value}(ry:av y u):KV (bY kvs k y) (stored vs k u):=by
 unfold bY stored;rw[r.any k];by_cases e:(vs.any fun kv=>decide (kv.1=k))=true
 ·rw[Z0 e,Z0 e];exact r.Hi k ry
 ·rw[ZX e,ZX e];exact Paired.snoc r ⟨rfl,ry⟩
theorem KV.length{kvs:List (κ×V)}{vs:List (κ×Value)}(r:KV kvs vs):kvs.length=vs.length:=Yq r
end
theorem iY{k:Key}{u:Value}(r:av (kV k) u):(d6 P w).is k u=true:=by
 cases k with
 | inl i=>obtain⟨t,e⟩:=(show ∃ t,u=Value.int i t from r);subst e;exact sw P w i t
 | inr x=>obtain⟨t,e⟩:=(show ∃ t,u=Value.str x t from r);subst e;exact sx P w x t
abbrev KT(H:Hp):List (List Im×V)->List (List Im×Addr×Value)->Prop:=Paired fun p q=>p.1=q.1/\El H p.1 q.2.1/\av p.2 q.2.2
theorem KT.val(r:KT H kvs xs)(k:List Im):du (cg kvs k) ((atKey xs k).map (·.2)):=by
 induction r with
 | nil=>exact True.intro
 | @cons p q ps qs h t ih=>
  obtain⟨h1,_,h2⟩:=h;by_cases e:p.1=k
  ·have e':q.1=k:=h1.symm.trans e;have b:atKey (q::qs) k=some q.2:=by simp[atKey,YR,e']
   rw[iW e,b];exact h2
  ·have e':¬ q.1=k:=fun z=>e (h1.trans z);have b:atKey (q::qs) k=atKey qs k:=by simp[atKey,YR,e']
   rw[iX e,b];exact ih
theorem KT.Hi(r:KT H kvs xs)(k:List Im){y:V}{u:Value}(ry:av y u):
  KT H (kvs.map fun kv=>if kv.1=k then (kv.1,y) else kv) (xs.map<|putAt k u):=by
 induction r with
 | nil=>exact .nil
 | @cons p q ps qs h t ih=>
  rw[Zy,Zy];refine .cons ?_ ih;obtain⟨h1,h2,h3⟩:=h;unfold putAt;by_cases e:p.1=k
  ·rw[Z0 e,Z0<|h1.symm.trans e];exact⟨h1,h2,ry⟩
  ·rw[ZX e,ZX<|fun z=>e<|h1.trans z];exact⟨h1,h2,h3⟩
theorem KT.put(r:KT H kvs xs)(k:List Im){b:Addr}{y:V}{u:Value}(hb:El H k b)(ry:av y u):
  KT H (bY kvs k y) (storedH xs k b u):=by
 have e:(kvs.any fun kv=>decide (kv.1=k))=(atKey xs k).isSome:=by
  rw[nF,(r.val k).BT,XN]
 unfold bY storedH;rw[e];by_cases q:(atKey xs k).isSome=true
 ·rw[Z0 q,Z0 q];exact r.Hi k ry
 ·rw[ZX q,ZX q];exact Paired.snoc r ⟨rfl,hb,ry⟩
theorem KT.keeps(r:KT H kvs xs)(ht:∀ b ys,H b=some (.tup ys)->H' b=some (.tup ys)):KT H' kvs xs:=
 Paired.FX r fun _ _ z=>⟨z.1,z.2.1.mono ht,z.2.2⟩
section
variable{P:Program}{w:World}{H:Hp}{h:Heap}{a:Addr}
theorem nH{u:HO}(ok:BX P w H h)(e:Rd H a u):bj P w H h a u:=e.ok ok
theorem fO{kvs:List (Key×V)}(ok:BX P w H h)(e:Rd H a (.dK kvs)):kvs.length<=sizeLine/\(a == sysModules)=false/\∃ vs,KV kvs vs/\h.DictOf (d6 P w) a vs:=
 show bj P w H h a (.dK kvs) from nH ok e
theorem vh{kvs:List (Key×V)}(ok:BX P w H h)(e:H a=some (.dK kvs)):kvs.length<=sizeLine/\(a == sysModules)=false/\∃ vs,KV kvs vs/\h.DictOf (d6 P w) a vs:=fO ok (.inl e)
mutual
theorem BI.Du(ok:BX P w H h):∀ {d:Im}{v:V}{u:Value},BI H d v->av v u->Ci h d u
 | .j_,_,_,e,r=>by cases (show _=V.j_ from e);exact r
 | .bl b,_,_,e,r=>by cases (show _=V.bl b from e);exact r
 | .int i,_,_,e,r=>by cases (show _=V.int i from e);exact r
 | .str x,_,_,e,r=>by cases (show _=V.str x from e);exact r
 | .fn a,_,_,e,r=>by cases (show _=V.ref a from e);exact r
 | .tup ds,_,_,e,r=>by
  obtain⟨a,xs,rfl,h1,h2⟩:=e;cases r;obtain⟨_,f',rv,o,g1,g2,n,g3⟩:=(show bj P w H h a (.tup xs) from ok a _ h1);exact⟨a,o,f'.toArray,n,rfl,g1,g2,g3,by simpa using am.Du ok h2 rv⟩
 | .fl ds,_,_,e,r=>by
  obtain⟨a,xs,o,rfl,h1,h2⟩:=e;cases r;exact⟨a,rfl⟩
 | .fd,_,_,e,r=>by
  obtain⟨a,o,rfl,h1⟩:=e;cases r;exact⟨a,rfl⟩
theorem am.Du(ok:BX P w H h):∀ {ds:List Im}{vs:List V}{us:List Value},am H ds vs->ay vs us->aJ h ds us
 | [],_,_,e,r=>by cases (show _=[] from e);cases r;rfl
 | d::ds,_,_,e,r=>by
  obtain⟨v,t,rfl,h1,h2⟩:=e;cases r with
  | cons r1 r2=>exact⟨_,_,rfl,BI.Du ok h1 r1,am.Du ok h2 r2⟩
end
theorem d8{ks:List Im}(ok:BX P w H h)(e:El H ks a):(cx P w).is h ks a:=⟨e.1,e.2.Du ok rfl⟩
theorem gL{P:Program}{w:World}{A:Around}(h:A.units+20<cLine):(cx P w).room A.in1:=show A.units+1+10<cLine by lia
theorem gM(ok:BX P w H h)(e:Rd H a (.dT kvs)):kvs.length<=sizeLine/\(a == sysModules)=false/\
  ∃ xs,KT H kvs xs/\h.DictOfH (cx P w) a xs:=by
 obtain⟨z,y,xs,r,o,es,ep,h1,h2,h3,h4,h5⟩:=(show bj P w H h a (.dT kvs) from nH ok e);refine⟨z,y,xs,r,o,es,ep,h1,h2,h3,h4,fun x hx=>?_,h5⟩;have all:∀ {l:List (List Im×V)}{m:List (List Im×Addr×Value)},KT H l m->∀ x∈m,(cx P w).is h x.1 x.2.1:=by
  intro l m q;induction q with
  | nil=>intro x hx;exact nomatch hx
  | @cons p q ps qs hq t ih=>
   intro x hx;rcases ZO.mp hx with e | hx
   ·subst e;exact d8 ok (by rw[<- hq.1];exact hq.2.1)
   ·exact ih x hx
 exact all r x hx
theorem nJ(ok:BX P w H h)(e:H a=some (.dT kvs)):kvs.length<=sizeLine/\(a == sysModules)=false/\
  ∃ xs,KT H kvs xs/\h.DictOfH (cx P w) a xs:=gM ok (.inl e)
end
def bN(H:Hp)(a:Addr)(y:V)(r:Option V):Prop:=
 (∃ kvs k,Rd H a (.dK kvs)/\y=kV k/\r=cg kvs k)\/∃ kvs k b,Rd H a (.dT kvs)/\y=.ref b/\El H k b/\r=cg kvs k
def fc(H:Hp)(a:Addr)(y v:V)(H':Hp):Prop:=
 (∃ kvs k,H a=some (.dK kvs)/\y=kV k/\kvs.length<sizeLine/\H'=upd H a (.dK<|bY kvs k v))\/
 ∃ kvs k b,H a=some (.dT kvs)/\y=.ref b/\El H k b/\kvs.length<sizeLine/\H'=upd H a (.dT<|bY kvs k v)
theorem bN.k{H:Hp}{a:Addr}{kvs:List (Key×V)}{k:Key}(e:H a=some (.dK kvs)):bN H a (kV k) (cg kvs k):=.inl ⟨kvs,k,.inl e,rfl,rfl⟩
theorem bN.t{k:List Im}(e:H a=some (.dT kvs))(eb:El H k b):bN H a (.ref b) (cg kvs k):=.inr ⟨kvs,k,b,.inl e,rfl,eb,rfl⟩
theorem fc.k{H:Hp}{a:Addr}{kvs:List (Key×V)}{k:Key}{v:V}(e:H a=some (.dK kvs))(hl:kvs.length<sizeLine):fc H a (kV k) v (upd H a<|.dK<|bY kvs k v):=.inl ⟨kvs,k,e,rfl,hl,rfl⟩
theorem fc.t{k:List Im}{v:V}(e:H a=some (.dT kvs))(eb:El H k b)(hl:kvs.length<sizeLine):
  fc H a (.ref b) v (upd H a<|.dT<|bY kvs k v):=.inr ⟨kvs,k,b,e,rfl,eb,hl,rfl⟩
section
variable{X:Cx}{pins:List (Addr×Obj)}{σ:St}{H:Hp}{s:Shared}{a:Addr}{y v:V}{u r:Value}{o:Option V}{A:Around}{E:Value->Shared->Prop}
theorem Inv.big(I:Inv X pins σ H s):sysModules<s.heap.objs.size:=by
 have h:mainGlobals<s.heap.objs.size:=(I.mod.glob.keeps I.bk).lt;exact Nat.lt_trans (by decide) h
theorem vj(hu:A.units+20<cLine)(I:Inv X pins σ H s)(g:bN H a y (some v))(ry:av y u)(h:∀ w' s',Inv X pins σ H s'->av v w'->Q w' s'):
  wpAny (model X.prog X.w) A (getItem (.ref a) u) Q E s:=by
 rcases g with ⟨kvs,k,e,ey,l⟩ | ⟨kvs,k,b,e,ey,eb,l⟩
 ·subst ey;obtain⟨z,hd,vs,rel,dd⟩:=fO I.l_ e;obtain⟨w',hw,Fe⟩:=du.some_of (v:=v) (o:=valueAt vs k) (by rw[l];exact rel.val k);exact wpAny_getItem_of (iY ry) dd.mapOf hw (h w' _ (I.tok _) Fe)
 ·subst ey;cases (show u=Value.ref b from ry);obtain⟨z,hd,xs,rel,dd⟩:=gM I.l_ e;obtain⟨w',hw,Fe⟩:=du.some_of (v:=v) (o:=(atKey xs k).map (·.2)) (by rw[l];exact rel.val k);obtain⟨p,hp,ET⟩:=Z5.mp hw;refine wpAny_getItem_heap (gL hu) (d8 I.l_ eb) dd hp ?_;rw[ET];exact h w' _ (I.tok _) Fe
theorem kz(hu:A.units+20<cLine)(I:Inv X pins σ H s)(g:bN H a y o)(ry:av y u)(h:∀ s',Inv X pins σ H s'->Q (.bool o.isSome) s'):
  wpAny (model X.prog X.w) A (compareOp .In u<|.ref a) Q E s:=by
 rcases g with ⟨kvs,k,e,ey,l⟩ | ⟨kvs,k,b,e,ey,eb,l⟩
 ·subst ey;obtain⟨z,hd,vs,rel,dd⟩:=fO I.l_ e;refine wpAny_in_of (iY ry) hd dd.mapOf ?_;rw[<- (rel.val k).BT,<- l];exact h _ (I.tok _)
 ·subst ey;cases (show u=Value.ref b from ry);obtain⟨z,hd,xs,rel,dd⟩:=gM I.l_ e;refine wpAny_in_heap (gL hu) (d8 I.l_ eb) hd dd ?_;have q:=(rel.val k).BT;rw[XN] at q;rw[<- q,<- l];exact h _ (I.tok _)
theorem kA(hu:A.units+20<cLine)(I:Inv X pins σ H s)(g:bN H a y o)(ry:av y u)(h:∀ s',Inv X pins σ H s'->Q (.bool<|!o.isSome) s'):
  wpAny (model X.prog X.w) A (compareOp .NotIn u<|.ref a) Q E s:=by
 rcases g with ⟨kvs,k,e,ey,l⟩ | ⟨kvs,k,b,e,ey,eb,l⟩
 ·subst ey;obtain⟨z,hd,vs,rel,dd⟩:=fO I.l_ e;refine wpAny_notIn_of (iY ry) hd dd.mapOf ?_;rw[<- (rel.val k).BT,<- l];exact h _ (I.tok _)
 ·subst ey;cases (show u=Value.ref b from ry);obtain⟨z,hd,xs,rel,dd⟩:=gM I.l_ e;refine wpAny_notIn_heap (gL hu) (d8 I.l_ eb) hd dd ?_;have q:=(rel.val k).BT;rw[XN] at q;rw[<- q,<- l];exact h _ (I.tok _)
theorem kC{ob:HO}(I:Inv X pins σ H s)(mu:Ie (H a))(hs:Heap.SameBut a s.heap h')(he:∃ q,h'.get? a=some q)(new:bj X.prog X.w (upd H a ob) h' a ob):
  Inv X pins σ (upd H a ob) { s with heap:=h',toks:=t' }:=
 I.write (x:=a) (e:=a) mu (.inl rfl) (fun b q hb z=>(hs.2 b hb).trans z) he new
theorem vk{kvs:List (Key×V)}{vs:List (Key×Value)}(z:kvs.length<=sizeLine)(hd:(a == sysModules)=false)(rel:KV kvs vs)(dd:h'.DictOf (d6 P w) a vs):
  bj P w H' h' a (.dK kvs):=⟨z,hd,vs,rel,dd⟩
theorem nK{Q:Unit->Shared->Prop}(hu:A.units+20<cLine)(I:Inv X pins σ H s)(g:fc H a y v H')(ry:av y u)(rv:av v r)(h:∀ s',Inv X pins σ H' s'->Q () s'):
  wpAny (model X.prog X.w) A (setItem (.ref a) u r) Q E s:=by
 rcases g with ⟨kvs,k,e,ey,l,eH⟩ | ⟨kvs,k,b,e,ey,eb,l,eH⟩
 ·subst ey eH;obtain⟨z,hd,vs,rel,dd⟩:=vh I.l_ e;have hz:vs.length<=sizeLine:=by rw[<- rel.length];exact z
  have hl:(bY kvs k v).length<=sizeLine:=by have:=nG kvs k v;lia
  refine wpAny_setItem_pairs (hsz:=hz) (iY ry) dd fun h' FM hs=>h _ ?_;have he:∃ q,h'.get? a=some q:=let ⟨q,_,_,hq,_⟩:=FM;⟨q,hq⟩
  exact kC I (by rw[e];exact True.intro) hs he (vk hl hd (rel.put k rv) FM)
 ·subst ey eH;cases (show u=Value.ref b from ry);obtain⟨z,hd,xs,rel,dd⟩:=nJ I.l_ e;have hz:xs.length<=sizeLine:=by rw[<- Yq rel];exact z
  have hl:(bY kvs k v).length<=sizeLine:=by have:=nG kvs k v;lia
  refine wpAny_setItem_heap (hsz:=hz) (gL hu) (d8 I.l_ eb) dd fun h' FM hs=>h _ ?_;obtain⟨q,es,ep,hq,h2,h3,h4,_,h5⟩:=FM;refine kC I (by rw[e];exact True.intro) hs ⟨q,hq⟩ ⟨hl,hd,_,(rel.put k eb rv).keeps fun c ys ec=>?_,q,es,ep,hq,h2,h3,h4,h5⟩;rw[aE (mS ec e<|fun z=>nomatch z)];exact ec
end
section
variable{X:Cx}{pins:List (Addr×Obj)}{σ:St}{H:Hp}{s:Shared}{a:Addr}{kvs:List (Key×V)}{k:Key}{u:Value}{A:Around}{E:Value->Shared->Prop}
theorem vm(I:Inv X pins σ H s)(e:Rd H a (.dK kvs))(h:∀ t s',Inv X pins σ H s'->Q (.int kvs.length t) s'):wpAny (model X.prog X.w) A (call (.builtin "len") [.ref a]) Q E s:=by
 obtain⟨z,hd,vs,rel,dd⟩:=fO I.l_ e;refine call_len_dict hd dd (by rw[<- rel.length];rw[sizeLine_eq] at z;lia) ?_;rw[<- rel.length];exact h _ _ (I.tok _)
end
theorem vn{X:Cx}{y:V}(I:Inv X pins σ H s)(g:bN H a y o):s.TypeIs (.ref a) "dict" := by
 rcases g with ⟨kvs,k,e,_,_⟩ | ⟨kvs,k,b,e,_,_,_⟩
 ·obtain⟨_,_,vs,_,dd⟩:=fO I.l_ e;exact dd.typeIs
 ·obtain⟨_,_,xs,_,dd⟩:=gM I.l_ e;exact dd.typeIs
section
variable{X:Cx}{o i e value:Expr}{pos pos' KK:Pos}{td ty tv:TE}
end
theorem nL(h:Heap)(hb:sysModules<h.objs.size):bj P w H (h.push { cls:=.type "dict",data:=.dict #[] }) h.objs.size (.dT []):=
 ⟨Ys _,Xa.mpr<|Yw<|Zx hb,[],.nil,_,#[],0,ZF _ rfl,⟨rfl,rfl,rfl⟩,rfl,rfl,XM⟩
def Hj:TE:=fun _ H Q=>∀ p,H p=none->Q (.ref p) (upd H p<|.dT [])
section
variable{X:Cx}{pos:Pos}
theorem vo:PE X (.Dict [] [] pos) Hj:=fun pins s σ H Q I h=>
 wpAny_Dict_empty ⟨.ref s.heap.objs.size,_,I.laid (a:=s.heap.objs.size) (o:=.dT []) (t':=s.toks) (fun _ _ q=>Z3 _ q) (ZR _)<|nL s.heap I.big,rfl,h _<|I.l_.fresh<|ZR _⟩
end
section
variable{X:Cx}{pins:List (Addr×Obj)}{σ:St}{H:Hp}{s:Shared}{a:Addr}{y d:V}{u r:Value}{o:Option V}{A:Around}{E:Value->Shared->Prop}
end
section
variable{X:Cx}{o e f:Expr}{apos w_:Pos}{td ty tx:TE}
end
section
variable{X:Cx}{pins:List (Addr×Obj)}{σ:St}{H:Hp}{s:Shared}{a:Addr}{kvs:List (Key×V)}{A:Around}{E:Value->Shared->Prop}
end
section
variable{X:Cx}{pins:List (Addr×Obj)}{σ:St}{H:Hp}{s:Shared}{a:Addr}{y:V}{u:Value}{A:Around}{E:Value->Shared->Prop}
end
end L2
namespace My
open PySem PySem.W PySem.Calls PyProof.Rows
variable{n:Nat}{l:OpenLaw}
theorem vp{P:Params}{h:Heap}:∀ (ns:List Int) (vs:List Value),WellAll P h vs (ns.map WData.int)->IntsAre vs ns:=by
 intro ns;induction ns with
 | nil=>
  intro vs w;rw[List.map_nil] at w;cases w;exact .nil
 | cons n ns ih=>
  intro vs w;rw[Zy] at w;cases w with
  | cons a b=>
   cases a;exact .cons _ _ (ih _ b)
theorem vq(hn:l.most=some n){P:Params}{h:Heap}{args:List WData}{vals:List Value}(F9:l.row.toRowW.claim.pre args=true)(KS:WellAll P h vals args):
  ∃ a vs ns,vals=[Value.ref a]/\args=[WData.list (ns.map WData.int)]/\h.get? a=some { cls:=.type "list",data:=.seq vs.toArray }/\IntsAre vs ns/\ns.length<=n:=by
 have Nq:WShape.hasAll [] args [.list .int]=true:=(pre_splitW F9).1;have hc:l.pre.holds [] { args:=args }=true:=(pre_splitW F9).2;obtain⟨d,r,rfl,h1,h2⟩:=hasAllW_cons Nq;obtain rfl:=hasAllW_nil h2;obtain⟨xs,rfl,h3⟩:=hasW_list h1;obtain⟨ns,rfl⟩:=items_int h3;have hlen:ns.length<=n:=by
  unfold OpenLaw.pre at hc;have h4:(WTm.not<|.lt (.lit<|.int (n:Int))<|.len<|.arg 0).holds [] { args:=[.list (ns.map .int)] }=true:=by
   have h4:=(holds_andW hc).1;rw[hn] at h4;exact h4
  have h5:=condW_of h4 (w_not<|w_lt w_lit<|w_len_list<|w_arg rfl);rw[ZY] at h5;refine Nat.le_of_not_lt fun q=>?_;have q':(n:Int)<((ns.length:Nat):Int):=by lia
  first
   | (rw[Zq q'] at h5;exact absurd h5 (by decide))
   | (simp at h5;lia)
 cases KS with
 | cons w1 w2=>
  cases w2;cases w1 with
  | list ho KU=>exact⟨_,_,ns,rfl,rfl,ho,vp ns _ KU,hlen⟩
theorem vu(l:OpenLaw)(args:List WData):l.row.toRowW.claim.post args (.bool true) args=true:=
 postW_of (r:=l.row.toRowW) (X:=(true == true))
  (show WShape.has [] (.bool true) .bool=true by first | rfl | decide | simp[WShape.has,WShape.arms,WShape.armsAll])
  (show (WTm.eq .res<|.lit<|.bool true).value [] { args:=args,res:=some (.bool true),after:=args }=some (.bool<|true == true) from w_eq_bool (w_res rfl) w_lit) rfl
theorem DZ{q:Program}{loose:List Str}{XP:(Str->Option Value)->Heap->Prop}{YP:World->Heap->Prop}{d:DefRec}(hn:l.most=some n)(Iz:d.params.defaults=[])(call:∀ (w:World) (s₀ s₁:Shared) (mg mb:Str->Option Value) (fa:Addr) (o:Obj) (pm cd doc:Value) (a:Addr) (vs:List Value) (ns:List Int),
   Ground q loose [] XP w s₀ mg mb s₁.heap->YP w s₁.heap->
   s₁.heap.get? fa=some o->o.data=.func (docDef d.name d.params d.body d.scope pm cd doc)->s₁.heap.CodeRec cd d.name->mg d.name=some (.ref fa)->
   s₁.heap.get? a=some { cls:=.type "list",data:=.seq vs.toArray }->IntsAre vs ns->ns.length<=n->s₁.gens=#[]->
   codeAny (model l.prog w) callerA (.call (.ref fa) ⟨[.ref a],[]⟩) (fun r s'=>r=.ok (.ret<|.bool true)/\OldK s₁.heap s'.heap/\s'.os=s₁.os/\AllBare s'.gens) s₁):
  WalkO q loose XP YP l.row.toRowW d [] (fun f vs=>PySem.call f vs):=by
 intro w s₀ s₁ mg mb G Y fa o pm cd doc dV kV ho hd DY hD hmg hg args vals as F9 Nr Pc KS Nt;obtain rfl:dV=.none:=Dflts.none hD Iz;obtain rfl:kV=.none:=Dflts.noKw hD;obtain⟨a,vs,ns,rfl,rfl,Hk,hints,hlen⟩:=vq hn F9 KS;refine enter_call (W6 (call w s₀ s₁ mg mb fa o pm cd doc a vs ns G Y ho (fd_plain hd) DY hmg Hk hints hlen hg) fun r s' hq=>?_);obtain⟨rfl,h2,h3,h4⟩:=hq;exact⟨.inl ⟨.bool true,.bool true,[],rfl,fun _=>rfl,.bool true,vu l _,fun _=>⟨List.Pairwise.nil,fun _ hm=>(nomatch hm)⟩⟩,h2,h3,h4⟩
section
variable{prog:Program}{w:World}{A:Around}{E:Value->Shared->Prop}{s:Shared}{K:Frag}
end
end My
namespace L2
open PySem PySem.Spec PyProof.Rows
variable{ps:List Str}{f:Addr}{st:Stmt}{qual x:Str}{sp:Sp}{fd:FuncData}{k:Nat}
theorem nM:∀ {vs:List Value}{ns:List Int},IntsAre vs ns->ay (ns.map V.int) vs
 | _,_,.nil=>.nil
 | _,_,.cons n t h=>.cons ⟨t,rfl⟩ (nM h)
def i7(H:Hp):Prop:=∀ b,H b=none\/∃ o xs,H b=some (.Cg o<|.lst xs)
theorem vw{P:Program}{w:World}{K:PySem.W.Frag}{mg mb:Str->Option Value}{CX:Ff}{fa a:Addr}{s₁:Shared}{vs:List Value}{ns:List Int}(KX:K.In s₁.heap)(KW:s₁.heap.Ns mainGlobals mg)(hb:s₁.heap.Ns builtinsNs mb)(Nu:∀ x:Str,x ≠ "__name__" -> mb x=bootBuiltins x)(KY:s₁.heap.NoLimit)(hg:s₁.gens=#[])(ha:s₁.heap.get? a=some { cls:=.type "list",data:=.seq vs.toArray })(hi:IntsAre vs ns)(hl:ns.length<=sizeLine)(hr:z_ k callerA)(F:∀ base:Heap,K.In base->base.Ns mainGlobals mg->B6 P w K mg base CX k fa fd [x] sp)(IA:∀ (s:Shared) (u:Value),BindsTo s fd ⟨[u],[]⟩ [(x,u)])(Fh:∀ H:Hp,i7 H->BY K H a (ns.map V.int)->sp [.ref a] H (fun v _=>v=.bl true) fun _ _ _=>False)(KZ:∀ H e s',CX [] H s₁ (fun _ _ _=>False) e s'->False):
  codeAny (model P w) callerA (.call (.ref fa) ⟨[.ref a],[]⟩) (fun r s'=>r=.ok (.ret<|.bool true)/\OldK s₁.heap s'.heap/\s'.os=s₁.os/\AllBare s'.gens) s₁:=by
 have rv:=nM hi;have K0:=hi.length;have core:∀ H:Hp,i7 H->BY K H a (ns.map V.int)->BX P w H s₁.heap->(∀ b,H b≠none->b=a)->(H a≠none->K.lookup a=none)->
   codeAny (model P w) callerA (.call (.ref fa) ⟨[.ref a],[]⟩) (fun r s'=>r=.ok (.ret<|.bool true)/\OldK s₁.heap s'.heap/\s'.os=s₁.os/\AllBare s'.gens) s₁:=by
  intro H hO hS l_ hA hK;have EI:∀ {b:Addr}{o:Obj},s₁.heap.get? b=some o->H b=none->(dP s₁.heap H).get? b=some o:=fun e n=>sE e n;have Iv:∀ {b:Addr}{o:Obj}{es:Array DictEntry}{ep:Nat},s₁.heap.get? b=some o->o.data=.dict es ep->H b=none:=fun {b o es ep} e d=>by
   cases q:H b with
   | none=>rfl
   | some u=>
    have e':b=a:=hA b (by rw[q];simp);subst e';rw[ha] at e;cases e;have d':Data.seq vs.toArray _=Data.dict es ep:=d;cases d'
  have JX:∀ {b:Addr}{m:Str->Option Value},s₁.heap.Ns b m->(dP s₁.heap H).Ns b m:=fun {b m} ⟨o,es,ep,e,d,r⟩=>⟨o,es,ep,EI e<|Iv e d,d,r⟩;have Mz:K.In (dP s₁.heap H):=fun b o e=>EI (KX b o e) (by
   cases q:H b with
   | none=>rfl
   | some u=>
    have e':b=a:=hA b (by rw[q];simp);subst e';rw[hK (by rw[q];simp)] at e;cases e)
  have hM:Mod K mg (dP s₁.heap H):=⟨Mz,JX KW,⟨mb,JX hb,Nu⟩,let ⟨mc,h1,h2⟩:=KY;⟨mc,JX h1,h2⟩⟩;have e0:ER P w K mg (dP s₁.heap H) callerA [] s₁ H:=⟨rfl,hM,fun b o e=>sF e,Nat.le_of_eq<|sy _ _,trivial,fun b hb=>absurd (show b∈([]:List Addr) from hb) (by simp),l_,.of_eq hg⟩;refine W6 ((F _ Mz<|JX KW).run callerA [] s₁ H ⟨[.ref a],[]⟩ [.ref a] [.ref a] _ _ hr e0 (IA s₁<|.ref a) (.cons rfl .nil)<|Fh H hO hS) fun r s' h=>?_;cases r with
  | error e=>exact (KZ H e s' h).elim
  | ok fl=>
   cases fl with
   | next=>exact False.elim h
   | brk=>exact False.elim h
   | cont=>exact False.elim h
   | ret u=>
    obtain⟨v,H',os,bare,un,Fj,r',q⟩:=h;have q':v=.bl true:=q;subst q';obtain rfl:u=Value.bool true:=r';refine⟨rfl,OldK.of_keep fun b o e=>?_,os,bare⟩;cases q:H b with
    | none=>exact un.keep b o e q (by intro z;exact absurd (show b∈([]:List Addr) from z) (by simp)) (by simp)
    | some u=>
     rcases hO b with z | ⟨ob,xs,z⟩
     ·rw[q] at z;cases z
     ·have z2:=un.Ch b ob _ z;obtain⟨e1,_⟩:=l_ b _ z;obtain⟨e2,_⟩:=Fj b _ z2;rw[e] at e1;cases e1;exact e2
 cases hk:K.lookup a with
 | some o=>
  have e:=KX a o hk;rw[ha] at e;cases e;refine core (fun _=>none) (fun _=>.inl rfl) (.inr ⟨_,vs.toArray,_,hk,rfl,rfl,rfl,by rw[ZU,K0];exact hl,by simpa using rv⟩) (fun b u z=>by have z':(none:Option HO)=some u:=z;cases z') (fun b z=>absurd rfl z) fun z=>absurd rfl z
 | none=>
  refine core (fun b=>if b=a then some (.Cg { cls:=.type "list",data:=.seq vs.toArray } (.lst<|ns.map V.int)) else none) (fun b=>?_) (.inl<|.inr ⟨{ cls:=.type "list",data:=.seq vs.toArray },Z0 rfl⟩) (fun b u z=>?_) (fun b z=>?_) fun _=>hk
  ·by_cases hb:b=a
   ·exact .inr ⟨_,_,Z0 hb⟩
   ·exact .inl (ZX hb)
  ·by_cases hb:b=a
   ·have z':=(Z0 hb).symm.trans z;cases z';subst hb;exact⟨ha,by rw[ZY];exact hl,vs,_,rv,ha⟩
   ·have z':=(ZX hb).symm.trans z;cases z'
  ·by_cases hb:b=a
   ·exact hb
   ·exact absurd (ZX hb) z
theorem vx{l:PySem.W.OpenLaw}{n:Nat}{q:Program}{loose:List Str}{XP:(Str->Option Value)->Heap->Prop}{YP:World->Heap->Prop}{d:DefRec}{K:Params->PySem.W.Frag}{CX:World->Ff}{sp:World->Sp}(hn:l.most=some n)(K1:n<=sizeLine)(Iz:d.params.defaults=[])(hr:z_ k callerA)(hY:∀ (w:World) (h:Heap),YP w h->(K w.params).In h)(F:∀ (w:World) (mg:Str->Option Value) (fa:Addr) (h:Heap),(K w.params).In h->h.Ns mainGlobals mg->mg d.name=some (.ref fa)->
   ∃ fd:FuncData,(∀ (s:Shared) (u:Value),BindsTo s fd ⟨[u],[]⟩ [(x,u)])/\
    ∀ base:Heap,(K w.params).In base->base.Ns mainGlobals mg->B6 l.prog w (K w.params) mg base (CX w) k fa fd [x] (sp w))(Fh:∀ (w:World) (H:Hp) (a:Addr) (ns:List Int),ns.length<=n->i7 H->BY (K w.params) H a (ns.map V.int)->sp w [.ref a] H (fun v _=>v=.bl true) fun _ _ _=>False)(KZ:∀ (w:World) (H:Hp) (s:Shared) (e:Value) (s':Shared),CX w [] H s (fun _ _ _=>False) e s'->False):
  PySem.W.WalkO q loose XP YP l.row.toRowW d [] (fun f vs=>PySem.call f vs):=by
 refine My.DZ hn Iz fun w s₀ s₁ mg mb fa o pm cd doc a vs ns G Y ho hd DY hmg Hk hints hlen hg=>?_;have KX:=hY w _ Y;obtain⟨fd,hb,hF⟩:=F w mg fa _ KX G.T.g hmg;exact vw KX G.T.g G.T.b G.T.builtins G.T.nolimit hg Hk hints (Zo hlen K1) hr hF hb (fun H hO hS=>Fh w H a ns hlen hO hS) fun H e s'=>KZ w H s₁ e s'
def cW(s:Stmt):Arguments:=match s with
 | .FunctionDef _ a _ _ _ _ _ _ _ _=>a
 | _=>{ posonlyargs:=[],args:=[],vararg:=none,kwonlyargs:=[],kw_defaults:=[],kwarg:=none,defaults:=[] }
def bG(s:Stmt):List Stmt:=match s with
 | .FunctionDef _ _ b _ _ _ _ _ _ _=>b
 | _=>[]
def au(s:Stmt):Scope:=match s with
 | .FunctionDef _ _ _ _ _ _ sc _ _ _=>sc
 | _=>{ kind:=.function,names:=[],isGenerator:=false,isCoroutine:=false }
abbrev DL:Ff:=fun _ _ _ _ _ _=>False
abbrev E0:XK:=fun _ _ _=>False
theorem vy{X:Cx}:kq DL X E0:=fun _ _ _ _ _ _ _ h=>h.elim
structure Dx(K:PySem.W.Frag)(x qual:Str)(st:Stmt)(f:Addr)(fd:FuncData):Prop where
 ex:∃ (oc:Value) (od:Option Addr) (kV doc pm:Value) (an:Option Addr) (q_ ct:Value) (EH:Array (Option Value)),
  fd=PySem.W.fnOf x qual (cW st) (bG st) (au st) .none kV doc pm an q_ ct/\K.lookup f=some ⟨oc,od,.func fd,EH⟩/\PySem.W.codeIn K q_ qual=true
 kp:PySem.W.keepIn K (.ref f)=true
section
variable{P:Program}{w:World}{K:PySem.W.Frag}{mg:Str->Option Value}{base:Heap}
theorem Dx.ok{N:List Str}(F:Dx K x qual st f fd)(S:k_ N ps (au st))(len:∀ vs H Q E,sp vs H Q E->vs.length=ps.length)(Fg:∀ (q_:Value) (A:Around) (outer:List Env) (s:Shared) (H:Hp) (vs:List V) (Q:VK) (E:XK),z_ k (A.deeper<|envOfC qual (au st) s.heap.objs.size f q_)->sp vs H Q E->
   ∃ t,DG (bX DL P w K mg base N qual (au st) f q_ A outer s H E).G8 (bG st) t/\t { nx:=fun _ H'=>Q .j_ H',rt:=Q } (bW N vs) H):B6 P w K mg base DL (k+1) f fd ps sp:=by
 obtain⟨oc,od,kV,doc,pm,an,q_,ct,EH,rfl,lk,DY⟩:=F.ex;refine nu lk DY S len fun A outer s H vs Q E hr Fh=>?_;obtain⟨t,h,q⟩:=Fg q_ A outer s H vs Q E hr Fh;exact⟨t,h.G8,q⟩
theorem Dx.binds(F:Dx K x qual st f fd)(h:∀ (kV doc pm:Value) (an:Option Addr) (q_ ct:Value) (us:List Value),us.length=ps.length->bindArgs (PySem.W.fnOf x qual (cW st) (bG st) (au st) .none kV doc pm an q_ ct) ⟨us,[]⟩=pure (ps.zip us)):cf K fd ps []:=by
 obtain⟨oc,od,kV,doc,pm,an,q_,ct,EH,rfl,lk,DY⟩:=F.ex;exact .all (h kV doc pm an q_ ct)
theorem vz{oc:Value}{od an:Option Addr}{EH:Array (Option Value)}{kV doc pm q_ ct:Value}(l:K.lookup f=some ⟨oc,od,.func<|PySem.W.fnOf x qual (cW st) (bG st) (au st) .none kV doc pm an q_ ct,EH⟩)(c:PySem.W.codeIn K q_ qual=true)(k:PySem.W.keepIn K (.ref f)=true):Dx K x qual st f (PySem.W.fnOf x qual (cW st) (bG st) (au st) .none kV doc pm an q_ ct):=⟨⟨oc,od,kV,doc,pm,an,q_,ct,EH,rfl,l,c⟩,k⟩
end
section
variable{X:Cx}
theorem pv(i:Nat){x:Str}{pos:Pos}(hN:X.N[i]?=some x:=by rfl)(hv:JP X.env.scope x:=by first | exact Or.inl rfl | exact Or.inr (Or.inl rfl) | exact Or.inr (Or.inr rfl))(hd:(x == ("__debug__" : Str))=false:=by decide)(DY:(x == ("__classdict__" : Str))=false:=by decide):PE X (.Name x pos) (e8 i):=mU hN hv hd DY
end
def aF(H H':Hp):Prop:=∀ b o,H b=some o->H' b=some o
theorem aF.refl(H:Hp):aF H H:=fun _ _ h=>h
end L2
namespace L2
section
variable{X:Cx}
theorem vA:aX X (.builtin "len") (fun xs H Q=>∃ a kvs,xs=[V.ref a]/\H a=some (.dK kvs)/\Q (.int kvs.length) H):=by
 intro pins s σ H xs us Q I r h;obtain⟨a,kvs,rfl,ha,q⟩:=h;obtain⟨u,rfl,ru⟩:=cy r;cases ru;exact vm I (.inl ha) fun t s' I'=>⟨.int kvs.length,H,I',⟨t,rfl⟩,q⟩
end
section
variable{κ:Type}[DecidableEq κ]
end
end L2
namespace L2
open PySem PySem.Spec PyProof.Rows
variable{Q:Option Value->Shared->Prop}{i ep:Nat}{it d C:Addr}{h:Heap}{ks:List Value}{wi:TI}{tg iter elt:Expr}{fp:List Addr}{H:Hp}{σ:St}{pins:List (Addr×Obj)}{caps:List Nat}{own:List Str}{env:Env}{pos:Pos}{scope:Scope}{ifs:List Expr}{s:Shared}
theorem vB{prog:Program}{w:World}{A:Around}{R:Result->Shared->Prop}{target:Expr}{it acc:Value}(I:Nat->Shared->Prop)(turn:∀ n s,I n s->wpAny (model prog w) A (pyNext it) (fun r s₁=>match r with
   | none=>R (.ok .next) s₁
   | some v=>wpAny (model prog w) A (letOwnedTupleGo target it v) (fun _ s₁=>wpAny (model prog w) A (assign target env v) (fun _ s₂=>
     wpAny (model prog w) A (forIn ifs true fun c r=>if r=true then do let ok <- isTrue c env (eval c env);pure (ForInStep.yield ok) else pure (ForInStep.yield r)) (fun ok s₃=>
      if ok=true then wpAny (model prog w) A (eval elt env) (fun x s₄=>
       wpAny (model prog w) A (call (.builtin "list.append") [acc,x]) (fun _ s₅=>∃ m,m<n/\I m s₅) (fun _ _=>False) s₄) (fun _ _=>False) s₃
      else ∃ m,m<n/\I m s₃) (fun _ _=>False) s₂) (fun _ _=>False) s₁) (fun _ _=>False) s₁) (fun _ _=>False) s)(n:Nat)(h:I n s):
  codeAny (model prog w) A (.compLoop (.ListComp elt [⟨target,iter,ifs,0⟩] scope pos) 0 it acc env) R s:=by
 refine codeAny_loop rfl I (fun n s hI=>?_) n h;show wpAny _ A ((compTurn (.ListComp elt [⟨target,iter,ifs,0⟩] scope pos) 0 it acc env).onRaise (fun x=>do noteFrame x env;theTreesLotGoes x)) _ _ s;refine wpAny_noted ?_;rw[compTurn_list];refine Z8 (WQ<|Z8<|Zc (turn n s hI) (fun r s₁ h₁=>?_) fun _ _ h'=>h'.elim);cases r with
 | none=>exact ZS h₁
 | some v=>
  refine Z8 (Zc h₁ (fun _ s₁ h₁=>?_) fun _ _ h'=>h'.elim);refine Z8 (Zc h₁ (fun _ s₂ h₂=>Z8<|Zc h₂ (fun ok s₃ h₃=>?_) fun _ _ h'=>h'.elim) fun _ _ h'=>h'.elim);cases ok with
  | false=>exact ZS ⟨rfl,h₃⟩
  | true=>
   exact Z8 (Z8<|Zc h₃ (fun x s₄ h₄=>Z8<|Zc h₄ (fun _ s₅ h₅=>ZS<|ZS ⟨rfl,h₅⟩) fun _ _ h'=>h'.elim) fun _ _ h'=>h'.elim)
def fe(env:Env)(names:List (Str×NameKind)):List (Str×Addr):=names.foldl (fun cs y=>if y.2 == .free then (y.1,(env.cells.lookup y.1).getD 0)::cs else cs) []
theorem kE{env:Env}:∀ (names:List (Str×NameKind)) (cs:List (Str×Addr)),(∀ y∈names,y.2=.free->∃ c,env.cells.lookup y.1=some c)->
  (forIn names cs fun (y:Str×NameKind) cs=>if y.2 == .free then (do let c <- cellOf env y.1;pure (ForInStep.yield ((y.1,c)::cs))) else pure (ForInStep.yield cs):Sem _)=
   pure (names.foldl (fun cs y=>if y.2 == .free then (y.1,(env.cells.lookup y.1).getD 0)::cs else cs) cs)
 | [],cs,_=>rfl
 | y::r,cs,h=>by
  rw[Xe,Yt];by_cases hy:y.2=.free
  ·obtain⟨c,hc⟩:=h y Y8 hy;have e:(y.2 == NameKind.free)=true:=by simp[hy]
   rw[Z0 e,Z0 e];have ec:cellOf env y.1=pure c:=by unfold cellOf;rw[hc]
   rw[ec,hc];show (forIn r ((y.1,c)::cs) _:Sem _)=_;exact kE r _ fun z hz=>h z (Zi _ hz)
  ·have e:¬ (y.2 == NameKind.free)=true:=by simp[hy]
   rw[ZX e,ZX e];show (forIn r cs _:Sem _)=_;exact kE r _ fun z hz=>h z (Zi _ hz)
theorem vC(h:∀ y∈scope.names,y.2=.free->∃ c,env.cells.lookup y.1=some c):closureFor scope env=pure (fe env scope.names):=by
 have:=kE (env:=env) scope.names [] h;unfold closureFor;dsimp only;have e:(forIn scope.names ([]:List (Str×Addr))<|fun (x:Str×NameKind) (r:List (Str×Addr))=>(if x.2 == .free then (do let c <- cellOf env x.1;pure (ForInStep.yield ((x.1,c)::r))) else pure (ForInStep.yield r):Sem (ForInStep<|List<|Str×Addr)))=pure (fe env scope.names):=this;rw[e];rfl
theorem nN{env:Env}:∀ (names:List (Str×NameKind)) (cs:List (Str×Addr)) (x:Str) (c:Addr),
  (names.foldl (fun cs y=>if y.2 == .free then (y.1,(env.cells.lookup y.1).getD 0)::cs else cs) cs).lookup x=some c->
  (c=(env.cells.lookup x).getD 0/\(x,NameKind.free)∈names)\/cs.lookup x=some c
 | [],cs,x,c,h=>.inr h
 | y::r,cs,x,c,h=>by
  rw[Yt] at h;rcases nN r _ x c h with ⟨e,m⟩ | h
  ·exact .inl ⟨e,Zi _ m⟩
  ·by_cases hy:y.2=.free
   ·rw[Z0 (by simp[hy])] at h;rw[Zl] at h;by_cases hx:x=y.1
    ·subst hx;rw[Yl] at h;refine .inl ⟨(Zw h).symm,?_⟩;rw[<- hy];exact Y8
    ·have:(x == y.1)=false:=by simpa using hx
     rw[this] at h;exact .inr h
   ·rw[ZX (by simp[hy])] at h;exact .inr h
theorem kF{env:Env}:∀ (names:List (Str×NameKind)) (cs:List (Str×Addr)) (x:Str),(x,NameKind.free)∈names\/(∃ c,cs.lookup x=some c)->
  ∃ c,(names.foldl (fun cs y=>if y.2 == .free then (y.1,(env.cells.lookup y.1).getD 0)::cs else cs) cs).lookup x=some c
 | [],cs,x,h=>by
  rcases h with h | h
  ·cases h
  ·exact h
 | y::r,cs,x,h=>by
  rw[Yt];apply kF r _ x;rcases h with h | ⟨c,h⟩
  ·rcases ZO.mp h with e | h
   ·right;subst e;rw[Z0 (by rfl),Zl,Yl];exact⟨_,rfl⟩
   ·exact .inl h
  ·right;by_cases hy:(y.2 == NameKind.free)=true
   ·rw[Z0 hy,Zl];cases x == y.1
    ·exact⟨c,h⟩
    ·exact⟨_,rfl⟩
   ·rw[ZX hy];exact⟨c,h⟩
structure Fk where
 C:Addr
 s:Shared
 H:Hp
 fp:List Addr
variable{te:Fk->TE}{tt:Fk->TT}{g:Fk->TG}
def Cx.DM(X : Cx)(N' : List Str)(scope : Scope)(Y : Fk): Cx :=
  { prog := X.prog, w := X.w, K := X.K, mg := X.mg, base := X.base, A := X.A, N := N', s₀ := Y.s, H₀ := Y.H, env := compEnvC scope (fe X.env scope.names) Y.C X.env, outer := X.stack, stack := X.stack,
    ex := Y.fp, fn := fun _ => false, calm := X.calm, pn := [], xe := fun _ _ => False }
theorem kG{env:Env}:∀ {names:List (Str×NameKind)}{x:Str}{k:NameKind},
  (names.map fun (n,k)=>if (k == NameKind.free && env.scope.kind == .function && env.kindOf n == some .cell) then (n,NameKind.cell) else (n,k)).lookup x=some k->
  (k=.cell\/k=.free)->(∀ y∈names,y.2≠.cell)->(x,NameKind.free)∈names
 | [],x,k,h,_,_=>by simp at h
 | (n,k')::r,x,k,h,hk,hc=>by
  rw[Zy] at h;dsimp only at h;by_cases hx:x=n
  ·subst hx;by_cases hf:(k' == NameKind.free && env.scope.kind == .function && env.kindOf x == some .cell)=true
   ·have:k'=NameKind.free:=by
     simp only[ZV] at hf;exact by simpa using hf.1.1
    subst this;exact Y8
   ·simp only[hf] at h;have e:k'=k:=by simpa [Zl] using h
    subst e;rcases hk with hk | hk
    ·exact absurd hk (hc (x,k') Y8)
    ·rw[hk];exact Y8
  ·have hb:(x == n)=false:=by simpa using hx
   have h':(r.map fun (n,k)=>if (k == NameKind.free && env.scope.kind == .function && env.kindOf n == some .cell) then (n,NameKind.cell) else (n,k)).lookup x=some k:=by
    by_cases hf:(k' == NameKind.free && env.scope.kind == .function && env.kindOf n == some .cell)=true
    ·rw[Z0 hf,Zl,hb] at h;exact h
    ·rw[ZX hf,Zl,hb] at h;exact h
   exact Zi _ (kG h' hk fun y hy=>hc y<|Zi _ hy)
section
variable{X:Cx}
structure p_(X:Cx)(scope:Scope)(own:List Str)(caps:List Nat):Prop where
 kind:scope.kind=.function
 cell:∀ y∈scope.names,y.2≠.cell
 free:∀ y∈scope.names,y.2=.free->X.env.scope.names.lookup y.1=some .cell
 loc:∀ y∈scope.names,y.2=.local->scope.names.lookup y.1=some .local
 K3:∀ i∈caps,∃ x,X.N[i]?=some x/\(x,NameKind.free)∈scope.names/\scope.names.lookup x=some .free
def bH(X:Cx)(own:List Str)(caps:List Nat):List Str:=own++caps.map fun i=>X.N.getD i ""
def dh(own:List Str)(caps:List Nat)(σ:St):St:=own.map (fun _=>none)++caps.map fun i=>σ.getD i none
theorem p_.cells(S:p_ X scope own caps)(ok:X.Ok):∀ y∈scope.names,y.2=.free->∃ c,X.env.cells.lookup y.1=some c:=
 fun y hy hf=>ok.has y.1 (.inl<|S.free y hy hf)
theorem p_.sub(S:p_ X scope own caps)(ok:X.Ok){x:Str}{c:Addr}(h:(fe X.env scope.names).lookup x=some c):X.env.cells.lookup x=some c/\(x,NameKind.free)∈scope.names:=by
 rcases nN scope.names [] x c h with ⟨e,m⟩ | h
 ·obtain⟨c',e'⟩:=S.cells ok (x,.free) m rfl;rw[show (List.lookup x X.env.cells)=some c' from e'] at e;refine⟨?_,m⟩;rw[e];exact e'
 ·simp at h
theorem nO(S:p_ X scope own caps)(I:Inv X pins σ H s)(hC:s.heap.objs.size<=C)(hf:∀ b∈fp,dg X pins H b)(DN:∀ b∈fp,b<s.heap.objs.size):(X.DM (bH X own caps) scope ⟨C,s,H,fp⟩).Ok where
 mod:=I.ok.mod
 kind:=S.kind
 glob:=I.ok.glob
 blt:=I.ok.blt
 above:=hC
 inj:=fun x y c h1 h2=>I.ok.inj x y c (S.sub I.ok h1).1 (S.sub I.ok h2).1
 has:=fun x hx=>by
  have m:(x,NameKind.free)∈scope.names:=by
   rcases hx with hx | hx
   ·exact kG hx (.inl rfl) S.cell
   ·exact kG hx (.inr rfl) S.cell
  exact kF scope.names [] x (.inl m)
 E_:=fun x c h _=>nomatch h
 hd:=I.ok.hd
 frames:=I.ok.frames
 Fa:=.inl rfl
 Gv:=fun b hb=>⟨Zx<|Zz (DN b hb) hC,fun x c h=>(hf b hb).2.2.2.2.1 x c (S.sub I.ok h).1⟩
 bs:=I.bs
 Em:=Zo I.ok.Em I.sz
 Da:=fun b o e hb=>by
  rcases (hf b hb).2.2.2.1 with z | z
  ·exact I.ok.Da b o e z
  ·exact absurd (Zz (ZP e)<|Zo I.ok.Em z) (YB _)
 Db:=fun b hb z=>by
  rcases ZO.mp (I.En b z) with e | e
  ·exact (hf b hb).2.1 e
  ·exact (hf b hb).2.2.1 e
 BQ:=I.stack
 EN:=I.Cu
theorem vE{h1:Heap}{tk:Nat}{m:Str->Option Value}(S:p_ X scope own caps)(I:Inv X pins σ H s)(hC:s.heap.objs.size<=C)(hf:∀ b∈fp,dg X pins H b)(DN:∀ b∈fp,b<s.heap.objs.size)(old:∀ b o,s.heap.get? b=some o->h1.get? b=some o)(hn:h1.Ns C m):
  Inv (X.DM (bH X own caps) scope ⟨C,s,H,fp⟩) [] (dh own caps σ) H { s with heap:=h1,toks:=tk } where
 ok:=nO S I hC hf DN
 os:=rfl
 bare:=I.bare
 base:=Un.kept old
 loc:=by
  obtain⟨m0,Pd,Nv⟩:=I.loc;refine⟨m,hn,fun j x v e1 e2 hv=>?_⟩;have e1:(own++caps.map fun i=>X.N.getD i "")[j]?=some x:=e1;have e2:(own.map (fun _=>(none:Option V))++caps.map fun i=>σ.getD i none)[j]?=some (some v):=e2;by_cases hj:j<own.length
  ·rw[Ze (by rw[ZY];exact hj),Zr] at e2;cases q:own[j]? with
   | none=>rw[q] at e2;cases e2
   | some z=>rw[q] at e2;cases e2
  ·rw[Y6 (by lia),Zr] at e1;rw[Y6 (by rw[ZY];lia),Zr,ZY] at e2;cases q:caps[j - own.length]? with
   | none=>rw[q] at e1;cases e1
   | some i=>
    rw[q] at e1 e2;have e1:X.N.getD i "" = x:=Zw e1;have e2:σ.getD i none=some v:=Zw e2;obtain⟨x',Ek,hm,Nw⟩:=S.K3 i (YM q);have ex:x'=x:=by
     rw[<- e1,Z6,Ek];rfl
    subst ex;have hs:σ[i]?=some (some v):=by
     rw[Z6] at e2;cases q2:σ[i]? with
     | none=>rw[q2] at e2;cases e2
     | some z=>rw[q2] at e2;rw[show z=some v from e2]
    have IB:=S.free (x',.free) hm rfl;obtain⟨u,r,lk⟩:=Nv i x' v Ek hs (.inr<|.inl IB);refine⟨u,r,.inr ⟨?_,?_⟩⟩
    ·rcases hv with hv | hv | hv
     ·
      exfalso;have:∀ {names:List (Str×NameKind)},names.lookup x'=some .free->(names.map fun (n,k)=>if (k == NameKind.free && X.env.scope.kind == .function && X.env.kindOf n == some .cell) then (n,NameKind.cell) else (n,k)).lookup x'≠some .local:=by
       intro names;induction names with
       | nil=>intro h;simp at h
       | cons y r ih=>
        obtain⟨n,k⟩:=y;intro h;rw[Zy];dsimp only;by_cases hx:x'=n
        ·subst hx;have ek:k=.free:=by simpa [Zl] using h
         subst ek;by_cases hq:(NameKind.free == NameKind.free && X.env.scope.kind == ScopeKind.function && X.env.kindOf x' == some NameKind.cell)=true
         ·rw[Z0 hq];simp[Zl]
         ·rw[ZX hq];simp[Zl]
        ·have hb:(x' == n)=false:=by simpa using hx
         rw[Zl,hb] at h;by_cases hq:(k == NameKind.free && X.env.scope.kind == ScopeKind.function && X.env.kindOf n == some NameKind.cell)=true
         ·rw[Z0 hq,Zl,hb];exact ih h
         ·rw[ZX hq,Zl,hb];exact ih h
      exact this Nw hv
     ·exact .inl hv
     ·exact .inr hv
    ·rcases lk with ⟨hk,_⟩ | ⟨_,c,hc,EG⟩
     ·exact absurd (hk.symm.trans IB) (by simp)
     ·obtain⟨c',Il⟩:=kF (env:=X.env) scope.names [] x' (.inl hm);have:=(S.sub I.ok Il).1;rw[hc] at this;cases this;obtain⟨o,ho,hd⟩:=EG;exact⟨c,Il,o,old _ _ ho,hd⟩
 cell:=fun x c h=>by
  obtain⟨v,o,ho,hd⟩:=I.cell x c (S.sub I.ok h).1;exact⟨v,o,old _ _ ho,hd⟩
 free:=I.l_.fresh hC
 BC:=fun x c h=>I.BC x c (S.sub I.ok h).1
 pin:=fun p hp=>nomatch hp
 l_:=I.l_.kept old
 len:=by simp[dh,bH,Cx.DM]
end
section
variable{X:Cx}
def nP(X:Cx)(ifs:List Expr)(t:TT)(pins:List (Addr×Obj)):Prop:=
 ∀ (s:Shared) (σ:St) (H:Hp) (Q:Bool->Hp->Prop),Inv X pins σ H s->t σ H Q->
  wpAny (model X.prog X.w) X.A (forIn ifs true fun c r=>if r=true then do let ok <- isTrue c X.env (eval c X.env);pure (ForInStep.yield ok) else pure (ForInStep.yield r)) (TP X pins σ Q) X.xe s
def IC(X:Cx)(ifs:List Expr)(t:TT):Prop:=∀ pins,nP X ifs t pins
def K5:TT:=fun _ H Q=>Q true H
theorem vF:IC X [] K5:=fun pins s σ H Q I h=>wpAny_tests_nil ⟨H,I,h⟩
theorem vG{c:Expr}{t:TT}(h:PT X c t):IC X [c] t:=fun pins s σ H Q I hw=>wpAny_tests_one (h pins s σ H Q I hw)
def vH(own:List Str)(caps:List Nat)(g:TG)(tt:TT)(te:TE)(σ:St)(N:List V->Hp->Prop)(ys:List V)(x:V)(H':Hp):Prop:=
 g x (dh own caps σ) H' fun σ2 H2=>(∀ (j:Nat) (v:V),(dh own caps σ)[j]?=some (some v)->σ2[j]?=some (some v))/\tt σ2 H2 fun b H3=>if b=true then te σ2 H3 fun v H4=>ys.length<sizeLine/\N (ys++[v]) H4 else N ys H3
def vI(J:It)(own:List Str)(caps:List Nat)(g:TG)(tt:TT)(te:TE)(σ:St)(H1:Hp)(Q:VK):Prop:=
 ∃ W:Nat->Nat->List V->Hp->Prop,(∃ m,W 0 m [] H1)/\∀ i m ys H,W i m ys H->(J.stop i H/\∀ D,H D=none->Q (.ref D) (upd H D<|.lst ys))\/
  (J.go i H/\∃ N:List V->Hp->Prop,(∀ MA H',N MA H'->∃ m',m'<m/\W (i+1) m' MA H')/\∀ x H',J.Ip i H x H'->vH own caps g tt te σ N ys x H')
def i8(own:List Str)(caps:List Nat)(wi:TI)(g:Fk->TG)(tt:Fk->TT)(te:Fk->TE):TE:=fun σ H Q=>wi σ H fun J H1=>∀ Y:Fk,vI J own caps (g Y) (tt Y) (te Y) σ H1 Q
def kH(sc:Scope)(N:List Str)(scope:Scope)(caps:List Nat):Bool:=
 scope.kind == .function && scope.names.all (fun y=>y.2 != .cell) && scope.names.all (fun y=>y.2 != .free || sc.names.lookup y.1 == some .cell) && scope.names.all (fun y=>y.2 != .local || scope.names.lookup y.1 == some .local) &&
  caps.all (fun i=>match N[i]? with | some x=>scope.names.lookup x == some .free | none=>false)
theorem mem_of_lookup:∀ {l:List (Str×NameKind)}{x:Str}{k:NameKind},l.lookup x=some k->(x,k)∈l
 | [],_,_,h=>by simp at h
 | (n,k')::r,x,k,h=>by
  rw[Zl] at h;by_cases hx:x=n
  ·subst hx;rw[Yl] at h;cases h;exact Y8
  ·rw[show (x == n)=false by simpa using hx] at h;exact Zi _ (mem_of_lookup h)
theorem di{X:Cx}(sc:Scope)(N:List Str)(h:kH sc N scope caps=true)(e:X.env.scope=sc:=by rfl)(eN:X.N=N:=by rfl):p_ X scope own caps:=by
 unfold kH at h;simp only[ZV,Zk,bne_iff_ne,ne_eq,Bool.or_eq_true,WA] at h;obtain⟨⟨⟨⟨h1,h2⟩,h3⟩,h4⟩,h5⟩:=h;refine⟨h1,h2,fun y hy hf=>?_,fun y hy hf=>?_,fun i hi=>?_⟩
 ·rw[e];exact (h3 y hy).resolve_left fun z=>z hf
 ·exact (h4 y hy).resolve_left fun z=>z hf
 ·have:=h5 i hi;rw[eN];cases q:N[i]? with
  | none=>rw[q] at this;cases this
  | some x=>
   rw[q] at this;have hl:scope.names.lookup x=some .free:=by simpa using this
   exact⟨x,rfl,mem_of_lookup hl,hl⟩
theorem nQ{p2:Pos}{use:Option (Value->Sem Unit)}{Qp:Value->Shared->Prop}{Qv:VK}(hc:X.calm=true)(S:p_ X scope own caps)(hi:PI X tg iter wi)(hg:∀ Y,PG (X.DM (bH X own caps) scope Y) tg<|g Y)(ht:∀ Y,IC (X.DM (bH X own caps) scope Y) ifs<|tt Y)(he:∀ Y,PE (X.DM (bH X own caps) scope Y) elt<|te Y)(hs:∀ x,foldedSetIterable iter X.env x=pure x)(I:Inv X pins σ H s)(h:i8 own caps wi g tt te σ H Qv)(Fm:∀ (D C:Addr) (H4:Hp) (s4:Shared) (m:Str->Option Value),Inv X pins σ H4 s4->s4.heap.Ns C m->H4 C=none->X.env.locals≠C->(∀ x c,X.env.cells.lookup x=some c->c≠C)->X.s₀.heap.objs.size<=C->(∀ p∈X.pn++pins,p.1≠C)->Qv (.ref D) H4->compPost (model X.prog X.w) X.A X.xe use Qp (.ref D) C (.ok .next) s4):
  wpAny (model X.prog X.w) X.A (comprehension (.ListComp elt [⟨tg,iter,ifs,0⟩] scope pos) scope X.env p2 (newList []) false (eval iter X.env) use) Qp X.xe s:=by
 refine wpAny_comprehension_free (use:=use) rfl hs (vC<|S.cells I.ok) S.kind S.loc (A_ (hi pins s σ H _ I h) fun v s1 h1=>A_ h1 fun KG s2 h2=>?_);obtain⟨it,fp,tn,J,H2,e,I2,T,o_,f2,hW⟩:=h2;subst e;have DN:∀ b∈fp,b<s2.heap.objs.size:=fun b hb=>by
  obtain⟨o,e,_⟩:=T.obj _ _ o_ b hb;exact ZP e
 refine YG (wpAny_newFunctionEnv S.cell (by intro y hy;simp at hy) (fun h₁ DO Dg=>?_) S.kind);dsimp only at DO Dg ⊢;generalize K6:s2.heap.push { cls:=.type "list",dict:=none,data:=.seq ([]:List Value).toArray }=Hq at DO Dg ⊢;have hC:Hq.objs.size=s2.heap.objs.size+1:=by rw[<- K6,XL]
 have Hl:s2.heap.objs.size≠Hq.objs.size:=by rw[hC];exact Zx (Nat.lt_succ_self _)
 have Hm:s2.heap.objs.size<=Hq.objs.size:=by rw[hC];exact Nat.le_succ _
 have old:∀ b o,s2.heap.get? b=some o->h₁.get? b=some o:=fun b o e=>
  Dg.extBut b o (by rw[hC];exact Zx (Nat.lt_succ_of_lt<|ZP e)) (Z3 _<|K6 ▸ Z3 _ e);have D6:h₁.get? s2.heap.objs.size=some { cls:=.type "list",data:=.seq ([]:List Value).toArray 0 }:=Dg.extBut _ _ Hl (Z3 _<|K6 ▸ ZF _ rfl);generalize Pe:Hq.objs.size=C at DO Dg hC Hl Hm ⊢;generalize Hn:s2.heap.objs.size=D at D6 hC Hl Hm ⊢;have ID:s2.heap.objs.size<=C:=by rw[Hn];exact Hm
 obtain⟨W,⟨m0,w0⟩,turn⟩:=hW ⟨C,s2,H2,fp⟩;have MB:=fun (tk:Nat)=>vE (tk:=tk) S I2 ID f2 DN old DO;have MC:=hg ⟨C,s2,H2,fp⟩;have MD:=ht ⟨C,s2,H2,fp⟩;have ME:=he ⟨C,s2,H2,fp⟩;have Fj:=nO S I2 ID f2 DN;generalize CB:X.DM (bH X own caps) scope ⟨C,s2,H2,fp⟩=X' at MB MC MD ME Fj;have eP:X'.prog=X.prog:=by rw[<- CB];rfl
 have ew:X'.w=X.w:=by rw[<- CB];rfl
 have eK:X'.K=X.K:=by rw[<- CB];rfl
 have eA:X'.A=X.A:=by rw[<- CB];rfl
 have ec:X'.calm=true:=by rw[<- CB];exact hc
 have eL:X'.env.locals=C:=by rw[<- CB];rfl
 have K7:X'.ex=fp:=by rw[<- CB];rfl
 have JY:X'.s₀=s2:=by rw[<- CB];rfl
 have Nx:X'.H₀=H2:=by rw[<- CB];rfl
 have Ny:X'.fs=BS X.stack:=by rw[<- CB];rfl
 have JZ:X'.pn=[]:=by rw[<- CB];rfl
 have K8:X'.xe=fun _ _=>False:=by rw[<- CB];rfl
 have IE:X'.env=compEnvC scope (fe X.env scope.names) C X.env:=by rw[<- CB];rfl
 have GD:∀ x c,X'.env.cells.lookup x=some c->X.env.cells.lookup x=some c:=fun x c h=>(S.sub I2.ok (by rw[IE] at h;exact h)).1;have nD:∀ x c,X'.env.cells.lookup x=some c->c≠D:=fun x c h z=>by
  obtain⟨v,o,ho,_⟩:=I2.cell x c (GD x c h);have:=ZP ho;rw[z,<- Hn] at this;exact YB _ this
 have K9:∀ b∈fp,b≠D:=fun b hb z=>by
  have:=DN b hb;rw[z,<- Hn] at this;exact YB _ this
 have Nz:D∉X'.fs:=fun z=>by
  obtain⟨_,o,ho,_⟩:=Fj.BQ.mem z;rw[JY] at ho;have:=ZP ho;rw[Hn] at this;exact YB _ this
 have K':∀ (H':Hp) (o:Obj),(∀ b∈fp,H' b=none)->∀ b∈fp,dg X' [(D,o)] H' b:=fun H' o hn b hb=>by
  refine⟨hn b hb,?_,?_,.inl (by rw[K7];exact hb),fun x c h=>(f2 b hb).2.2.2.2.1 x c (GD x c h),fun p hp=>?_⟩
  ·rw[eL];exact Zx (Zz (DN b hb) ID)
  ·exact Fj.Db b (by rw[K7];exact hb)
  ·rw[JZ] at hp;have:p=(D,o):=by simpa using hp
   rw[this];exact Yw (K9 b hb)
 have loop:∀ s₃:Shared,s₃={ s2 with heap:=h₁,toks:=s2.toks+([]:List (Str×Value)).length }->
   codeAny (model X.prog X.w) X.A (.compLoop (.ListComp elt [⟨tg,iter,ifs,0⟩] scope pos) 0 (.ref it) (.ref D) X'.env)
    (compPost (model X.prog X.w) X.A X.xe use Qp (.ref D) C) s₃:=by
  rintro s₃ rfl;refine vB (fun n s'=>∃ (i:Nat) (ys:List V) (H':Hp) (f':List Value) (k:Nat),Inv X' [(D,{ cls:=.type "list",data:=.seq f'.toArray k })] (dh own caps σ) H' s'/\ay ys f'/\ys.length<=sizeLine/\tn i s'.heap/\
   (∀ b∈fp,H' b=none)/\W i n ys H') ?_ m0 ?_
  ·rintro n s3 ⟨i,ys,H3,f',k,I3,rv,hz,Df,Ir,w3⟩;rcases turn i n ys H3 w3 with ⟨stop,qn⟩ | ⟨go,N,hN,step⟩
   ·have:=T.done X' eP ew eK ec i _ s3 _ H3 (fun _ _=>False) I3 (K' H3 _ Ir) Df stop;rw[eA] at this;refine A_ this fun r s4 ⟨hr,I4⟩=>?_;subst hr;obtain⟨m,hn,_⟩:=I4.loc;have NA:s4.heap.Ns C m:=by rw[<- eL];exact hn
    have hp:=I4.pin (D,{ cls:=.type "list",data:=.seq f'.toArray k }) (by rw[JZ];simp);have HW:H3 D=none:=hp.2.1;have kp:∀ b,b≠C->s4.heap.get? b=s4.heap.get? b:=fun b hb=>rfl;have nC:∀ b o,s2.heap.get? b=some o->b≠C:=fun b o e=>Zx (Zz (ZP e) ID);have NB:∀ b o,s2.heap.get? b=some o->b≠D:=fun b o e=>by rw[<- Hn];exact Zx (ZP e)
    have ub:Un (BS X.stack) fp H2 H3 s2.heap s4.heap:=by
     have:=I4.base;rw[Ny,K7,Nx,JY] at this;exact this
    have u:Un (BS X.stack) fp H2 (upd H3 D<|.lst ys) s2.heap s4.heap:=
     ⟨fun b o e n hb hx=>(kp b<|nC b o e).trans<|ub.keep b o e n hb hx,
      fun b o e n hb hx=>by
      obtain⟨sl,q⟩:=ub.slot b o e n hb hx;exact⟨sl,(kp b<|nC b o e).trans q⟩,
      fun b o e n hx=>by rw[aE (NB b o e)];exact ub.free b o e n hx,
      fun b o e hx=>by
      obtain⟨o',q⟩:=ub.there b o e hx;exact⟨o',(kp b<|nC b o e).trans q⟩,
      fun b xs e=>by rw[aE (bU (ub.Cj b xs e) HW)];exact ub.Cj b xs e,
      fun b o xs e=>by rw[aE (bU (ub.Ch b o xs e) HW)];exact ub.Ch b o xs e,
      fun b ps e=>by
      obtain⟨more,q⟩:=ub.Ct b ps e;exact⟨more,by rw[aE (bU q HW)];exact q⟩⟩
    have IF:∀ b o,H3 b=some o->b≠C:=fun b o e z=>by
     have:=I4.free;rw[eL,<- z,e] at this;cases this
    have hk:BX X.prog X.w (upd H3 D<|.lst ys) s4.heap:=fun a o e=>by
     by_cases ha:a=D
     ·subst ha;rw[bo] at e;cases e;exact⟨hz,f',k,rv,(kp _ Hl).trans hp.1⟩
     ·rw[aE ha] at e;have:=I4.l_ a o e;rw[eP,ew] at this;refine this.Cs (fun b u hb q=>(kp b ?_).trans q) (fun b q=>by rw[aE (bU q HW)];exact q) fun b xs q=>by rw[aE (bU q HW)];exact q
      rcases hb with z | z
      ·rw[z];exact IF a o e
      ·exact IF b _ z
    have NC:Inv X pins σ (upd H3 D<|.lst ys) s4:=I2.Gx (s':=s4) (ch:=fp) (by have:=I4.os;rw[JY] at this;exact this) u hk I4.bare fun b hb=>⟨(f2 b hb).2.2.2.1,(f2 b hb).2.1,(f2 b hb).2.2.2.2.1,(f2 b hb).2.2.2.2.2⟩;have J0:X.env.locals≠C:=by
     obtain⟨m2,K1,_⟩:=I2.loc;obtain⟨o,_,_,ho,_⟩:=K1;exact nC _ _ ho
    have J1:∀ x c,X.env.cells.lookup x=some c->c≠C:=fun x c h=>by
     obtain⟨v,o,ho,_⟩:=I2.cell x c h;exact nC _ _ ho
    refine Fm D C _ s4 m NC NA ?_ J0 J1 ?_ (fun p hp=>nC _ _ (I2.pin p hp).1) (qn D HW)
    ·rw[aE (Yw Hl)];have:=I4.free
     rwa [eL] at this
    ·exact Zo I2.sz ID
   ·have:=T.item X' eP ew eK ec i _ s3 _ H3 (fun _ _=>False) I3 (K' H3 _ Ir) Df go;rw[eA] at this;refine A_ this fun r s4 ⟨u,hr,h4⟩=>?_;subst hr;refine A_ h4 fun _ s5 ⟨x,H5,I5,r5,y5,CW,KH⟩=>?_;have KI:=I5.pinned (K' H5 _ KH) (T.obj _ _ CW);have a6:=MC _ s5 _ H5 x u _ KI r5 (step x H5 y5);rw[eP,ew,eA,K8] at a6;refine A_ a6 fun _ s6 ⟨σ6,H6,I6,Ho,q6⟩=>?_;have a7:=MD _ s6 σ6 H6 _ I6 q6;rw[eP,ew,eA,K8] at a7;refine A_ a7 fun b s7 ⟨H7,I7,q7⟩=>?_;have GE:∀ {σ':St}{H':Hp}{s':Shared},Inv X' ([(D,{ cls:=.type "list",data:=.seq f'.toArray k })]++d7 fp s5.heap) σ' H' s'->(∀ b∈fp,H' b=none)/\tn (i+1) s'.heap:=fun {σ' H' s'} I'=>by
     refine⟨fun b hb=>?_,T.keep _ _ _ CW fun b hb o e=>(I'.pin (b,o)<|ZN _<|ZN _<|iU hb e).1⟩;obtain⟨o,e,_⟩:=T.obj _ _ CW b hb;exact (I'.pin (b,o)<|ZN _<|ZN _<|iU hb e).2.1
    have wk:∀ {DB:List (Addr×Obj)}{H':Hp}{s':Shared},Inv X' DB σ6 H' s'->Inv X' DB (dh own caps σ) H' s':=fun {DB H' s'} I'=>
     I'.weak (by rw[I'.len,I3.len]) Ho;cases b with
    | false=>
     rw[ZX ZJ] at q7;obtain⟨m',hm,w7⟩:=hN _ _ q7;rw[ZX ZJ];obtain⟨k1,k2⟩:=GE I7;exact⟨m',hm,i+1,ys,H7,f',k,wk (I7.Cd fun p hp=>I7.pin p (by
      rw[JZ];simp at hp ⊢;exact .inl hp)),rv,hz,k2,k1,w7⟩
    | true=>
     rw[Z0 rfl] at q7 ⊢;have a8:=ME _ s7 σ6 H7 _ I7 q7;rw[eP,ew,eA,K8] at a8;refine A_ a8 fun uv s8 ⟨v8,H8,I8,r8,Pf,n8⟩=>?_;obtain⟨m',hm,w8⟩:=hN _ _ n8;have hp:=I8.pin (D,{ cls:=.type "list",data:=.seq f'.toArray k }) (ZN _ (ZH _ (by simp)));have eD:=hp.1;refine Xu F.slot_list_append ⟨_,eD,rfl⟩ F.entry_list_append (F.args_list_append_2 _ _) (PySem.list_append D f'.toArray k uv (by rw[ZU,<- rv.length];lia)) ⟨eD,?_⟩;have q:=PySem.IsL.update eD (fun a=>a.push uv);obtain⟨k1,k2⟩:=GE I8;have ND:Inv X' (d7 fp s5.heap) σ6 H8 s8:=I8.Cd fun p hp=>I8.pin p (ZN _<|ZN _ hp);have MF:∀ b o,b≠D->s8.heap.get? b=some o->(s8.heap.update D<|Obj.mapSeq fun a=>a.push uv).get? b=some o:=fun b o hb e=>(YC s8.heap _<|Yw hb).trans e;have I9:Inv X' (d7 fp s5.heap) σ6 H8 { s8 with heap:=s8.heap.update D (Obj.mapSeq fun a=>a.push uv),toks:=s8.toks }:=
      ND.turned (it:=D) MF hp.2.1 (by rw[eL];exact Hl) (.inr (by rw[JY,Hn];exact ZR _)) nD fun p F_=>by
       rw[JZ] at F_;obtain⟨hb,_⟩:=m9 (show p∈d7 fp s5.heap by simpa using F_);exact K9 _ hb
     refine⟨m',hm,i+1,ys++[v8],H8,f'++[uv],k+1,wk<|I9.Cd fun p F_=>?_,rv.append<|.cons r8 .nil,?_,?_,k1,w8⟩
     ·have e:p=(D,{ cls:=.type "list",data:=.seq (f'++[uv]).toArray (k+1) }):=by simpa using F_
      subst e;refine⟨?_,hp.2.1,hp.2.2.1,hp.2.2.2.1,fun v z=>by cases z⟩;have e2:f'.toArray.push uv=(f'++[uv]).toArray:=by simp
      rw[<- e2];have q':IsL (s8.heap.update D<|Obj.mapSeq fun a=>a.push uv) D (f'.toArray.push uv) (if (f'.toArray.push uv).size == f'.toArray.size then k else k+1):=q;rw[ZX (by simp)] at q';exact q'
     ·rw[ZG,Zb];lia
     ·refine T.keep _ _ _ k2 fun b hb o e=>MF b o (K9 b hb) e
  ·refine⟨0,[],H2,[],0,?_,.nil,Ys _,T.keep _ _ _ o_ fun b _ o e=>old b o e,fun b hb=>(f2 b hb).1,w0⟩;refine (MB _).Cd fun p hp=>?_;have e:p=(D,{ cls:=.type "list",data:=.seq ([]:List Value).toArray 0 }):=by simpa using hp
   subst e;exact⟨D6,I2.l_.fresh (by rw[Hn];exact ZR _),by rw[eL];exact Hl,Nz,fun v z=>by cases z⟩
 have IG:compEnvC scope (fe X.env scope.names) C X.env=X'.env:=IE.symm;show codeAny (model X.prog X.w) X.A (.compStart _ 0 (.ref it) (.ref D)<|compEnvC scope (fe X.env scope.names) C X.env) _ _;rw[IG];exact codeAny_compStart_list (loop _ rfl) (T.self X.A 0 _ _ _ (T.keep _ _ _ o_ fun b _ o e=>old b o e)<|loop _ rfl)
theorem vJ(hc:X.calm=true)(S:p_ X scope own caps)(hi:PI X tg iter wi)(hg:∀ Y,PG (X.DM (bH X own caps) scope Y) tg<|g Y)(ht:∀ Y,IC (X.DM (bH X own caps) scope Y) ifs<|tt Y)(he:∀ Y,PE (X.DM (bH X own caps) scope Y) elt<|te Y)(hs:∀ x,foldedSetIterable iter X.env x=pure x:=by intro _;rfl):PE X (.ListComp elt [⟨tg,iter,ifs,0⟩] scope pos) (i8 own caps wi g tt te):=by
 intro pins s σ H Q I h;show wpAny _ X.A (comprehension (.ListComp elt [⟨tg,iter,ifs,0⟩] scope pos) scope X.env _ (newList []) false (eval iter X.env) none) _ _ s;refine nQ (use:=none) (Qp:=EP X pins σ Q) hc S hi hg ht he hs I h fun D C H4 s4 m I4 hn f l c z p q=>?_;show ∃ m,s4.heap.Ns C m/\∀ h',Heap.SameBut C s4.heap h'->EP X pins σ Q (.ref D) { s4 with heap:=h' };refine⟨m,hn,fun h' sb=>⟨.ref D,H4,?_,rfl,q⟩⟩;exact I4.turned (it:=C) (t':=s4.toks) (fun b o hb e=>(sb.2 b hb).trans e) f (Yw l) (.inr z) c p
end
def EU(h:Heap)(d:Addr)(ks:List Value)(ep:Nat):Prop:=∃ o es,h.get? d=some o/\o.ExactDict/\o.data=.dict es ep/\es.toList.map (·.key)=ks
theorem EU.ty(x:EU s.heap d ks ep):s.TypeIs (.ref d) "dict" := let ⟨o,_,e,c,_⟩:=x;⟨o,e,c.1⟩
theorem EU.lt(x:EU h d ks ep):d<h.objs.size:=let ⟨_,_,e,_⟩:=x;ZP e
theorem EU.go{h':Heap}(x:EU h d ks ep)(k:∀ o,h.get? d=some o->h'.get? d=some o):EU h' d ks ep:=let ⟨o,es,e,r⟩:=x;⟨o,es,k o e,r⟩
section
variable{prog:Program}{w:World}{A:Around}{E:Value->Shared->Prop}{s:Shared}
theorem vK{Q:Value->Shared->Prop}(lo:(d == sysModules)=false)(x:EU s.heap d ks ep)(q:Q (.ref s.heap.objs.size) { s with heap:=s.heap.push { cls:=.type "dict_keyiterator",data:=.fields #[.ref d,.int 0 0,.int ks.length 0,.int ep 0] } }):wpAny (model prog w) A (pyIter<|.ref d) Q E s:=by
 have ty:=x.ty;obtain⟨o,es,e1,e2,e3,e4⟩:=x;have n:es.size=ks.length:=by rw[<- e4,ZY,Zv]
 refine wpAny_pyIter_slot ty F.slot_dict_iter (Y2 F.slot_dict_iter ty F.entry_dict_iter ?z<|F.args_dict_iter_1 _)
 case z=>
  unfold Builtin.«dict.__iter__» Builtin.Dict.dictSlotNone;refine Z8 (Z8<|wpAny_notOrdered_dict ty ?_);show wpAny _ _ (pure<|Value.ref d) _ _ s;apply ZS;show wpAny _ _ (Builtin.Dict.showsAll d >>= _) _ _ s;unfold Builtin.Dict.showsAll;rw[ZX (by rw[lo];simp)];refine Z8 (ZS<|Z8<|WU e1 e3<|Z8<|Wv e1 e3<|Z8<|YG<|ZS ⟨_,rfl,"dict_keyiterator",_,⟨_,ZF _ rfl,rfl⟩,YZ.lookup,?_⟩);simpa [rawInt,n] using q
theorem vL{v:Value}(hit:s.heap.IsKeyIter it d i ks.length ep)(x:EU s.heap d ks ep)(hv:ks[i]?=some v)(q:∀ h',h'.IsKeyIter it d (i+1) ks.length ep->Heap.SameBut it s.heap h'->Q (some v) { s with heap:=h' }):wpAny (model prog w) A (pyNext<|.ref it) Q E s:=by
 obtain⟨oi,f1,f2,f3⟩:=id hit;obtain⟨o,es,e1,e2,e3,e4⟩:=x;have n:es.size=ks.length:=by rw[<- e4,ZY,Zv]
 have hi:i<es.size:=by
  have:i<ks.length:=(ZA.mp hv).1;lia
 have ek:es[i].key=v:=by
  rw[<- e4,Zr,Zt,WV hi] at hv;exact Zw hv
 unfold pyNext;refine Z8 (Xl<|YX (name:=Str.ofString "__next__") hit.typeIs YZ<|Y2 YZ hit.typeIs Xj ?z<|Xt _)
 case z=>
  refine Z8 (ZS<|Z8<|Z8 ?_);refine Z8 (YL hit.typeIs<|ZS<|Z8<|wpAny_fieldsOf f1 f3 ?_);simp only[show Builtin.Dict_items.ownsTuple "dict_keyiterator" = false by decide,Zd,X7];show wpAny _ _ (if (Value.ref d == Value.none)=true then _ else _) _ _ s;rw[ZX (show ¬ (Value.ref d == Value.none)=true by intro z;cases z)];refine Z8 (ZS<|Z8<|WU e1 e3 ?_);rw[ZX (by simp[n])];refine Z8 (ZS<|Z8<|Wv e1 e3 ?_);rw[ZX (by simp)];apply ZS;simp only[show ¬ ((i:Int)<0) by lia,X7,XJ,WV hi];refine Z8 (Z8<|YL hit.typeIs<|ZS<|Z8<|wpAny_isOneOf_keyiter hit.typeIs ?_);show wpAny _ _ (setField (.ref it) 1 (rawInt<|(i:Int)+1) >>= _) _ _ s;have IH:(s.heap.update it (Obj.mapFields (·.setIfInBounds 1 (rawInt<|(i:Int)+1)))).IsKeyIter it d (i+1) ks.length ep:=
   ⟨_,Xy _ f1<|Obj.isFreed_of_fields<|XV f3 _,(Obj.cls_mapFields ..).trans f2,by rw[XV f3];simp[rawInt]⟩;refine Z8 (W2 f1 f3 (by simp) (Z8 (YA (Z8 (wpAny_isOneOf_keyiter (s:={ s with heap:=s.heap.update it (Obj.mapFields (·.setIfInBounds 1 (rawInt<|(i:Int)+1))) }) IH.typeIs ?_)))));show wpAny _ _ (pure es[i].key) _ _ _;rw[ek];exact ZS (ZS ⟨_,rfl,ZS<|q _ IH<|X4 ..⟩)
theorem vM(hh:A.handled=none)(hit:s.heap.IsKeyIter it d i ks.length ep)(x:EU s.heap d ks ep)(hv:ks.length<=i)(q:∀ h',Heap.ExtBut it s.heap h'->Q none { s with heap:=h' }):wpAny (model prog w) A (pyNext<|.ref it) Q E s:=by
 obtain⟨oi,f1,f2,f3⟩:=id hit;obtain⟨o,es,e1,e2,e3,e4⟩:=x;have n:es.size=ks.length:=by rw[<- e4,ZY,Zv]
 unfold pyNext;refine Z8 (Xl<|YX (name:=Str.ofString "__next__") hit.typeIs YZ<|Y2 YZ hit.typeIs Xj ?z<|Xt _)
 case z=>
  refine Z8 (ZS<|Z8<|Z8 ?_);refine Z8 (YL hit.typeIs<|ZS<|Z8<|wpAny_fieldsOf f1 f3 ?_);simp only[show Builtin.Dict_items.ownsTuple "dict_keyiterator" = false by decide,Zd,X7];show wpAny _ _ (if (Value.ref d == Value.none)=true then _ else _) _ _ s;rw[ZX (show ¬ (Value.ref d == Value.none)=true by intro z;cases z)];refine Z8 (ZS<|Z8<|WU e1 e3 ?_);rw[ZX (by simp[n])];refine Z8 (ZS<|Z8<|Wv e1 e3 ?_);rw[ZX (by simp)];apply ZS;simp only[show ¬ ((i:Int)<0) by lia,X7,XJ,Array.getElem?_eq_none (show es.size<=i by lia)];refine Z8 (Z8<|YL hit.typeIs<|ZS ?_);show wpAny _ _ (setField (.ref it) 0 .none >>= _) _ _ s;refine Z8 (W2 f1 f3 (by simp) ?_);show wpAny _ _ (newExc (.type "StopIteration") [] >>= _) _ _ _;apply Z8;simp only[newExc,newTuple];refine Z8 (YG (Z8 (m:=firstArgMember _ _) (wpAny_of_eq (a:=Value.none) (by first | rfl | (simp only[firstArgMember];rfl)) (YG ?_ (by size_fits)))) (by size_fits));simp only[raiseNew];apply Z8;apply wpAny_handled;rw[show A.in1.handled=none from hh];refine Z8 (m:=pure _) (ZS<|wpAny_throw ?_);apply Z8;refine WK (T := "StopIteration") (b:=true) ⟨_,ZF _ rfl,rfl⟩ isSubtype_stop ?_;exact ZS (q _<|((X4 ..).extBut.push _).push _)
theorem vN(hh:A.handled=none)(it d:Addr)(ne:d≠it)(ks:List Value)(ep:Nat):Walks prog w A it [it,d] [it] ks.length (fun i v=>ks[i]?=some v) (fun i h=>h.IsKeyIter it d i ks.length ep/\EU h d ks ep) where
 sub:=fun b hb=>by
  have:b=it:=by simpa using hb
  simp[this]
 frame:=fun i h h' st k=>⟨let ⟨o,e,r⟩:=st.1;⟨o,k it (by simp) o e,r⟩,st.2.go (k d (by simp))⟩
 item:=fun i s Q E hi st hQ=>by
  have hv:ks[i]?=some ks[i]:=by simp[hi]
  refine vL st.1 st.2 hv fun h' a b=>hQ _ h' s.toks hv ⟨a,st.2.go fun o e=>b.extBut d o ne e⟩ fun c o hc e=>b.extBut c o (by simpa using hc) e
 done:=fun s Q E st hQ=>vM hh st.1 st.2 (ZR _) fun h' b=>hQ h' s.toks fun c o hc e=>b c o (by simpa using hc) e
 self:=fun i s Q E st hQ=>wpAny_pyIter_keyiter st.1 hQ
theorem vO(lo:(d == sysModules)=false):PySem.W.KdlSrc prog w "dict" d d ks.length (fun i v=>ks[i]?=some v) (fun h=>EU h d ks ep) where
 type:=fun s x=>x.ty
 there:=fun h x=>⟨x.lt,x.lt⟩
 keep:=fun h h' x k=>x.go (k d<|.inl rfl)
 notList:=by decide
 notTuple:=by decide
 hint:=fun A E s Q x q=>PySem.W.kdl_hint_dict x.ty q
 iter:=fun A s hh x=>⟨_,_,(fun E Q q=>vK lo x q),vN hh _ d (Zx x.lt) ks ep,⟨⟨_,ZF _ rfl,rfl,rfl⟩,x.go fun o e=>Z3 _ e⟩⟩
end
end L2
namespace L2
open PySem PySem.Spec PyProof.Rows PySem.W
section
variable{n:Nat}{key:Nat->Int}{cmp:Nat->Nat->(Bool->Shared->Prop)->Shared->Prop}
def y_(key:Nat->Int)(p:Array Nat)(i:Nat):Int:=key (p.getD i 0)
def Up(key:Nat->Int)(p:Array Nat)(m:Nat):Prop:=∀ i j,i<=j->j<m->y_ key p i<=y_ key p j
def bZ(n:Nat)(key:Nat->Int)(cmp:Nat->Nat->(Bool->Shared->Prop)->Shared->Prop)(s:Shared):Prop:=∀ i j C,i<n->j<n->C (decide (key i<key j)) s->cmp i j C s
def Rg(n:Nat)(p:Array Nat):Prop:=p.toList.Perm (range n)
variable{p:Array Nat}
theorem Rg.size(h:Rg n p):p.size=n:=by
 have:=h.length_eq;simpa using this
theorem Rg.lt(h:Rg n p){i:Nat}(hi:i<n):p.getD i 0<n:=by
 have hs:=h.size;have e:p.getD i 0=p[i]:=by simp[Array.getD,hs,hi]
 rw[e];have:p[i]∈p.toList:=by simp
 exact Zp.mp (h.mem_iff.mp this)
theorem Rg.ne(h:Rg n p)(inj:∀ i j,i<n->j<n->key i=key j->i=j){i j:Nat}(Dc:i<j)(hj:j<n):y_ key p i≠y_ key p j:=by
 intro e;have hs:=h.size;have e':=inj _ _ (h.lt (by lia)) (h.lt hj) e;have e1:p.getD i 0=p[i]:=by simp[Array.getD,hs,show i<n by lia]
 have e2:p.getD j 0=p[j]:=by simp[Array.getD,hs,hj]
 rw[e1,e2] at e';have nd:p.toList.Nodup:=h.nodup_iff.mpr List.nodup_range;have e3:p.toList[i]'(by simpa [hs] using (show i<n by lia))=p.toList[j]'(by simpa [hs] using hj):=by simpa using e'
 have:=(WJ nd).mp e3;lia
theorem fP{q:Array Nat}{i j:Nat}(e:p[i]?=q[j]?):y_ key p i=y_ key q j:=by
 unfold y_;rw[W5,W5,e]
theorem Rg.rev(h:Rg n p)(i j:Nat):Rg n (kas_rev p i j):=(W1.mp<|mirror_perm p i j _).trans h
theorem Rg.NE(h:Rg n p)(i j:Nat):Rg n (bubble p i j):=(W1.mp<|bubble_perm p i j).trans h
end
section
variable{prog:Program}{w:World}{A:Around}{E:Value->Shared->Prop}{κ:SortKind}{it:Array Keyed}{key:Nat->Int}
end
section
variable{prog:Program}{w:World}{A:Around}{E:Value->Shared->Prop}{κ:SortKind}{it:Array Keyed}{key:Nat->Int}{n:Nat}{s:Shared}
def i9:Bool->Keyed->Array Keyed->Nat->Nat->Nat->StateT SortSt Sem (Option Nat):=sortPriv% PySem.Builtin.gallop
theorem gO(hc:bZ n key (kas_cmp prog w A κ it) s){i j:Nat}(hi:i<n)(hj:j<n){st:SortSt}(hk:kindOf st=κ){Q:Option Bool->SortSt->Shared->Prop}(h:Q (some<|decide (key i<key j)) st s):
  kasC (model prog w) A E (lt' (kas_item it i)<|kas_item it j) Q st s:=by
 rw[lt'_eq];apply Z2;apply Yb;have:=hc i j (fun c s'=>s'=s/\c=decide (key i<key j)) hi hj ⟨rfl,rfl⟩;unfold kas_cmp at this;rw[hk];refine Z2 (W4<|Xl<|Zc this (fun c s' NF=>?_) fun _ _ hF=>hF.elim);obtain⟨rfl,rfl⟩:=NF;exact Z4 h
theorem bI{σ β:Type}{M:Model}{f:Nat->β->StateT σ Sem (ForInStep β)}{Q:β->σ->Shared->Prop}(I:Nat->β->σ->Shared->Prop)(step:∀ x c st s',I x c st s'->kasC M A E (f x c) (fun r o_ s2=>match r with | .yield c'=>I (x+1) c' o_ s2 | .done c'=>Q c' o_ s2) st s'):∀ (m a:Nat) (c:β) (st:σ) (s':Shared),(∀ c st s',I (a+m) c st s'->Q c st s')->I a c st s'->
   kasC M A E (forIn (range' a m) c f) Q st s'
 | 0,a,c,st,s',fin,h=>by
  show kasC M A E (forIn ([]:List Nat) c f) Q st s';exact kasC_nil (fin c st s' h)
 | m+1,a,c,st,s',fin,h=>by
  show kasC M A E (forIn (a::range' (a+1) m) c f) Q st s';refine kasC_cons (Zc (step a c st s' h) (fun r s2 h'=>?_) fun _ _ e=>e);obtain⟨r,o_⟩:=r;cases r with
  | done c'=>exact h'
  | yield c'=>exact bI I step m (a+1) c' o_ s2 (fun c st s' hi=>fin c st s' (by rw[show a+(m+1)=a+1+m by lia];exact hi)) h'
def BH(key:Nat->Int)(left:Bool)(k:Nat)(pa:Array Nat)(base i:Nat):Bool:=if left=true then decide (key (pa.getD (base+i) 0)<key k) else !decide (key k<key (pa.getD (base+i) 0))
theorem nR(hc:bZ n key (kas_cmp prog w A κ it) s){left:Bool}{k:Nat}(hk:k<n){pa:Array Nat}(NG:∀ i,i<pa.size->pa.getD i 0<n){base m hint:Nat}(hb:base+m<=pa.size)(hh:hint<m)(mono:∀ i j,i<=j->j<m->BH key left k pa base j=true->BH key left k pa base i=true){st:SortSt}(r_:kindOf st=κ){Q:Option Nat->SortSt->Shared->Prop}(h:∀ r,r<=m->(∀ i,i<r->BH key left k pa base i=true)->(∀ i,r<=i->i<m->BH key left k pa base i=false)->Q (some r) st s):
  kasC (model prog w) A E (i9 left (kas_item it k) (pa.map<|kas_item it) base m hint) Q st s:=by
 have el:∀ i,i<m->(pa.map<|kas_item it)[base+i]?=some (kas_item it<|pa.getD (base+i) 0):=fun i hi=>by
  have:base+i<pa.size:=by lia
  simp[Array.getD,this]
 have ask:∀ i,i<m->∀ Q':Option Bool->SortSt->Shared->Prop,Q' (some<|BH key left k pa base i) st s->
   kasC (model prog w) A E (do let x <- elem' (pa.map<|kas_item it) (base+i);if left=true then lt' x (kas_item it k) else do let r <- lt' (kas_item it k) x;pure (r.map fun x=>!x)) Q' st s:=fun i hi Q' hq=>by
  rw[elem'_eq,el i hi];apply Z2;apply Z4;have hx:=NG (base+i) (by lia);unfold BH at hq;cases left with
  | true=>
   rw[Z0 rfl] at hq ⊢;exact gO hc hx hk r_ hq
  | false=>
   rw[ZX ZJ] at hq ⊢;exact Z2 (gO hc hk hx r_<|Z4 hq)
 unfold i9;with_unfolding_all refine Z2 ?_;refine ask hint hh _ ?_;dsimp only;cases MH:BH key left k pa base hint with
 | true=>
  rw[Z0 rfl];apply Z2;apply Zh;have Hr:∀ last BP,last<BP->hint+last<m->BH key left k pa base (hint+last)=true->(BP >= m - hint\/BH key left k pa base (hint+BP)=false)->
    hint+last+1<=hint+min BP (m - hint)/\hint+min BP (m - hint)<=m/\(∀ i,i<hint+last+1->BH key left k pa base i=true)/\(∀ i,hint+min BP (m - hint)<=i->i<m->BH key left k pa base i=false)/\hint+min BP (m - hint) - (hint+last+1)<=m - 0:=fun last BP a1 a2 a3 a4=>by
   refine⟨by lia,by lia,fun i hi=>mono i (hint+last) (by lia) a2 a3,fun i h1 h2=>?_,by lia⟩;rcases a4 with a4 | a4
   ·lia
   ·cases Cy:BH key left k pa base i with
    | false=>rfl
    | true=>rw[mono (hint+BP) i (by lia) h2 Cy] at a4;cases a4
  refine bI (fun x c e_ s'=>e_=st/\s'=s/\∃ last BP,c=(none,last,BP)/\last<BP/\x<BP/\hint+last<m/\BH key left k pa base (hint+last)=true) ?_ _ 0 _ _ _ ?_ ⟨rfl,rfl,0,1,rfl,by lia,by lia,by lia,MH⟩
  ·rintro x c e_ s' ⟨e1,e2,last,BP,rfl,h1,h2,h3,h4⟩;rw[e1,e2];dsimp only;by_cases ho:BP >= m - hint
   ·rw[Z0 ho];apply Z4;dsimp only;have LH:=Hr last BP h1 h3 h4 (.inl ho);apply Z2;apply Zh;refine bI (fun x c e_ s'=>e_=st/\s'=s/\∃ lo hi,c=(none,lo,hi)/\lo<=hi/\hi<=m/\(∀ i,i<lo->BH key left k pa base i=true)/\(∀ i,hi<=i->i<m->BH key left k pa base i=false)/\hi - lo<=m - x) ?_ _ 0 _ _ _ ?_ ⟨rfl,rfl,_,_,rfl,LH⟩
    ·rintro x c e_ s' ⟨e1,e2,lo,hi,rfl,h1,h2,h3,h4,h5⟩;rw[e1,e2];dsimp only;by_cases D7:lo >= hi
     ·rw[Z0 D7];apply Z4;dsimp only;have e:lo=hi:=by lia
      subst e;exact Z4 (h lo h2 h3 h4)
     ·rw[ZX D7];have m1:lo<=lo+(hi - lo) / 2:=by lia
      have m2:lo+(hi - lo) / 2<hi:=by lia
      generalize lo+(hi - lo) / 2=mid at m1 m2 ⊢;refine Z2 (ask mid (by lia) _ ?_);dsimp only;cases hB:BH key left k pa base mid with
      | true=>
       rw[Z0 rfl];exact Z4 ⟨rfl,rfl,mid+1,hi,rfl,by lia,h2,fun i EV=>mono i mid (by lia) (by lia) hB,h4,by lia⟩
      | false=>
       rw[ZX ZJ];refine Z4 ⟨rfl,rfl,lo,mid,rfl,by lia,by lia,h3,fun i a b=>?_,by lia⟩;cases Cy:BH key left k pa base i with
       | false=>rfl
       | true=>rw[mono mid i a b Cy] at hB;cases hB
    ·rintro c e_ s' ⟨e1,e2,lo,hi,rfl,h1,h2,h3,h4,h5⟩;rw[e1,e2];dsimp only;have e:lo=hi:=by lia
     subst e;exact Z4 (h lo h2 h3 h4)
   ·rw[ZX ho];refine Z2 (ask (hint+BP) (by lia) _ ?_);dsimp only;cases hB:BH key left k pa base (hint+BP) with
    | true=>
     simp only[WR,Zd,X7];exact Z4 ⟨rfl,rfl,BP,2 * BP+1,rfl,by lia,by lia,by lia,hB⟩
    | false=>
     simp only[Bool.not_false,Wz];apply Z4;dsimp only;have LH:=Hr last BP h1 h3 h4 (.inr hB);apply Z2;apply Zh;refine bI (fun x c e_ s'=>e_=st/\s'=s/\∃ lo hi,c=(none,lo,hi)/\lo<=hi/\hi<=m/\(∀ i,i<lo->BH key left k pa base i=true)/\(∀ i,hi<=i->i<m->BH key left k pa base i=false)/\hi - lo<=m - x) ?_ _ 0 _ _ _ ?_ ⟨rfl,rfl,_,_,rfl,LH⟩
     ·rintro x c e_ s' ⟨e1,e2,lo,hi,rfl,h1,h2,h3,h4,h5⟩;rw[e1,e2];dsimp only;by_cases D7:lo >= hi
      ·rw[Z0 D7];apply Z4;dsimp only;have e:lo=hi:=by lia
       subst e;exact Z4 (h lo h2 h3 h4)
      ·rw[ZX D7];have m1:lo<=lo+(hi - lo) / 2:=by lia
       have m2:lo+(hi - lo) / 2<hi:=by lia
       generalize lo+(hi - lo) / 2=mid at m1 m2 ⊢;refine Z2 (ask mid (by lia) _ ?_);dsimp only;cases hB:BH key left k pa base mid with
       | true=>
        rw[Z0 rfl];exact Z4 ⟨rfl,rfl,mid+1,hi,rfl,by lia,h2,fun i EV=>mono i mid (by lia) (by lia) hB,h4,by lia⟩
       | false=>
        rw[ZX ZJ];refine Z4 ⟨rfl,rfl,lo,mid,rfl,by lia,by lia,h3,fun i a b=>?_,by lia⟩;cases Cy:BH key left k pa base i with
        | false=>rfl
        | true=>rw[mono mid i a b Cy] at hB;cases hB
     ·rintro c e_ s' ⟨e1,e2,lo,hi,rfl,h1,h2,h3,h4,h5⟩;rw[e1,e2];dsimp only;have e:lo=hi:=by lia
      subst e;exact Z4 (h lo h2 h3 h4)
  ·rintro c e_ s' ⟨e1,e2,last,BP,rfl,h1,h2,h3,h4⟩;rw[e1,e2];dsimp only;have LH:=Hr last BP h1 h3 h4 (.inl (by lia));apply Z2;apply Zh;refine bI (fun x c e_ s'=>e_=st/\s'=s/\∃ lo hi,c=(none,lo,hi)/\lo<=hi/\hi<=m/\(∀ i,i<lo->BH key left k pa base i=true)/\(∀ i,hi<=i->i<m->BH key left k pa base i=false)/\hi - lo<=m - x) ?_ _ 0 _ _ _ ?_ ⟨rfl,rfl,_,_,rfl,LH⟩
   ·rintro x c e_ s' ⟨e1,e2,lo,hi,rfl,h1,h2,h3,h4,h5⟩;rw[e1,e2];dsimp only;by_cases D7:lo >= hi
    ·rw[Z0 D7];apply Z4;dsimp only;have e:lo=hi:=by lia
     subst e;exact Z4 (h lo h2 h3 h4)
    ·rw[ZX D7];have m1:lo<=lo+(hi - lo) / 2:=by lia
     have m2:lo+(hi - lo) / 2<hi:=by lia
     generalize lo+(hi - lo) / 2=mid at m1 m2 ⊢;refine Z2 (ask mid (by lia) _ ?_);dsimp only;cases hB:BH key left k pa base mid with
     | true=>
      rw[Z0 rfl];exact Z4 ⟨rfl,rfl,mid+1,hi,rfl,by lia,h2,fun i EV=>mono i mid (by lia) (by lia) hB,h4,by lia⟩
     | false=>
      rw[ZX ZJ];refine Z4 ⟨rfl,rfl,lo,mid,rfl,by lia,by lia,h3,fun i a b=>?_,by lia⟩;cases Cy:BH key left k pa base i with
      | false=>rfl
      | true=>rw[mono mid i a b Cy] at hB;cases hB
   ·rintro c e_ s' ⟨e1,e2,lo,hi,rfl,h1,h2,h3,h4,h5⟩;rw[e1,e2];dsimp only;have e:lo=hi:=by lia
    subst e;exact Z4 (h lo h2 h3 h4)
 | false=>
  rw[ZX ZJ];apply Z2;apply Zh;have Hr:∀ last BP,last<BP->last<=hint->BH key left k pa base (hint - last)=false->(BP >= hint+1\/BH key left k pa base (hint - BP)=true)->
    hint+1 - min BP (hint+1)<=hint - last/\hint - last<=m/\(∀ i,i<hint+1 - min BP (hint+1)->BH key left k pa base i=true)/\(∀ i,hint - last<=i->i<m->BH key left k pa base i=false)/\hint - last - (hint+1 - min BP (hint+1))<=m - 0:=fun last BP a1 a2 a3 a4=>by
   refine⟨by lia,by lia,fun i hi=>?_,fun i h1 h2=>?_,by lia⟩
   ·rcases a4 with a4 | a4
    ·lia
    ·exact mono i (hint - BP) (by lia) (by lia) a4
   ·cases Cy:BH key left k pa base i with
    | false=>rfl
    | true=>rw[mono (hint - last) i (by lia) h2 Cy] at a3;cases a3
  refine bI (fun x c e_ s'=>e_=st/\s'=s/\∃ last BP,c=(none,last,BP)/\last<BP/\x<BP/\last<=hint/\BH key left k pa base (hint - last)=false) ?_ _ 0 _ _ _ ?_ ⟨rfl,rfl,0,1,rfl,by lia,by lia,by lia,MH⟩
  ·rintro x c e_ s' ⟨e1,e2,last,BP,rfl,h1,h2,h3,h4⟩;rw[e1,e2];dsimp only;by_cases ho:BP >= hint+1
   ·rw[Z0 ho];apply Z4;dsimp only;have LH:=Hr last BP h1 h3 h4 (.inl ho);apply Z2;apply Zh;refine bI (fun x c e_ s'=>e_=st/\s'=s/\∃ lo hi,c=(none,lo,hi)/\lo<=hi/\hi<=m/\(∀ i,i<lo->BH key left k pa base i=true)/\(∀ i,hi<=i->i<m->BH key left k pa base i=false)/\hi - lo<=m - x) ?_ _ 0 _ _ _ ?_ ⟨rfl,rfl,_,_,rfl,LH⟩
    ·rintro x c e_ s' ⟨e1,e2,lo,hi,rfl,h1,h2,h3,h4,h5⟩;rw[e1,e2];dsimp only;by_cases D7:lo >= hi
     ·rw[Z0 D7];apply Z4;dsimp only;have e:lo=hi:=by lia
      subst e;exact Z4 (h lo h2 h3 h4)
     ·rw[ZX D7];have m1:lo<=lo+(hi - lo) / 2:=by lia
      have m2:lo+(hi - lo) / 2<hi:=by lia
      generalize lo+(hi - lo) / 2=mid at m1 m2 ⊢;refine Z2 (ask mid (by lia) _ ?_);dsimp only;cases hB:BH key left k pa base mid with
      | true=>
       rw[Z0 rfl];exact Z4 ⟨rfl,rfl,mid+1,hi,rfl,by lia,h2,fun i EV=>mono i mid (by lia) (by lia) hB,h4,by lia⟩
      | false=>
       rw[ZX ZJ];refine Z4 ⟨rfl,rfl,lo,mid,rfl,by lia,by lia,h3,fun i a b=>?_,by lia⟩;cases Cy:BH key left k pa base i with
       | false=>rfl
       | true=>rw[mono mid i a b Cy] at hB;cases hB
    ·rintro c e_ s' ⟨e1,e2,lo,hi,rfl,h1,h2,h3,h4,h5⟩;rw[e1,e2];dsimp only;have e:lo=hi:=by lia
     subst e;exact Z4 (h lo h2 h3 h4)
   ·rw[ZX ho];refine Z2 (ask (hint - BP) (by lia) _ ?_);dsimp only;cases hB:BH key left k pa base (hint - BP) with
    | false=>
     rw[ZX ZJ];exact Z4 ⟨rfl,rfl,BP,2 * BP+1,rfl,by lia,by lia,by lia,hB⟩
    | true=>
     rw[Z0 rfl];apply Z4;dsimp only;have LH:=Hr last BP h1 h3 h4 (.inr hB);apply Z2;apply Zh;refine bI (fun x c e_ s'=>e_=st/\s'=s/\∃ lo hi,c=(none,lo,hi)/\lo<=hi/\hi<=m/\(∀ i,i<lo->BH key left k pa base i=true)/\(∀ i,hi<=i->i<m->BH key left k pa base i=false)/\hi - lo<=m - x) ?_ _ 0 _ _ _ ?_ ⟨rfl,rfl,_,_,rfl,LH⟩
     ·rintro x c e_ s' ⟨e1,e2,lo,hi,rfl,h1,h2,h3,h4,h5⟩;rw[e1,e2];dsimp only;by_cases D7:lo >= hi
      ·rw[Z0 D7];apply Z4;dsimp only;have e:lo=hi:=by lia
       subst e;exact Z4 (h lo h2 h3 h4)
      ·rw[ZX D7];have m1:lo<=lo+(hi - lo) / 2:=by lia
       have m2:lo+(hi - lo) / 2<hi:=by lia
       generalize lo+(hi - lo) / 2=mid at m1 m2 ⊢;refine Z2 (ask mid (by lia) _ ?_);dsimp only;cases hB:BH key left k pa base mid with
       | true=>
        rw[Z0 rfl];exact Z4 ⟨rfl,rfl,mid+1,hi,rfl,by lia,h2,fun i EV=>mono i mid (by lia) (by lia) hB,h4,by lia⟩
       | false=>
        rw[ZX ZJ];refine Z4 ⟨rfl,rfl,lo,mid,rfl,by lia,by lia,h3,fun i a b=>?_,by lia⟩;cases Cy:BH key left k pa base i with
        | false=>rfl
        | true=>rw[mono mid i a b Cy] at hB;cases hB
     ·rintro c e_ s' ⟨e1,e2,lo,hi,rfl,h1,h2,h3,h4,h5⟩;rw[e1,e2];dsimp only;have e:lo=hi:=by lia
      subst e;exact Z4 (h lo h2 h3 h4)
  ·rintro c e_ s' ⟨e1,e2,last,BP,rfl,h1,h2,h3,h4⟩;rw[e1,e2];dsimp only;have LH:=Hr last BP h1 h3 h4 (.inl (by lia));apply Z2;apply Zh;refine bI (fun x c e_ s'=>e_=st/\s'=s/\∃ lo hi,c=(none,lo,hi)/\lo<=hi/\hi<=m/\(∀ i,i<lo->BH key left k pa base i=true)/\(∀ i,hi<=i->i<m->BH key left k pa base i=false)/\hi - lo<=m - x) ?_ _ 0 _ _ _ ?_ ⟨rfl,rfl,_,_,rfl,LH⟩
   ·rintro x c e_ s' ⟨e1,e2,lo,hi,rfl,h1,h2,h3,h4,h5⟩;rw[e1,e2];dsimp only;by_cases D7:lo >= hi
    ·rw[Z0 D7];apply Z4;dsimp only;have e:lo=hi:=by lia
     subst e;exact Z4 (h lo h2 h3 h4)
    ·rw[ZX D7];have m1:lo<=lo+(hi - lo) / 2:=by lia
     have m2:lo+(hi - lo) / 2<hi:=by lia
     generalize lo+(hi - lo) / 2=mid at m1 m2 ⊢;refine Z2 (ask mid (by lia) _ ?_);dsimp only;cases hB:BH key left k pa base mid with
     | true=>
      rw[Z0 rfl];exact Z4 ⟨rfl,rfl,mid+1,hi,rfl,by lia,h2,fun i EV=>mono i mid (by lia) (by lia) hB,h4,by lia⟩
     | false=>
      rw[ZX ZJ];refine Z4 ⟨rfl,rfl,lo,mid,rfl,by lia,by lia,h3,fun i a b=>?_,by lia⟩;cases Cy:BH key left k pa base i with
      | false=>rfl
      | true=>rw[mono mid i a b Cy] at hB;cases hB
   ·rintro c e_ s' ⟨e1,e2,lo,hi,rfl,h1,h2,h3,h4,h5⟩;rw[e1,e2];dsimp only;have e:lo=hi:=by lia
    subst e;exact Z4 (h lo h2 h3 h4)
end
section
variable{key:Nat->Int}
def BF(key:Nat->Int)(l:List Nat):Prop:=l.Pairwise fun x y=>key x<=key y
structure NH(key:Nat->Int)(la lb:List Nat)(po:List Nat)(ia ib:Nat):Prop where
 perm:po.Perm (la.take ia++lb.take ib)
 sa:BF key (po++la.drop ia)
 sb:BF key (po++lb.drop ib)
 pa:ia+1<la.length
 pb:ib<lb.length
variable{l m:List Nat}
theorem bp:BF key (l++m)↔BF key l/\BF key m/\∀ x∈l,∀ y∈m,key x<=key y:=List.pairwise_append
theorem fQ(l:List Nat)(i k:Nat):l.take i++(l.drop i).take k=l.take (i+k):=by rw[List.take_add]
variable{la lb po:List Nat}{ia ib:Nat}
theorem ff(k:Nat)(perm:po.Perm (la.take ia++lb.take ib))(sa:BF key (po++la.drop ia))(sb:BF key (po++lb.drop ib))(h:∀ x∈(la.drop ia).take k,∀ y∈lb.drop ib,key x<=key y):
  (po++(la.drop ia).take k).Perm (la.take (ia+k)++lb.take ib)/\BF key (po++(la.drop ia).take k++la.drop (ia+k))/\BF key (po++(la.drop ia).take k++lb.drop ib):=by
 refine⟨?_,?_,?_⟩
 ·rw[<- fQ la ia k];refine (perm.append_right _).trans ?_;rw[Z7,Z7];exact ZT _ Z1
 ·rw[Z7,<- Yk,ZD];exact sa
 ·rw[Z7];have s1:=bp.mp sa;have s2:=bp.mp sb;refine bp.mpr ⟨s1.1,bp.mpr ⟨s1.2.1.sublist<|XQ _ _,s2.2.1,h⟩,fun x hx y hy=>?_⟩;rcases ZE.mp hy with hy | hy
  ·exact s1.2.2 x hx y (YK hy)
  ·exact s2.2.2 x hx y hy
theorem gP(k:Nat)(perm:po.Perm (la.take ia++lb.take ib))(sa:BF key (po++la.drop ia))(sb:BF key (po++lb.drop ib))(h:∀ x∈(lb.drop ib).take k,∀ y∈la.drop ia,key x<=key y):
  (po++(lb.drop ib).take k).Perm (la.take ia++lb.take (ib+k))/\BF key (po++(lb.drop ib).take k++la.drop ia)/\BF key (po++(lb.drop ib).take k++lb.drop (ib+k)):=by
 have:=ff (la:=lb) (lb:=la) k (perm.trans Z1) sb sa h;exact⟨this.1.trans Z1,this.2.2,this.2.1⟩
variable{i:Nat}
theorem bJ(h:i<l.length):(l.drop i).take 1=[l.getD i 0]:=by
 rw[Zm h,Z6,ZL h];rfl
variable{y:Nat}
theorem b6(h:y∈l.drop i):∃ j,i<=j/\j<l.length/\y=l.getD j 0:=by
 obtain⟨j,hj,e⟩:=Xi.mp h;have hl:=hj;rw[Zj] at hl;exact⟨i+j,by lia,by lia,by rw[<- e,XI];simp[List.getD,show i+j<l.length by lia]⟩
variable{k:Nat}
theorem fg(h:y∈(l.drop i).take k):∃ j,j<k/\i+j<l.length/\y=l.getD (i+j) 0:=by
 obtain⟨j,hj,e⟩:=Xi.mp h;have hl:=hj;rw[Zg,Zj] at hl;exact⟨j,by lia,by lia,by rw[<- e,WT,XI];simp[List.getD,show i+j<l.length by lia]⟩
theorem fh(h:BF key l){i j:Nat}(Dc:i<=j)(hj:j<l.length):key (l.getD i 0)<=key (l.getD j 0):=by
 rcases Nat.lt_or_eq_of_le Dc with DN | rfl
 ·have:=Y1.mp h i j (by lia) hj DN;simpa [List.getD,hj,show i<l.length by lia] using this
 ·exact XT _
theorem nS(h:BF key (l++m)):BF key m:=(bp.mp h).2.1
theorem d9{j:Nat}(h:BF key (po++l.drop i))(hj:i<=j)(MJ:j<=k)(hk:k<l.length):key (l.getD j 0)<=key (l.getD k 0):=by
 have:=fh (nS h) (i:=j - i) (j:=k - i) (by lia) (by rw[Zj];lia);simpa [List.getD,YY,show i+(j - i)=j by lia,show i+(k - i)=k by lia] using this
def DT(key:Nat->Int)(it:Array Keyed)(la lb:List Nat)(out:Array Keyed):Prop:=∃ po:List Nat,out=(po.map<|kas_item it).toArray/\po.Perm (la++lb)/\BF key po
variable{it:Array Keyed}
theorem fi(perm:po.Perm (la.take ia++lb.take ib))(sa:BF key (po++la.drop ia))(sb:BF key (po++lb.drop ib))(NI:ib=lb.length\/ia=la.length):
  DT key it la lb ((po.map<|kas_item it).toArray++(la.map<|kas_item it).toArray.extract ia la.length++(lb.map<|kas_item it).toArray.extract ib lb.length):=by
 refine⟨po++la.drop ia++lb.drop ib,?_,?_,?_⟩
 ·apply Yf;simp[Yp,XH]
 ·rw[Z7];refine (perm.append_right _).trans ?_;have:(la.take ia++lb.take ib++(la.drop ia++lb.drop ib)).Perm ((la.take ia++la.drop ia)++(lb.take ib++lb.drop ib)):=by
   rw[Z7,Z7];refine ZT _ ?_;rw[<- Z7,<- Z7];exact ZK _ Z1
  rw[ZD,ZD] at this;exact this
 ·rcases NI with e | e
  ·rw[e,WH,ZZ];exact sa
  ·rw[e,WH,ZZ];exact sb
theorem fj(perm:po.Perm (la.take ia++lb.take ib))(sa:BF key (po++la.drop ia))(sb:BF key (po++lb.drop ib))(Pg:ia+1=la.length)(top:∀ x∈lb,key x<=key (la.getD (la.length - 1) 0)):
  DT key it la lb ((po.map<|kas_item it).toArray++(lb.map<|kas_item it).toArray.extract ib lb.length++(la.map<|kas_item it).toArray.extract ia la.length):=by
 refine⟨po++lb.drop ib++la.drop ia,?_,?_,?_⟩
 ·apply Yf;simp[Yp,XH]
 ·rw[Z7];refine (perm.append_right _).trans ?_;have:(la.take ia++lb.take ib++(lb.drop ib++la.drop ia)).Perm ((la.take ia++la.drop ia)++(lb.take ib++lb.drop ib)):=by
   rw[Z7,Z7];refine ZT _ ?_;rw[<- Z7];exact Z1
  rw[ZD,ZD] at this;exact this
 ·refine bp.mpr ⟨sb,nS sa,fun x hx y hy=>?_⟩;rcases ZE.mp hx with hx | hx
  ·exact (bp.mp sa).2.2 x hx y hy
  ·obtain⟨j,h1,h2,rfl⟩:=b6 hy;have:j=la.length - 1:=by lia
   rw[this];exact top x (YW hx)
end
section
variable{prog:Program}{w:World}{A:Around}{E:Value->Shared->Prop}{κ:SortKind}{it:Array Keyed}{key:Nat->Int}{n:Nat}{s:Shared}
def nU:Array Keyed->Array Keyed->StateT SortSt Sem (Array Keyed):=sortPriv% PySem.Builtin.mergeLo
structure i_(J3 st:SortSt):Prop where
 k:kindOf st=kindOf J3
 a:arrOf st=arrOf J3
 p:pendingOf st=pendingOf J3
 f:failedOf st=failedOf J3
theorem i_.refl(st:SortSt):i_ st st:=⟨rfl,rfl,rfl,rfl⟩
theorem b7{σ α:Type}{M:Model}{m:StateT σ Sem α}{Q Q':α->σ->Shared->Prop}{st:σ}{s':Shared}(h:kasC M A E m Q' st s')(g:∀ a st s',Q' a st s'->Q a st s'):kasC M A E m Q st s':=
 Zc h (fun r s' x=>g r.1 r.2 s' x) fun _ _ e=>e
variable{l:List Nat}
theorem aV{i:Nat}(hi:i<l.length){st:SortSt}{Q:Keyed->SortSt->Shared->Prop}(h:Q (kas_item it<|l.getD i 0) st s):kasC (model prog w) A E (elem' (l.map<|kas_item it).toArray i) Q st s:=by
 rw[elem'_eq,show ((l.map<|kas_item it).toArray)[i]?=some (kas_item it<|l.getD i 0) by simp[List.getD,hi]];exact Z4 h
theorem cz(hl:∀ x∈l,x<n){i:Nat}(hi:i<l.length):l.getD i 0<n:=by
 rw[Z6,ZL hi];exact hl _ (List.getElem_mem hi)
theorem dQ(l:List Nat)(i:Nat):l.toArray.getD i 0=l.getD i 0:=by simp[Array.getD,List.getD];split<;>simp_all
theorem kJ(hc:bZ n key (kas_cmp prog w A κ it) s){k:Nat}(hk:k<n){l:List Nat}(hl:∀ x∈l,x<n){base m hint:Nat}(hb:base+m<=l.length)(hh:hint<m)(mono:∀ i j,base<=i->i<=j->j<base+m->key (l.getD i 0)<=key (l.getD j 0)){st:SortSt}(r_:kindOf st=κ){Q:Option Nat->SortSt->Shared->Prop}(h:∀ r,r<=m->(∀ i,base<=i->i<base+r->key (l.getD i 0)<=key k)->(∀ i,base+r<=i->i<base+m->key k<key (l.getD i 0))->Q (some r) st s):
  kasC (model prog w) A E (i9 false (kas_item it k) (l.map<|kas_item it).toArray base m hint) Q st s:=by
 rw[<- List.map_toArray];refine nR hc hk (fun i hi=>by rw[dQ];exact cz hl (by simpa using hi)) (by simpa using hb) hh (fun i j Dc hj hB=>?_) r_ fun r hr a b=>h r hr (fun i h1 h2=>?_) (fun i h1 h2=>?_)
 ·simp only[BH,dQ,Zd,X7,XG,Yj,Int.not_lt] at hB ⊢;have:=mono (base+i) (base+j) (by lia) (by lia) (by lia);lia
 ·have:=a (i - base) (by lia);simp only[BH,dQ,Zd,X7,XG,Yj,Int.not_lt] at this
  rwa [show base+(i - base)=i by lia] at this
 ·have:=b (i - base) (by lia) (by lia);simp only[BH,dQ,Zd,X7,Bool.not_eq_false',XF] at this
  rwa [show base+(i - base)=i by lia] at this
theorem gQ(hc:bZ n key (kas_cmp prog w A κ it) s){k:Nat}(hk:k<n){l:List Nat}(hl:∀ x∈l,x<n){base m hint:Nat}(hb:base+m<=l.length)(hh:hint<m)(mono:∀ i j,base<=i->i<=j->j<base+m->key (l.getD i 0)<=key (l.getD j 0)){st:SortSt}(r_:kindOf st=κ){Q:Option Nat->SortSt->Shared->Prop}(h:∀ r,r<=m->(∀ i,base<=i->i<base+r->key (l.getD i 0)<key k)->(∀ i,base+r<=i->i<base+m->key k<=key (l.getD i 0))->Q (some r) st s):
  kasC (model prog w) A E (i9 true (kas_item it k) (l.map<|kas_item it).toArray base m hint) Q st s:=by
 rw[<- List.map_toArray];refine nR hc hk (fun i hi=>by rw[dQ];exact cz hl (by simpa using hi)) (by simpa using hb) hh (fun i j Dc hj hB=>?_) r_ fun r hr a b=>h r hr (fun i h1 h2=>?_) (fun i h1 h2=>?_)
 ·simp only[BH,dQ,Wz,XF] at hB ⊢;have:=mono (base+i) (base+j) (by lia) (by lia) (by lia);lia
 ·have:=a (i - base) (by lia);simp only[BH,dQ,Wz,XF] at this
  rwa [show base+(i - base)=i by lia] at this
 ·have:=b (i - base) (by lia) (by lia);simp only[BH,dQ,Wz,Yj,Int.not_lt] at this
  rwa [show base+(i - base)=i by lia] at this
theorem aW(po:List Nat)(y:Nat):(po.map<|kas_item it).toArray.push (kas_item it y)=((po++[y]).map<|kas_item it).toArray:=by simp
theorem bO(po l:List Nat)(i k:Nat):(po.map<|kas_item it).toArray++(l.map<|kas_item it).toArray.extract i (i+k)=((po++(l.drop i).take k).map<|kas_item it).toArray:=by
 apply Yf;simp[Yp,Yo,XE]
end
section
variable{prog:Program}{w:World}{A:Around}{E:Value->Shared->Prop}{κ:SortKind}{it:Array Keyed}{key:Nat->Int}{n:Nat}{s:Shared}
def E5(key:Nat->Int)(it:Array Keyed)(la lb:List Nat)(out:Array Keyed)(ia ib:Nat):Prop:=∃ po:List Nat,out=(po.map<|kas_item it).toArray/\NH key la lb po ia ib
theorem nV{M:Model}{A:Around}{E:Value->Shared->Prop}{σ α:Type}{c:Nat->Prop}{dc:∀ g,Decidable (c g)}{a P:Nat->StateT σ Sem α}{Q:α->σ->Shared->Prop}{st:σ}{s:Shared}(x:Nat->Nat)(ha:∀ g,a g=P (x g))(H:∀ g,kasC M A E (P g) Q st s):∀ g,kasC M A E (if c g then a g else P g) Q st s:=by
 intro g;rw[ha];split
 ·exact H _
 ·exact H _
def II(key:Nat->Int)(it:Array Keyed)(la lb:List Nat)(st:SortSt)(s:Shared): Option (Array Keyed)×Array Keyed×Nat×Nat×Nat->SortSt->Shared->Prop:=fun c e_ s'=>s=s'/\i_ st e_/\∃ BL p q r g,c=(some BL,p,q,r,g)/\DT key it la lb BL
def IJ(key:Nat->Int)(it:Array Keyed)(la lb:List Nat)(st:SortSt)(s:Shared)(x:Nat):Option (Array Keyed)×Array Keyed×Nat×Nat×Nat->SortSt->Shared->Prop:=fun c e_ s'=>s=s'/\i_ st e_/\∃ o ia ib g,c=(none,o,ia,ib,g)/\E5 key it la lb o ia ib/\x+1<=ia+ib
def FN(key:Nat->Int)(it:Array Keyed)(la lb:List Nat)(st:SortSt)(s:Shared)(x:Nat):Option (Array Keyed)×Array Keyed×Nat×Nat×Nat×Nat->SortSt->Shared->Prop:=fun c e_ s'=>s=s'/\i_ st e_/\((∃ BL p q r ac bc,c=(some BL,p,q,r,ac,bc)/\DT key it la lb BL)\/∃ o ia ib ac bc,c=(none,o,ia,ib,ac,bc)/\E5 key it la lb o ia ib/\x+2<=ia+ib)
def HX(key:Nat->Int)(it:Array Keyed)(la lb:List Nat)(st:SortSt)(s:Shared)(x y:Nat):Option (Array Keyed)×Array Keyed×Nat×Nat×Nat×Nat->SortSt->Shared->Prop:=fun c e_ s'=>s=s'/\i_ st e_/\∃ o ia ib ac bc,c=(none,o,ia,ib,ac,bc)/\E5 key it la lb o ia ib/\x+1+y<=ia+ib
def DC(key:Nat->Int)(it:Array Keyed)(la lb:List Nat)(st:SortSt)(s:Shared)(x:Nat):Option (Array Keyed)×Array Keyed×Nat×Nat×Nat×Nat×Nat->SortSt->Shared->Prop:=fun c e_ s'=>s=s'/\i_ st e_/\((∃ BL p q r g ac bc,c=(some BL,p,q,r,g,ac,bc)/\DT key it la lb BL)\/∃ o ia ib g ac bc,c=(none,o,ia,ib,g,ac,bc)/\E5 key it la lb o ia ib/\x+2<=ia+ib)
def GF(key:Nat->Int)(it:Array Keyed)(la lb:List Nat)(st:SortSt)(s:Shared)(x y:Nat):Option (Array Keyed)×Array Keyed×Nat×Nat×Nat×Nat×Nat->SortSt->Shared->Prop:=fun c e_ s'=>s=s'/\i_ st e_/\∃ o ia ib g ac bc,c=(none,o,ia,ib,g,ac,bc)/\E5 key it la lb o ia ib/\x+2<=ia+ib
variable{la lb:List Nat}{st e_:SortSt}{out p:Array Keyed}{q r g:Nat}
theorem II.a{key:Nat->Int}{it:Array Keyed}{s:Shared}(h:i_ st e_)(m:DT key it la lb out):II key it la lb st s (some out,p,q,r,g) e_ s:=⟨rfl,h,_,_,_,_,_,rfl,m⟩
variable{x ia ib:Nat}{o:Array Keyed}
theorem IJ.k{key:Nat->Int}{it:Array Keyed}{s:Shared}(h:i_ st e_)(j:E5 key it la lb o ia ib)(e:x+1<=ia+ib):IJ key it la lb st s x (none,o,ia,ib,g) e_ s:=⟨rfl,h,_,_,_,_,rfl,j,e⟩
variable{g2:Nat}
theorem FN.a{key:Nat->Int}{it:Array Keyed}{s:Shared}(h:i_ st e_)(m:DT key it la lb out):FN key it la lb st s x (some out,p,q,r,g,g2) e_ s:=⟨rfl,h,.inl ⟨_,_,_,_,_,_,rfl,m⟩⟩
theorem FN.b{key:Nat->Int}{it:Array Keyed}{s:Shared}(h:i_ st e_)(j:E5 key it la lb o ia ib)(e:x+2<=ia+ib):FN key it la lb st s x (none,o,ia,ib,g,g2) e_ s:=⟨rfl,h,.inr ⟨_,_,_,_,_,rfl,j,e⟩⟩
variable{y:Nat}
theorem HX.k{key:Nat->Int}{it:Array Keyed}{s:Shared}(h:i_ st e_)(j:E5 key it la lb o ia ib)(e:x+1+y<=ia+ib):HX key it la lb st s x y (none,o,ia,ib,g,g2) e_ s:=⟨rfl,h,_,_,_,_,_,rfl,j,e⟩
variable{g3:Nat}
theorem DC.a{key:Nat->Int}{it:Array Keyed}{s:Shared}(h:i_ st e_)(m:DT key it la lb out):DC key it la lb st s x (some out,p,q,r,g,g2,g3) e_ s:=⟨rfl,h,.inl ⟨_,_,_,_,_,_,_,rfl,m⟩⟩
theorem DC.b{key:Nat->Int}{it:Array Keyed}{s:Shared}(h:i_ st e_)(j:E5 key it la lb o ia ib)(e:x+2<=ia+ib):DC key it la lb st s x (none,o,ia,ib,g,g2,g3) e_ s:=⟨rfl,h,.inr ⟨_,_,_,_,_,_,rfl,j,e⟩⟩
theorem GF.k{key:Nat->Int}{it:Array Keyed}{s:Shared}(h:i_ st e_)(j:E5 key it la lb o ia ib)(e:x+2<=ia+ib):GF key it la lb st s x y (none,o,ia,ib,g,g2,g3) e_ s:=⟨rfl,h,_,_,_,_,_,_,rfl,j,e⟩
theorem bq{a b:Nat}(h:a=b):(a == b)=true:=by simp[h]
theorem Cv{a b:Nat}(h:¬ a=b):¬ (a == b)=true:=by simp[h]
theorem vP(hc:bZ n key (kas_cmp prog w A κ it) s){la lb:List Nat}(Ga:∀ x∈la,x<n)(Gb:∀ x∈lb,x<n)(K_:BF key la)(Ld:BF key lb)(h0:0<la.length)(h1:0<lb.length)(first:∀ x∈la,key (lb.getD 0 0)<=key x)(top:∀ x∈lb,key x<=key (la.getD (la.length - 1) 0)){st:SortSt}(r_:kindOf st=κ){Q:Array Keyed->SortSt->Shared->Prop}(h:∀ out e_,DT key it la lb out->i_ st e_->Q out e_ s):
  kasC (model prog w) A E (nU (la.map<|kas_item it).toArray (lb.map<|kas_item it).toArray) Q st s:=by
 unfold nU;with_unfolding_all refine Z2 (W4<|YE ?_);refine Z2 (aV h1 ?_);dsimp only;generalize Le:(List.map (kas_item it) la).toArray.size=za;obtain rfl:la.length=za:=by rw[<- Le];simp
 generalize Lf:(List.map (kas_item it) lb).toArray.size=zb;obtain rfl:lb.length=zb:=by rw[<- Lf];simp
 have Dh:[lb.getD 0 0].Perm (la.take 0++lb.take 1):=by
  have:=bJ (l:=lb) (i:=0) h1;simp only[Yi] at this;rw[this];exact ZI _
 have Hs:BF key ([lb.getD 0 0]++lb.drop 1):=by
  have:=bJ (l:=lb) (i:=0) h1;simp only[Yi] at this;rw[<- this,ZD];exact Ld
 have Ht:BF key ([lb.getD 0 0]++la.drop 0):=bp.mpr ⟨ZB _ _,by rw[Yi];exact K_,fun x hx y hy=>by
  rw[ZW.mp hx];exact first y (by rwa [Yi] at hy)⟩
 have e0:#[kas_item it (lb.getD 0 0)]=([lb.getD 0 0].map<|kas_item it).toArray:=rfl;rw[e0];by_cases c1:1=lb.length
 ·rw[Z0 (bq c1)];exact Z4 (h _ _ (fi Dh Ht Hs<|.inl c1)<|i_.refl st)
 rw[ZX (Cv c1)];by_cases c2:0+1=la.length
 ·rw[Z0 (bq c2)];exact Z4 (h _ _ (fj Dh Ht Hs c2 top)<|i_.refl st)
 rw[ZX (Cv c2)];refine Z2 (Yb ?_);refine Z2 (b7 (Q':=II key it la lb st s) (Zh (bI (IJ key it la lb st s) ?step _ 0 _ _ _ ?fin (IJ.k (i_.refl st) ⟨_,rfl,Dh,Ht,Hs,by lia,by lia⟩ (by lia)))) ?after)
 case after=>
  rintro c e_ s' ⟨rfl,hs,BL,o,ia,ib,g,rfl,hm⟩;exact Z4 (h _ _ hm hs)
 case fin=>
  rintro c e_ s' ⟨rfl,hs,o,ia,ib,g,rfl,⟨po,rfl,m⟩,hx⟩;have:=m.pa;have:=m.pb;lia
 case step=>
  rintro x c e_ s' ⟨rfl,hs,o,ia,ib,g,rfl,hJ,hx⟩;dsimp only;refine Z2 (b7 (Q':=FN key it la lb st s x)
   (Zh (bI (HX key it la lb st s x) ?Fp _ 0 _ _ _ ?Hu (HX.k hs hJ (by lia)))) ?Ep)
  case Hu=>
   rintro c e_ s' ⟨rfl,hs,o,ia,ib,ac,bc,rfl,hJ,hx⟩;exact FN.b hs hJ (by lia)
  case Fp=>
   rintro y c e_ s' ⟨rfl,hs,o,ia,ib,ac,bc,rfl,⟨po,rfl,m⟩,hx⟩;have m1:=m.pa;have m2:=m.pb;have Fq:kindOf e_=κ:=hs.k.trans r_;dsimp only;refine Z2 (aV m2 ?_);refine Z2 (aV (show ia<la.length by lia) ?_);refine Z2 (gO hc (cz Gb m2) (cz Ga (show ia<la.length by lia)) Fq ?_);dsimp only;by_cases hw:key (lb.getD ib 0)<key (la.getD ia 0)
   ·rw[Z0 (by simpa using hw)];refine Z2 (aV m2 ?_);have b1:=gP 1 m.perm m.sa m.sb (fun x hx y hy=>by
     rw[bJ m2,ZW] at hx;obtain⟨j,j1,j2,rfl⟩:=b6 hy;have:=d9 m.sa (ZR _) j1 j2;rw[hx];lia)
    rw[bJ m2] at b1;rw[aW];try dsimp only
    by_cases hz:ib+1=lb.length
    ·rw[Z0 (bq hz)];exact Z4 (FN.a hs<|fi b1.1 b1.2.1 b1.2.2<|.inl hz)
    ·rw[ZX (Cv hz)];have J':E5 key it la lb ((po++[lb.getD ib 0]).map<|kas_item it).toArray ia (ib+1):=⟨_,rfl,b1.1,b1.2.1,b1.2.2,m1,by lia⟩;by_cases hg:bc+1 >= g
     ·rw[Z0 hg];exact Z4 (FN.b hs J' (by lia))
     ·rw[ZX hg];exact Z4 (HX.k hs J' (by lia))
   ·rw[ZX (by simpa using hw)];refine Z2 (aV (show ia<la.length by lia) ?_);have b1:=ff 1 m.perm m.sa m.sb (fun x hx y hy=>by
     rw[bJ (show ia<la.length by lia),ZW] at hx;obtain⟨j,j1,j2,rfl⟩:=b6 hy;have:=d9 m.sb (ZR _) j1 j2;rw[hx];lia)
    rw[bJ (show ia<la.length by lia)] at b1;rw[aW];try dsimp only
    by_cases hz:ia+1+1=la.length
    ·rw[Z0 (bq hz)];exact Z4 (FN.a hs<|fj b1.1 b1.2.1 b1.2.2 hz top)
    ·rw[ZX (Cv hz)];have J':E5 key it la lb ((po++[la.getD ia 0]).map<|kas_item it).toArray (ia+1) ib:=⟨_,rfl,b1.1,b1.2.1,b1.2.2,by lia,m2⟩;by_cases hg:ac+1 >= g
     ·rw[Z0 hg];exact Z4 (FN.b hs J' (by lia))
     ·rw[ZX hg];exact Z4 (HX.k hs J' (by lia))
  case Ep=>
   rintro c e_ s' ⟨rfl,hs,⟨BL,o,ia,ib,ac,bc,rfl,hm⟩ | ⟨o,ia,ib,ac,bc,rfl,hJ,hx⟩⟩
   ·exact Z4 (II.a hs hm)
   ·dsimp only;refine Z2 (W4<|YE ?_);try dsimp only
    refine Z2 (b7 (Q':=DC key it la lb st s x)
     (Zh (bI (GF key it la lb st s x) ?Fr _ 0 _ _ _ ?fin2 (GF.k hs hJ (by lia)))) ?Er)
    case fin2=>
     rintro c e_ s' ⟨rfl,hs,o,ia,ib,g,ac,bc,rfl,hJ,hx⟩;exact DC.b hs hJ (by lia)
    case Er=>
     rintro c e_ s' ⟨rfl,hs,⟨BL,o,ia,ib,g,ac,bc,rfl,hm⟩ | ⟨o,ia,ib,g,ac,bc,rfl,hJ,hx⟩⟩
     ·exact Z4 (II.a hs hm)
     ·dsimp only;refine Z2 (YV ?_);exact Z4 (IJ.k ⟨hs.k,hs.a,hs.p,hs.f⟩ hJ (by lia))
    case Fr=>
     rintro y c e_ s' ⟨rfl,hs,o,ia,ib,g,ac,bc,rfl,⟨po,rfl,m⟩,hx⟩;have m1:=m.pa;have m2:=m.pb;dsimp only;revert g;refine nV (fun g=>g - 1) ?ha ?_
     case ha=>exact fun g=>rfl
     intro g;refine Z2 (YV ?_);refine Z2 (aV m2 ?_);refine Z2 (kJ hc (cz Gb m2) Ga (base:=ia) (m:=la.length - ia) (hint:=0) (by lia) (by lia) (fun i j a b c=>d9 m.sa a b (by lia)) (by exact hs.k.trans r_) ?_);intro k J4 lo1 HY;dsimp only;by_cases IK:k > 0
     ·rw[Z0 IK];have p1:=ff k m.perm m.sa m.sb (fun x hx y hy=>by
       obtain⟨j,j0,j1,rfl⟩:=fg hx;obtain⟨j',a1,a2,rfl⟩:=b6 hy;have:=lo1 (ia+j) (by lia) (by lia);have:=d9 m.sb (ZR _) a1 a2;lia)
      by_cases hz:ia+k+1=la.length
      ·rw[Z0 (bq hz)];exact Z4 (DC.a ⟨hs.k,hs.a,hs.p,hs.f⟩ (by rw[bO];exact fj p1.1 p1.2.1 p1.2.2 hz top))
      rw[ZX (Cv hz)];by_cases HZ:ia+k=la.length
      ·rw[Z0 (bq HZ)];exact Z4 (DC.a ⟨hs.k,hs.a,hs.p,hs.f⟩ (by rw[bO];exact fi p1.1 p1.2.1 p1.2.2 (.inr HZ)))
      rw[ZX (Cv HZ)];have Hv:∀ i,ia+k<=i->i<la.length->key (lb.getD ib 0)<key (la.getD i 0):=fun i a b=>HY i a (by lia);refine Z2 (aV m2 ?_);have p2:=gP 1 p1.1 p1.2.1 p1.2.2 (fun x hx y hy=>by
       rw[bJ m2,ZW] at hx;obtain⟨j,j1,j2,rfl⟩:=b6 hy;have:=Hv j j1 j2;rw[hx];lia)
      rw[bJ m2] at p2;by_cases Es:ib+1=lb.length
      ·rw[Z0 (bq Es)];exact Z4 (DC.a ⟨hs.k,hs.a,hs.p,hs.f⟩ (by rw[bO,aW];exact fi p2.1 p2.2.1 p2.2.2 (.inl Es)))
      rw[ZX (Cv Es)];refine Z2 (aV (show ia+k<la.length by lia) ?_);refine Z2 (gQ hc (cz Ga (show ia+k<la.length by lia)) Gb (base:=ib+1) (m:=lb.length - (ib+1)) (hint:=0) (by lia) (by lia) (fun i j a b c=>d9 p2.2.2 a b (by lia)) (by exact hs.k.trans r_) ?_);intro k2 EJ Fs Cy;dsimp only;by_cases EW:k2 > 0
      ·rw[Z0 EW];have p3:=gP k2 p2.1 p2.2.1 p2.2.2 (fun x hx y hy=>by
        obtain⟨j,j0,j1,rfl⟩:=fg hx;obtain⟨j',a1,a2,rfl⟩:=b6 hy;have:=Fs (ib+1+j) (by lia) (by lia);have:=d9 p2.2.1 (ZR _) a1 a2;lia)
       by_cases Et:ib+1+k2=lb.length
       ·rw[Z0 (bq Et)];exact Z4 (DC.a ⟨hs.k,hs.a,hs.p,hs.f⟩ (by rw[bO,aW,bO];exact fi p3.1 p3.2.1 p3.2.2 (.inl Et)))
       rw[ZX (Cv Et)];have Eu:∀ i,ib+1+k2<=i->i<lb.length->key (la.getD (ia+k) 0)<=key (lb.getD i 0):=fun i a b=>Cy i a (by lia);refine Z2 (aV (show ia+k<la.length by lia) ?_);have p4:=ff 1 p3.1 p3.2.1 p3.2.2 (fun x hx y hy=>by
        rw[bJ (show ia+k<la.length by lia),ZW] at hx;obtain⟨j,j1,j2,rfl⟩:=b6 hy;have:=Eu j j1 j2;rw[hx];exact this)
       rw[bJ (show ia+k<la.length by lia)] at p4;by_cases Cp:ia+k+1+1=la.length
       ·rw[Z0 (bq Cp)];exact Z4 (DC.a ⟨hs.k,hs.a,hs.p,hs.f⟩ (by rw[bO,aW,bO,aW];exact fj p4.1 p4.2.1 p4.2.2 Cp top))
       rw[ZX (Cv Cp)];by_cases hb:(decide (k<7) && decide (k2<7))=true
       ·rw[Z0 hb];exact Z4 (DC.b ⟨hs.k,hs.a,hs.p,hs.f⟩ ⟨_,by rw[bO,aW,bO,aW],p4.1,p4.2.1,p4.2.2,by lia,by lia⟩ (by lia))
       ·rw[ZX hb];exact Z4 (GF.k ⟨hs.k,hs.a,hs.p,hs.f⟩ ⟨_,by rw[bO,aW,bO,aW],p4.1,p4.2.1,p4.2.2,by lia,by lia⟩ (by lia))
      ·rw[ZX EW];have p3:=p2;have Eu:∀ i,ib+1<=i->i<lb.length->key (la.getD (ia+k) 0)<=key (lb.getD i 0):=fun i a b=>Cy i (by lia) (by lia);refine Z2 (aV (show ia+k<la.length by lia) ?_);have p4:=ff 1 p3.1 p3.2.1 p3.2.2 (fun x hx y hy=>by
        rw[bJ (show ia+k<la.length by lia),ZW] at hx;obtain⟨j,j1,j2,rfl⟩:=b6 hy;have:=Eu j j1 j2;rw[hx];exact this)
       rw[bJ (show ia+k<la.length by lia)] at p4;by_cases Cp:ia+k+1+1=la.length
       ·rw[Z0 (bq Cp)];exact Z4 (DC.a ⟨hs.k,hs.a,hs.p,hs.f⟩ (by rw[bO,aW,aW];exact fj p4.1 p4.2.1 p4.2.2 Cp top))
       rw[ZX (Cv Cp)];by_cases hb:(decide (k<7) && decide (k2<7))=true
       ·rw[Z0 hb];exact Z4 (DC.b ⟨hs.k,hs.a,hs.p,hs.f⟩ ⟨_,by rw[bO,aW,aW],p4.1,p4.2.1,p4.2.2,by lia,by lia⟩ (by lia))
       ·rw[ZX hb];exact Z4 (GF.k ⟨hs.k,hs.a,hs.p,hs.f⟩ ⟨_,by rw[bO,aW,aW],p4.1,p4.2.1,p4.2.2,by lia,by lia⟩ (by lia))
     ·rw[ZX IK];have p1:po.Perm (la.take ia++lb.take ib)/\BF key (po++la.drop ia)/\BF key (po++lb.drop ib):=⟨m.perm,m.sa,m.sb⟩;have Hv:∀ i,ia<=i->i<la.length->key (lb.getD ib 0)<key (la.getD i 0):=fun i a b=>HY i (by lia) (by lia);refine Z2 (aV m2 ?_);have p2:=gP 1 p1.1 p1.2.1 p1.2.2 (fun x hx y hy=>by
       rw[bJ m2,ZW] at hx;obtain⟨j,j1,j2,rfl⟩:=b6 hy;have:=Hv j j1 j2;rw[hx];lia)
      rw[bJ m2] at p2;by_cases Es:ib+1=lb.length
      ·rw[Z0 (bq Es)];exact Z4 (DC.a ⟨hs.k,hs.a,hs.p,hs.f⟩ (by rw[aW];exact fi p2.1 p2.2.1 p2.2.2 (.inl Es)))
      rw[ZX (Cv Es)];refine Z2 (aV (show ia<la.length by lia) ?_);refine Z2 (gQ hc (cz Ga (show ia<la.length by lia)) Gb (base:=ib+1) (m:=lb.length - (ib+1)) (hint:=0) (by lia) (by lia) (fun i j a b c=>d9 p2.2.2 a b (by lia)) (by exact hs.k.trans r_) ?_);intro k2 EJ Fs Cy;dsimp only;by_cases EW:k2 > 0
      ·rw[Z0 EW];have p3:=gP k2 p2.1 p2.2.1 p2.2.2 (fun x hx y hy=>by
        obtain⟨j,j0,j1,rfl⟩:=fg hx;obtain⟨j',a1,a2,rfl⟩:=b6 hy;have:=Fs (ib+1+j) (by lia) (by lia);have:=d9 p2.2.1 (ZR _) a1 a2;lia)
       by_cases Et:ib+1+k2=lb.length
       ·rw[Z0 (bq Et)];exact Z4 (DC.a ⟨hs.k,hs.a,hs.p,hs.f⟩ (by rw[aW,bO];exact fi p3.1 p3.2.1 p3.2.2 (.inl Et)))
       rw[ZX (Cv Et)];have Eu:∀ i,ib+1+k2<=i->i<lb.length->key (la.getD (ia) 0)<=key (lb.getD i 0):=fun i a b=>Cy i a (by lia);refine Z2 (aV (show ia<la.length by lia) ?_);have p4:=ff 1 p3.1 p3.2.1 p3.2.2 (fun x hx y hy=>by
        rw[bJ (show ia<la.length by lia),ZW] at hx;obtain⟨j,j1,j2,rfl⟩:=b6 hy;have:=Eu j j1 j2;rw[hx];exact this)
       rw[bJ (show ia<la.length by lia)] at p4;by_cases Cp:ia+1+1=la.length
       ·rw[Z0 (bq Cp)];exact Z4 (DC.a ⟨hs.k,hs.a,hs.p,hs.f⟩ (by rw[aW,bO,aW];exact fj p4.1 p4.2.1 p4.2.2 Cp top))
       rw[ZX (Cv Cp)];by_cases hb:(decide (k<7) && decide (k2<7))=true
       ·rw[Z0 hb];exact Z4 (DC.b ⟨hs.k,hs.a,hs.p,hs.f⟩ ⟨_,by rw[aW,bO,aW],p4.1,p4.2.1,p4.2.2,by lia,by lia⟩ (by lia))
       ·rw[ZX hb];exact Z4 (GF.k ⟨hs.k,hs.a,hs.p,hs.f⟩ ⟨_,by rw[aW,bO,aW],p4.1,p4.2.1,p4.2.2,by lia,by lia⟩ (by lia))
      ·rw[ZX EW];have p3:=p2;have Eu:∀ i,ib+1<=i->i<lb.length->key (la.getD (ia) 0)<=key (lb.getD i 0):=fun i a b=>Cy i (by lia) (by lia);refine Z2 (aV (show ia<la.length by lia) ?_);have p4:=ff 1 p3.1 p3.2.1 p3.2.2 (fun x hx y hy=>by
        rw[bJ (show ia<la.length by lia),ZW] at hx;obtain⟨j,j1,j2,rfl⟩:=b6 hy;have:=Eu j j1 j2;rw[hx];exact this)
       rw[bJ (show ia<la.length by lia)] at p4;by_cases Cp:ia+1+1=la.length
       ·rw[Z0 (bq Cp)];exact Z4 (DC.a ⟨hs.k,hs.a,hs.p,hs.f⟩ (by rw[aW,aW];exact fj p4.1 p4.2.1 p4.2.2 Cp top))
       rw[ZX (Cv Cp)];by_cases hb:(decide (k<7) && decide (k2<7))=true
       ·rw[Z0 hb];exact Z4 (DC.b ⟨hs.k,hs.a,hs.p,hs.f⟩ ⟨_,by rw[aW,aW],p4.1,p4.2.1,p4.2.2,by lia,by lia⟩ (by lia))
       ·rw[ZX hb];exact Z4 (GF.k ⟨hs.k,hs.a,hs.p,hs.f⟩ ⟨_,by rw[aW,aW],p4.1,p4.2.1,p4.2.2,by lia,by lia⟩ (by lia))
end
section
variable{prog:Program}{w:World}{A:Around}{E:Value->Shared->Prop}{κ:SortKind}{it:Array Keyed}{key:Nat->Int}{n:Nat}{s:Shared}
def nW:Array Keyed->Array Keyed->StateT SortSt Sem (Array Keyed):=sortPriv% PySem.Builtin.mergeHi
variable{l:List Nat}{i j:Nat}
theorem kK(Dc:i<=j)(hj:j<=l.length):l.drop i=(l.take j).drop i++l.drop j:=by
 have e:l.drop i=(l.take j++l.drop j).drop i:=by rw[ZD]
 rw[e,List.drop_append_of_le_length (by rw[Zg];lia)]
theorem vQ(Dc:i<=j):l.take i++(l.take j).drop i=l.take j:=by
 have:=ZD i (l.take j)
 rwa [W0,Xd Dc] at this
variable{la lb ro:List Nat}{na nb:Nat}
theorem fk(k:Nat)(hk:k<=na)(NJ:na<=la.length)(perm:ro.Perm (la.drop na++lb.drop nb))(sa:BF key (la.take na++ro))(sb:BF key (lb.take nb++ro))(h:∀ x∈(la.take na).drop k,∀ y∈lb.take nb,key y<=key x):
  ((la.take na).drop k++ro).Perm (la.drop k++lb.drop nb)/\BF key (la.take k++((la.take na).drop k++ro))/\BF key (lb.take nb++((la.take na).drop k++ro)):=by
 refine⟨?_,?_,?_⟩
 ·rw[kK hk NJ,Z7];exact ZT _ perm
 ·rw[<- Z7,vQ hk];exact sa
 ·have s1:=bp.mp sa;have s2:=bp.mp sb;refine bp.mpr ⟨s2.1,bp.mpr ⟨s1.1.sublist<|WS _ _,s2.2.1,fun x hx y hy=>s1.2.2 x (YW hx) y hy⟩,fun x hx y hy=>?_⟩;rcases ZE.mp hy with hy | hy
  ·exact h y hy x hx
  ·exact s2.2.2 x hx y hy
theorem gR(k:Nat)(hk:k<=nb)(NK:nb<=lb.length)(perm:ro.Perm (la.drop na++lb.drop nb))(sa:BF key (la.take na++ro))(sb:BF key (lb.take nb++ro))(h:∀ x∈(lb.take nb).drop k,∀ y∈la.take na,key y<=key x):
  ((lb.take nb).drop k++ro).Perm (la.drop na++lb.drop k)/\BF key (la.take na++((lb.take nb).drop k++ro))/\BF key (lb.take k++((lb.take nb).drop k++ro)):=by
 have:=fk (la:=lb) (lb:=la) k hk NK (perm.trans Z1) sb sa h;exact⟨this.1.trans Z1,this.2.2,this.2.1⟩
theorem bR(h0:0<i)(h:i<=l.length):(l.take i).drop (i - 1)=[l.getD (i - 1) 0]:=by
 rw[XE,show i - (i - 1)=1 by lia];exact bJ (by lia)
variable{y:Nat}
theorem cC(h:y∈l.take i):∃ j,j<i/\j<l.length/\y=l.getD j 0:=by
 have:=fg (i:=0) (k:=i) (y:=y) (l:=l) (by rwa [Yi]);obtain⟨j,a,b,e⟩:=this;exact⟨j,a,by lia,by rw[e];congr 1;lia⟩
variable{k:Nat}
theorem kL(h:y∈(l.take k).drop i):∃ j,i<=j/\j<k/\j<l.length/\y=l.getD j 0:=by
 rw[XE] at h;obtain⟨j,a,b,e⟩:=fg h;exact⟨i+j,by lia,by lia,b,e⟩
theorem ed(h:BF key (l.take i++ro))(MJ:j<=k)(hk:k<i)(hl:k<l.length):key (l.getD j 0)<=key (l.getD k 0):=by
 have:=fh (bp.mp h).1 (i:=j) (j:=k) MJ (by rw[Zg];lia);simpa [List.getD,YQ,show j<i by lia,hk] using this
theorem dR(perm:ro.Perm (la.drop na++lb.drop nb))(sa:BF key (la.take na++ro))(sb:BF key (lb.take nb++ro))(hz:na=0\/nb=0):
  DT key it la lb ((la.map<|kas_item it).toArray.extract 0 na++(lb.map<|kas_item it).toArray.extract 0 nb++(ro.reverse.map<|kas_item it).toArray.reverse):=by
 refine⟨la.take na++lb.take nb++ro,?_,?_,?_⟩
 ·apply Yf;simp[Yo]
 ·refine (ZT _ perm).trans ?_;have:(la.take na++lb.take nb++(la.drop na++lb.drop nb)).Perm ((la.take na++la.drop na)++(lb.take nb++lb.drop nb)):=by
   rw[Z7,Z7];refine ZT _ ?_;rw[<- Z7,<- Z7];exact ZK _ Z1
  rw[ZD,ZD] at this;exact this
 ·rcases hz with e | e
  ·rw[e,List.take_zero,List.nil_append];exact sb
  ·rw[e,List.take_zero,ZZ];exact sa
theorem fR(perm:ro.Perm (la.drop na++lb.drop nb))(sa:BF key (la.take na++ro))(sb:BF key (lb.take nb++ro))(hz:nb=1)(first:∀ x∈la,key (lb.getD 0 0)<=key x):
  DT key it la lb ((lb.map<|kas_item it).toArray.extract 0 nb++(la.map<|kas_item it).toArray.extract 0 na++(ro.reverse.map<|kas_item it).toArray.reverse):=by
 refine⟨lb.take nb++la.take na++ro,?_,?_,?_⟩
 ·apply Yf;simp[Yo]
 ·refine (ZT _ perm).trans ?_;have:(lb.take nb++la.take na++(la.drop na++lb.drop nb)).Perm ((la.take na++la.drop na)++(lb.take nb++lb.drop nb)):=by
   rw[Z7,<- Z7 (la.take na),<- Z7 (la.take na++la.drop na)];rw[<- Z7 (lb.take nb)];exact ZK _ Z1
  rw[ZD,ZD] at this;exact this
 ·rw[Z7];refine bp.mpr ⟨(bp.mp sb).1,sa,fun x hx y hy=>?_⟩;rcases ZE.mp hy with hy | hy
  ·obtain⟨j,h1,h2,rfl⟩:=cC hx;have:j=0:=by lia
   rw[this];exact first y (YK hy)
  ·exact (bp.mp sb).2.2 x hx y hy
theorem aP(ro:List Nat)(y:Nat):(ro.reverse.map<|kas_item it).toArray.push (kas_item it y)=(([y]++ro).reverse.map<|kas_item it).toArray:=by simp
theorem bz(ro l:List Nat)(i k:Nat):(ro.reverse.map<|kas_item it).toArray++((l.map<|kas_item it).toArray.extract i k).reverse=(((l.take k).drop i++ro).reverse.map<|kas_item it).toArray:=by
 apply Yf;simp[Yp,Yo,XE]
structure NL(key:Nat->Int)(la lb:List Nat)(ro:List Nat)(na nb:Nat):Prop where
 perm:ro.Perm (la.drop na++lb.drop nb)
 sa:BF key (la.take na++ro)
 sb:BF key (lb.take nb++ro)
 pa:0<na
 pb:1<nb
 qa:na<=la.length
 qb:nb<=lb.length
def E6(key:Nat->Int)(it:Array Keyed)(la lb:List Nat)(out:Array Keyed)(na nb:Nat):Prop:=∃ ro:List Nat,out=(ro.reverse.map<|kas_item it).toArray/\NL key la lb ro na nb
end
section
variable{prog:Program}{w:World}{A:Around}{E:Value->Shared->Prop}{κ:SortKind}{it:Array Keyed}{key:Nat->Int}{n:Nat}{s:Shared}
def IL(key:Nat->Int)(it:Array Keyed)(la lb:List Nat)(st:SortSt)(s:Shared): Option (Array Keyed)×Nat×Nat×Array Keyed×Nat->SortSt->Shared->Prop:=fun c e_ s'=>s=s'/\i_ st e_/\∃ BL p q r g,c=(some BL,p,q,r,g)/\DT key it la lb BL
def IM(key:Nat->Int)(it:Array Keyed)(la lb:List Nat)(st:SortSt)(s:Shared)(x:Nat):Option (Array Keyed)×Nat×Nat×Array Keyed×Nat->SortSt->Shared->Prop:=fun c e_ s'=>s=s'/\i_ st e_/\∃ na nb o g,c=(none,na,nb,o,g)/\E6 key it la lb o na nb/\na+nb+x+1<=la.length+lb.length
def FO(key:Nat->Int)(it:Array Keyed)(la lb:List Nat)(st:SortSt)(s:Shared)(x:Nat):Option (Array Keyed)×Nat×Nat×Array Keyed×Nat×Nat->SortSt->Shared->Prop:=fun c e_ s'=>s=s'/\i_ st e_/\((∃ BL p q r ac bc,c=(some BL,p,q,r,ac,bc)/\DT key it la lb BL)\/∃ na nb o ac bc,c=(none,na,nb,o,ac,bc)/\E6 key it la lb o na nb/\na+nb+x+2<=la.length+lb.length)
def H9(key:Nat->Int)(it:Array Keyed)(la lb:List Nat)(st:SortSt)(s:Shared)(x y:Nat):Option (Array Keyed)×Nat×Nat×Array Keyed×Nat×Nat->SortSt->Shared->Prop:=fun c e_ s'=>s=s'/\i_ st e_/\∃ na nb o ac bc,c=(none,na,nb,o,ac,bc)/\E6 key it la lb o na nb/\na+nb+x+1+y<=la.length+lb.length
def Dy(key:Nat->Int)(it:Array Keyed)(la lb:List Nat)(st:SortSt)(s:Shared)(x:Nat):Option (Array Keyed)×Nat×Nat×Array Keyed×Nat×Nat×Nat->SortSt->Shared->Prop:=fun c e_ s'=>s=s'/\i_ st e_/\((∃ BL p q r g ac bc,c=(some BL,p,q,r,g,ac,bc)/\DT key it la lb BL)\/∃ na nb o g ac bc,c=(none,na,nb,o,g,ac,bc)/\E6 key it la lb o na nb/\na+nb+x+2<=la.length+lb.length)
def GG(key:Nat->Int)(it:Array Keyed)(la lb:List Nat)(st:SortSt)(s:Shared)(x y:Nat):Option (Array Keyed)×Nat×Nat×Array Keyed×Nat×Nat×Nat->SortSt->Shared->Prop:=fun c e_ s'=>s=s'/\i_ st e_/\∃ na nb o g ac bc,c=(none,na,nb,o,g,ac,bc)/\E6 key it la lb o na nb/\na+nb+x+2<=la.length+lb.length
variable{la lb:List Nat}{st e_:SortSt}{out r:Array Keyed}{p q g:Nat}
theorem IL.a{key:Nat->Int}{it:Array Keyed}{s:Shared}(h:i_ st e_)(m:DT key it la lb out):IL key it la lb st s (some out,p,q,r,g) e_ s:=⟨rfl,h,_,_,_,_,_,rfl,m⟩
variable{x na nb:Nat}{o:Array Keyed}
theorem IM.k{key:Nat->Int}{it:Array Keyed}{s:Shared}(h:i_ st e_)(j:E6 key it la lb o na nb)(e:na+nb+x+1<=la.length+lb.length):IM key it la lb st s x (none,na,nb,o,g) e_ s:=⟨rfl,h,_,_,_,_,rfl,j,e⟩
variable{g2:Nat}
theorem FO.a{key:Nat->Int}{it:Array Keyed}{s:Shared}(h:i_ st e_)(m:DT key it la lb out):FO key it la lb st s x (some out,p,q,r,g,g2) e_ s:=⟨rfl,h,.inl ⟨_,_,_,_,_,_,rfl,m⟩⟩
theorem FO.b{key:Nat->Int}{it:Array Keyed}{s:Shared}(h:i_ st e_)(j:E6 key it la lb o na nb)(e:na+nb+x+2<=la.length+lb.length):FO key it la lb st s x (none,na,nb,o,g,g2) e_ s:=⟨rfl,h,.inr ⟨_,_,_,_,_,rfl,j,e⟩⟩
variable{y:Nat}
theorem H9.k{key:Nat->Int}{it:Array Keyed}{s:Shared}(h:i_ st e_)(j:E6 key it la lb o na nb)(e:na+nb+x+1+y<=la.length+lb.length):H9 key it la lb st s x y (none,na,nb,o,g,g2) e_ s:=⟨rfl,h,_,_,_,_,_,rfl,j,e⟩
variable{g3:Nat}
theorem Dy.a{key:Nat->Int}{it:Array Keyed}{s:Shared}(h:i_ st e_)(m:DT key it la lb out):Dy key it la lb st s x (some out,p,q,r,g,g2,g3) e_ s:=⟨rfl,h,.inl ⟨_,_,_,_,_,_,_,rfl,m⟩⟩
theorem Dy.b{key:Nat->Int}{it:Array Keyed}{s:Shared}(h:i_ st e_)(j:E6 key it la lb o na nb)(e:na+nb+x+2<=la.length+lb.length):Dy key it la lb st s x (none,na,nb,o,g,g2,g3) e_ s:=⟨rfl,h,.inr ⟨_,_,_,_,_,_,rfl,j,e⟩⟩
theorem GG.k{key:Nat->Int}{it:Array Keyed}{s:Shared}(h:i_ st e_)(j:E6 key it la lb o na nb)(e:na+nb+x+2<=la.length+lb.length):GG key it la lb st s x y (none,na,nb,o,g,g2,g3) e_ s:=⟨rfl,h,_,_,_,_,_,_,rfl,j,e⟩
theorem vR(hc:bZ n key (kas_cmp prog w A κ it) s){la lb:List Nat}(Ga:∀ x∈la,x<n)(Gb:∀ x∈lb,x<n)(K_:BF key la)(Ld:BF key lb)(h0:0<la.length)(h1:0<lb.length)(first:∀ x∈la,key (lb.getD 0 0)<=key x)(top:∀ x∈lb,key x<=key (la.getD (la.length - 1) 0)){st:SortSt}(r_:kindOf st=κ){Q:Array Keyed->SortSt->Shared->Prop}(h:∀ out e_,DT key it la lb out->i_ st e_->Q out e_ s):
  kasC (model prog w) A E (nW (la.map<|kas_item it).toArray (lb.map<|kas_item it).toArray) Q st s:=by
 unfold nW;with_unfolding_all refine Z2 (W4<|YE ?_);dsimp only;generalize Le:(List.map (kas_item it) la).toArray.size=za;obtain rfl:la.length=za:=by rw[<- Le];simp
 generalize Lf:(List.map (kas_item it) lb).toArray.size=zb;obtain rfl:lb.length=zb:=by rw[<- Lf];simp
 refine Z2 (aV (show la.length - 1<la.length by lia) ?_);try dsimp only
 have l1:=bR h0 (ZR _);rw[WG] at l1;have Dh:[la.getD (la.length - 1) 0].Perm (la.drop (la.length - 1)++lb.drop lb.length):=by
  rw[l1,WH];exact ZI _
 have Ht:BF key (la.take (la.length - 1)++[la.getD (la.length - 1) 0]):=by
  rw[<- l1,ZD];exact K_
 have Hs:BF key (lb.take lb.length++[la.getD (la.length - 1) 0]):=bp.mpr ⟨by rw[WG];exact Ld,ZB _ _,fun x hx y hy=>by
  rw[ZW.mp hy];exact top x (by rwa [WG] at hx)⟩
 have e0:#[kas_item it (la.getD (la.length - 1) 0)]=([la.getD (la.length - 1) 0].reverse.map<|kas_item it).toArray:=rfl;rw[e0];by_cases c1:la.length - 1=0
 ·rw[Z0 (bq c1)];exact Z4 (h _ _ (dR Dh Ht Hs<|.inl c1)<|i_.refl st)
 rw[ZX (Cv c1)];by_cases c2:lb.length=1
 ·rw[Z0 (bq c2)];exact Z4 (h _ _ (fR Dh Ht Hs c2 first)<|i_.refl st)
 rw[ZX (Cv c2)];refine Z2 (Yb ?_);refine Z2 (b7 (Q':=IL key it la lb st s) (Zh (bI (IM key it la lb st s) ?step _ 0 _ _ _ ?fin (IM.k (i_.refl st) ⟨_,rfl,Dh,Ht,Hs,by lia,by lia,by lia,by lia⟩ (by lia)))) ?after)
 case after=>
  rintro c e_ s' ⟨rfl,hs,BL,o,ia,ib,g,rfl,hm⟩;exact Z4 (h _ _ hm hs)
 case fin=>
  rintro c e_ s' ⟨rfl,hs,na,nb,o,g,rfl,⟨po,rfl,m⟩,hx⟩;have:=m.pa;have:=m.pb;lia
 case step=>
  rintro x c e_ s' ⟨rfl,hs,na,nb,o,g,rfl,hJ,hx⟩;dsimp only;refine Z2 (b7 (Q':=FO key it la lb st s x)
   (Zh (bI (H9 key it la lb st s x) ?Fp _ 0 _ _ _ ?Hu (H9.k hs hJ (by lia)))) ?Ep)
  case Hu=>
   rintro c e_ s' ⟨rfl,hs,na,nb,o,ac,bc,rfl,hJ,hx⟩;exact FO.b hs hJ (by lia)
  case Fp=>
   rintro y c e_ s' ⟨rfl,hs,na,nb,o,ac,bc,rfl,⟨po,rfl,m⟩,hx⟩;have m1:=m.pa;have m2:=m.pb;have m3:=m.qa;have m4:=m.qb;have Fq:kindOf e_=κ:=hs.k.trans r_;dsimp only;refine Z2 (aV (show nb - 1<lb.length by lia) ?_);refine Z2 (aV (show na - 1<la.length by lia) ?_);refine Z2 (gO hc (cz Gb (show nb - 1<lb.length by lia)) (cz Ga (show na - 1<la.length by lia)) Fq ?_);dsimp only;by_cases hw:key (lb.getD (nb - 1) 0)<key (la.getD (na - 1) 0)
   ·rw[Z0 (by simpa using hw)];refine Z2 (aV (show na - 1<la.length by lia) ?_);have b1:=fk (na - 1) (by lia) m3 m.perm m.sa m.sb (fun x hx y hy=>by
     rw[bR m1 m3,ZW] at hx;obtain⟨j,j1,j2,rfl⟩:=cC hy;have:=ed m.sb (show j<=nb - 1 by lia) (by lia) (by lia);rw[hx];lia)
    rw[bR m1 m3] at b1;rw[aP];try dsimp only
    by_cases hz:na - 1=0
    ·rw[Z0 (bq hz)];exact Z4 (FO.a hs<|dR b1.1 b1.2.1 b1.2.2<|.inl hz)
    ·rw[ZX (Cv hz)];have J':E6 key it la lb (([la.getD (na - 1) 0]++po).reverse.map<|kas_item it).toArray (na - 1) nb:=⟨_,rfl,b1.1,b1.2.1,b1.2.2,by lia,m2,by lia,m4⟩;by_cases hg:ac+1 >= g
     ·rw[Z0 hg];exact Z4 (FO.b hs J' (by lia))
     ·rw[ZX hg];exact Z4 (H9.k hs J' (by lia))
   ·rw[ZX (by simpa using hw)];refine Z2 (aV (show nb - 1<lb.length by lia) ?_);have b1:=gR (nb - 1) (by lia) m4 m.perm m.sa m.sb (fun x hx y hy=>by
     rw[bR (by lia) m4,ZW] at hx;obtain⟨j,j1,j2,rfl⟩:=cC hy;have:=ed m.sa (show j<=na - 1 by lia) (by lia) (by lia);rw[hx];lia)
    rw[bR (by lia) m4] at b1;rw[aP];try dsimp only
    by_cases hz:nb - 1=1
    ·rw[Z0 (bq hz)];exact Z4 (FO.a hs<|fR b1.1 b1.2.1 b1.2.2 hz first)
    ·rw[ZX (Cv hz)];have J':E6 key it la lb (([lb.getD (nb - 1) 0]++po).reverse.map<|kas_item it).toArray na (nb - 1):=⟨_,rfl,b1.1,b1.2.1,b1.2.2,m1,by lia,m3,by lia⟩;by_cases hg:bc+1 >= g
     ·rw[Z0 hg];exact Z4 (FO.b hs J' (by lia))
     ·rw[ZX hg];exact Z4 (H9.k hs J' (by lia))
  case Ep=>
   rintro c e_ s' ⟨rfl,hs,⟨BL,o,ia,ib,ac,bc,rfl,hm⟩ | ⟨na,nb,o,ac,bc,rfl,hJ,hx⟩⟩
   ·exact Z4 (IL.a hs hm)
   ·try dsimp only
    refine Z2 (W4<|YE ?_);try dsimp only
    refine Z2 (b7 (Q':=Dy key it la lb st s x)
     (Zh (bI (GG key it la lb st s x) ?Fr _ 0 _ _ _ ?fin2 (GG.k hs hJ (by lia)))) ?Er)
    case fin2=>
     rintro c e_ s' ⟨rfl,hs,na,nb,o,g,ac,bc,rfl,hJ,hx⟩;exact Dy.b hs hJ (by lia)
    case Er=>
     rintro c e_ s' ⟨rfl,hs,⟨BL,o,ia,ib,g,ac,bc,rfl,hm⟩ | ⟨na,nb,o,g,ac,bc,rfl,hJ,hx⟩⟩
     ·exact Z4 (IL.a hs hm)
     ·try dsimp only
      refine Z2 (YV ?_);exact Z4 (IM.k ⟨hs.k,hs.a,hs.p,hs.f⟩ hJ (by lia))
    case Fr=>
     rintro y c e_ s' ⟨rfl,hs,na,nb,o,g,ac,bc,rfl,⟨po,rfl,m⟩,hx⟩;have m1:=m.pa;have m2:=m.pb;have m3:=m.qa;have m4:=m.qb;dsimp only;revert g;refine nV (fun g=>g - 1) ?ha ?_
     case ha=>exact fun g=>rfl
     intro g;refine Z2 (YV ?_);refine Z2 (aV (show nb - 1<lb.length by lia) ?_);refine Z2 (kJ hc (cz Gb (show nb - 1<lb.length by lia)) Ga (base:=0) (m:=na) (hint:=na - 1) (by lia) (by lia) (fun i j a b c=>ed m.sa b (by lia) (by lia)) (by exact hs.k.trans r_) ?_);intro k J4 lo1 HY;dsimp only;by_cases IK:na - k > 0
     ·rw[Z0 IK];have p1:=fk k (by lia) m3 m.perm m.sa m.sb (fun x hx y hy=>by
       obtain⟨j,j0,j1,j2,rfl⟩:=kL hx;obtain⟨j',a1,a2,rfl⟩:=cC hy;have:=HY j (by lia) (by lia);have:=ed m.sb (show j'<=nb - 1 by lia) (by lia) (by lia);lia)
      by_cases hz:k=0
      ·rw[Z0 (bq hz)];exact Z4 (Dy.a ⟨hs.k,hs.a,hs.p,hs.f⟩ (by rw[bz];exact dR p1.1 p1.2.1 p1.2.2 (.inl hz)))
      rw[ZX (Cv hz)];have Hv:∀ i,i<k->key (la.getD i 0)<=key (lb.getD (nb - 1) 0):=fun i a=>lo1 i (by lia) (by lia);refine Z2 (aV (show nb - 1<lb.length by lia) ?_);have p2:=gR (nb - 1) (by lia) m4 p1.1 p1.2.1 p1.2.2 (fun x hx y hy=>by
       rw[bR (by lia) m4,ZW] at hx;obtain⟨j,j1,j2,rfl⟩:=cC hy;have:=Hv j j1;rw[hx];lia)
      rw[bR (by lia) m4] at p2;by_cases Es:nb - 1=1
      ·rw[Z0 (bq Es)];exact Z4 (Dy.a ⟨hs.k,hs.a,hs.p,hs.f⟩ (by rw[bz,aP];exact fR p2.1 p2.2.1 p2.2.2 Es first))
      rw[ZX (Cv Es)];refine Z2 (aV (show k - 1<la.length by lia) ?_);refine Z2 (gQ hc (cz Ga (show k - 1<la.length by lia)) Gb (base:=0) (m:=nb - 1) (hint:=nb - 1 - 1) (by lia) (by lia) (fun i j a b c=>ed p2.2.2 b (by lia) (by lia)) (by exact hs.k.trans r_) ?_);intro k2 EJ Fs Cy;dsimp only;by_cases EW:nb - 1 - k2 > 0
      ·rw[Z0 EW];have p3:=gR k2 (by lia) (show nb - 1<=lb.length by lia) p2.1 p2.2.1 p2.2.2 (fun x hx y hy=>by
        obtain⟨j,j0,j1,j2,rfl⟩:=kL hx;obtain⟨j',a1,a2,rfl⟩:=cC hy;have:=Cy j (by lia) (by lia);have:=ed p2.2.1 (show j'<=k - 1 by lia) (by lia) (by lia);lia)
       by_cases Et:k2=1
       ·rw[Z0 (bq Et)];exact Z4 (Dy.a ⟨hs.k,hs.a,hs.p,hs.f⟩ (by rw[bz,aP,bz];exact fR p3.1 p3.2.1 p3.2.2 Et first))
       rw[ZX (Cv Et)];by_cases Hw:k2=0
       ·rw[Z0 (bq Hw)];exact Z4 (Dy.a ⟨hs.k,hs.a,hs.p,hs.f⟩ (by rw[bz,aP,bz];exact dR p3.1 p3.2.1 p3.2.2 (.inr Hw)))
       rw[ZX (Cv Hw)];have Eu:∀ i,i<k2->key (lb.getD i 0)<key (la.getD (k - 1) 0):=fun i a=>Fs i (by lia) (by lia);refine Z2 (aV (show k - 1<la.length by lia) ?_);have p4:=fk (k - 1) (by lia) (show k<=la.length by lia) p3.1 p3.2.1 p3.2.2 (fun x hx y hy=>by
        rw[bR (by lia) (show k<=la.length by lia),ZW] at hx;obtain⟨j,j1,j2,rfl⟩:=cC hy;have:=Eu j j1;rw[hx];lia)
       rw[bR (by lia) (show k<=la.length by lia)] at p4;by_cases Cp:k - 1=0
       ·rw[Z0 (bq Cp)];exact Z4 (Dy.a ⟨hs.k,hs.a,hs.p,hs.f⟩ (by rw[bz,aP,bz,aP];exact dR p4.1 p4.2.1 p4.2.2 (.inl Cp)))
       rw[ZX (Cv Cp)];by_cases hb:(decide (na - k<7) && decide (nb - 1 - k2<7))=true
       ·rw[Z0 hb];exact Z4 (Dy.b ⟨hs.k,hs.a,hs.p,hs.f⟩ ⟨_,by rw[bz,aP,bz,aP],p4.1,p4.2.1,p4.2.2,by lia,by lia,by lia,by lia⟩ (by lia))
       ·rw[ZX hb];exact Z4 (GG.k ⟨hs.k,hs.a,hs.p,hs.f⟩ ⟨_,by rw[bz,aP,bz,aP],p4.1,p4.2.1,p4.2.2,by lia,by lia,by lia,by lia⟩ (by lia))
      ·rw[ZX EW];have p3:=p2;have Eu:∀ i,i<nb - 1->key (lb.getD i 0)<key (la.getD (k - 1) 0):=fun i a=>Fs i (by lia) (by lia);refine Z2 (aV (show k - 1<la.length by lia) ?_);have p4:=fk (k - 1) (by lia) (show k<=la.length by lia) p3.1 p3.2.1 p3.2.2 (fun x hx y hy=>by
        rw[bR (by lia) (show k<=la.length by lia),ZW] at hx;obtain⟨j,j1,j2,rfl⟩:=cC hy;have:=Eu j j1;rw[hx];lia)
       rw[bR (by lia) (show k<=la.length by lia)] at p4;by_cases Cp:k - 1=0
       ·rw[Z0 (bq Cp)];exact Z4 (Dy.a ⟨hs.k,hs.a,hs.p,hs.f⟩ (by rw[bz,aP,aP];exact dR p4.1 p4.2.1 p4.2.2 (.inl Cp)))
       rw[ZX (Cv Cp)];by_cases hb:(decide (na - k<7) && decide (nb - 1 - k2<7))=true
       ·rw[Z0 hb];exact Z4 (Dy.b ⟨hs.k,hs.a,hs.p,hs.f⟩ ⟨_,by rw[bz,aP,aP],p4.1,p4.2.1,p4.2.2,by lia,by lia,by lia,by lia⟩ (by lia))
       ·rw[ZX hb];exact Z4 (GG.k ⟨hs.k,hs.a,hs.p,hs.f⟩ ⟨_,by rw[bz,aP,aP],p4.1,p4.2.1,p4.2.2,by lia,by lia,by lia,by lia⟩ (by lia))
     ·rw[ZX IK];have p1:po.Perm (la.drop na++lb.drop nb)/\BF key (la.take na++po)/\BF key (lb.take nb++po):=⟨m.perm,m.sa,m.sb⟩;have Hv:∀ i,i<na->key (la.getD i 0)<=key (lb.getD (nb - 1) 0):=fun i a=>lo1 i (by lia) (by lia);refine Z2 (aV (show nb - 1<lb.length by lia) ?_);have p2:=gR (nb - 1) (by lia) m4 p1.1 p1.2.1 p1.2.2 (fun x hx y hy=>by
       rw[bR (by lia) m4,ZW] at hx;obtain⟨j,j1,j2,rfl⟩:=cC hy;have:=Hv j j1;rw[hx];lia)
      rw[bR (by lia) m4] at p2;by_cases Es:nb - 1=1
      ·rw[Z0 (bq Es)];exact Z4 (Dy.a ⟨hs.k,hs.a,hs.p,hs.f⟩ (by rw[aP];exact fR p2.1 p2.2.1 p2.2.2 Es first))
      rw[ZX (Cv Es)];refine Z2 (aV (show na - 1<la.length by lia) ?_);refine Z2 (gQ hc (cz Ga (show na - 1<la.length by lia)) Gb (base:=0) (m:=nb - 1) (hint:=nb - 1 - 1) (by lia) (by lia) (fun i j a b c=>ed p2.2.2 b (by lia) (by lia)) (by exact hs.k.trans r_) ?_);intro k2 EJ Fs Cy;dsimp only;by_cases EW:nb - 1 - k2 > 0
      ·rw[Z0 EW];have p3:=gR k2 (by lia) (show nb - 1<=lb.length by lia) p2.1 p2.2.1 p2.2.2 (fun x hx y hy=>by
        obtain⟨j,j0,j1,j2,rfl⟩:=kL hx;obtain⟨j',a1,a2,rfl⟩:=cC hy;have:=Cy j (by lia) (by lia);have:=ed p2.2.1 (show j'<=na - 1 by lia) (by lia) (by lia);lia)
       by_cases Et:k2=1
       ·rw[Z0 (bq Et)];exact Z4 (Dy.a ⟨hs.k,hs.a,hs.p,hs.f⟩ (by rw[aP,bz];exact fR p3.1 p3.2.1 p3.2.2 Et first))
       rw[ZX (Cv Et)];by_cases Hw:k2=0
       ·rw[Z0 (bq Hw)];exact Z4 (Dy.a ⟨hs.k,hs.a,hs.p,hs.f⟩ (by rw[aP,bz];exact dR p3.1 p3.2.1 p3.2.2 (.inr Hw)))
       rw[ZX (Cv Hw)];have Eu:∀ i,i<k2->key (lb.getD i 0)<key (la.getD (na - 1) 0):=fun i a=>Fs i (by lia) (by lia);refine Z2 (aV (show na - 1<la.length by lia) ?_);have p4:=fk (na - 1) (by lia) (show na<=la.length by lia) p3.1 p3.2.1 p3.2.2 (fun x hx y hy=>by
        rw[bR (by lia) (show na<=la.length by lia),ZW] at hx;obtain⟨j,j1,j2,rfl⟩:=cC hy;have:=Eu j j1;rw[hx];lia)
       rw[bR (by lia) (show na<=la.length by lia)] at p4;by_cases Cp:na - 1=0
       ·rw[Z0 (bq Cp)];exact Z4 (Dy.a ⟨hs.k,hs.a,hs.p,hs.f⟩ (by rw[aP,bz,aP];exact dR p4.1 p4.2.1 p4.2.2 (.inl Cp)))
       rw[ZX (Cv Cp)];by_cases hb:(decide (na - k<7) && decide (nb - 1 - k2<7))=true
       ·rw[Z0 hb];exact Z4 (Dy.b ⟨hs.k,hs.a,hs.p,hs.f⟩ ⟨_,by rw[aP,bz,aP],p4.1,p4.2.1,p4.2.2,by lia,by lia,by lia,by lia⟩ (by lia))
       ·rw[ZX hb];exact Z4 (GG.k ⟨hs.k,hs.a,hs.p,hs.f⟩ ⟨_,by rw[aP,bz,aP],p4.1,p4.2.1,p4.2.2,by lia,by lia,by lia,by lia⟩ (by lia))
      ·rw[ZX EW];have p3:=p2;have Eu:∀ i,i<nb - 1->key (lb.getD i 0)<key (la.getD (na - 1) 0):=fun i a=>Fs i (by lia) (by lia);refine Z2 (aV (show na - 1<la.length by lia) ?_);have p4:=fk (na - 1) (by lia) (show na<=la.length by lia) p3.1 p3.2.1 p3.2.2 (fun x hx y hy=>by
        rw[bR (by lia) (show na<=la.length by lia),ZW] at hx;obtain⟨j,j1,j2,rfl⟩:=cC hy;have:=Eu j j1;rw[hx];lia)
       rw[bR (by lia) (show na<=la.length by lia)] at p4;by_cases Cp:na - 1=0
       ·rw[Z0 (bq Cp)];exact Z4 (Dy.a ⟨hs.k,hs.a,hs.p,hs.f⟩ (by rw[aP,aP];exact dR p4.1 p4.2.1 p4.2.2 (.inl Cp)))
       rw[ZX (Cv Cp)];by_cases hb:(decide (na - k<7) && decide (nb - 1 - k2<7))=true
       ·rw[Z0 hb];exact Z4 (Dy.b ⟨hs.k,hs.a,hs.p,hs.f⟩ ⟨_,by rw[aP,aP],p4.1,p4.2.1,p4.2.2,by lia,by lia,by lia,by lia⟩ (by lia))
       ·rw[ZX hb];exact Z4 (GG.k ⟨hs.k,hs.a,hs.p,hs.f⟩ ⟨_,by rw[aP,aP],p4.1,p4.2.1,p4.2.2,by lia,by lia,by lia,by lia⟩ (by lia))
end
section
variable{prog:Program}{w:World}{A:Around}{E:Value->Shared->Prop}{κ:SortKind}{it:Array Keyed}{key:Nat->Int}{n:Nat}{s:Shared}
theorem vS{σ:Type}{M:Model}{Q:PUnit->σ->Shared->Prop}{st o_:σ}{s:Shared}(h:Q ⟨⟩ o_ s):kasC M A E (set o_:StateT σ Sem PUnit) Q st s:=by
 unfold kasC;rw[StateT.run_set];exact ZS h
theorem kN{α:Type}:∀ (l:List α) (arr:List α) (q j0 s0:Nat),q+l.length<=arr.length->q=s0+j0->((l.zipIdx j0).foldl (fun (a:Array α) (x:α×Nat)=>a.setIfInBounds (s0+x.2) x.1) arr.toArray)=(arr.take q++l++arr.drop (q+l.length)).toArray
 | [],arr,q,j0,s0,h,e=>by simp
 | x::l,arr,q,j0,s0,h,e=>by
  rw[ZC] at h;rw[WF,Yt];dsimp only;rw[<- e,WZ,kN l (arr.set q x) (q+1) (j0+1) s0 (by rw[XX];lia) (by lia)];congr 1;have e1:(arr.set q x).take (q+1)=arr.take q++[x]:=by
   apply Yr;intro i;rw[YQ,List.getElem?_append,Zg,YQ,XD];by_cases h1:i<q
   ·rw[Z0 (by lia),ZX (by lia),Z0 (by lia),Z0 h1]
   ·by_cases h2:i=q
    ·subst h2;rw[Z0 (by lia),Z0 rfl,Z0 (by lia),ZX (by lia)];simp[show i - min i arr.length=0 by lia]
    ·rw[ZX (by lia),ZX (by lia)];rw[Xx];rw[Zb];lia
  have e2:(arr.set q x).drop (q+1+l.length)=arr.drop (q+(l.length+1)):=by
   apply Yr;intro i;rw[YY,YY,XD,ZX (by lia)];congr 1;lia
  rw[e1,e2,ZC,Z7,Z7,Z7];rfl
theorem nX{LA LB po:List Nat}{k m:Nat}(sA:BF key LA)(sB:BF key LB)(hb:0<LB.length)(ha:0<LA.length)(h1:∀ x∈LA.take k,key x<=key (LB.getD 0 0))(h4:∀ x∈LB.drop m,key (LA.getD (LA.length - 1) 0)<=key x)(hp:po.Perm (LA.drop k++LB.take m))(sp:BF key po):BF key (LA.take k++po++LB.drop m)/\(LA.take k++po++LB.drop m).Perm (LA++LB):=by
 have b0:∀ y∈LB,key (LB.getD 0 0)<=key y:=fun y hy=>by
  obtain⟨j,_,hj,rfl⟩:=b6 (i:=0) (l:=LB) (by rwa [Yi]);exact fh sB (Ys _) hj
 have aL:∀ x∈LA,key x<=key (LA.getD (LA.length - 1) 0):=fun x hx=>by
  obtain⟨j,_,hj,rfl⟩:=b6 (i:=0) (l:=LA) (by rwa [Yi]);exact fh sA (by lia) (by lia)
 have cA:BF key (LA.take k++LA.drop k):=by rwa [ZD]
 have cB:BF key (LB.take m++LB.drop m):=by rwa [ZD]
 have cA:=bp.mp cA;have cB:=bp.mp cB;refine⟨bp.mpr ⟨bp.mpr ⟨cA.1,sp,fun x hx y hy=>?_⟩,cB.2.1,fun x hx y hy=>?_⟩,?_⟩
 ·rcases ZE.mp (hp.mem_iff.mp hy) with hy | hy
  ·exact cA.2.2 x hx y hy
  ·exact Wq (h1 x hx) (b0 y<|YK hy)
 ·rcases ZE.mp hx with hx | hx
  ·exact Wq (h1 x hx) (b0 y<|YW hy)
  ·rcases ZE.mp (hp.mem_iff.mp hx) with hx | hx
   ·exact Wq (aL x<|YW hx) (h4 y hy)
   ·exact cB.2.2 x hx y hy
 ·refine (ZK _<|ZT _ hp).trans ?_;rw[<- Z7,ZD,Z7,ZD]
theorem vT(hc:bZ n key (kas_cmp prog w A κ it) s){lp:List Nat}(H_:∀ x∈lp,x<n){i sa na nb pw pw2:Nat}{st:SortSt}(r_:PyProof.Rows.kindOf st=κ)(Lj:arrOf st=(lp.map<|kas_item it).toArray)(hf:failedOf st=none)(hi:(pendingOf st)[i]?=some (sa,na,pw))(hj:(pendingOf st)[i+1]?=some (sa+na,nb,pw2))(ha:0<na)(hb:0<nb)(hz:sa+na+nb<=lp.length)(sA:BF key ((lp.drop sa).take na))(sB:BF key ((lp.drop<|sa+na).take nb)){Q:Bool->SortSt->Shared->Prop}(h:∀ mid e_,PyProof.Rows.kindOf e_=κ->failedOf e_=none->pendingOf e_=((pendingOf st).setIfInBounds i (sa,na+nb,pw)).eraseIdxIfInBounds (i+1)->mid.Perm ((lp.drop sa).take<|na+nb)->BF key mid->
   arrOf e_=((lp.take sa++mid++lp.drop (sa+(na+nb))).map<|kas_item it).toArray->Q true e_ s):
  kasC (model prog w) A E (mergeAt' i) Q st s:=by
 have lA:((lp.drop sa).take na).length=na:=by rw[Zg,Zj];lia
 have lB:((lp.drop<|sa+na).take nb).length=nb:=by rw[Zg,Zj];lia
 have Ia:∀ j,j<na->((lp.drop sa).take na).getD j 0=lp.getD (sa+j) 0:=fun j hj=>by simp[List.getD,YQ,YY,hj]
 have gtB:∀ j,j<nb->((lp.drop<|sa+na).take nb).getD j 0=lp.getD (sa+na+j) 0:=fun j hj=>by simp[List.getD,YQ,YY,hj]
 have eW:(lp.drop sa).take na++(lp.drop<|sa+na).take nb=(lp.drop sa).take (na+nb):=by rw[<- Yk,fQ]
 have Gc:lp.take sa++(lp.drop sa).take (na+nb)++lp.drop (sa+(na+nb))=lp:=by rw[fQ,ZD]
 have gA:∀ i j,sa<=i->i<=j->j<sa+na->key (lp.getD i 0)<=key (lp.getD j 0):=fun i j a b c=>by
  have:=fh sA (i:=i - sa) (j:=j - sa) (by lia) (by lia)
  rwa [Ia _ (by lia),Ia _ (by lia),show sa+(i - sa)=i by lia,show sa+(j - sa)=j by lia] at this
 have gB:∀ i j,sa+na<=i->i<=j->j<sa+na+nb->key (lp.getD i 0)<=key (lp.getD j 0):=fun i j a b c=>by
  have:=fh sB (i:=i - (sa+na)) (j:=j - (sa+na)) (by lia) (by lia)
  rwa [gtB _ (by lia),gtB _ (by lia),show sa+na+(i - (sa+na))=i by lia,show sa+na+(j - (sa+na))=j by lia] at this
 have mA:∀ x∈(lp.drop sa).take na,∃ j,sa<=j/\j<sa+na/\x=lp.getD j 0:=fun x hx=>by
  obtain⟨j,j0,j1,rfl⟩:=fg hx;exact⟨sa+j,by lia,by lia,rfl⟩
 have mB:∀ x∈(lp.drop<|sa+na).take nb,∃ j,sa+na<=j/\j<sa+na+nb/\x=lp.getD j 0:=fun x hx=>by
  obtain⟨j,j0,j1,rfl⟩:=fg hx;exact⟨sa+na+j,by lia,by lia,rfl⟩
 unfold mergeAt';with_unfolding_all refine Z2 (Yb ?_);simp only[hi,hj,Lj];refine Z2 (vS ?_);refine Z2 (aV (show sa+na<lp.length by lia) ?_);refine Z2 (kJ hc (cz H_ (show sa+na<lp.length by lia)) H_ (base:=sa) (m:=na) (hint:=0) (by lia) ha gA (by exact r_) ?_);intro k J4 lo1 HY;dsimp only;by_cases c1:na - k=0
 ·rw[Z0 (by simpa using c1)];refine Z4 (h _ _ (by exact r_) (by exact hf) rfl (ZI _) ?_ ?_)
  ·rw[<- eW];refine bp.mpr ⟨sA,sB,fun x hx y hy=>?_⟩;obtain⟨j,j1,j2,rfl⟩:=mA x hx;obtain⟨j',j3,j4,rfl⟩:=mB y hy;have:=lo1 j j1 (by lia);have:=gB (sa+na) j' (by lia) j3 j4;lia
  ·rw[Gc]
 rw[ZX (by simpa using c1)];rw[show sa+k+(na - k) - 1=sa+na - 1 by lia];refine Z2 (aV (show sa+na - 1<lp.length by lia) ?_);refine Z2 (gQ hc (cz H_ (show sa+na - 1<lp.length by lia)) H_ (base:=sa+na) (m:=nb) (hint:=nb - 1) (by lia) (by lia) gB (by exact r_) ?_);intro Cz EJ Fs Cy;dsimp only;by_cases c2:Cz=0
 ·rw[Z0 (by simpa using c2)];refine Z4 (h _ _ (by exact r_) (by exact hf) rfl (ZI _) ?_ ?_)
  ·rw[<- eW];refine bp.mpr ⟨sA,sB,fun x hx y hy=>?_⟩;obtain⟨j,j1,j2,rfl⟩:=mA x hx;obtain⟨j',j3,j4,rfl⟩:=mB y hy;have:=Cy j' (by lia) j4;have:=gA j (sa+na - 1) j1 (by lia) (by lia);lia
  ·rw[Gc]
 rw[ZX (by simpa using c2)];have eX:(lp.map<|kas_item it).toArray.extract (sa+k) (sa+na)=((((lp.drop sa).take na).drop k).map<|kas_item it).toArray:=by
  apply Yf;simp only[List.extract_toArray,List.extract_eq_drop_take,Yp,Yo];rw[XE,Yk,show sa+na - (sa+k)=na - k by lia]
 have eY:(lp.map<|kas_item it).toArray.extract (sa+na) (sa+na+Cz)=((((lp.drop<|sa+na).take nb).take Cz).map<|kas_item it).toArray:=by
  apply Yf;simp only[List.extract_toArray,List.extract_eq_drop_take,Yp,Yo];rw[W0,Xd EJ,show sa+na+Cz - (sa+na)=Cz by lia]
 rw[eX,eY];have h1:∀ x∈((lp.drop sa).take na).take k,key x<=key (((lp.drop<|sa+na).take nb).getD 0 0):=fun x hx=>by
  rw[gtB 0 hb];obtain⟨j,j0,j1,rfl⟩:=cC hx;rw[Ia j (by lia)];exact lo1 _ (by lia) (by lia)
 have h4:∀ x∈((lp.drop<|sa+na).take nb).drop Cz,key (((lp.drop sa).take na).getD (((lp.drop sa).take na).length - 1) 0)<=key x:=fun x hx=>by
  rw[lA,Ia _ (by lia)];obtain⟨j,j0,j1,rfl⟩:=b6 hx;rw[gtB j (by lia),show sa+(na - 1)=sa+na - 1 by lia];exact Cy _ (by lia) (by lia)
 have f1:∀ x∈((lp.drop sa).take na).drop k,key ((((lp.drop<|sa+na).take nb).take Cz).getD 0 0)<=key x:=fun x hx=>by
  rw[show (((lp.drop<|sa+na).take nb).take Cz).getD 0 0=((lp.drop<|sa+na).take nb).getD 0 0 by simp only[List.getD,YQ,Z0 (show 0<Cz by lia)],gtB 0 hb];obtain⟨j,j0,j1,rfl⟩:=b6 hx;rw[Ia j (by lia)];have:=HY (sa+j) (by lia) (by lia);rw[Nat.add_zero];lia
 have l2:(((lp.drop sa).take na).drop k).length=na - k:=by rw[Zj,lA]
 have l3:(((lp.drop<|sa+na).take nb).take Cz).length=Cz:=by rw[Zg,lB];lia
 have f2:∀ x∈((lp.drop<|sa+na).take nb).take Cz,key x<=key ((((lp.drop sa).take na).drop k).getD ((((lp.drop sa).take na).drop k).length - 1) 0):=fun x hx=>by
  rw[l2,show (((lp.drop sa).take na).drop k).getD (na - k - 1) 0=((lp.drop sa).take na).getD (na - 1) 0 by simp only[List.getD,YY,show k+(na - k - 1)=na - 1 by lia],Ia _ (by lia),show sa+(na - 1)=sa+na - 1 by lia];obtain⟨j,j0,j1,rfl⟩:=cC hx;rw[gtB j (by lia)];have:=Fs (sa+na+j) (by lia) (by lia);lia
 have u1:∀ x∈((lp.drop sa).take na).drop k,x<n:=fun x hx=>H_ x (YW<|YK<|YW hx);have u2:∀ x∈((lp.drop<|sa+na).take nb).take Cz,x<n:=fun x hx=>H_ x (YW<|YK<|YK hx);by_cases c3:na - k<=Cz
 ·rw[Z0 c3];refine Z2 (vP hc u1 u2 (sA.sublist<|WS _ _) (sB.sublist<|XQ _ _) (by lia) (by lia) f1 f2 (by exact r_) ?_);intro out e_ hM Gd;obtain⟨po,rfl,D8,Hx⟩:=hM;have Ft:=nX (key:=key) sA sB (by lia) (by lia) h1 h4 D8 Hx;refine Z2 (YV ?_);refine Z2 (Yb ?_);refine Z4 ?_;have e:failedOf e_=none:=Gd.f.trans hf;show Q (failedOf e_).isNone _ s;rw[e];refine h (((lp.drop sa).take na).take k++po++((lp.drop<|sa+na).take nb).drop Cz) _ (Gd.k.trans r_) (by first | rfl | exact e) (by exact Gd.p) (by rw[<- eW];exact Ft.2) Ft.1 ?_;have ea:arrOf e_=(lp.map<|kas_item it).toArray:=Gd.a;have pl:po.length=na - k+Cz:=by rw[D8.length_eq,ZG,l2,l3]
  have Lk:=kN (po.map<|kas_item it) (lp.map<|kas_item it) (sa+k) 0 (sa+k) (by rw[ZY,ZY,pl];lia) rfl;show List.foldl (fun a x=>a.setIfInBounds (sa+k+x.2) x.1) (arrOf e_) (po.map<|kas_item it).toArray.toList.zipIdx=_;rw[ea];refine Lk.trans ?_;rw[ZY,pl,<- Yo,<- Yp,<- Y5,<- Y5];congr 2;have q1:lp.take (sa+k)=lp.take sa++((lp.drop sa).take na).take k:=by
   rw[W0,Xd J4,fQ]
  have q2:lp.drop (sa+k+(na - k+Cz))=((lp.drop<|sa+na).take nb).drop Cz++lp.drop (sa+(na+nb)):=by
   have:=kK (l:=lp.drop (sa+na)) (i:=Cz) (j:=nb) EJ (by rw[Zj];lia);rw[Yk,Yk] at this;rw[show sa+k+(na - k+Cz)=sa+na+Cz by lia,this,show sa+na+nb=sa+(na+nb) by lia]
  rw[q1,q2];simp only[Z7]
 ·rw[ZX c3];refine Z2 (vR hc u1 u2 (sA.sublist<|WS _ _) (sB.sublist<|XQ _ _) (by lia) (by lia) f1 f2 (by exact r_) ?_);intro out e_ hM Gd;obtain⟨po,rfl,D8,Hx⟩:=hM;have Ft:=nX (key:=key) sA sB (by lia) (by lia) h1 h4 D8 Hx;refine Z2 (YV ?_);refine Z2 (Yb ?_);refine Z4 ?_;have e:failedOf e_=none:=Gd.f.trans hf;show Q (failedOf e_).isNone _ s;rw[e];refine h (((lp.drop sa).take na).take k++po++((lp.drop<|sa+na).take nb).drop Cz) _ (Gd.k.trans r_) (by first | rfl | exact e) (by exact Gd.p) (by rw[<- eW];exact Ft.2) Ft.1 ?_;have ea:arrOf e_=(lp.map<|kas_item it).toArray:=Gd.a;have pl:po.length=na - k+Cz:=by rw[D8.length_eq,ZG,l2,l3]
  have Lk:=kN (po.map<|kas_item it) (lp.map<|kas_item it) (sa+k) 0 (sa+k) (by rw[ZY,ZY,pl];lia) rfl;show List.foldl (fun a x=>a.setIfInBounds (sa+k+x.2) x.1) (arrOf e_) (po.map<|kas_item it).toArray.toList.zipIdx=_;rw[ea];refine Lk.trans ?_;rw[ZY,pl,<- Yo,<- Yp,<- Y5,<- Y5];congr 2;have q1:lp.take (sa+k)=lp.take sa++((lp.drop sa).take na).take k:=by
   rw[W0,Xd J4,fQ]
  have q2:lp.drop (sa+k+(na - k+Cz))=((lp.drop<|sa+na).take nb).drop Cz++lp.drop (sa+(na+nb)):=by
   have:=kK (l:=lp.drop (sa+na)) (i:=Cz) (j:=nb) EJ (by rw[Zj];lia);rw[Yk,Yk] at this;rw[show sa+k+(na - k+Cz)=sa+na+Cz by lia,this,show sa+na+nb=sa+(na+nb) by lia]
  rw[q1,q2];simp only[Z7]
end
section
variable{prog:Program}{w:World}{A:Around}{E:Value->Shared->Prop}{κ:SortKind}{it:Array Keyed}{key:Nat->Int}{n:Nat}{s:Shared}{pend:Array (Nat×Nat×Nat)}
structure Hd(κ:SortKind)(it:Array Keyed)(pend:Array (Nat×Nat×Nat))(st:SortSt)(p:Array Nat):Prop where
 k:PyProof.Rows.kindOf st=κ
 a:arrOf st=p.map (kas_item it)
 p:pendingOf st=pend
 f:failedOf st=none
theorem gS(hc:bZ n key (kas_cmp prog w A κ it) s){p:Array Nat}(hp:Rg n p){i j:Nat}(hi:i<n)(hj:j<n){st:SortSt}(H:Hd κ it pend st p){Q:Option Bool->SortSt->Shared->Prop}(h:Q (some<|decide (y_ key p i<y_ key p j)) st s):
  kasC (model prog w) A E (ltAt' i j) Q st s:=by
 have el:∀ i,i<n->(p.map<|kas_item it)[i]?=some (kas_item it<|p.getD i 0):=fun i hi=>by
  have:i<p.size:=by rw[hp.size];exact hi
  simp[Array.getD,this]
 rw[ltAt'_eq];refine Z2 (Yb ?_);rw[H.a];dsimp only;rw[elem'_eq,elem'_eq,el i hi,el j hj];refine Z2 (Z4 ?_);refine Z2 (Z4 ?_);exact gO hc (hp.lt hi) (hp.lt hj) H.k h
variable{p:Array Nat}{st:SortSt}
theorem vU(H:Hd κ it pend st p){i j:Nat}{Q:Unit->SortSt->Shared->Prop}(h:∀ e_,Hd κ it pend e_ (kas_rev p i j)->Q () e_ s):kasC (model prog w) A E (reverseSlice' i j) Q st s:=by
 rw[reverseSlice'_eq];refine YV (h _ ⟨H.k,?_,H.p,H.f⟩);show mirror (arrOf st) i j ((j - i) / 2)=_;rw[H.a];exact kas_swaps_map (kas_item it) (fun k=>i+k) (fun k=>j - 1 - k) _ p
theorem vV(H:Hd κ it pend st p){i j:Nat}{Q:Unit->SortSt->Shared->Prop}(h:∀ e_,Hd κ it pend e_ (bubble p i<|i - j)->Q () e_ s):kasC (model prog w) A E (moveDown' i j) Q st s:=by
 rw[moveDown'_eq];refine YV (h _ ⟨H.k,?_,H.p,H.f⟩);show bubble (arrOf st) i (i - j)=_;rw[H.a];exact kas_swaps_map (kas_item it) (fun k=>i - k) (fun k=>i - k - 1) _ p
theorem gU{σ β:Type}{M:Model}{f:Nat->β->StateT σ Sem (ForInStep β)}{Q:β->σ->Shared->Prop}(I:Nat->β->σ->Shared->Prop)(B:Nat)(step:∀ x c st s',x<B->I x c st s'->kasC M A E (f x c) (fun r o_ s2=>match r with | .yield c'=>I (x+1) c' o_ s2 | .done c'=>Q c' o_ s2) st s'):∀ (m a:Nat) (c:β) (st:σ) (s':Shared),a+m<=B->(∀ c st s',I (a+m) c st s'->Q c st s')->I a c st s'->
   kasC M A E (forIn (range' a m) c f) Q st s'
 | 0,a,c,st,s',hB,fin,h=>by
  show kasC M A E (forIn ([]:List Nat) c f) Q st s';exact kasC_nil (fin c st s' h)
 | m+1,a,c,st,s',hB,fin,h=>by
  show kasC M A E (forIn (a::range' (a+1) m) c f) Q st s';refine kasC_cons (Zc (step a c st s' (by lia) h) (fun r s2 h'=>?_) fun _ _ e=>e);obtain⟨r,o_⟩:=r;cases r with
  | done c'=>exact h'
  | yield c'=>exact gU I B step m (a+1) c' o_ s2 (by lia) (fun c st s' hi=>fin c st s' (by rw[show a+(m+1)=a+1+m by lia];exact hi)) h'
theorem vW(hc:bZ n key (kas_cmp prog w A κ it) s)(inj:∀ i j,i<n->j<n->key i=key j->i=j){p:Array Nat}(hp:Rg n p){lo B3:Nat}(h1:1<=B3)(hz:lo+B3<=n){st:SortSt}(H:Hd κ it pend st p){Q:Option Nat->SortSt->Shared->Prop}(h:∀ m p' e_,1<=m->m<=B3->Rg n p'->Hd κ it pend e_ p'->(∀ i,i<lo->p'[i]?=p[i]?)->(∀ j,lo+1<=j->j<lo+m->y_ key p' (j - 1)<=y_ key p' j)->Q (some m) e_ s):
  kasC (model prog w) A E (countRun' lo B3) Q st s:=by
 unfold countRun';have asc:∀ (q:Array Nat) (s_:SortSt) (a:Nat),Rg n q->Hd κ it pend s_ q->1<=a->a<=B3->(∀ j,lo+1<=j->j<lo+a->y_ key q (j - 1)<=y_ key q j)->
   kasC (model prog w) A E (forIn [a:B3] ((none:Option (Option Nat)),a) fun x c=>do
    let r <- ltAt' (lo+c.2) (lo+c.2 - 1)
    match r with
    | some Ge=>if Ge=true then pure (ForInStep.done (none,c.2)) else pure (ForInStep.yield (none,c.2+1))
    | x=>pure<|ForInStep.done (some none,c.2))
    (fun c e_ s'=>s=s'/\s_=e_/\∃ m,c=(none,m)/\a<=m/\m<=B3/\(∀ j,lo+1<=j->j<lo+m->y_ key q (j - 1)<=y_ key q j)/\(m=B3\/y_ key q (lo+m)<y_ key q (lo+m - 1))) s_ s:=fun q s_ a hq H1 a1 a2 a3=>by
  refine Zh (gU (fun x c e_ s'=>s=s'/\s_=e_/\c=(none,x)/\a<=x/\∀ j,lo+1<=j->j<lo+x->y_ key q (j - 1)<=y_ key q j) B3 ?_ _ _ _ _ _ (by lia) ?_ ⟨rfl,rfl,rfl,ZR _,a3⟩)
  ·rintro x c e_ s' hx ⟨rfl,rfl,rfl,x1,x2⟩;dsimp only;refine Z2 (gS hc hq (by lia) (by lia) H1 ?_);dsimp only;by_cases hk:y_ key q (lo+x)<y_ key q (lo+x - 1)
   ·rw[Z0 (by simpa using hk)];exact Z4 ⟨rfl,rfl,x,rfl,x1,by lia,x2,.inr hk⟩
   ·rw[ZX (by simpa using hk)];refine Z4 ⟨rfl,rfl,rfl,by lia,fun j j1 j2=>?_⟩;by_cases e:j=lo+x
    ·subst e;lia
    ·exact x2 j j1 (by lia)
  ·rintro c e_ s' ⟨rfl,rfl,rfl,x1,x2⟩;rw[show a+(B3 - a)=B3 by lia] at x2 ⊢;exact⟨rfl,rfl,B3,rfl,by lia,ZR _,x2,.inl rfl⟩
 with_unfolding_all refine Z2 (b7 (asc p st 1 hp H (ZR _) h1 fun j a b=>by lia) ?_);rintro c e_ s' ⟨rfl,rfl,m,rfl,m1,m2,m3,m4⟩;dsimp only;by_cases e:m=B3
 ·rw[Z0 (by simpa using e)];exact Z4 (h m p _ m1 m2 hp H (fun _ _=>rfl) m3)
 rw[ZX (by simpa using e)];have Ll:y_ key p (lo+m)<y_ key p (lo+m - 1):=m4.resolve_left e;by_cases e1:m > 1
 ·rw[Z0 e1];refine Z2 (gS hc hp (by lia) (by lia) H ?_);dsimp only;have:∀ d,1<=d->d<m->y_ key p lo<y_ key p (lo+d):=fun d=>by
   induction d with
   | zero=>intro x;lia
   | succ d ih=>
    intro _ hd;have a:=m3 (lo+(d+1)) (by lia) (by lia);rw[show lo+(d+1) - 1=lo+d by lia] at a;have b:=hp.ne inj (show lo+d<lo+(d+1) by lia) (by lia);by_cases z:d=0
    ·subst z;rw[Nat.add_zero] at a b;lia
    ·have:=ih (by lia) (by lia);lia
  have hr:=this (m - 1) (by lia) (by lia);rw[show lo+(m - 1)=lo+m - 1 by lia] at hr;rw[Z0 (by simpa using hr)];exact Z4 (h m p _ m1 m2 hp H (fun _ _=>rfl) m3)
 rw[ZX e1];obtain rfl:m=1:=by lia
 refine Z2 (W4<|YE ?_);refine Z2 (b7 (Q':=fun c e_ s'=>s=s'/\st=e_/\∃ m,c=(none,m,0)/\2<=m/\m<=B3/\∀ j,lo+1<=j->j<lo+m->y_ key p j<y_ key p (j - 1))
  (Zh (gU (fun x c e_ s'=>s=s'/\st=e_/\c=(none,x,0)/\2<=x/\∀ j,lo+1<=j->j<lo+x->y_ key p j<y_ key p (j - 1)) B3 ?d1 _ _ _ _ _ (by lia) ?d2 ⟨rfl,rfl,rfl,ZR _,fun j j1 j2=>by
   obtain rfl:j=lo+1:=by lia
   exact Ll⟩)) ?d3)
 case d1=>
  rintro x c e_ s' hx ⟨rfl,rfl,rfl,x1,x2⟩;dsimp only;refine Z2 (gS hc hp (by lia) (by lia) H ?_);dsimp only;by_cases hk:y_ key p (lo+x)<y_ key p (lo+x - 1)
  ·rw[Z0 (by simpa using hk),ZX (by lia)];refine Z4 ⟨rfl,rfl,rfl,by lia,fun j j1 j2=>?_⟩;by_cases e:j=lo+x
   ·subst e;exact hk
   ·exact x2 j j1 (by lia)
  ·rw[ZX (by simpa using hk)];refine Z2 (gS hc hp (by lia) (by lia) H ?_);dsimp only;have b:=hp.ne inj (show lo+x - 1<lo+x by lia) (by lia);rw[Z0 (by rw[XF];lia)];exact Z4 ⟨rfl,rfl,x,rfl,x1,by lia,x2⟩
 case d2=>
  rintro c e_ s' ⟨rfl,rfl,rfl,x1,x2⟩;rw[show 1+1+(B3 - (1+1))=B3 by lia] at x2 ⊢;exact⟨rfl,rfl,B3,rfl,by lia,ZR _,x2⟩
 case d3=>
  rintro c e_ s' ⟨rfl,rfl,k,rfl,k1,k2,k3⟩;dsimp only;rw[ZX (by lia)];refine Z2 (vU H ?_);intro o_ H2;have F_:=hp.rev lo (lo+k);have g:∀ i,(kas_rev p lo<|lo+k)[i]?=if lo<=i/\i<lo+k then p[lo+(lo+k) - 1 - i]? else p[i]?:=fun i=>by
   unfold kas_rev;rw[getElem?_mirror_all (by rw[hp.size];lia)]
  have ky:∀ i,lo<=i->i<lo+k->y_ key (kas_rev p lo<|lo+k) i=y_ key p (lo+(lo+k) - 1 - i):=fun i a b=>fP (by rw[g,Z0 ⟨a,b⟩]);refine Z2 (b7 (asc (kas_rev p lo<|lo+k) o_ k F_ H2 (by lia) k2 fun j j1 j2=>?_) ?_)
  ·rw[ky _ (by lia) (by lia),ky _ (by lia) (by lia)];have:=k3 (lo+(lo+k) - 1 - (j - 1)) (by lia) (by lia);rw[show lo+(lo+k) - 1 - (j - 1) - 1=lo+(lo+k) - 1 - j by lia] at this;lia
  ·rintro c e_ s' ⟨rfl,rfl,m',rfl,q1,q2,q3,q4⟩;dsimp only;exact Z4 (h m' _ _ (by lia) q2 F_ H2 (fun i hi=>by rw[g,ZX (by lia)]) q3)
end
section
variable{prog:Program}{w:World}{A:Around}{E:Value->Shared->Prop}{κ:SortKind}{it:Array Keyed}{key:Nat->Int}{n:Nat}{s:Shared}{pend:Array (Nat×Nat×Nat)}
def ci(key:Nat->Int)(p:Array Nat)(lo m:Nat):Prop:=∀ i j,lo<=i->i<=j->j<lo+m->y_ key p i<=y_ key p j
theorem nY{p:Array Nat}{lo m:Nat}(h:∀ j,lo+1<=j->j<lo+m->y_ key p (j - 1)<=y_ key p j):ci key p lo m:=by
 intro i j hi Dc hj;obtain⟨d,rfl⟩:∃ d,j=i+d:=⟨j - i,by lia⟩;clear Dc;induction d with
 | zero=>exact XT _
 | succ d ih=>
  have a:=ih (by lia);have b:=h (i+(d+1)) (by lia) hj;rw[show i+(d+1) - 1=i+d by lia] at b;lia
theorem vX(hc:bZ n key (kas_cmp prog w A κ it) s){p:Array Nat}(hp:Rg n p){lo m GH:Nat}(hz:lo+m<=n)(h1:1<=GH)(hm:GH<=m)(up:ci key p lo GH){st:SortSt}(H:Hd κ it pend st p){Q:Bool->SortSt->Shared->Prop}(h:∀ p' e_,Rg n p'->Hd κ it pend e_ p'->(∀ i,i<lo->p'[i]?=p[i]?)->ci key p' lo m->Q true e_ s):
  kasC (model prog w) A E (binarySort' lo m GH) Q st s:=by
 rw[binarySort'_eq];rw[show max GH 1=GH by lia];with_unfolding_all refine Z2 (b7 (Q':=fun c e_ s'=>s=s'/\c=(none,())/\∃ q,Rg n q/\Hd κ it pend e_ q/\(∀ i,i<lo->q[i]?=p[i]?)/\ci key q lo m)
  (Zh (gU (fun x c e_ s'=>s=s'/\c=(none,())/\1<=x/\∃ q,Rg n q/\Hd κ it pend e_ q/\(∀ i,i<lo->q[i]?=p[i]?)/\ci key q lo x) m ?step _ _ _ _ _ (by lia) ?fin ⟨rfl,rfl,h1,p,hp,H,fun _ _=>rfl,up⟩)) ?after)
 case after=>
  rintro c e_ s' ⟨rfl,rfl,q,q1,q2,q3,q4⟩;exact Z4 (h q _ q1 q2 q3 q4)
 case fin=>
  rintro c e_ s' ⟨rfl,rfl,x1,q,q1,q2,q3,q4⟩;rw[show GH+(m - GH)=m by lia] at q4;exact⟨rfl,rfl,q,q1,q2,q3,q4⟩
 case step=>
  rintro k c e_ s' hk ⟨rfl,rfl,k1,q,hq,H',fr,up⟩;dsimp only;have L0:∀ i,lo<=i->i<lo+0->y_ key q i<=y_ key q (lo+k):=fun i a b=>by lia
  have R0:∀ i,lo+k<=i->i<lo+k->y_ key q (lo+k)<=y_ key q i:=fun i a b=>by lia
  refine Z2 (b7 (Q':=fun c o_ s'=>s=s'/\e_=o_/\∃ l r,c=(none,l,r)/\l<=k/\(∀ i,lo<=i->i<lo+l->y_ key q i<=y_ key q (lo+k))/\(∀ i,lo+l<=i->i<lo+k->y_ key q (lo+k)<=y_ key q i))
   (Zh (gU (fun x c o_ s'=>s=s'/\e_=o_/\∃ l r,c=(none,l,r)/\l<=r/\r<=k/\r - l<=k - x/\(∀ i,lo<=i->i<lo+l->y_ key q i<=y_ key q (lo+k))/\(∀ i,lo+r<=i->i<lo+k->y_ key q (lo+k)<=y_ key q i)) k ?s2 _ _ _ _ _ (by lia) ?f2 ⟨rfl,rfl,0,k,rfl,by lia,by lia,by lia,L0,R0⟩)) ?a2)
  case f2=>
   rintro c o_ s' ⟨rfl,rfl,l,r,rfl,b1,b2,b3,b4,b5⟩;exact⟨rfl,rfl,l,r,rfl,by lia,b4,fun i x y=>b5 i (by lia) y⟩
  case s2=>
   rintro x c o_ s' hx ⟨rfl,rfl,l,r,rfl,b1,b2,b3,b4,b5⟩;dsimp only;by_cases e:l >= r
   ·rw[Z0 e];exact Z4 ⟨rfl,rfl,l,r,rfl,by lia,b4,fun i x y=>b5 i (by lia) y⟩
   rw[ZX e];have m1:l<=(l+r) / 2:=by lia
   have m2:(l+r) / 2<r:=by lia
   have m3:(l+r) / 2 - l<=k - (x+1):=by lia
   have m4:r - ((l+r) / 2+1)<=k - (x+1):=by lia
   generalize (l+r) / 2=mid at m1 m2 m3 m4 ⊢;refine Z2 (gS hc hq (by lia) (by lia) H' ?_);dsimp only;by_cases EJ:y_ key q (lo+k)<y_ key q (lo+mid)
   ·rw[Z0 (by simpa using EJ)];refine Z4 ⟨rfl,rfl,l,mid,rfl,m1,by lia,m3,b4,fun i x y=>?_⟩;have:=up (lo+mid) i (by lia) x y;lia
   ·rw[ZX (by simpa using EJ)];refine Z4 ⟨rfl,rfl,mid+1,r,rfl,by lia,b2,m4,fun i x y=>?_,b5⟩;have:=up i (lo+mid) x (by lia) (by lia);lia
  case a2=>
   rintro c o_ s' ⟨rfl,rfl,l,r,rfl,b1,b4,b5⟩;dsimp only;refine Z2 (vV H' ?_);intro Df H3;have g:∀ i,(bubble q (lo+k)<|lo+k - (lo+l))[i]?=if i=lo+l then q[lo+k]? else if lo+l<i/\i<=lo+k then q[i - 1]? else q[i]?:=fun i=>by
    have:=getElem?_bubble (xs:=q) (src:=lo+k) (by rw[hq.size];lia) (lo+k - (lo+l)) (by lia) i
    rwa [show lo+k - (lo+k - (lo+l))=lo+l by lia] at this
   have ky:∀ i,y_ key (bubble q (lo+k)<|lo+k - (lo+l)) i=if i=lo+l then y_ key q (lo+k) else if lo+l<i/\i<=lo+k then y_ key q (i - 1) else y_ key q i:=fun i=>by
    have g:=g i;by_cases e:i=lo+l
    ·rw[Z0 e] at g ⊢;exact fP g
    ·rw[ZX e] at g ⊢;by_cases e2:lo+l<i/\i<=lo+k
     ·rw[Z0 e2] at g ⊢;exact fP g
     ·rw[ZX e2] at g ⊢;exact fP g
   refine Z4 ⟨rfl,rfl,by lia,_,hq.NE _ _,H3,fun i hi=>by rw[g,ZX (by lia),ZX (by lia)];exact fr i hi,nY fun j x y=>?_⟩;rw[ky,ky];by_cases c1:j - 1=lo+l
   ·rw[Z0 c1,ZX (by lia),Z0 (by lia)];exact b5 (j - 1) (by lia) (by lia)
   ·rw[ZX c1];by_cases c2:j=lo+l
    ·rw[Z0 c2,ZX (by lia)];exact b4 (j - 1) (by lia) (by lia)
    ·rw[ZX c2];by_cases c3:lo+l<j - 1
     ·rw[Z0 (by lia),Z0 (by lia)];exact up _ _ (by lia) (by lia) (by lia)
     ·rw[ZX (by lia),ZX (by lia)];exact up _ _ (by lia) (by lia) (by lia)
end
section
variable{prog:Program}{w:World}{A:Around}{E:Value->Shared->Prop}{κ:SortKind}{it:Array Keyed}{key:Nat->Int}{n:Nat}{s:Shared}{pend:Array (Nat×Nat×Nat)}
def aM(key:Nat->Int)(p:Array Nat):Nat->List (Nat×Nat×Nat)->Nat->Prop
 | a,[],b=>a=b
 | a,(x,l,_)::t,b=>x=a/\0<l/\ci key p x l/\aM key p (a+l) t b
variable{p:Array Nat}
theorem aM.le:∀ {t:List (Nat×Nat×Nat)}{a b:Nat},aM key p a t b->a+t.length<=b
 | [],a,b,h=>by rw[show b=a from h.symm];exact ZR _
 | (x,l,_)::t,a,b,h=>by
  have:=h.2.2.2.le;have:=h.2.1;rw[ZC];lia
theorem aM.congr{q:Array Nat}:∀ {t:List (Nat×Nat×Nat)}{a b:Nat},aM key p a t b->(∀ i,a<=i->i<b->y_ key q i=y_ key p i)->aM key q a t b
 | [],a,b,h,_=>h
 | (x,l,_)::t,a,b,h,g=>by
  have:=h.2.2.2.le;obtain⟨rfl,h2,h3,h4⟩:=h;refine⟨rfl,h2,fun i j hi Dc hj=>?_,h4.congr fun i a b=>g i (by lia) b⟩;rw[g i hi (by lia),g j (by lia) (by lia)];exact h3 i j hi Dc hj
theorem aM.app{p:Array Nat}:∀ {t u:List (Nat×Nat×Nat)}{a b:Nat},aM key p a (t++u) b↔∃ c,aM key p a t c/\aM key p c u b
 | [],u,a,b=>⟨fun h=>⟨a,rfl,h⟩,fun ⟨c,e,h⟩=>by rw[show a=c from e];exact h⟩
 | (x,l,z)::t,u,a,b=>by
  show (x=a/\0<l/\ci key p x l/\aM key p (a+l) (t++u) b)↔_;rw[aM.app];constructor
  ·rintro⟨h1,h2,h3,c,h4,h5⟩;exact⟨c,⟨h1,h2,h3,h4⟩,h5⟩
  ·rintro⟨c,⟨h1,h2,h3,h4⟩,h5⟩;exact⟨h1,h2,h3,c,h4,h5⟩
theorem vY{α:Type}{l:List α}{i:Nat}(h:i+1<l.length):∃ l1 x y l2,l=l1++x::y::l2/\l1.length=i:=by
 refine⟨l.take i,l[i]'(by lia),l[i+1],l.drop<|i+2,?_,by rw[Zg];lia⟩;have e1:=Zm (l:=l) (i:=i) (by lia);have e2:=Zm (l:=l) (i:=i+1) h;rw[<- e2,<- e1,ZD]
theorem J5(l:List Nat)(i:Nat):y_ key l.toArray i=key (l.getD i 0):=by unfold y_;rw[dQ]
theorem kO(hc:bZ n key (kas_cmp prog w A κ it) s){p:Array Nat}(hp:Rg n p){st:SortSt}(H:Hd κ it pend st p){lo i:Nat}(hi:i+1<pend.size)(R:aM key p 0 pend.toList lo)(Nt:lo<=n){Q:Bool->SortSt->Shared->Prop}(h:∀ Cw p' e_,Rg n p'->Hd κ it Cw e_ p'->Cw.size+1=pend.size->aM key p' 0 Cw.toList lo->(∀ i,lo<=i->y_ key p' i=y_ key p i)->Q true e_ s):kasC (model prog w) A E (mergeAt' i) Q st s:=by
 obtain⟨l1,⟨sa,na,pw⟩,⟨sb,nb,pw2⟩,l2,e,rfl⟩:=vY (l:=pend.toList) (i:=i) (by simpa using hi);rw[e] at R;obtain⟨c,R1,rfl,NM,A1,rfl,NN,A2,R2⟩:=aM.app.mp R;have b2:=R2.le;have pe:pend=(l1++(sa,na,pw)::(sa+na,nb,pw2)::l2).toArray:=by rw[<- e]
 have NO:p.size=n:=hp.size;have NP:∀ x∈p.toList,x<n:=fun x hx=>Zp.mp (hp.mem_iff.mp hx);have gk:∀ i,y_ key p i=key (p.toList.getD i 0):=fun i=>J5 p.toList i;have pl:p.toList.length=n:=by rw[Zv,NO]
 have GI:∀ a m,a+m<=n->ci key p a m->BF key ((p.toList.drop a).take m):=fun a m hz h=>by
  refine Y1.mpr fun i j hi hj Dc=>?_;have EV:=hi;have GJ:=hj;rw[Zg,Zj,pl] at EV GJ;have:=h (a+i) (a+j) (by lia) (by lia) (by lia);rw[gk,gk] at this;rw[WT,XI,WT,XI];rw[Z6,Z6,ZL (by lia),ZL (by lia)] at this;exact this
 refine vT hc (lp:=p.toList) NP (i:=l1.length) (sa:=sa) (na:=na) (nb:=nb) (pw:=pw) (pw2:=pw2) H.k (by rw[H.a];apply Yf;simp) H.f (by rw[H.p,pe];simp) (by rw[H.p,pe];simp) NM NN (by lia) (GI _ _ (by lia) A1) (GI _ _ (by lia) A2) ?_;intro mid e_ k1 f1 p1 m1 m2 a1;have ml:mid.length=na+nb:=by rw[m1.length_eq,Zg,Zj,pl];lia
 have Gc:p.toList.take sa++(p.toList.drop sa).take (na+nb)++p.toList.drop (sa+(na+nb))=p.toList:=by rw[fQ,ZD]
 have F_:Rg n (p.toList.take sa++mid++p.toList.drop (sa+(na+nb))).toArray:=by
  show (p.toList.take sa++mid++p.toList.drop (sa+(na+nb))).Perm (range n);refine List.Perm.trans (ZK _<|ZT _ m1) ?_;rw[Gc];exact hp
 have tl:(p.toList.take sa).length=sa:=by rw[Zg,pl];lia
 have NQ:∀ i,i<sa->y_ key (p.toList.take sa++mid++p.toList.drop (sa+(na+nb))).toArray i=y_ key p i:=fun i hi=>by
  rw[J5,gk];congr 1;rw[Z6,Z6,Z7,Ze (by lia),YQ,Z0 hi]
 have MK:∀ i,sa+(na+nb)<=i->y_ key (p.toList.take sa++mid++p.toList.drop (sa+(na+nb))).toArray i=y_ key p i:=fun i hi=>by
  rw[J5,gk];congr 1;rw[Z6,Z6,Y6 (by rw[ZG];lia),YY,ZG,tl,ml];congr 2;lia
 have ML:∀ i,sa<=i->i<sa+(na+nb)->y_ key (p.toList.take sa++mid++p.toList.drop (sa+(na+nb))).toArray i=key (mid.getD (i - sa) 0):=fun i h1 h2=>by
  rw[J5];congr 1;rw[Z6,Z6,Z7,Y6 (by lia),tl,Ze (by lia)]
 have NR:((l1++(sa,na,pw)::(sa+na,nb,pw2)::l2).toArray.setIfInBounds l1.length (sa,na+nb,pw)).eraseIdxIfInBounds (l1.length+1)=(l1++(sa,na+nb,pw)::l2).toArray:=by
  rw[WZ,List.set_append_right _ _<|ZR _,Nat.sub_self,List.set_cons_zero];rw[Xz,List.eraseIdx_append_of_length_le (by lia),show l1.length+1 - l1.length=1 by lia];rfl
 refine h ((l1++(sa,na+nb,pw)::l2).toArray) _ e_ F_ ⟨k1,by rw[a1];apply Yf;simp,by rw[p1,H.p,pe,NR],f1⟩ (by rw[pe];simp;lia) ?_ (fun i hi=>MK i (by lia));have NS:aM key p (sa+(na+nb)) l2 lo:=by rw[<- Xm];exact R2
 refine aM.app.mpr ⟨sa,R1.congr fun i _ b=>NQ i b,rfl,by lia,fun i j h1 h2 h3=>?_,NS.congr fun i a b=>MK i a⟩
 ·rw[ML i h1 (by lia),ML j (by lia) h3];exact fh m2 (by lia) (by lia)
end
section
variable{prog:Program}{w:World}{A:Around}{E:Value->Shared->Prop}{κ:SortKind}{it:Array Keyed}{key:Nat->Int}{n:Nat}{s:Shared}{pend:Array (Nat×Nat×Nat)}
variable{p:Array Nat}
theorem aM.same:∀ {t u:List (Nat×Nat×Nat)}{a b:Nat},aM key p a t b->(t.map fun x=>(x.1,x.2.1))=(u.map fun x=>(x.1,x.2.1))->aM key p a u b
 | [],[],a,b,h,_=>h
 | [],_::_,a,b,h,e=>by cases e
 | _::_,[],a,b,h,e=>by cases e
 | (x,l,z)::t,(x',l',z')::u,a,b,h,e=>by
  rw[Zy,Zy] at e;injection e with e1 e2;injection e1 with e3 e4;dsimp only at e3 e4;subst e3;subst e4;exact⟨h.1,h.2.1,h.2.2.1,h.2.2.2.same e2⟩
theorem nZ(xs:Array (Nat×Nat×Nat))(i z:Nat):(xs.toList.map fun x=>(x.1,x.2.1))=((xs.modify i fun x=>(x.1,x.2.1,z)).toList.map fun x=>(x.1,x.2.1)):=by
 apply Yr;intro j;rw[Zr,Zr,Zt,Zt,Array.getElem?_modify];split
 ·rw[Option.map_map];rfl
 ·rfl
theorem ci.congr{q:Array Nat}{lo m:Nat}(h:ci key p lo m)(g:∀ i,lo<=i->y_ key q i=y_ key p i):ci key q lo m:=fun i j a b c=>by
 rw[g i a,g j (by lia)];exact h i j a b c
variable{Q:Unit->SortSt->Shared->Prop}
theorem vZ(hc:bZ n key (kas_cmp prog w A κ it) s)(inj:∀ i j,i<n->j<n->key i=key j->i=j)(h2:2<=n)(hG:∀ p' e_,Rg n p'->Up key p' n->arrOf e_=p'.map (kas_item it)->failedOf e_=none->Q () e_ s):kasC (model prog w) A E sortRuns' Q (kas_st κ it (range n).toArray) s:=by
 rw[sortRuns'_eq];refine Z2 (Yb ?_);dsimp only;have hsz:(arrOf<|kas_st κ it (range n).toArray).size=n:=by
  show ((range n).toArray.map<|kas_item it).size=n;simp
 simp only[hsz];refine Z2 (b7 (Q':=fun c e_ s'=>s=s'/\c=(none,n)/\∃ pend p,Rg n p/\Hd κ it pend e_ p/\aM key p 0 pend.toList n)
  (Zh (bI (fun x c e_ s'=>s=s'/\∃ lo pend p,c=(none,lo)/\x<=lo/\lo<=n/\Rg n p/\Hd κ it pend e_ p/\aM key p 0 pend.toList lo) ?step _ 0 _ _ _ ?fin ⟨rfl,0,#[],(range n).toArray,rfl,ZR _,by lia,ZI _,⟨rfl,rfl,rfl,rfl⟩,rfl⟩)) ?after)
 case fin=>
  rintro c e_ s' ⟨rfl,lo,pend,p,rfl,a,b,d,e,f⟩;have:lo=n:=by lia
  subst this;exact⟨rfl,rfl,pend,p,d,e,f⟩
 case after=>
  rintro c e_ s' ⟨rfl,rfl,pend,p,hp,H,R⟩;dsimp only;refine Z2 (b7 (Q':=fun c e_ s'=>s=s'/\c=(none,())/\∃ p,Rg n p/\Up key p n/\arrOf e_=p.map (kas_item it)/\failedOf e_=none)
   (Zh (bI (fun x c e_ s'=>s=s'/\c=(none,())/\∃ pend p,Rg n p/\Hd κ it pend e_ p/\aM key p 0 pend.toList n/\pend.size+x<=n) ?s2 _ 0 _ _ _ ?f2 ⟨rfl,rfl,pend,p,hp,H,R,by have:=R.le;rw[Zv] at this;lia⟩)) ?a2)
  case a2=>
   rintro c e_ s' ⟨rfl,rfl,p,a,b,c,d⟩;exact Z4 (hG p _ a b c d)
  case f2=>
   rintro c e_ s' ⟨rfl,rfl,pend,p,hp,H,R,hx⟩;have e:pend.toList=[]:=YJ (by rw[Zv];lia);rw[e] at R;have:0=n:=R;lia
  case s2=>
   rintro x c e_ s' ⟨rfl,rfl,pend,p,hp,H,R,hx⟩;refine Z2 (Yb ?_);by_cases e:(pendingOf e_).size<=1
   ·rw[Z0 e];refine Z4 ⟨rfl,rfl,p,hp,?_,H.a,H.f⟩;rw[H.p] at e;have el:pend.toList.length<=1:=by rw[Zv];exact e
    match hl:pend.toList,el with
    | [],_=>
     rw[hl] at R;have:0=n:=R;lia
    | [(x,l,z)],_=>
     rw[hl] at R;obtain⟨rfl,_,a3,a4⟩:=R;have:0+l=n:=a4;exact fun i j Dc hj=>a3 i j (Ys _) Dc (by lia)
    | _::_::_,h=>exact absurd h (by simp)
   ·rw[ZX e];rw[H.p] at e;have NT:∀ idx,idx+1<pend.size->kasC (model prog w) A E (mergeAt' idx) (fun b o_ s2=>b=true/\s=s2/\∃ pend p,Rg n p/\Hd κ it pend o_ p/\aM key p 0 pend.toList n/\pend.size+(x+1)<=n) e_ s:=fun idx Lm=>
     kO hc hp H Lm R (ZR _) fun Cw p' IN a b c d fr=>⟨rfl,rfl,Cw,p',a,b,d,by lia⟩;refine Z2 (b7 (NT _ ?_) ?_)
    ·rw[H.p];have:∀ (c:Prop) [Decidable c],(if c then pend.size - 2 - 1 else pend.size - 2)+1<pend.size:=fun c _=>by split<;>lia
     exact this _
    ·rintro b o_ s2 ⟨rfl,rfl,hh⟩;rw[ZX (by decide)];exact Z4 ⟨rfl,rfl,hh⟩
 case step=>
  rintro x c e_ s' ⟨rfl,lo,pend,p,rfl,x1,x2,hp,H,R⟩;dsimp only;by_cases c1:lo >= n
  ·rw[Z0 c1];have:lo=n:=by lia
   subst this;exact Z4 ⟨rfl,rfl,pend,p,hp,H,R⟩
  rw[ZX c1];refine Z2 (vW hc inj hp (by lia) (by lia) H ?_);intro m p1 s_ m1 m2 IO H1 NU A1;have A1:=nY A1;have R1:aM key p1 0 pend.toList lo:=R.congr fun i _ b=>fP (NU i b);dsimp only;by_cases c2:m<minRun' n n 0
  ·rw[Z0 c2];refine Z2 (W4<|YE ?_);have mm:m<=min (n - lo) (minRun' n n 0):=by lia
   have mn:min (n - lo) (minRun' n n 0)<=n - lo:=by lia
   generalize min (n - lo) (minRun' n n 0)=DD at mm mn ⊢;refine Z2 (vX hc IO (by lia) m1 mm A1 H1 ?_);intro p2 o_ ET H2 NV A2;have R2:aM key p2 0 pend.toList lo:=R1.congr fun i _ b=>fP (NV i b);rw[ZX (by decide)];refine Z2 (Yb ?_);rcases NW:(pendingOf o_).back? with _ | ⟨s1,n1,z1⟩
   ·dsimp only;refine Z2 (YV ?_);refine Z4 ⟨rfl,lo+DD,pend.push (lo,DD,0),p2,rfl,by lia,by lia,ET,⟨H2.k,H2.a,by show (pendingOf o_).push _=_;rw[H2.p],H2.f⟩,?_⟩;rw[XC];exact aM.app.mpr ⟨lo,R2,rfl,by lia,A2,rfl⟩
   ·dsimp only;refine Z2 (b7 (Q':=fun c e_ s'=>s=s'/\c=(none,())/\∃ pend p,Rg n p/\Hd κ it pend e_ p/\aM key p 0 pend.toList lo/\ci key p lo (DD))
     (Zh<|bI (fun x c e_ s'=>s=s'/\c=(none,())/\∃ pend p,Rg n p/\Hd κ it pend e_ p/\aM key p 0 pend.toList lo/\ci key p lo (DD)) ?_ _ 0 _ _ _ (fun _ _ _ z=>z) ⟨rfl,rfl,pend,p2,ET,H2,R2,A2⟩) ?_)
    ·rintro y c e_ s' ⟨rfl,rfl,pend,p,hp,H,R,A⟩;refine Z2 (Yb ?_);by_cases e:(pendingOf e_).size > 1
     ·rw[Z0 e];rcases hg:(pendingOf e_)[(pendingOf e_).size - 2]? with _ | ⟨a,b,IP⟩
      ·dsimp only;exact Z4 ⟨rfl,rfl,pend,p,hp,H,R,A⟩
      ·dsimp only;split
       ·exact Z4 ⟨rfl,rfl,pend,p,hp,H,R,A⟩
       ·refine Z2 (kO hc hp H (by rw[H.p] at e ⊢;lia) R (by lia) ?_);intro Cw p' IN a b c d fr;rw[ZX (by decide)];exact Z4 ⟨rfl,rfl,Cw,p',a,b,d,A.congr fr⟩
     ·rw[ZX e];dsimp only;exact Z4 ⟨rfl,rfl,pend,p,hp,H,R,A⟩
    ·rintro c e_ s' ⟨rfl,rfl,pend,p,hp,H,R,A⟩;dsimp only;refine Z2 (YV ?_);refine Z2 (YV ?_);refine Z4 ⟨rfl,lo+DD,(pend.modify (pend.size - 1) _).push (lo,DD,0),p,rfl,by lia,by lia,hp,⟨H.k,H.a,by show ((pendingOf e_).modify ((pendingOf e_).size - 1) _).push _=_;rw[H.p],H.f⟩,?_⟩;rw[XC];exact aM.app.mpr ⟨lo,R.same<|nZ _ _ _,rfl,by lia,A,rfl⟩
  ·rw[ZX c2];have ET:=IO;have H2:=H1;have R2:=R1;have A2:=A1;revert ET H2 R2 A2;generalize p1=p2;generalize s_=o_;intro ET H2 R2 A2;refine Z2 (Yb ?_);rcases NW:(pendingOf o_).back? with _ | ⟨s1,n1,z1⟩
   ·dsimp only;refine Z2 (YV ?_);refine Z4 ⟨rfl,lo+m,pend.push (lo,m,0),p2,rfl,by lia,by lia,ET,⟨H2.k,H2.a,by show (pendingOf o_).push _=_;rw[H2.p],H2.f⟩,?_⟩;rw[XC];exact aM.app.mpr ⟨lo,R2,rfl,by lia,A2,rfl⟩
   ·dsimp only;refine Z2 (b7 (Q':=fun c e_ s'=>s=s'/\c=(none,())/\∃ pend p,Rg n p/\Hd κ it pend e_ p/\aM key p 0 pend.toList lo/\ci key p lo (m))
     (Zh<|bI (fun x c e_ s'=>s=s'/\c=(none,())/\∃ pend p,Rg n p/\Hd κ it pend e_ p/\aM key p 0 pend.toList lo/\ci key p lo (m)) ?_ _ 0 _ _ _ (fun _ _ _ z=>z) ⟨rfl,rfl,pend,p2,ET,H2,R2,A2⟩) ?_)
    ·rintro y c e_ s' ⟨rfl,rfl,pend,p,hp,H,R,A⟩;refine Z2 (Yb ?_);by_cases e:(pendingOf e_).size > 1
     ·rw[Z0 e];rcases hg:(pendingOf e_)[(pendingOf e_).size - 2]? with _ | ⟨a,b,IP⟩
      ·dsimp only;exact Z4 ⟨rfl,rfl,pend,p,hp,H,R,A⟩
      ·dsimp only;split
       ·exact Z4 ⟨rfl,rfl,pend,p,hp,H,R,A⟩
       ·refine Z2 (kO hc hp H (by rw[H.p] at e ⊢;lia) R (by lia) ?_);intro Cw p' IN a b c d fr;rw[ZX (by decide)];exact Z4 ⟨rfl,rfl,Cw,p',a,b,d,A.congr fr⟩
     ·rw[ZX e];dsimp only;exact Z4 ⟨rfl,rfl,pend,p,hp,H,R,A⟩
    ·rintro c e_ s' ⟨rfl,rfl,pend,p,hp,H,R,A⟩;dsimp only;refine Z2 (YV ?_);refine Z2 (YV ?_);refine Z4 ⟨rfl,lo+m,(pend.modify (pend.size - 1) _).push (lo,m,0),p,rfl,by lia,by lia,hp,⟨H.k,H.a,by show ((pendingOf e_).modify ((pendingOf e_).size - 1) _).push _=_;rw[H.p],H.f⟩,?_⟩;rw[XC];exact aM.app.mpr ⟨lo,R.same<|nZ _ _ _,rfl,by lia,A,rfl⟩
theorem v3(hc:bZ n key (kas_cmp prog w A κ it) s)(inj:∀ i j,i<n->j<n->key i=key j->i=j)(h2:2<=n)(up:n<1001\/∀ j,1<=j->j<n->key (j - 1)<=key j)(hG:∀ p' e_,Rg n p'->Up key p' n->arrOf e_=p'.map (kas_item it)->failedOf e_=none->Q () e_ s):kasC (model prog w) A E sortRuns' Q (kas_st κ it (range n).toArray) s:=vZ hc inj h2 hG
end
end L2
namespace L2
open PySem PySem.Spec PyProof.Rows
section
variable{X:Cx}{pins:List (Addr×Obj)}{σ:St}{H:Hp}{s:Shared}{h':Heap}
variable{ch:List Addr}{t':Nat}
theorem Inv.IQ{T:Addr}{xs:List V}(I:Inv X pins σ H s)(CV:∀ b∈ch,dg X pins H b)(k:∀ b o,b∉ch->s.heap.get? b=some o->h'.get? b=some o)(hT:s.heap.objs.size<=T)(new:bj X.prog X.w (upd H T<|.tup xs) h' T (.tup xs)):Inv X pins σ (upd H T<|.tup xs) { s with heap:=h',toks:=t' }:=by
 have fT:H T=none:=I.l_.fresh hT;have nT:∀ b o,s.heap.get? b=some o->b≠T:=fun b o e=>Zx (Zz (ZP e) hT);have nc:∀ b u,H b=some u->b∉ch:=fun b u e z=>by rw[(CV b z).1] at e;cases e
 refine I.step (g':=s.gens) (d':=s.drawn) (ch:=ch) (fun b hb=>⟨(CV b hb).2.2.2.1,(CV b hb).2.1,(CV b hb).2.2.2.2.1,(CV b hb).2.2.2.2.2⟩) (fun b o _ _ hc e _=>k b o hc e) (fun b o _ _ hc e _=>⟨o.slots,k b o hc e⟩)
  (fun b o _ e n=>by rw[aE (nT b o e)];exact n) (fun b o hc e=>⟨o,k b o hc e⟩) (fun b ys e=>by rw[aE (bU e fT)];exact e) (fun b o u e=>by rw[aE (bU e fT)];exact e)
  (fun b ps e=>⟨#[],by rw[aE (bU e fT),e];simp⟩) (fun m hm=>?_) (fun a o e=>?_) I.bare
 ·obtain⟨o,es,ep,ho,r⟩:=hm;exact⟨o,es,ep,k _ o (fun z=>(CV _ z).2.1 rfl) ho,r⟩
 ·by_cases ha:a=T
  ·subst ha;rw[bo] at e;cases e;exact new
  ·rw[aE ha] at e;refine (I.l_ a o e).Cs (fun b u hb q=>k b u ?_ q) (fun b q=>by rw[aE (bU q fT)];exact q) fun b ys q=>by rw[aE (bU q fT)];exact q
   rcases hb with z | z
   ·rw[z];exact nc a o e
   ·exact nc b _ z
theorem Inv.IR(I:Inv X pins σ H s)(CV:∀ b∈ch,dg X pins H b)(k:∀ b o,b∉ch->s.heap.get? b=some o->h'.get? b=some o):Inv X pins σ H { s with heap:=h',toks:=t' }:=by
 have nc:∀ b u,H b=some u->b∉ch:=fun b u e z=>by rw[(CV b z).1] at e;cases e
 refine I.step (g':=s.gens) (d':=s.drawn) (ch:=ch) (fun b hb=>⟨(CV b hb).2.2.2.1,(CV b hb).2.1,(CV b hb).2.2.2.2.1,(CV b hb).2.2.2.2.2⟩) (fun b o _ _ hc e _=>k b o hc e) (fun b o _ _ hc e _=>⟨o.slots,k b o hc e⟩)
  (fun b o _ _ n=>n) (fun b o hc e=>⟨o,k b o hc e⟩) (fun b ys e=>e) (fun b o u e=>e) (fun b ps e=>⟨#[],by rw[e];simp⟩) (fun m hm=>?_) (fun a o e=>?_) I.bare
 ·obtain⟨o,es,ep,ho,r⟩:=hm;exact⟨o,es,ep,k _ o (fun z=>(CV _ z).2.1 rfl) ho,r⟩
 ·refine (I.l_ a o e).Cs (fun b u hb q=>k b u ?_ q) (fun b q=>q) fun b ys q=>q;rcases hb with z | z
  ·rw[z];exact nc a o e
  ·exact nc b _ z
end
section
variable{prog:Program}{w:World}{A:Around}{E:Value->Shared->Prop}{s:Shared}
variable{it t:Addr}{i:Nat}{items:Array Value}{Q:Value->Shared->Prop}
theorem kP{x:Value}(hit:s.heap.IsTupleIter it t i)(ht:s.heap.IsTuple t items)(hx:items[i]?=some x)(q:∀ h',h'.IsTupleIter it t (i+1)->Heap.SameBut it s.heap h'->Q x { s with heap:=h' }):wpAny (model prog w) A (Builtin.SmallTypes.nextOf<|.ref it) Q E s:=by
 obtain⟨o,f1,f2,f3⟩:=id hit;obtain⟨ol,g1,_,nl,g2⟩:=ht;unfold Builtin.SmallTypes.nextOf;refine Z8 (YX (name:=Str.ofString "__next__") hit.typeIs Yz<|Y2 Yz hit.typeIs F.entry_tuple_iterator_next ?z<|Xc _)
 case z=>
  show wpAny _ _ (field (.ref it) 0 >>= _) _ _ s;refine Z8 (YI f1 f3 (x:=.ref t) rfl ?_);show wpAny _ _ (if (Value.ref t == Value.none)=true then _ else _) _ _ s;rw[ZX (show ¬ (Value.ref t == Value.none)=true by intro z;cases z)];show wpAny _ _ (field (.ref it) 1 >>= _) _ _ s;refine Z8 (YI f1 f3 (x:=.int i 0) rfl ?_);show wpAny _ _ (seqItems? (.ref t) >>= _) _ _ s;refine Z8 (YU g1 g2 ?_);simp only[XJ,hx];refine Z8 (W2 f1 f3 (by simp) (ZS ⟨x,rfl,ZS (q _ ⟨_,Xy _ f1<|Obj.isFreed_of_fields<|XV f3 _,(Obj.cls_mapFields ..).trans f2,by rw[XV f3];simp[rawInt]⟩<|X4 ..)⟩))
theorem n4(hh:A.handled=none)(hit:s.heap.IsTupleIter it t i)(ht:s.heap.IsTuple t items)(hx:items[i]?=none)(q:∀ h' e,Heap.ExtBut it s.heap h'->(∃ o,h'.get? e=some o/\o.cls=.type "StopIteration")->E (.ref e) { s with heap:=h' }):wpAny (model prog w) A (Builtin.SmallTypes.nextOf<|.ref it) Q E s:=by
 obtain⟨o,f1,f2,f3⟩:=id hit;obtain⟨ol,g1,_,nl,g2⟩:=ht;unfold Builtin.SmallTypes.nextOf;refine Z8 (YX (name:=Str.ofString "__next__") hit.typeIs Yz<|Y2 Yz hit.typeIs F.entry_tuple_iterator_next ?z<|Xc _)
 case z=>
  show wpAny _ _ (field (.ref it) 0 >>= _) _ _ s;refine Z8 (YI f1 f3 (x:=.ref t) rfl ?_);show wpAny _ _ (if (Value.ref t == Value.none)=true then _ else _) _ _ s;rw[ZX (show ¬ (Value.ref t == Value.none)=true by intro z;cases z)];show wpAny _ _ (field (.ref it) 1 >>= _) _ _ s;refine Z8 (YI f1 f3 (x:=.int i 0) rfl ?_);show wpAny _ _ (seqItems? (.ref t) >>= _) _ _ s;refine Z8 (YU g1 g2 ?_);simp only[XJ,hx];refine Z8 (YE (Z8 (W2 f1 f3 (by simp) ?_)));show wpAny _ _ (newExc (.type "StopIteration") [] >>= _) _ _ _;apply Z8;simp only[newExc,newTuple];refine Z8 (YG (Z8 (m:=firstArgMember _ _) (wpAny_of_eq (a:=Value.none) (by first | rfl | (simp only[firstArgMember];rfl)) (YG ?_ (by size_fits)))) (by size_fits));simp only[raiseNew];apply Z8;apply wpAny_handled;rw[show A.in1.handled=none from hh];refine Z8 (m:=pure _) (ZS<|wpAny_throw ?_);exact q _ _ (((X4 ..).extBut.push _).push _) ⟨_,ZF _ rfl,rfl⟩
end
section
variable{prog:Program}{w:World}{A:Around}{E:Value->Shared->Prop}{s:Shared}
variable{h h':Heap}{a:Addr}
theorem cK{t:Addr}{i:Nat}(x:h.IsTupleIter a t i)(k:∀ o,h.get? a=some o->h'.get? a=some o):h'.IsTupleIter a t i:=let ⟨o,e,r⟩:=x;⟨o,k o e,r⟩
variable{xs:Array Value}
theorem fS(x:h.IsTuple a xs)(k:∀ o,h.get? a=some o->h'.get? a=some o):h'.IsTuple a xs:=let ⟨o,e,r⟩:=x;⟨o,k o e,r⟩
variable{a b:Value}{k1 k2:Nat}{ys:Array Value}
theorem v4{z TI TO i1 i2 l1 l2:Addr}{x y:Value}{Q:Value->Shared->Prop}(D:ZipApart z TI TO i1 i2 l1 l2)(hz:IsZip s.heap z TI TO .none)(Ln:IsPair s.heap TI (.ref i1) (.ref i2))(Lo:IsPair s.heap TO a b)(h1:s.heap.IsTupleIter i1 l1 k1)(h2:s.heap.IsTupleIter i2 l2 k2)(J6:s.heap.IsTuple l1 xs)(FL:s.heap.IsTuple l2 ys)(hx:xs[k1]?=some x)(hy:ys[k2]?=some y)(hQ:∀ h',IsZip h' z TI TO (rawInt s.heap.objs.size)->IsPair h' TO x y->h'.IsTupleIter i1 l1 (k1+1)->h'.IsTupleIter i2 l2 (k2+1)->IsPair h' s.heap.objs.size x y->
   (∀ c o,c≠z->c≠TO->c≠i1->c≠i2->s.heap.get? c=some o->h'.get? c=some o)->Q (.ref s.heap.objs.size) { s with heap:=h' }):
  wpAny (model prog w) A (Builtin.«zip.__next__» ⟨[.ref z],[]⟩) (fun fin s'=>∃ v,fin=.done (.ret v)/\Q v s') E s:=by
 show wpAny _ _ (field (.ref z) 2 >>= _) _ _ _;refine Z8 (YI hz rfl (x:=.bool false) rfl ?_);show wpAny _ _ (field (.ref z) 3 >>= _) _ _ _;refine Z8 (YI hz rfl (x:=.ref TI) rfl<|Z8<|YU Ln rfl ?_);show wpAny _ _ (Builtin.SmallTypes.ownedTupleIsFree (.ref z) >>= _) _ _ _;apply Z8;unfold Builtin.SmallTypes.ownedTupleIsFree;refine Z8 (YI hz rfl (x:=.none) rfl<|ZS ?_);simp only[Wz];refine Z8 (YE (Z8 (YI hz rfl (x:=.ref TO) rfl (Z8 (Yy hz (by simp) fun j1 z1 s1=>?_)))));replace z1:IsZip j1 z TI TO .ellipsis:=z1;apply Z8;simp only[WF,List.zipIdx_nil,Xe,List.forIn_nil];refine Z8 (Z8<|WN ?_);show wpAny _ _ (Builtin.SmallTypes.nextOf (.ref i1) >>= _) _ _ _;refine Z8 (kP (s:={ s with heap:=j1 }) (cK h1 fun o e=>s1.extBut _ o D.i1z e) (fS J6 fun o e=>s1.extBut _ o D.l1z e) hx fun j2 a2 s2=>ZS ?_);have o2:IsPair j2 TO a b:=s2.extBut _ _ D.TOi1 (s1.extBut _ _ D.TOz Lo);refine Z8 (YU (s:={ s with heap:=j2 }) o2 rfl<|Z8<|Xh (s:={ s with heap:=j2 }) o2 fun j3 o3 s3=>?_);replace o3:IsPair j3 TO x b:=o3;refine Z8 (wpAny_letGo<|ZS<|Z8<|Z8<|WN ?_);show wpAny _ _ (Builtin.SmallTypes.nextOf (.ref i2) >>= _) _ _ _;refine Z8 (kP (s:={ s with heap:=j3 }) (cK h2 fun o e=>s3.extBut _ o D.TOi2.symm<|s2.extBut _ o D.i12.symm<|s1.extBut _ o D.i2z e) (fS FL fun o e=>s3.extBut _ o D.l2TO<|s2.extBut _ o D.l2i1<|s1.extBut _ o D.l2z e) hy fun j4 a4 s4=>ZS ?_);have o4:IsPair j4 TO x b:=s4.extBut _ _ D.TOi2 o3;refine Z8 (YU (s:={ s with heap:=j4 }) o4 rfl<|Z8<|Xh (s:={ s with heap:=j4 }) o4 fun j5 o5 s5=>?_);replace o5:IsPair j5 TO x y:=o5;refine Z8 (wpAny_letGo<|ZS<|ZS<|Z8<|YU (s:={ s with heap:=j5 }) o5 rfl<|Z8<|wpAny_newTuple ?_);have hsz:j5.objs.size=s.heap.objs.size:=by rw[s5.1,s4.1,s3.1,s2.1,s1.1]
 have z5:IsZip j5 z TI TO .ellipsis:=s5.extBut _ _ D.TOz.symm (s4.extBut _ _ D.i2z.symm<|s3.extBut _ _ D.TOz.symm<|s2.extBut _ _ D.i1z.symm z1);have k5:∀ c o,c≠z->c≠TO->c≠i1->c≠i2->s.heap.get? c=some o->j5.get? c=some o:=fun c o c1 c2 c3 c4 e=>s5.extBut _ _ c2 (s4.extBut _ _ c4<|s3.extBut _ _ c2<|s2.extBut _ _ c3<|s1.extBut _ _ c1 e);have b1:j5.IsTupleIter i1 l1 (k1+1):=cK a2 fun o e=>s5.extBut _ o D.TOi1.symm (s4.extBut _ o D.i12<|s3.extBut _ o D.TOi1.symm e);have b2:j5.IsTupleIter i2 l2 (k2+1):=cK a4 fun o e=>s5.extBut _ o D.TOi2.symm e;have MM:z<j5.objs.size:=ZP z5;show wpAny _ _ (Builtin.SmallTypes.ownedTupleHandOut (.ref z) (.ref j5.objs.size) >>= _) _ _ _;apply Z8;unfold Builtin.SmallTypes.ownedTupleHandOut;have z6:IsZip (j5.push { cls:=.type "tuple",data:=.seq #[x,y] }) z TI TO .ellipsis:=Z3 _ z5;refine Z8 (Yy z6 (by simp) fun j7 z7 s7=>?_);replace z7:IsZip j7 z TI TO (rawInt j5.objs.size):=z7;refine Yy z7 (by simp) fun j8 z8 s8=>?_;replace z8:IsZip j8 z TI TO (rawInt j5.objs.size):=z8;have up:∀ c o,c≠z->j5.get? c=some o->j8.get? c=some o:=fun c o c1 e=>s8.extBut _ _ c1 (s7.extBut _ _ c1<|Z3 _ e);have t8:IsPair j8 j5.objs.size x y:=s8.extBut _ _ (W7 MM) (s7.extBut _ _ (W7 MM)<|ZF _ rfl);rw[hsz] at z8 t8;refine ZS ⟨_,rfl,?_⟩;show Q (.ref j5.objs.size) _;rw[hsz];exact hQ j8 z8 (up _ _ D.TOz o5) (cK b1 fun o e=>up _ o D.i1z e) (cK b2 fun o e=>up _ o D.i2z e) t8 fun c o c1 c2 c3 c4 e=>up c o c1 (k5 c o c1 c2 c3 c4 e)
theorem v6{z TI TO i1 i2 l1 l2:Addr}{Q:PySem.Fin->Shared->Prop}(hh:A.handled=none)(D:ZipApart z TI TO i1 i2 l1 l2)(hz:IsZip s.heap z TI TO .none)(Ln:IsPair s.heap TI (.ref i1) (.ref i2))(Lo:IsPair s.heap TO a b)(h1:s.heap.IsTupleIter i1 l1 k1)(h2:s.heap.IsTupleIter i2 l2 k2)(J6:s.heap.IsTuple l1 xs)(FL:s.heap.IsTuple l2 ys)(Fm:xs[k1]?=none\/ys[k2]?=none)(hE:∀ h' e,(∀ c o,c≠z->c≠TO->c≠i1->c≠i2->s.heap.get? c=some o->h'.get? c=some o)->(∃ o,h'.get? e=some o/\o.cls=.type "StopIteration")->E (.ref e) { s with heap:=h' }):
  wpAny (model prog w) A (Builtin.«zip.__next__» ⟨[.ref z],[]⟩) Q E s:=by
 show wpAny _ _ (field (.ref z) 2 >>= _) _ _ _;refine Z8 (YI hz rfl (x:=.bool false) rfl ?_);show wpAny _ _ (field (.ref z) 3 >>= _) _ _ _;refine Z8 (YI hz rfl (x:=.ref TI) rfl<|Z8<|YU Ln rfl ?_);show wpAny _ _ (Builtin.SmallTypes.ownedTupleIsFree (.ref z) >>= _) _ _ _;apply Z8;unfold Builtin.SmallTypes.ownedTupleIsFree;refine Z8 (YI hz rfl (x:=.none) rfl<|ZS ?_);simp only[Wz];refine Z8 (YE (Z8 (YI hz rfl (x:=.ref TO) rfl (Z8 (Yy hz (by simp) fun j1 z1 s1=>?_)))));replace z1:IsZip j1 z TI TO .ellipsis:=z1;apply Z8;simp only[WF,List.zipIdx_nil,Xe,List.forIn_nil];refine Z8 (Z8<|WN ?_);show wpAny _ _ (Builtin.SmallTypes.nextOf (.ref i1) >>= _) _ _ _;cases hx:xs[k1]? with
 | none=>
  refine Z8 (n4 (s:={ s with heap:=j1 }) hh (cK h1 fun o e=>s1.extBut _ o D.i1z e) (fS J6 fun o e=>s1.extBut _ o D.l1z e) hx fun j2 e s2 ⟨oe,e1,e2⟩=>?_);have z2:IsZip j2 z TI TO .ellipsis:=s2 _ _ D.i1z.symm z1;have ez:e≠z:=fun q=>by subst q;rw[z2] at e1;cases e1;simp at e2
  refine Yy z2 (by simp) fun j3 _ s3=>hE j3 e (fun c o c1 _ c3 _ q=>s3.extBut _ _ c1<|s2 _ _ c3<|s1.extBut _ _ c1 q) ⟨oe,s3.extBut _ _ ez e1,e2⟩
 | some x=>
  have hy:ys[k2]?=none:=by
   rcases Fm with h | h
   ·rw[hx] at h;cases h
   ·exact h
  refine Z8 (kP (s:={ s with heap:=j1 }) (cK h1 fun o e=>s1.extBut _ o D.i1z e) (fS J6 fun o e=>s1.extBut _ o D.l1z e) hx fun j2 a2 s2=>ZS ?_);have o2:IsPair j2 TO a b:=s2.extBut _ _ D.TOi1 (s1.extBut _ _ D.TOz Lo);refine Z8 (YU (s:={ s with heap:=j2 }) o2 rfl<|Z8<|Xh (s:={ s with heap:=j2 }) o2 fun j3 o3 s3=>?_);refine Z8 (wpAny_letGo<|ZS<|Z8<|Z8<|WN ?_);show wpAny _ _ (Builtin.SmallTypes.nextOf (.ref i2) >>= _) _ _ _;refine Z8 (n4 (s:={ s with heap:=j3 }) hh (cK h2 fun o e=>s3.extBut _ o D.TOi2.symm<|s2.extBut _ o D.i12.symm<|s1.extBut _ o D.i2z e) (fS FL fun o e=>s3.extBut _ o D.l2TO<|s2.extBut _ o D.l2i1<|s1.extBut _ o D.l2z e) hy fun j4 e s4 ⟨oe,e1,e2⟩=>?_);have z4:IsZip j4 z TI TO .ellipsis:=s4 _ _ D.i2z.symm (s3.extBut _ _ D.TOz.symm<|s2.extBut _ _ D.i1z.symm z1);have ez:e≠z:=fun q=>by subst q;rw[z4] at e1;cases e1;simp at e2
  refine Yy z4 (by simp) fun j5 _ s5=>hE j5 e (fun c o c1 c2 c3 c4 q=>s5.extBut _ _ c1<|s4 _ _ c4<|s3.extBut _ _ c2<|s2.extBut _ _ c3<|s1.extBut _ _ c1 q) ⟨oe,s5.extBut _ _ ez e1,e2⟩
end
variable{s:Shared}{r':R2}{caps fx fix:List Nat}{own ps:List Str}{iter tg c e b a:Expr}{body:List Stmt}{E:Ends}{st:Stmt}{j n ek:Nat}{σ1 σ:St}{fd:FuncData}{vs xs:List V}{ds:List Im}{C B A R F2 F1 G F:List Addr}{Q:VK}{x:Str}{r es:List Expr}{t':TT}{X:Cx}{H2 H1 H' H:Hp}{v:V}{p:Addr}{pos:Pos}{K:PySem.W.Frag}
def Fu(h:Heap)(l1 l2:Addr):Heap:=((((h.push { cls:=.type "tuple_iterator",data:=.fields #[.ref l1,.int 0 0] }).push { cls:=.type "tuple_iterator",data:=.fields #[.ref l2,.int 0 0] }).push
 { cls:=.type "tuple",data:=.seq #[.ref h.objs.size,.ref (h.push { cls:=.type "tuple_iterator",data:=.fields #[.ref l1,.int 0 0] }).objs.size] }).push { cls:=.type "tuple",data:=.seq #[.none,.none] })
theorem v7(l1 l2 : Addr)(xs ys : Array Value):
    Meets (Builtin.«zip.__new__» ⟨[.type "zip", .ref l1, .ref l2], []⟩) (fun _ R s => s.heap.IsTuple l1 xs /\ s.heap.IsTuple l2 ys /\
      R (.ok<|.ret<|.ref (Fu s.heap l1 l2).objs.size) { s with heap := (Fu s.heap l1 l2).push { cls := .type "zip", data := .fields #[.none, .bool false, .bool false, .ref ((s.heap.push { cls := .type "tuple_iterator", data := .fields #[.ref l1, .int 0 0] }).push { cls := .type "tuple_iterator", data := .fields #[.ref l2, .int 0 0] }).objs.size,
        .ref (((s.heap.push { cls := .type "tuple_iterator", data := .fields #[.ref l1, .int 0 0] }).push { cls := .type "tuple_iterator", data := .fields #[.ref l2, .int 0 0] }).push
  { cls := .type "tuple", data := .seq #[.ref s.heap.objs.size, .ref (s.heap.push { cls := .type "tuple_iterator", data := .fields #[.ref l1, .int 0 0] }).objs.size] }).objs.size] } }) :=
  .of_wp fun prog w A R s h => by
    obtain ⟨hp, g, d, tk, os⟩ := s;obtain ⟨q1, q2, h⟩ := h;have IS := sub_zip;have m1 : Heap.IsTuple (Shared.heap ⟨hp, g, d, tk, os⟩) l1 xs := q1;have m2 : Heap.IsTuple (Shared.heap ⟨hp.push { cls := .type "tuple_iterator", data := .fields #[.ref l1, .int 0 0] }, g, d, tk, os⟩) l2 ys := fS q2 fun o e => Z3 _ e
    wp_walk using wpAny_pyIter_tuple m1, wpAny_pyIter_tuple m2
    exact ⟨_, rfl, h⟩
def J7(K:PySem.W.Frag)(a b:Addr):It:=
 ⟨fun i H=>∃ xs ys x y,BG K H a xs/\BG K H b ys/\xs[i]?=some x/\ys[i]?=some y,
  fun i H v H'=>∃ T x y,H T=none/\v=.ref T/\H'=upd H T (.tup [x,y])/\(∀ xs,BG K H a xs->xs[i]?=some x)/\(∀ ys,BG K H b ys->ys[i]?=some y),
  fun i H=>∃ xs ys,BG K H a xs/\BG K H b ys/\(xs.length<=i\/ys.length<=i)⟩
def n5(a b z TI TO i1 i2:Addr)(i:Nat)(h:Heap):Prop:=IsZip h z TI TO .none/\IsPair h TI (.ref i1) (.ref i2)/\(∃ p q,IsPair h TO p q)/\h.IsTupleIter i1 a i/\h.IsTupleIter i2 b i
theorem v9{P:Program}{w:World}(a b z TI TO i1 i2:Addr)(D:ZipApart z TI TO i1 i2 a b):
  Turn P w K (.Tuple es ek pos) (J7 K a b) [z,TI,TO,i1,i2] z (n5 a b z TI TO i1 i2) where
 mem:=by simp
 obj:=fun i h st c hc=>by
  obtain⟨h1,h2,⟨p,q,h3⟩,⟨o4,e4,_,d4⟩,⟨o5,e5,_,d5⟩⟩:=st;simp only[ZO,X6,Ws] at hc;rcases hc with rfl | rfl | rfl | rfl | rfl
  ·exact⟨_,h1,fun v e=>by cases e⟩
  ·exact⟨_,h2,fun v e=>by cases e⟩
  ·exact⟨_,h3,fun v e=>by cases e⟩
  ·exact⟨_,e4,fun v e=>by rw[d4] at e;cases e⟩
  ·exact⟨_,e5,fun v e=>by rw[d5] at e;cases e⟩
 keep:=fun i h h' st k=>by
  obtain⟨h1,h2,⟨p,q,h3⟩,h4,h5⟩:=st;exact⟨k z (by simp) _ h1,k TI (by simp) _ h2,⟨p,q,k TO (by simp) _ h3⟩,cK h4 fun o e=>k i1 (by simp) o e,cK h5 fun o e=>k i2 (by simp) o e⟩
 item:=by
  intro X hP hw hK hc i pins s σ H E I hf st hg;subst hP hw hK;obtain⟨xs,ys,x,y,q1,q2,x1,y1⟩:=hg;obtain⟨f',rv,p,hz⟩:=I.tuple q1;obtain⟨Cl,J8,p2,HZ⟩:=I.tuple q2;obtain⟨u,hu,ru⟩:=rv.get x1;obtain⟨u2,NX,NY⟩:=J8.get y1;have there:=st;obtain⟨h1,h2,⟨pa,pb,h3⟩,h4,h5⟩:=st;have hT:s.TypeIs (.ref z) "zip" := ⟨_,h1,rfl⟩;unfold pyNext;refine Z8 (Xl (YX (name:=Str.ofString "__next__") hT Xb (Y2 Xb hT F.entry_zip_next
   (v4 (Q:=fun v s'=>wpAny (model X.prog X.w) X.A (pure<|some v) (fun r s1=>∃ u,r=some u/\wpAny (model X.prog X.w) X.A (letOwnedTupleGo (.Tuple es ek pos) (.ref z) u) (fun _ s2=>∃ x H',Inv X pins σ H' s2/\av x u/\(J7 X.K a b).Ip i H x H'/\n5 a b z TI TO i1 i2 (i+1) s2.heap/\∀ b∈[z,TI,TO,i1,i2],H' b=none) E s1) E s')
    D h1 h2 h3 h4 h5 (show s.heap.IsTuple a f'.toArray from p) (show s.heap.IsTuple b Cl.toArray from p2) (x:=u) (y:=u2) (by simpa using hu) (by simpa using NX) fun h' g1 g2 g3 g4 g5 kk=>ZS ⟨_,rfl,?_⟩) (F.args_zip_next_1 _))));refine wpAny_letOwnedTupleGo_zip g1 fun Hy NZ sb=>?_;have lt:∀ c∈[z,TI,TO,i1,i2],c<s.heap.objs.size:=fun c hc=>by
   obtain⟨h1,h2,⟨p,q,h3⟩,⟨o4,e4,_⟩,⟨o5,e5,_⟩⟩:=there;simp only[ZO,X6,Ws] at hc;rcases hc with rfl | rfl | rfl | rfl | rfl
   ·exact ZP h1
   ·exact ZP h2
   ·exact ZP h3
   ·exact ZP e4
   ·exact ZP e5
  have kp:∀ c o,c∉[z,TI,TO,i1,i2]->s.heap.get? c=some o->Hy.get? c=some o:=fun c o hc e=>by
   simp only[ZO,X6,Ws,not_or] at hc;exact sb.extBut _ _ hc.1 (kk c o hc.1 hc.2.2.1 hc.2.2.2.1 hc.2.2.2.2 e)
  have zT:s.heap.objs.size≠z:=W7 (lt z (by simp));have fT:H s.heap.objs.size=none:=I.l_.fresh (ZR _);refine⟨.ref s.heap.objs.size,upd H s.heap.objs.size<|.tup [x,y],I.IQ (t':=s.toks) hf kp (ZR _) ⟨by show 2<=sizeLine;decide,[u,u2],.cons ru<|.cons NY .nil,?_⟩,rfl,⟨_,x,y,fT,rfl,rfl,fun zs hz=>?_,fun zs hz=>?_⟩,?_,fun c hc=>?_⟩
  ·exact⟨_,sb.extBut _ _ zT g5,rfl,0,rfl⟩
  ·rw[I.CA hz q1];exact x1
  ·rw[I.CA hz q2];exact y1
  ·exact⟨NZ,sb.extBut _ _ D.TIz<|kk _ _ D.TIz D.TITO D.TIi1 D.TIi2 h2,⟨_,_,sb.extBut _ _ D.TOz g2⟩,cK g3 fun o e=>sb.extBut _ o D.i1z e,cK g4 fun o e=>sb.extBut _ o D.i2z e⟩
  ·rw[aE (Zx<|lt c hc)];exact (hf c hc).1
 done:=by
  intro X hP hw hK hc i pins s σ H E I hf st hg;subst hP hw hK;obtain⟨xs,ys,q1,q2,Fm⟩:=hg;obtain⟨f',rv,p,hz⟩:=I.tuple q1;obtain⟨Cl,J8,p2,HZ⟩:=I.tuple q2;obtain⟨h1,h2,⟨pa,pb,h3⟩,h4,h5⟩:=st;have hT:s.TypeIs (.ref z) "zip" := ⟨_,h1,rfl⟩;have l1:=rv.length;have l2:=J8.length;unfold pyNext;refine Z8 (Xl (YX (name:=Str.ofString "__next__") hT Xb (Y2 Xb hT F.entry_zip_next
   (v6 (I.ok.hd hc) D h1 h2 h3 h4 h5 (show s.heap.IsTuple a f'.toArray from p) (show s.heap.IsTuple b Cl.toArray from p2) (by
    rcases Fm with h | h
    ·exact .inl (by simp;lia)
    ·exact .inr (by simp;lia)) fun h' e kk ⟨o,ho,N0⟩=>?_) (F.args_zip_next_1 _))))
  refine Z8 (WK (T := "StopIteration") (b:=true) ⟨o,ho,N0⟩ isSubtype_stop<|ZS ⟨rfl,I.IR (t':=s.toks) hf fun c o hc e=>?_⟩);simp only[ZO,X6,Ws,not_or] at hc;exact kk c o hc.1 hc.2.2.1 hc.2.2.2.1 hc.2.2.2.2 e
 self:=fun _ _ _ _ _ st h=>wpAny_pyIter_zip st.1 h
section
variable{X:Cx}
def we(K:PySem.W.Frag)(ta:TA):TI:=fun σ H R=>ta σ H fun vs H1=>∃ a b,vs=[.ref a,.ref b]/\(∃ xs,BG K H1 a xs)/\(∃ ys,BG K H1 b ys)/\R (J7 K a b) H1
theorem wf{ta:TA}{p:Pos}{ps:Pos}(hg:Gl X "zip")(hm:X.mg "zip" = none)(ha:PA X [a,b] ta)(hs:starEach [a,b] X.env=[(false,eval a X.env),(false,eval b X.env)]:=by rfl)(FP:starEach [b] X.env=[(false,eval b X.env)]:=by rfl):
  PI X (.Tuple es ek ps) (.Call (.Name "zip" p) [a,b] [] pos) (we X.K ta):=by
 intro pins s σ H R I h;refine Call_ (gI I hg hm boot_zip (X8 (A_ (ha pos pins s σ H _ I h) fun us s1 ⟨vs,H1,I1,r1,q1⟩=>?_) (by rw[hs,FP]) (by rw[FP];rfl)));obtain⟨l1,l2,e,⟨xs,hx⟩,⟨ys,hy⟩,q⟩:=q1;subst e;cases r1 with
 | cons r rr=>
  cases rr with
  | cons r' rr=>
   cases rr;cases r;cases r';obtain⟨f',rv,p,hz⟩:=I1.tuple hx;obtain⟨Cl,J8,p2,HZ⟩:=I1.tuple hy;have Ll:l1<s1.heap.objs.size:=by obtain⟨o,e,_⟩:=p;exact ZP e
   have N1:l2<s1.heap.objs.size:=by obtain⟨o,e,_⟩:=p2;exact ZP e
   refine callType_new F.called_zip (by decide) (F.typeCall_zip_2 _ _) (F.newCall_zip_2 _ _) (fun obj=>F.args_object_init_3 obj _ _) F.entry_zip_new (v7 l1 l2 f'.toArray Cl.toArray) ⟨p,p2,?_⟩;have z1:(s1.heap.push { cls:=.type "tuple_iterator",data:=.fields #[.ref l1,.int 0 0] }).objs.size=s1.heap.objs.size+1:=XL ..;have z2:((s1.heap.push { cls:=.type "tuple_iterator",data:=.fields #[.ref l1,.int 0 0] }).push { cls:=.type "tuple_iterator",data:=.fields #[.ref l2,.int 0 0] }).objs.size=s1.heap.objs.size+2:=by rw[XL,z1]
   have z3:(((s1.heap.push { cls:=.type "tuple_iterator",data:=.fields #[.ref l1,.int 0 0] }).push { cls:=.type "tuple_iterator",data:=.fields #[.ref l2,.int 0 0] }).push
    { cls:=.type "tuple",data:=.seq #[.ref s1.heap.objs.size,.ref (s1.heap.push { cls:=.type "tuple_iterator",data:=.fields #[.ref l1,.int 0 0] }).objs.size] }).objs.size=s1.heap.objs.size+3:=by rw[XL,z2]
   have z4:(Fu s1.heap l1 l2).objs.size=s1.heap.objs.size+4:=by unfold Fu;rw[XL,z3]
   show _/\_;refine⟨⟨_,ZF _ rfl,rfl⟩,wpAny_pyIter_zip (TI:=s1.heap.objs.size+2) (TO:=s1.heap.objs.size+3) (f0:=.none) ?_ ?_⟩
   ·rw[z2,z3];exact ZF _ rfl
   ·rw[z2,z3,z4];have g5:((Fu s1.heap l1 l2).push { cls:=.type "zip",data:=.fields #[.none,.bool false,.bool false,.ref<|s1.heap.objs.size+2,.ref<|s1.heap.objs.size+3] }).get? (s1.heap.objs.size+4)=some { cls:=.type "zip",data:=.fields #[.none,.bool false,.bool false,.ref<|s1.heap.objs.size+2,.ref<|s1.heap.objs.size+3] }:=by rw[<- z4];exact ZF _ rfl
    have g4:((Fu s1.heap l1 l2).push { cls:=.type "zip",data:=.fields #[.none,.bool false,.bool false,.ref<|s1.heap.objs.size+2,.ref<|s1.heap.objs.size+3] }).get? (s1.heap.objs.size+3)=some { cls:=.type "tuple",data:=.seq #[.none,.none] }:=by
     rw[<- z3];exact Z3 _ (ZF _ rfl)
    have g3:((Fu s1.heap l1 l2).push { cls:=.type "zip",data:=.fields #[.none,.bool false,.bool false,.ref<|s1.heap.objs.size+2,.ref<|s1.heap.objs.size+3] }).get? (s1.heap.objs.size+2)=some { cls:=.type "tuple",data:=.seq #[.ref s1.heap.objs.size,.ref<|s1.heap.objs.size+1] }:=by
     rw[<- z2,<- z1];exact Z3 _ (Z3 _<|ZF _ rfl)
    have g2:((Fu s1.heap l1 l2).push { cls:=.type "zip",data:=.fields #[.none,.bool false,.bool false,.ref<|s1.heap.objs.size+2,.ref<|s1.heap.objs.size+3] }).get? (s1.heap.objs.size+1)=some { cls:=.type "tuple_iterator",data:=.fields #[.ref l2,.int 0 0] }:=by
     rw[<- z1];exact Z3 _ (Z3 _<|Z3 _<|ZF _ rfl)
    have g1:((Fu s1.heap l1 l2).push { cls:=.type "zip",data:=.fields #[.none,.bool false,.bool false,.ref<|s1.heap.objs.size+2,.ref<|s1.heap.objs.size+3] }).get? s1.heap.objs.size=some { cls:=.type "tuple_iterator",data:=.fields #[.ref l1,.int 0 0] }:=
     Z3 _ (Z3 _<|Z3 _<|Z3 _<|ZF _ rfl);have kp:∀ c o,s1.heap.get? c=some o->((Fu s1.heap l1 l2).push { cls:=.type "zip",data:=.fields #[.none,.bool false,.bool false,.ref<|s1.heap.objs.size+2,.ref<|s1.heap.objs.size+3] }).get? c=some o:=fun c o e=>
     Z3 _ (Z3 _<|Z3 _<|Z3 _<|Z3 _ e);generalize ((Fu s1.heap l1 l2).push { cls:=.type "zip",data:=.fields #[.none,.bool false,.bool false,.ref<|s1.heap.objs.size+2,.ref<|s1.heap.objs.size+3] })=h5 at g1 g2 g3 g4 g5 kp ⊢;have D:ZipApart (s1.heap.objs.size+4) (s1.heap.objs.size+2) (s1.heap.objs.size+3) s1.heap.objs.size (s1.heap.objs.size+1) l1 l2:=PySem.W.ktu_apart _ _ _ Ll N1;refine⟨_,_,_,_,H1,rfl,I1.kept (t':=s1.toks) kp,v9 l1 l2 _ _ _ _ _ D,⟨g5,g3,⟨_,_,g4⟩,⟨_,g1,rfl,rfl⟩,⟨_,g2,rfl,rfl⟩⟩,fun c hc=>?_,q⟩;have:s1.heap.objs.size<=c:=by
     simp only[ZO,X6,Ws] at hc;rcases hc with rfl | rfl | rfl | rfl | rfl
     ·exact Xs _ _
     ·exact Xs _ _
     ·exact Xs _ _
     ·exact ZR _
     ·exact Xs _ _
    exact I1.FZ this (I1.l_.fresh this)
end
def n6(K:PySem.W.Frag)(H:Hp)(x:V)(T:String)(b:Bool):Prop:=
 (∃ i,x=.int i/\((T = "int" /\ b=true)\/(T = "tuple" /\ b=false)\/(T = "str" /\ b=false)\/(T = "bool" /\ b=false)\/(T = "list" /\ b=false)))\/
 (∃ i,x=.bl i/\((T = "bool" /\ b=true)\/(T = "int" /\ b=true)\/(T = "tuple" /\ b=false)\/(T = "str" /\ b=false)\/(T = "list" /\ b=false)))\/
 (∃ i,x=.str i/\((T = "str" /\ b=true)\/(T = "int" /\ b=false)\/(T = "tuple" /\ b=false)\/(T = "bool" /\ b=false)\/(T = "list" /\ b=false)))\/
 (∃ a xs,x=.ref a/\BG K H a xs/\((T = "tuple" /\ b=true)\/(T = "int" /\ b=false)\/(T = "str" /\ b=false)\/(T = "bool" /\ b=false)\/(T = "list" /\ b=false)))\/
 (∃ a xs,x=.ref a/\BY K H a xs/\((T = "list" /\ b=true)\/(T = "int" /\ b=false)\/(T = "str" /\ b=false)\/(T = "bool" /\ b=false)\/(T = "tuple" /\ b=false)))
section
variable{X:Cx}
theorem wg:aX X (.builtin "isinstance") (fun xs H Q=>∃ x T b,xs=[x,.ty T]/\n6 X.K H x T b/\Q (.bl b) H):=by
 intro pins s σ H xs us Q I r h;obtain⟨x,T,b,rfl,hi,q⟩:=h;cases r with
 | cons r rr=>
  cases rr with
  | cons r' rr=>
   cases rr;cases r';have f0:∀ {b:Bool},Q (.bl b) H->EP X pins σ Q (.bool b) s:=fun {b} q=>⟨.bl b,H,I,rfl,q⟩;have f1:∀ {b:Bool},Q (.bl b) H->EP X pins σ Q (.bool b) { s with toks:=s.toks+1 }:=fun {b} q=>⟨.bl b,H,I.tok _,rfl,q⟩;rcases hi with ⟨i,rfl,hi⟩ | ⟨i,rfl,hi⟩ | ⟨i,rfl,hi⟩ | ⟨a,xs,rfl,hs,hi⟩ | ⟨a,xs,rfl,hs,hi⟩
   ·obtain⟨t,rfl⟩:=r;rcases hi with ⟨rfl,rfl⟩ | ⟨rfl,rfl⟩ | ⟨rfl,rfl⟩ | ⟨rfl,rfl⟩ | ⟨rfl,rfl⟩
    ·exact IsiPair.int_int (f0 q)
    ·exact IsiPair.int_tuple (f1 q)
    ·exact IsiPair.int_str (f1 q)
    ·exact IsiPair.int_bool (f1 q)
    ·exact IsiPair.int_list (f1 q)
   ·cases r;rcases hi with ⟨rfl,rfl⟩ | ⟨rfl,rfl⟩ | ⟨rfl,rfl⟩ | ⟨rfl,rfl⟩ | ⟨rfl,rfl⟩
    ·exact IsiPair.bool_bool (f0 q)
    ·exact IsiPair.bool_int (f0 q)
    ·exact IsiPair.bool_tuple (f1 q)
    ·exact IsiPair.bool_str (f1 q)
    ·exact IsiPair.bool_list (f1 q)
   ·obtain⟨t,rfl⟩:=r;rcases hi with ⟨rfl,rfl⟩ | ⟨rfl,rfl⟩ | ⟨rfl,rfl⟩ | ⟨rfl,rfl⟩ | ⟨rfl,rfl⟩
    ·exact IsiPair.str_str (f0 q)
    ·exact IsiPair.str_int (f1 q)
    ·exact IsiPair.str_tuple (f1 q)
    ·exact IsiPair.str_bool (f1 q)
    ·exact IsiPair.str_list (f1 q)
   ·cases r;obtain⟨f',rv,⟨o,ho,hc,_⟩,hz⟩:=I.tuple hs;rcases hi with ⟨rfl,rfl⟩ | ⟨rfl,rfl⟩ | ⟨rfl,rfl⟩ | ⟨rfl,rfl⟩ | ⟨rfl,rfl⟩
    ·exact IsiPair.tuple_tuple ho hc (f0 q)
    ·exact IsiPair.tuple_int ho hc (f1 q)
    ·exact IsiPair.tuple_str ho hc (f1 q)
    ·exact IsiPair.tuple_bool ho hc (f1 q)
    ·exact IsiPair.tuple_list ho hc (f1 q)
   ·cases r;obtain⟨f',rv,p,hz⟩:=I.list hs;obtain⟨o,ho,hc,_⟩:=p.isList;rcases hi with ⟨rfl,rfl⟩ | ⟨rfl,rfl⟩ | ⟨rfl,rfl⟩ | ⟨rfl,rfl⟩ | ⟨rfl,rfl⟩
    ·exact IsiPair.list_list ho hc (f0 q)
    ·exact IsiPair.list_int ho hc (f1 q)
    ·exact IsiPair.list_str ho hc (f1 q)
    ·exact IsiPair.list_bool ho hc (f1 q)
    ·exact IsiPair.list_tuple ho hc (f1 q)
theorem n9:∀ {bs:List Bool}{us:List Value},ay (bs.map V.bl) us->∀ (i:Nat) (v:Value),us[i]?=some v->∃ b,bs[i]?=some b/\v=Value.bool b:=by
 intro bs us r i v h;have hl:=r.length;rw[ZY] at hl;have hi:i<bs.length:=by rw[hl];exact (ZA.mp h).1
 obtain⟨u,hu,ru⟩:=r.get (i:=i) (x:=V.bl bs[i]) (by simp[hi]);rw[h] at hu;cases hu;exact⟨bs[i],by simp[hi],ru⟩
theorem wj(hc:X.calm=true):aX X (.builtin "all") (fun xs H Q=>∃ l bs,xs=[.ref l]/\H l=some (.lst<|List.map V.bl bs)/\Q (.bl<|bs.all id) H):=by
 intro pins s σ H xs us Q I r h;obtain⟨l,bs,rfl,hl,q⟩:=h;obtain⟨u,rfl,ru⟩:=cy r;cases ru;obtain⟨z,f',n,rv,e⟩:=I.l_ l _ hl;have GK:s.heap.IsList l f'.toArray:=⟨_,e,rfl,n,rfl⟩;refine call_all_walk (XB GK ⟨s.heap.objs.size,[s.heap.objs.size,l],[s.heap.objs.size],f'.toArray.size,_,_,fun i=>(bs[i]?).getD true,rfl,Walks.list (A:=X.A.in1) (I.ok.hd hc) _ l (Zx<|ZP e) f'.toArray,
  ⟨⟨_,ZF _ rfl,rfl,rfl⟩,GK.push _⟩,fun i v s' Q' E' hP hQ=>?_,fun h' tk hk=>?_⟩)
 ·obtain⟨b,eb,rfl⟩:=n9 rv i v (by simpa using hP);simp only[eb,Xr] at hQ;exact YH hQ
 ·have el:f'.toArray.size=bs.length:=by
   have:=rv.length;rw[ZY] at this;rw[ZU,this]
  rw[el,LSm.range_all];exact⟨.bl _,H,I.kept<|LSm.kept_iter hk,rfl,q⟩
theorem wl:Ck X (binaryOp .Mult) (rI IntMulOk fun i j=>.int<|i * j):=JW fun _ _ _ _ _ _ _ hc q=>mul_int q hc
end
inductive Vl where
 | im (d:Im)
 | jk
 | fz (ds:List Im)
 | lst (ds:List Im)
 | dK (kvs:List (Key×Im))
 | dT (kvs:List (List Im×Im))
 | Co (xs:List Vl)
 | J9 (ks:List (List Im)) (xs:List Vl)
 | Ib (xs:List Vl)
 | obj (C:Addr) (ns:List Str) (xs:List Vl)
variable{op:List Vl->Option Vl}{f:Vl->Vl->Option Vl}{o:Option Vl}{d:Vl}
abbrev SD:=List (Option Vl)
variable{D' D:SD}{h:List Vl->SD->Option SD}
abbrev CC{κ:Type}(H:Hp):List (κ×Im)->List (κ×V)->Prop:=Paired fun p q=>p.1=q.1/\BI H p.2 q.2
theorem CC.mono{κ:Type}{l:List (κ×Im)}{m:List (κ×V)}(t:EM H H')(h:CC H l m):CC H' l m:=Paired.FX h fun _ _ z=>⟨z.1,z.2.mono t⟩
structure BD(H H':Hp):Prop where
 tup:EM H H'
 Cg:∀ a o u,H a=some (.Cg o u)->H' a=some (.Cg o u)
mutual
def Own(H:Hp):Vl->V->List Addr->Prop
 | .im d,v,F=>BI H d v/\F=[]
 | .jk,_,F=>F=[]
 | .fz ds,v,F=>∃ a xs o,v=.ref a/\H a=some (.Cg o<|.lst xs)/\am H ds xs/\F=[]
 | .lst ds,v,F=>∃ a xs,v=.ref a/\H a=some (.lst xs)/\am H ds xs/\F=[a]
 | .dK kvs,v,F=>∃ a B7,v=.ref a/\H a=some (.dK B7)/\CC H kvs B7/\F=[a]
 | .dT kvs,v,F=>∃ a B7,v=.ref a/\H a=some (.dT B7)/\CC H kvs B7/\F=[a]
 | .Co ds,v,F=>∃ a xs G,v=.ref a/\H a=some (.lst xs)/\aI H ds xs G/\F=a::G
 | .J9 ks ds,v,F=>∃ a B7 G,v=.ref a/\H a=some (.dT B7)/\B7.map (·.1)=ks/\aI H ds (B7.map (·.2)) G/\F=a::G
 | .Ib ds,v,F=>∃ a xs,v=.ref a/\H a=some (.tup xs)/\aI H ds xs F
 | .obj C ns ds,v,F=>∃ a dx fs G,v=.ref a/\H a=some (.ins C dx fs)/\fs.map (·.1)=ns/\aI H ds (fs.map (·.2)) G/\F=a::G
def aI(H:Hp):List Vl->List V->List Addr->Prop
 | [],vs,F=>vs=[]/\F=[]
 | d::ds,vs,F=>∃ v r F1 F2,vs=v::r/\Own H d v F1/\aI H ds r F2/\F=F1++F2
end
mutual
theorem Own.mono{H H':Hp}(t:BD H H'):∀ {d:Vl}{v:V}{F:List Addr},Own H d v F->(∀ a∈F,∀ o,H a=some o->H' a=some o)->Own H' d v F
 | .im d,v,F,h,_=>⟨h.1.mono t.tup,h.2⟩
 | .jk,v,F,h,_=>h
 | .fz ds,v,F,h,_=>by
  obtain⟨a,xs,o,rfl,h1,h2,rfl⟩:=h;exact⟨a,xs,o,rfl,t.Cg _ _ _ h1,h2.mono t.tup,rfl⟩
 | .lst ds,v,F,h,k=>by
  obtain⟨a,xs,rfl,h1,h2,rfl⟩:=h;exact⟨a,xs,rfl,k a (.head _) _ h1,h2.mono t.tup,rfl⟩
 | .dK kvs,v,F,h,k=>by
  obtain⟨a,xs,rfl,h1,h2,rfl⟩:=h;exact⟨a,xs,rfl,k a (.head _) _ h1,h2.mono t.tup,rfl⟩
 | .dT kvs,v,F,h,k=>by
  obtain⟨a,xs,rfl,h1,h2,rfl⟩:=h;exact⟨a,xs,rfl,k a (.head _) _ h1,h2.mono t.tup,rfl⟩
 | .Co ds,v,F,h,k=>by
  obtain⟨a,xs,G,rfl,h1,h2,rfl⟩:=h;exact⟨a,xs,G,rfl,k a (.head _) _ h1,aI.mono t h2 fun b hb=>k b<|.tail _ hb,rfl⟩
 | .J9 ks ds,v,F,h,k=>by
  obtain⟨a,xs,G,rfl,h1,hk,h2,rfl⟩:=h;exact⟨a,xs,G,rfl,k a (.head _) _ h1,hk,aI.mono t h2 fun b hb=>k b<|.tail _ hb,rfl⟩
 | .Ib ds,v,F,h,k=>by
  obtain⟨a,xs,rfl,h1,h2⟩:=h;exact⟨a,xs,rfl,t.tup a xs h1,aI.mono t h2 k⟩
 | .obj C ns ds,v,F,h,k=>by
  obtain⟨a,dx,fs,G,rfl,h1,hk,h2,rfl⟩:=h;exact⟨a,dx,fs,G,rfl,k a (.head _) _ h1,hk,aI.mono t h2 fun b hb=>k b<|.tail _ hb,rfl⟩
theorem aI.mono{H H':Hp}(t:BD H H'):∀ {ds:List Vl}{vs:List V}{F:List Addr},aI H ds vs F->(∀ a∈F,∀ o,H a=some o->H' a=some o)->aI H' ds vs F
 | [],vs,F,h,_=>h
 | d::ds,vs,F,h,k=>by
  obtain⟨v,r,F1,F2,rfl,h1,h2,rfl⟩:=h;exact⟨v,r,F1,F2,rfl,Own.mono t h1 fun a ha=>k a<|ZH _ ha,aI.mono t h2 fun a ha=>k a<|ZN _ ha,rfl⟩
end
def DU(H:Hp)(a:Addr):Prop:=∃ o,H a=some o/\(∀ xs,o≠.tup xs)/\∀ p u,o≠.Cg p u
mutual
theorem Own.chg{H:Hp}:∀ {d:Vl}{v:V}{F:List Addr},Own H d v F->∀ a∈F,DU H a
 | .im d,v,F,h,a,ha=>by rw[h.2] at ha;cases ha
 | .jk,v,F,h,a,ha=>by rw[show F=[] from h] at ha;cases ha
 | .fz ds,v,F,h,b,hb=>by
  obtain⟨a,xs,o,rfl,h1,h2,rfl⟩:=h;cases hb
 | .lst ds,v,F,h,b,hb=>by
  obtain⟨a,xs,rfl,h1,h2,rfl⟩:=h;rw[ZW.mp hb];exact⟨_,h1,(fun _ e=>by cases e),(fun _ _ e=>by cases e)⟩
 | .dK kvs,v,F,h,b,hb=>by
  obtain⟨a,xs,rfl,h1,h2,rfl⟩:=h;rw[ZW.mp hb];exact⟨_,h1,(fun _ e=>by cases e),(fun _ _ e=>by cases e)⟩
 | .dT kvs,v,F,h,b,hb=>by
  obtain⟨a,xs,rfl,h1,h2,rfl⟩:=h;rw[ZW.mp hb];exact⟨_,h1,(fun _ e=>by cases e),(fun _ _ e=>by cases e)⟩
 | .Co ds,v,F,h,b,hb=>by
  obtain⟨a,xs,G,rfl,h1,h2,rfl⟩:=h;rcases ZO.mp hb with rfl | hb
  ·exact⟨_,h1,(fun _ e=>by cases e),(fun _ _ e=>by cases e)⟩
  ·exact aI.chg h2 b hb
 | .J9 ks ds,v,F,h,b,hb=>by
  obtain⟨a,xs,G,rfl,h1,hk,h2,rfl⟩:=h;rcases ZO.mp hb with rfl | hb
  ·exact⟨_,h1,(fun _ e=>by cases e),(fun _ _ e=>by cases e)⟩
  ·exact aI.chg h2 b hb
 | .Ib ds,v,F,h,b,hb=>by
  obtain⟨a,xs,rfl,h1,h2⟩:=h;exact aI.chg h2 b hb
 | .obj C ns ds,v,F,h,b,hb=>by
  obtain⟨a,dx,fs,G,rfl,h1,hk,h2,rfl⟩:=h;rcases ZO.mp hb with rfl | hb
  ·exact⟨_,h1,(fun _ e=>by cases e),(fun _ _ e=>by cases e)⟩
  ·exact aI.chg h2 b hb
theorem aI.chg{H:Hp}:∀ {ds:List Vl}{vs:List V}{F:List Addr},aI H ds vs F->∀ a∈F,DU H a
 | [],vs,F,h,a,ha=>by rw[h.2] at ha;cases ha
 | d::ds,vs,F,h,a,ha=>by
  obtain⟨v,r,F1,F2,rfl,h1,h2,rfl⟩:=h;rcases ZE.mp ha with ha | ha
  ·exact Own.chg h1 a ha
  ·exact aI.chg h2 a ha
end
theorem aI.length{H:Hp}:∀ {ds:List Vl}{vs:List V}{F:List Addr},aI H ds vs F->ds.length=vs.length
 | [],vs,F,h=>by rw[h.1];rfl
 | d::ds,vs,F,h=>by
  obtain⟨v,r,F1,F2,rfl,h1,h2,rfl⟩:=h;rw[ZC,ZC,h2.length]
theorem am.length{H:Hp}:∀ {ds:List Im}{vs:List V},am H ds vs->ds.length=vs.length
 | [],vs,h=>by rw[show vs=[] from h];rfl
 | d::ds,vs,h=>by
  obtain⟨v,r,rfl,h1,h2⟩:=h;rw[ZC,ZC,h2.length]
def ee(H:Hp):Option Vl->Option V->List Addr->Prop
 | none,_,F=>F=[]
 | some d,x,F=>∃ v,x=some v/\Own H d v F
def aj(H:Hp):SD->St->List Addr->Prop
 | [],σ,F=>σ=[]/\F=[]
 | o::D,σ,F=>∃ x r F1 F2,σ=x::r/\ee H o x F1/\aj H D r F2/\F=F1++F2
structure n_(H:Hp)(F:List Addr)(H':Hp)(F':List Addr):Prop where
 keep:∀ a o,H a=some o->a∉F->H' a=some o
 sub:∀ a∈F',a∈F\/H a=none
 nd:F'.Nodup
 tup:BD H H'
 grow:∀ a o,H a=some o->∃ o',H' a=some o'
theorem ee.mono(t:BD H H'):∀ {o:Option Vl}{x:Option V}{F:List Addr},ee H o x F->(∀ a∈F,∀ o,H a=some o->H' a=some o)->ee H' o x F
 | none,_,_,h,_=>h
 | some d,x,F,h,k=>by
  obtain⟨v,rfl,h⟩:=h;exact⟨v,rfl,h.mono t k⟩
theorem aj.mono{H H':Hp}(t:BD H H'):∀ {D:SD}{σ:St}{F:List Addr},aj H D σ F->(∀ a∈F,∀ o,H a=some o->H' a=some o)->aj H' D σ F
 | [],σ,F,h,_=>h
 | o::D,σ,F,h,k=>by
  obtain⟨x,r,F1,F2,rfl,h1,h2,rfl⟩:=h;exact⟨x,r,F1,F2,rfl,h1.mono t fun a ha=>k a<|ZH _ ha,aj.mono t h2 fun a ha=>k a<|ZN _ ha,rfl⟩
theorem ee.chg:∀ {o:Option Vl}{x:Option V}{F:List Addr},ee H o x F->∀ a∈F,DU H a
 | none,_,F,h,a,ha=>by rw[show F=[] from h] at ha;cases ha
 | some d,x,F,h,a,ha=>by
  obtain⟨v,rfl,h⟩:=h;exact h.chg a ha
theorem aj.chg{H:Hp}:∀ {D:SD}{σ:St}{F:List Addr},aj H D σ F->∀ a∈F,DU H a
 | [],σ,F,h,a,ha=>by rw[h.2] at ha;cases ha
 | o::D,σ,F,h,a,ha=>by
  obtain⟨x,r,F1,F2,rfl,h1,h2,rfl⟩:=h;rcases ZE.mp ha with ha | ha
  ·exact h1.chg a ha
  ·exact aj.chg h2 a ha
theorem aj.len{H:Hp}:∀ {D:SD}{σ:St}{F:List Addr},aj H D σ F->D.length=σ.length
 | [],σ,F,h=>by rw[h.1];rfl
 | o::D,σ,F,h=>by
  obtain⟨x,r,F1,F2,rfl,h1,h2,rfl⟩:=h;rw[ZC,ZC,aj.len h2]
def Vl.cp:Vl->Bool
 | .im _=>true
 | .fz _=>true
 | _=>false
theorem Own.cp(h:Own H d v F)(c:d.cp=true):F=[]:=by
 cases d with
 | im d=>exact h.2
 | fz ds=>obtain⟨a,xs,o,rfl,h1,h2,rfl⟩:=h;rfl
 | _=>cases c
theorem aj.out{H:Hp}:∀ {D:SD}{σ:St}{F:List Addr}{i:Nat}{d:Vl},aj H D σ F->D[i]?=some (some d)->∃ v F1 F2,σ[i]?=some (some v)/\Own H d v F1/\aj H (D.set i<|some .jk) σ F2/\(F2++F1).Perm F
 | [],σ,F,i,d,h,e=>by simp at e
 | o::D,σ,F,0,d,h,e=>by
  obtain⟨x,r,F1,F2,rfl,h1,h2,rfl⟩:=h;simp at e;subst e;obtain⟨v,rfl,h1⟩:=h1;exact⟨v,F1,F2,rfl,h1,⟨some v,r,[],F2,rfl,⟨v,rfl,rfl⟩,h2,rfl⟩,Z1⟩
 | o::D,σ,F,i+1,d,h,e=>by
  obtain⟨x,r,F1,F2,rfl,h1,h2,rfl⟩:=h;obtain⟨v,G1,G2,g1,g2,g3,g4⟩:=aj.out (i:=i) h2 (by simpa using e);refine⟨v,G1,F1++G2,by simpa using g1,g2,⟨x,r,F1,G2,rfl,h1,g3,rfl⟩,?_⟩;rw[Z7];exact ZT _ g4
theorem aj.put{H:Hp}:∀ {D:SD}{σ:St}{F:List Addr}{i:Nat}{d:Vl}{v:V}{G:List Addr},aj H D σ F->Own H d v G->i<D.length->∃ F1 F2,aj H (D.set i<|some d) (σ.set i<|some v) F1/\(F1++F2).Perm (F++G)
 | [],σ,F,i,d,v,G,h,w,l=>by simp at l
 | o::D,σ,F,0,d,v,G,h,w,l=>by
  obtain⟨x,r,F1,F2,rfl,h1,h2,rfl⟩:=h;refine⟨G++F2,F1,⟨some v,r,G,F2,rfl,⟨v,rfl,w⟩,h2,rfl⟩,?_⟩;refine Z1.trans ?_;rw[Z7];exact ZT _ Z1
 | o::D,σ,F,i+1,d,v,G,h,w,l=>by
  obtain⟨x,r,F1,F2,rfl,h1,h2,rfl⟩:=h;obtain⟨G1,G2,g1,g2⟩:=aj.put (i:=i) h2 w (by simpa using l);refine⟨F1++G1,G2,⟨x,_,F1,G1,rfl,h1,g1,rfl⟩,?_⟩;rw[Z7,Z7];exact ZT _ g2
theorem aj.cp{i:Nat}(h:aj H D σ F)(e:D[i]?=some (some d))(c:d.cp=true):∃ v,σ[i]?=some (some v)/\Own H d v []:=by
 obtain⟨v,F1,F2,g1,g2,_⟩:=h.out e;obtain rfl:=g2.cp c;exact⟨v,g1,g2⟩
theorem wm{i:Nat}(h:σ[i]?=some (some v)):σ.set i (some v)=σ:=by
 refine Yr fun j=>?_;by_cases e:i=j
 ·subst e;rw[h,Yh (ZA.mp h).1]
 ·rw[Y7 e]
theorem aj.back{i:Nat}(h:aj H D σ F)(w:Own H d v G)(hv:σ[i]?=some (some v)):∃ F1 F2,aj H (D.set i<|some d) σ F1/\(F1++F2).Perm (F++G):=by
 have l:i<D.length:=by rw[h.len];exact (ZA.mp hv).1
 obtain⟨F1,F2,h1,h2⟩:=h.put (i:=i) w l;rw[wm hv] at h1;exact⟨F1,F2,h1,h2⟩
theorem BD.of(f:gG H H')(g:∀ a o u,H a=some (.Cg o u)->H' a=some (.Cg o u)):BD H H':=⟨⟨f,g⟩,g⟩
theorem wn(H:Hp):BD H H:=⟨⟨fun _ _ e=>e,fun _ _ _ e=>e⟩,fun _ _ _ e=>e⟩
theorem BD.trans(a:BD H H1)(b:BD H1 H2):BD H H2:=⟨⟨fun x xs e=>b.tup.t x xs<|a.tup.t x xs e,fun x o u e=>b.Cg x o u<|a.Cg x o u e⟩,fun x o u e=>b.Cg x o u<|a.Cg x o u e⟩
theorem n_.refl{H:Hp}{F F':List Addr}(h:F'.Nodup)(s:∀ a∈F',a∈F):n_ H F H F':=⟨fun _ _ e _=>e,fun a ha=>.inl<|s a ha,h,wn H,fun _ o e=>⟨o,e⟩⟩
theorem n_.perm{F':List Addr}(h:F.Nodup)(p:F'.Perm F):n_ H F H F':=n_.refl ((p.nodup_iff).mpr h) fun a ha=>p.mem_iff.mp ha
theorem n_.trans(a:n_ H F H1 (F1++R))(b:n_ H1 F1 H2 F2)(cr:∀ x∈R,DU H1 x):n_ H F H2 (F2++R):=by
 have nd:=ZM.mp a.nd;have al:∀ x∈F2,x∉R:=fun x hx hr=>by
  rcases b.sub x hx with h | h
  ·exact nd.2.2 x h x hr rfl
  ·obtain⟨o,e,_⟩:=cr x hr;rw[e] at h;cases h
 refine⟨fun x o e hx=>?_,fun x hx=>?_,ZM.mpr ⟨b.nd,nd.2.1,fun x hx y hy e=>al x hx<|e ▸ hy⟩,a.tup.trans b.tup,fun x o e=>let ⟨o',e'⟩:=a.grow x o e;b.grow x o' e'⟩
 ·refine b.keep x o (a.keep x o e hx) fun h1=>?_;rcases a.sub x (ZH _ h1) with h | h
  ·exact hx h
  ·rw[e] at h;cases h
 ·rcases ZE.mp hx with hx | hx
  ·rcases b.sub x hx with h | h
   ·exact a.sub x (ZH _ h)
   ·refine .inr ?_;cases e:H x with
    | none=>rfl
    | some o=>
     obtain⟨o',e'⟩:=a.grow x o e;rw[e'] at h;cases h
  ·exact a.sub x (ZN _ hx)
theorem aF.tupS(s:aF H H'):BD H H':=⟨⟨fun a xs e=>s a _ e,fun a o u e=>s a _ e⟩,fun a o u e=>s a _ e⟩
theorem oa{a b:Addr}{o u:HO}(e:H b=some o)(h:H a=none):L2.upd H a u b=some o:=by rw[aE (bU e h)];exact e
theorem aF.upd(s:aF H H'){a:Addr}{o:HO}(h:H' a=none):aF H (L2.upd H' a o):=fun b u e=>oa (s b u e) h
abbrev M(α:Type):=SD->Option (α×SD)
variable{ge:M Vl}{gc k:M Bool}
inductive Opd where
 | sl (i:Nat)
 | vl (d:Vl)
variable{gb ga:M Opd}{g:M (List Opd)}
def rsl(D:SD):Opd->Option Vl
 | .sl i=>(D[i]?).getD none
 | .vl d=>some d
def dj(H:Hp)(σ:St):Opd->V->List Addr->Prop
 | .sl i,v,R=>σ[i]?=some (some v)/\R=[]
 | .vl d,v,R=>Own H d v R
def tV(g:M Vl):TE:=fun σ H Q=>∃ D F r D',aj H D σ F/\F.Nodup/\g D=some (r,D')/\∀ v H' F' R,aj H' D' σ F'->Own H' r v R->n_ H F H' (F'++R)->Q v H'
def tO(g:M Opd):TE:=fun σ H Q=>∃ D F r D',aj H D σ F/\F.Nodup/\g D=some (r,D')/\∀ v H' F' R,aj H' D' σ F'->dj H' σ r v R->n_ H F H' (F'++R)->Q v H'
def E7(g:M Bool):TT:=fun σ H Q=>∃ D F b D',aj H D σ F/\F.Nodup/\g D=some (b,D')/\∀ H' F',aj H' D' σ F'->n_ H F H' F'->Q b H'
def VE(X:Cx)(e:Expr)(g:M Vl):Prop:=∀ ⦃p⦄,KD X e (tV g) p
def VO(X:Cx)(e:Expr)(g:M Opd):Prop:=∀ ⦃p⦄,KD X e (tO g) p
def VT(X:Cx)(e:Expr)(g:M Bool):Prop:=∀ ⦃p⦄,Mo X e (E7 g) p
theorem aQ{t t':TE}(h:PE X e t)(i:∀ σ H Q,t' σ H Q->t σ H Q):PE X e t':=fun pins s σ H Q I hw=>h pins s σ H Q I (i σ H Q hw)
theorem kQ{t:TT}(h:PT X e t)(i:∀ σ H Q,t' σ H Q->t σ H Q):PT X e t':=fun pins s σ H Q I hw=>h pins s σ H Q I (i σ H Q hw)
theorem dj.mono{r:Opd}(h:dj H σ r v R)(t:BD H H')(k:∀ a∈R,∀ o,H a=some o->H' a=some o):dj H' σ r v R:=by
 cases r with
 | sl i=>exact h
 | vl d=>exact Own.mono t h k
theorem dj.chg{r:Opd}(h:dj H σ r v R):∀ a∈R,DU H a:=by
 cases r with
 | sl i=>intro a ha;rw[h.2] at ha;cases ha
 | vl d=>exact Own.chg h
def Dz(H:Hp)(d:Vl)(v:V):Prop:=∃ R,Own H d v R
theorem dj.read{r:Opd}(h:dj H σ r v R)(st:aj H D σ F)(e:rsl D r=some d):Dz H d v:=by
 cases r with
 | vl d'=>cases e;exact⟨R,h⟩
 | sl i=>
  have e':D[i]?=some (some d):=by
   have:(D[i]?).getD none=some d:=e;cases q:D[i]? with
   | none=>rw[q] at this;cases this
   | some o=>rw[q] at this;rw[show o=some d from this]
  obtain⟨v',F1,F2,g1,g2,_⟩:=st.out e';rw[h.1] at g1;cases g1;exact⟨F1,g2⟩
@[simp] def bK(i:Nat):M Vl:=fun D=>match D[i]? with
 | some (some d)=>if d.cp=true then some (d,D) else some (d,D.set i<|some .jk)
 | _=>none
def eC(d:Im):M Vl:=fun D=>some (.im d,D)
@[simp] def oSl(i:Nat):M Opd:=fun D=>match D[i]? with
 | some (some _)=>some (.sl i,D)
 | _=>none
@[simp] def oV(g:M Vl):M Opd:=fun D=>(g D).map fun p=>(.vl p.1,p.2)
section
variable{X:Cx}
variable{i:Nat}
theorem cX(h:PE X e (e8 i)):VE X e (bK i):=by
 refine aQ h fun σ H Q ⟨D,F,r,D',st,nd,hg,q⟩=>?_;unfold bK at hg;split at hg
 ·rename_i d hd;split at hg
  ·rename_i hc;cases hg;obtain⟨v,h1,h2⟩:=st.cp hd hc;exact⟨v,h1,q v H F [] st h2 (by rw[ZZ];exact n_.perm nd (ZI _))⟩
  ·cases hg;obtain⟨v,F1,F2,h1,h2,h3,h4⟩:=st.out hd;exact⟨v,h1,q v H F2 F1 h3 h2<|n_.perm nd h4⟩
 ·cases hg
theorem wo(h:PE X e (e8 i)):VO X e (oSl i):=by
 refine aQ h fun σ H Q ⟨D,F,r,D',st,nd,hg,q⟩=>?_;unfold oSl at hg;split at hg
 ·rename_i d hd;cases hg;obtain⟨v,F1,F2,h1,h2,h3,h4⟩:=st.out hd;exact⟨v,h1,q v H F [] st ⟨h1,rfl⟩ (by rw[ZZ];exact n_.perm nd (ZI _))⟩
 ·cases hg
theorem ad{g:M Vl}(h:VE X e g):VO X e (oV g):=by
 refine aQ h fun σ H Q ⟨D,F,r,D',st,nd,hg,q⟩=>?_;unfold oV at hg;obtain⟨⟨r',D1⟩,h1,h2⟩:=Z5.mp hg;cases h2;exact⟨D,F,r',_,st,nd,h1,q⟩
theorem ja{d:Im}(h:PE X e (tC v))(hd:∀ H,BI H d v):VE X e (eC d):=by
 refine aQ h fun σ H Q ⟨D,F,r,D',st,nd,hg,q⟩=>?_;cases hg;exact q v H F [] st ⟨hd H,rfl⟩ (by rw[ZZ];exact n_.perm nd (ZI _))
theorem ef{i:Int}{j pos}:VE X (.Constant (.int i) j pos) (eC<|.int i):=ja sI fun _=>rfl
theorem cN{b:Bool}{j pos}:VE X (.Constant (.bool b) j pos) (eC<|.bl b):=ja sJ fun _=>rfl
theorem gW{j pos}:VE X (.Constant .none j pos) (eC .j_):=ja sK fun _=>rfl
theorem cD{j pos}:VE X (.Constant (.str x) j pos) (eC<|.str x):=ja mV fun _=>rfl
theorem two{D1 D2:SD}{x y:Opd}{K:V->V->Hp->Prop}(st:aj H D σ F)(nd:F.Nodup)(ha:ga D=some (x,D1))(hb:gb D1=some (y,D2))(k:∀ v u H' F' R1 R2,aj H' D2 σ F'->dj H' σ x v R1->dj H' σ y u R2->n_ H F H' ((F'++R2)++R1)->K v u H'):tO ga σ H fun v H1=>tO gb σ H1 fun u H2=>K v u H2:=by
 refine⟨D,F,x,D1,st,nd,ha,fun v H1 F1 R1 s_ o1 s1=>⟨D1,F1,y,D2,s_,(ZM.mp s1.nd).1,hb,fun u H2 F2 R2 o_ o2 s2=>?_⟩⟩;refine k v u H2 F2 R1 R2 o_ (o1.mono s2.tup fun a ha o e=>s2.keep a o e fun h=>?_) o2 (s1.trans s2 o1.chg);exact (ZM.mp s1.nd).2.2 a h a ha rfl
theorem n_.new{R':List Addr}(a:n_ H F H1 (F1++R))(s:aF H1 H2)(nd:R'.Nodup)(fr:∀ x∈R',H1 x=none)(c:∀ x∈F1,DU H1 x):n_ H F H2 (F1++R'):=by
 refine⟨fun x o e hx=>s _ _<|a.keep x o e hx,fun x hx=>?_,ZM.mpr ⟨(ZM.mp a.nd).1,nd,fun x hx y hy e=>?_⟩,a.tup.trans s.tupS,fun x o e=>let ⟨o',e'⟩:=a.grow x o e;⟨o',s _ _ e'⟩⟩
 ·rcases ZE.mp hx with hx | hx
  ·exact a.sub x (ZH _ hx)
  ·refine .inr ?_;cases e:H x with
   | none=>rfl
   | some o=>
    obtain⟨o',e'⟩:=a.grow x o e;rw[fr x hx] at e';cases e'
 ·subst e;obtain⟨o,e,_⟩:=c x hx;rw[fr x hy] at e;cases e
def DP(X:Cx)(f:Value->Value->Sem Value)(op:Vl->Vl->Option Vl):Prop:=
 Ck X f fun x y H Q=>∃ d1 d2 d,Dz H d1 x/\Dz H d2 y/\op d1 d2=some d/\∀ v H' R,aF H H'->Own H' d v R->R.Nodup->(∀ a∈R,H a=none)->Q v H'
@[simp] def ae(op:Vl->Vl->Option Vl)(ga gb:M Opd):M Vl:=fun D=>(ga D).bind fun p=>(gb p.2).bind fun q=>(rsl q.2 p.1).bind fun d1=>(rsl q.2 q.1).bind fun d2=>(op d1 d2).map fun d=>(d,q.2)
theorem jb{op:Vl->Vl->Option Vl}(h:tV (ae op ga gb) σ H Q):
  tO ga σ H fun x H1=>tO gb σ H1 fun y H2=>∃ d1 d2 d,Dz H2 d1 x/\Dz H2 d2 y/\op d1 d2=some d/\∀ v H' R,aF H2 H'->Own H' d v R->R.Nodup->(∀ a∈R,H2 a=none)->Q v H':=by
 obtain⟨D,F,r,D',st,nd,hg,q⟩:=h;unfold ae at hg;obtain⟨⟨x,D1⟩,ha,hg⟩:=Z9.mp hg;obtain⟨⟨y,D2⟩,hb,hg⟩:=Z9.mp hg;obtain⟨d1,h1,hg⟩:=Z9.mp hg;obtain⟨d2,h2,hg⟩:=Z9.mp hg;obtain⟨d,h3,hg⟩:=Z5.mp hg;cases hg;refine two st nd ha hb fun v u H2 F2 R1 R2 o_ o1 o2 s2=>⟨d1,d2,_,o1.read o_ h1,o2.read o_ h2,h3,fun w H3 R s3 ow Lp fr=>?_⟩;rw[Z7] at s2;exact q w H3 F2 R (o_.mono s3.tupS fun a _ o e=>s3 a o e) ow (s2.new s3 Lp fr o_.chg)
theorem aq{op:Operator}(ho:DP X (binaryOp op) f)(ha:VO X a ga)(hb:VO X b gb):VE X (.BinOp a op b pos) (ae f ga gb):=
 aQ (uf ho ha hb) fun _ _ _ h=>jb h
variable{op:CmpOp}
theorem cE(ho:DP X (compareOp op) f)(ha:VO X a ga)(hb:VO X b gb)(hm:behindInMarks op b=false):VE X (.Compare a [op] [b] pos) (ae f ga gb):=
 aQ (uy ho ha hb hm) fun _ _ _ h=>jb h
theorem og(ho:ES X (fun x y H Q=>∃ d1 d2 d,Dz H d1 x/\Dz H d2 y/\f d1 d2=some d/\∀ v H' R,aF H H'->Own H' d v R->R.Nodup->(∀ a∈R,H a=none)->Q v H'))(ha:VO X a ga)(hb:VO X b gb)(hs:ku b):VE X (.Subscript a b pos) (ae f ga gb):=
 aQ (uV ho ha hb hs) fun _ _ _ h=>jb h
@[simp] def asB:Vl->Option Bool
 | .im (.bl b)=>some b
 | _=>none
@[simp] def kB(g:M Vl):M Bool:=fun D=>(g D).bind fun p=>(asB p.1).map fun b=>(b,p.2)
theorem oh{b:Bool}(h:asB d=some b):d=.im (.bl b):=by
 unfold asB at h;split at h
 ·cases h;rfl
 ·cases h
theorem cj(ho:DP X (compareOp op) f)(ha:VO X a ga)(hb:VO X b gb)(hm:behindInMarks op b=false):VT X (.Compare a [op] [b] pos) (kB<|ae f ga gb):=by
 refine kQ (uA ho ha hb hm) fun σ H Q ⟨D,F,c,D',st,nd,hg,q⟩=>?_;refine jb ⟨D,F,.im<|.bl c,D',st,nd,?_,fun v H' F' R e_ ow s=>⟨c,ow.1,q H' F' e_ (by rw[ow.2,ZZ] at s;exact s)⟩⟩;obtain⟨p,h1,h2⟩:=Z9.mp hg;obtain⟨c',h3,h4⟩:=Z5.mp h2;cases h4;rw[h1,<- oh h3]
@[simp] def dk(g:M Bool):M Bool:=fun D=>(g D).map fun p=>(!p.1,p.2)
variable{g:M Bool}
theorem kR(h:VT X a g):VT X (.UnaryOp .Not a pos) (dk g):=by
 refine kQ (sQ h) fun σ H Q ⟨D,F,c,D',st,nd,hg,q⟩=>?_;obtain⟨p,h1,h2⟩:=Z5.mp hg;cases h2;exact⟨D,F,p.1,_,st,nd,h1,q⟩
@[simp] def dm(g h:M Bool):M Bool:=fun D=>(g D).bind fun p=>if p.1=true then h p.2 else some (false,p.2)
@[simp] def kOr(g h:M Bool):M Bool:=fun D=>(g D).bind fun p=>if p.1=true then some (true,p.2) else h p.2
variable{Q:Bool->Hp->Prop}{h:M Bool}
theorem oj(w:E7 (dm g h) σ H Q):mY (E7 g) (E7 h) σ H Q:=by
 obtain⟨D,F,c,D',st,nd,hg,q⟩:=w;obtain⟨⟨b,D1⟩,h1,h2⟩:=Z9.mp hg;refine⟨D,F,b,D1,st,nd,h1,fun H1 F1 s_ s1=>?_⟩;cases b with
 | true=>
  rw[Z0 rfl];rw[Z0 rfl] at h2;exact⟨D1,F1,c,D',s_,s1.nd,h2,fun H2 F2 o_ s2=>q H2 F2 o_ (by
   have:=n_.trans (R:=[]) (by rw[ZZ];exact s1) s2 (fun x hx=>nomatch hx)
   rwa [ZZ] at this)⟩
 | false=>
  rw[ZX ZJ] at h2 ⊢;cases h2;exact q H1 F1 s_ s1
theorem om(w:E7 (kOr g h) σ H Q):Ms (E7 g) (E7 h) σ H Q:=by
 obtain⟨D,F,c,D',st,nd,hg,q⟩:=w;obtain⟨⟨b,D1⟩,h1,h2⟩:=Z9.mp hg;refine⟨D,F,b,D1,st,nd,h1,fun H1 F1 s_ s1=>?_⟩;cases b with
 | false=>
  rw[ZX ZJ] at h2 ⊢;exact⟨D1,F1,c,D',s_,s1.nd,h2,fun H2 F2 o_ s2=>q H2 F2 o_ (by
   have:=n_.trans (R:=[]) (by rw[ZZ];exact s1) s2 (fun x hx=>nomatch hx)
   rwa [ZZ] at this)⟩
 | true=>
  rw[Z0 rfl] at h2 ⊢;cases h2;exact q H1 F1 s_ s1
def VW(X:Cx)(e:Expr)(g:M Bool):Prop:=∀ ⦃p⦄,Mp X e (E7 g) p
theorem oo{t:TT}(h:PW X e t)(i:∀ σ H Q,t' σ H Q->t σ H Q):PW X e t':=fun wh pins s σ H Q I hw=>h wh pins s σ H Q I (i σ H Q hw)
theorem wu(h:VT X a g):VW X (.BoolOp .And [a] pos) g:=sM h
theorem oq(h:VT X a g):VW X (.BoolOp .Or [a] pos) g:=sN h
theorem wv(h:VT X a g)(hb:VW X (.BoolOp .And (b::r) pos) k):VW X (.BoolOp .And (a::b::r) pos) (dm g k):=oo (sO h hb) fun _ _ _ w=>oj w
theorem ot(h:VT X a g)(hb:VW X (.BoolOp .Or (b::r) pos) k):VW X (.BoolOp .Or (a::b::r) pos) (kOr g k):=oo (sP h hb) fun _ _ _ w=>om w
theorem VW.vt(h:VW X e g):VT X e g:=PW.pt h
@[simp] def eB(g:M Bool):M Vl:=fun D=>(g D).map fun p=>(.im<|.bl p.1,p.2)
theorem gX(h:VE X e (eB g)):PE X e fun σ H Q=>E7 g σ H fun b H'=>Q (.bl b) H':=by
 refine aQ h fun σ H Q ⟨D,F,c,D',st,nd,hg,q⟩=>⟨D,F,.im<|.bl c,D',st,nd,by unfold eB;rw[hg];rfl,fun v H' F' R e_ ow s=>?_⟩;rw[show v=.bl c from ow.1];exact q H' F' e_ (by rw[ow.2,ZZ] at s;exact s)
theorem kS(h:PE X e fun σ H Q=>E7 g σ H fun b H'=>Q (.bl b) H'):VE X e (eB g):=by
 refine aQ h fun σ H Q ⟨D,F,r,D',st,nd,hg,q⟩=>?_;obtain⟨p,h1,h2⟩:=Z5.mp hg;cases h2;exact⟨D,F,p.1,_,st,nd,h1,fun H' F' e_ s=>q _ H' F' [] e_ ⟨rfl,rfl⟩ (by rw[ZZ];exact s)⟩
theorem dw{g:M Vl}(h:VE X e g):VE X e (eB<|kB g):=by
 refine aQ h fun σ H Q ⟨D,F,r,D',st,nd,hg,q⟩=>?_;obtain⟨p,h1,h2⟩:=Z5.mp hg;obtain⟨p',h3,h4⟩:=Z9.mp h1;obtain⟨c,h5,h6⟩:=Z5.mp h4;cases h6;cases h2;exact⟨D,F,p'.1,_,st,nd,h3,by rw[oh h5];exact q⟩
theorem ww(h:VE X a (eB g)):VE X (.UnaryOp .Not a pos) (eB<|dk g):=by
 refine kS (aQ (sX<|gX h) fun σ H Q ⟨D,F,c,D',st,nd,hg,q⟩=>?_);obtain⟨p,h1,h2⟩:=Z5.mp hg;cases h2;exact⟨D,F,p.1,_,st,nd,h1,fun H' F' e_ s=>⟨_,rfl,q H' F' e_ s⟩⟩
theorem jc{op}{g:M Vl}(h:VE X a g):VE X (.BoolOp op [a] pos) g:=sU h
theorem kT(h:VE X a (eB g))(hb:VE X (.BoolOp .And (b::r) pos) (eB k)):VE X (.BoolOp .And (a::b::r) pos) (eB<|dm g k):=by
 refine kS (aQ (sV (gX h)<|gX hb) fun σ H Q w=>?_);have:=oj w;obtain⟨D,F,c,D',st,nd,hg,q⟩:=this;exact⟨D,F,c,D',st,nd,hg,fun H' F' e_ s=>⟨c,rfl,q H' F' e_ s⟩⟩
theorem ou(h:VE X a (eB g))(hb:VE X (.BoolOp .Or (b::r) pos) (eB k)):VE X (.BoolOp .Or (a::b::r) pos) (eB<|kOr g k):=by
 refine kS (aQ (sW (gX h)<|gX hb) fun σ H Q w=>?_);have:=om w;obtain⟨D,F,c,D',st,nd,hg,q⟩:=this;exact⟨D,F,c,D',st,nd,hg,fun H' F' e_ s=>⟨c,rfl,q H' F' e_ s⟩⟩
theorem n_.seq(a:n_ H F H1 F1)(b:n_ H1 F1 H2 F2):n_ H F H2 F2:=by
 have:=n_.trans (R:=[]) (by rw[ZZ];exact a) b (fun x hx=>nomatch hx)
 rwa [ZZ] at this
end
def dy(H:Hp)(σ:St):List Opd->List V->List Addr->Prop
 | [],vs,R=>vs=[]/\R=[]
 | o::os,vs,R=>∃ v r R1 R2,vs=v::r/\dj H σ o v R1/\dy H σ os r R2/\R=R1++R2
def tA(g:M (List Opd)):TA:=fun σ H Q=>∃ D F r D',aj H D σ F/\F.Nodup/\g D=some (r,D')/\∀ vs H' F' R,aj H' D' σ F'->dy H' σ r vs R->n_ H F H' (F'++R)->Q vs H'
def VA(X:Cx)(es:List Expr)(g:M (List Opd)):Prop:=∀ ⦃p⦄,Mq X es (tA g) p
theorem oz{t t':TA}(h:PA X es t)(i:∀ σ H Q,t' σ H Q->t σ H Q):PA X es t':=fun pos pins s σ H Q I hw=>h pos pins s σ H Q I (i σ H Q hw)
def aNil:M (List Opd):=fun D=>some ([],D)
@[simp] def aa(g:M Opd)(h:M (List Opd)):M (List Opd):=fun D=>(g D).bind fun p=>(h p.2).map fun q=>(p.1::q.1,q.2)
theorem n_.B_(s:n_ H F H' A)(p:A.Perm B):n_ H F H' B:=⟨s.keep,fun a ha=>s.sub a<|p.mem_iff.mpr ha,(p.nodup_iff).mp s.nd,s.tup,s.grow⟩
theorem n_.less(s:n_ H F H' A)(p:(B++C).Perm A):n_ H F H' B:=
 ⟨s.keep,fun a ha=>s.sub a<|p.mem_iff.mp<|ZH _ ha,(ZM.mp<|(p.nodup_iff).mpr s.nd).1,s.tup,s.grow⟩
section
variable{X:Cx}
theorem fm:VA X [] aNil:=by
 refine oz gK fun σ H Q ⟨D,F,r,D',st,nd,hg,q⟩=>?_;cases hg;exact q [] H F [] st ⟨rfl,rfl⟩ (by rw[ZZ];exact n_.perm nd (ZI _))
theorem ah{g:M Opd}{h:M (List Opd)}(he:VO X e g)(hr:VA X es h)(hs:starEach (e::es) X.env=(false,eval e X.env)::starEach es X.env:=by rfl):VA X (e::es) (aa g h):=by
 refine oz (dv he hr hs) fun σ H Q ⟨D,F,r,D',st,nd,hg,q⟩=>?_;obtain⟨⟨x,D1⟩,h1,h2⟩:=Z9.mp hg;obtain⟨⟨ys,D2⟩,h3,h4⟩:=Z5.mp h2;cases h4;refine⟨D,F,x,D1,st,nd,h1,fun v H1 F1 R1 s_ o1 s1=>⟨D1,F1,ys,_,s_,(ZM.mp s1.nd).1,h3,fun vs H2 F2 R2 o_ o2 s2=>?_⟩⟩;refine q (v::vs) H2 F2 (R1++R2) o_ ⟨v,vs,R1,R2,rfl,o1.mono s2.tup fun a ha o e=>s2.keep a o e fun h=>?_,o2,rfl⟩ ((s1.trans s2 o1.chg).B_ ?_)
 ·exact (ZM.mp s1.nd).2.2 a h a ha rfl
 ·rw[Z7];exact ZT _ Z1
end
def cY(D:SD):List Opd->Option (List Vl)
 | []=>some []
 | o::os=>(rsl D o).bind fun d=>(cY D os).map fun ds=>d::ds
def eg(H:Hp):List Vl->List V->Prop
 | [],vs=>vs=[]
 | d::ds,vs=>∃ v r,vs=v::r/\Dz H d v/\eg H ds r
theorem dy.read{H:Hp}{D:SD}{σ:St}{F:List Addr}(st:aj H D σ F):∀ {os:List Opd}{vs:List V}{R:List Addr}{ds:List Vl},dy H σ os vs R->cY D os=some ds->eg H ds vs
 | [],_,_,_,h,e=>by cases e;exact h.1
 | o::os,_,_,_,h,e=>by
  obtain⟨v,r,R1,R2,rfl,h1,h2,rfl⟩:=h;obtain⟨d,e1,e2⟩:=Z9.mp e;obtain⟨ds,e3,e4⟩:=Z5.mp e2;cases e4;exact⟨v,r,rfl,h1.read st e1,dy.read st h2 e3⟩
def bb:List Opd->SD->Option (List Vl×SD)
 | [],D=>some ([],D)
 | .vl d::os,D=>(bb os D).map fun p=>(d::p.1,p.2)
 | .sl i::os,D=>(bK i D).bind fun p=>(bb os p.2).map fun q=>(p.1::q.1,q.2)
theorem oA{i:Nat}(st:aj H D σ F)(h:bK i D=some (d,D')):∃ v F1 R,σ[i]?=some (some v)/\Own H d v R/\aj H D' σ F1/\(F1++R).Perm F:=by
 unfold bK at h;split at h
 ·rename_i e hd;split at h
  ·rename_i hc;cases h;obtain⟨v,h1,h2⟩:=st.cp hd hc;exact⟨v,F,[],h1,h2,st,by rw[ZZ]⟩
  ·cases h;obtain⟨v,F1,F2,h1,h2,h3,h4⟩:=st.out hd;exact⟨v,F2,F1,h1,h2,h3,h4⟩
 ·cases h
theorem dz:(A++(B++C)).Perm (B++(A++C)):=by
 rw[<- Z7,<- Z7];exact ZK _ Z1
theorem eh{H:Hp}{σ:St}:∀ {os:List Opd}{vs:List V}{R F:List Addr}{D D':SD}{ds:List Vl},aj H D σ F->dy H σ os vs R->bb os D=some (ds,D')->∃ F1 R1,aj H D' σ F1/\aI H ds vs R1/\(F1++R1).Perm (F++R)
 | [],_,_,F,_,_,_,st,h,e=>by
  cases e;exact⟨F,[],st,⟨h.1,rfl⟩,by rw[h.2]⟩
 | .vl d::os,_,_,F,D,_,_,st,h,e=>by
  obtain⟨v,r,R1,R2,rfl,h1,h2,rfl⟩:=h;rw[bb] at e;obtain⟨p,e3,e4⟩:=Z5.mp e;cases e4;obtain⟨F1,R3,g1,g2,g3⟩:=eh (D':=p.2) (ds:=p.1) st h2 e3;exact⟨F1,R1++R3,g1,⟨v,r,R1,R3,rfl,h1,g2,rfl⟩,dz.trans<|(ZT _ g3).trans dz⟩
 | .sl i::os,_,_,F,D,_,_,st,h,e=>by
  obtain⟨v,r,R1,R2,rfl,⟨h1,rfl⟩,h2,rfl⟩:=h;rw[bb] at e;obtain⟨⟨d,D1⟩,e1,e2⟩:=Z9.mp e;obtain⟨p,e3,e4⟩:=Z5.mp e2;cases e4;obtain⟨v',F1,R3,g1,g2,g3,g4⟩:=oA st e1;rw[h1] at g1;cases g1;obtain⟨F2,R4,k1,k2,k3⟩:=eh (D':=p.2) (ds:=p.1) g3 h2 e3;refine⟨F2,R3++R4,k1,⟨v,r,R3,R4,rfl,g2,k2,rfl⟩,dz.trans<|(ZT _ k3).trans ?_⟩;rw[<- Z7];exact ZK _ (Z1.trans g4)
@[simp] def wb:List Opd->List Vl->SD->SD
 | .sl i::os,d::ds,D=>wb os ds (match D[i]? with | some (some .jk)=>D.set i (some d) | _=>D)
 | .vl _::os,_::ds,D=>wb os ds D
 | _,_,D=>D
theorem jd{H H0:Hp}{σ:St}:∀ {os:List Opd}{ds:List Vl}{vs:List V}{R F S:List Addr}{D:SD},aj H D σ F->dy H0 σ os vs S->aI H ds vs R->∃ F1 R1,aj H (wb os ds D) σ F1/\(F1++R1).Perm (F++R)
 | [],ds,_,R,F,_,D,st,_,_=>⟨F,R,by unfold wb;exact st,ZI _⟩
 | .vl _::os,[],_,R,F,_,D,st,_,_=>⟨F,R,by unfold wb;exact st,ZI _⟩
 | .sl _::os,[],_,R,F,_,D,st,_,_=>⟨F,R,by unfold wb;exact st,ZI _⟩
 | .vl _::os,d::ds,_,R,F,_,D,st,h,w=>by
  obtain⟨v,r,S1,S2,rfl,h1,h2,rfl⟩:=h;obtain⟨v',r',R1,R2,e,w1,w2,rfl⟩:=w;cases e;obtain⟨F1,R3,g1,g2⟩:=jd (D:=D) st h2 w2;refine⟨F1,R1++R3,by rw[wb];exact g1,dz.trans<|(ZT _ g2).trans dz⟩
 | .sl i::os,d::ds,_,R,F,_,D,st,h,w=>by
  obtain⟨v,r,S1,S2,rfl,⟨h1,_⟩,h2,rfl⟩:=h;obtain⟨v',r',R1,R2,e,w1,w2,rfl⟩:=w;cases e;rw[wb];split
  ·obtain⟨F1,G,g1,g2⟩:=st.back w1 h1;obtain⟨F2,R3,k1,k2⟩:=jd g1 h2 w2;refine⟨F2,R3++G,k1,?_⟩;rw[<- Z7,<- Z7];refine (ZK _ k2).trans ?_;rw[Z7];refine (ZT _ Z1).trans ?_;rw[<- Z7];exact ZK _ g2
  ·obtain⟨F1,R3,g1,g2⟩:=jd st h2 w2;exact⟨F1,R1++R3,g1,dz.trans<|(ZT _ g2).trans dz⟩
def ims:List Vl->Option (List Im)
 | []=>some []
 | .im d::ds=>(ims ds).map fun r=>d::r
 | _::_=>none
@[simp] def mkT(ds:List Vl):Vl:=match ims ds with
 | some is=>.im (.tup is)
 | none=>.Ib ds
@[simp] def mkL(ds:List Vl):Vl:=match ims ds with
 | some is=>.lst is
 | none=>.Co ds
theorem kU{H:Hp}:∀ {ds:List Vl}{vs:List V}{R:List Addr}{is:List Im},aI H ds vs R->ims ds=some is->am H is vs/\R=[]
 | [],_,_,_,h,e=>by cases e;exact h
 | .im d::ds,_,_,_,h,e=>by
  obtain⟨v,r,R1,R2,rfl,⟨h1,rfl⟩,h2,rfl⟩:=h;rw[ims] at e;obtain⟨p,e3,e4⟩:=Z5.mp e;cases e4;obtain⟨g1,rfl⟩:=kU h2 e3;exact⟨⟨v,r,rfl,h1,g1⟩,rfl⟩
 | .jk::_,_,_,_,_,e=>by rw[ims] at e;cases e;all_goals (intro _ z;cases z)
 | .fz _::_,_,_,_,_,e=>by rw[ims] at e;cases e;all_goals (intro _ z;cases z)
 | .lst _::_,_,_,_,_,e=>by rw[ims] at e;cases e;all_goals (intro _ z;cases z)
 | .dK _::_,_,_,_,_,e=>by rw[ims] at e;cases e;all_goals (intro _ z;cases z)
 | .dT _::_,_,_,_,_,e=>by rw[ims] at e;cases e;all_goals (intro _ z;cases z)
 | .Co _::_,_,_,_,_,e=>by rw[ims] at e;cases e;all_goals (intro _ z;cases z)
 | .J9 _ _::_,_,_,_,_,e=>by rw[ims] at e;cases e;all_goals (intro _ z;cases z)
 | .Ib _::_,_,_,_,_,e=>by rw[ims] at e;cases e;all_goals (intro _ z;cases z)
 | .obj _ _ _::_,_,_,_,_,e=>by rw[ims] at e;cases e;all_goals (intro _ z;cases z)
@[simp] def aG(g:M (List Opd)):M Vl:=fun D=>(g D).bind fun p=>(bb p.1 p.2).bind fun q=>if q.1.length<=100000 then some (mkT q.1,q.2) else none
@[simp] def aY(g:M (List Opd)):M Vl:=fun D=>(g D).bind fun p=>(bb p.1 p.2).bind fun q=>if q.1.length<=100000 then some (mkL q.1,q.2) else none
theorem wx{ds:List Vl}(s:aF H H')(h:aI H ds vs R)(e:H' p=some (.tup vs)):∃ R',Own H' (mkT ds) (.ref p) R'/\R'=R:=by
 unfold mkT;split
 ·rename_i is hi;obtain⟨g1,rfl⟩:=kU h hi;exact⟨[],⟨⟨p,vs,rfl,e,g1.mono s.tupS.tup⟩,rfl⟩,rfl⟩
 ·exact⟨R,⟨p,vs,rfl,e,h.mono s.tupS fun a _ o q=>s a o q⟩,rfl⟩
theorem wy{ds:List Vl}(s:aF H H')(h:aI H ds vs R)(e:H' p=some (.lst vs)):Own H' (mkL ds) (.ref p) (p::R):=by
 unfold mkL;split
 ·rename_i is hi;obtain⟨g1,rfl⟩:=kU h hi;exact⟨p,vs,rfl,e,g1.mono s.tupS.tup,rfl⟩
 ·exact⟨p,vs,R,rfl,e,h.mono s.tupS fun a _ o q=>s a o q,rfl⟩
theorem ej(h:n<=100000):n<=sizeLine:=Zo h (by decide)
theorem n_.add{o:HO}(a:n_ H F H1 A)(fr:H1 p=none)(c:∀ x∈A,DU H1 x):n_ H F (upd H1 p o) (A++[p]):=by
 have s:aF H1 (upd H1 p o):=(aF.refl H1).upd fr;have:=n_.new (R:=[]) (R':=[p]) (by rw[ZZ];exact a) s (ZB _ _) (fun x hx=>by rw[ZW.mp hx];exact fr) c;exact this
theorem n_.same(a:n_ H F H1 A)(s:aF H1 H2):n_ H F H2 A:=
 ⟨fun x o e hx=>s _ _<|a.keep x o e hx,a.sub,a.nd,a.tup.trans s.tupS,fun x o e=>let ⟨o',e'⟩:=a.grow x o e;⟨o',s _ _ e'⟩⟩
section
variable{X:Cx}
theorem aR{x1}(h:VA X es g):VE X (.Tuple es x1 pos) (aG g):=by
 refine aQ (ni h) fun σ H Q ⟨D,F,r,D',st,nd,hg,q⟩=>?_;obtain⟨⟨os,D1⟩,h1,h2⟩:=Z9.mp hg;obtain⟨⟨ds,D2⟩,h3,h4⟩:=Z9.mp h2;refine⟨D,F,os,D1,st,nd,h1,fun vs H1 F1 R1 s_ o1 s1=>?_⟩;obtain⟨F2,R2,o_,ow,pm⟩:=eh s_ o1 h3;split at h4
 ·rename_i hl;cases h4;have Ee:vs.length<=100000:=by rw[<- ow.length];exact hl
  refine⟨ej Ee,fun p hp=>?_⟩;have s:aF H1 (upd H1 p<|.tup vs):=(aF.refl H1).upd hp;obtain⟨R',g1,rfl⟩:=wx s ow bo;exact q _ _ F2 R' (o_.mono s.tupS fun a _ o e=>s a o e) g1 ((s1.B_ pm.symm).same s)
 ·cases h4
theorem bv(h:VA X es g):VE X (.List es pos) (aY g):=by
 refine aQ (uN h) fun σ H Q ⟨D,F,r,D',st,nd,hg,q⟩=>?_;obtain⟨⟨os,D1⟩,h1,h2⟩:=Z9.mp hg;obtain⟨⟨ds,D2⟩,h3,h4⟩:=Z9.mp h2;refine⟨D,F,os,D1,st,nd,h1,fun vs H1 F1 R1 s_ o1 s1=>?_⟩;obtain⟨F2,R2,o_,ow,pm⟩:=eh s_ o1 h3;split at h4
 ·rename_i hl;cases h4;have Ee:vs.length<=100000:=by rw[<- ow.length];exact hl
  refine⟨ej Ee,fun p hp=>?_⟩;have s:aF H1 (upd H1 p<|.lst vs):=(aF.refl H1).upd hp;have g1:=wy s ow (p:=p) bo;refine q _ _ F2 (p::R2) (o_.mono s.tupS fun a _ o e=>s a o e) g1 (((s1.B_ pm.symm).add hp fun x hx=>?_).B_ ?_)
  ·rcases ZE.mp hx with hx | hx
   ·exact o_.chg x hx
   ·exact ow.chg x hx
  ·rw[Z7];exact ZT _ Z1
 ·cases h4
def cF(X:Cx)(f:Value)(op:List Vl->Option Vl):Prop:=
 aX X f fun xs H Q=>∃ ds d,eg H ds xs/\op ds=some d/\∀ v H' R,aF H H'->Own H' d v R->R.Nodup->(∀ a∈R,H a=none)->Q v H'
@[simp] def aA(op:List Vl->Option Vl)(g:M (List Opd)):M Vl:=fun D=>(g D).bind fun p=>(cY p.2 p.1).bind fun ds=>(op ds).map fun d=>(d,p.2)
theorem oC(h:tV (aA op g) σ H Q):
  tA g σ H fun xs H1=>∃ ds d,eg H1 ds xs/\op ds=some d/\∀ v H' R,aF H1 H'->Own H' d v R->R.Nodup->(∀ a∈R,H1 a=none)->Q v H':=by
 obtain⟨D,F,r,D',st,nd,hg,q⟩:=h;obtain⟨⟨os,D1⟩,h1,h2⟩:=Z9.mp hg;obtain⟨ds,h3,h4⟩:=Z9.mp h2;obtain⟨d,h5,h6⟩:=Z5.mp h4;cases h6;refine⟨D,F,os,D1,st,nd,h1,fun vs H1 F1 R1 s_ o1 s1=>⟨ds,_,o1.read s_ h3,h5,fun v H2 R s2 ow Lp fr=>?_⟩⟩;exact q v H2 F1 R (s_.mono s2.tupS fun a _ o e=>s2 a o e) ow (s1.new s2 Lp fr s_.chg)
variable{p:Pos}
theorem bA{id:String}(hc:cF X (.builtin id) op)(hg:Gl X x)(hm:X.mg x=none)(hv:bootBuiltins x=some (.builtin id))(ha:VA X (e::es) g)(hn:x ≠ "__name__" := by decide)(DJ:(x == ("__debug__" : Str))=false:=by decide)(he:starEach (e::es) X.env=(false,eval e X.env)::starEach es X.env:=by rfl)(CP:(backTo pos<|starEach es X.env).any (·.1)=false:=by rfl):
  VE X (.Call (.Name x p) (e::es) [] pos) (aA op g):=aQ (iV hc hg hm hv ha hn DJ he CP) fun _ _ _ h=>oC h
theorem en{T:String}(hc:cF X (.type T) op)(hg:Gl X x)(hm:X.mg x=none)(hv:bootBuiltins x=some (.type T))(ha:VA X (e::es) g)(hn:x ≠ "__name__" := by decide)(DJ:(x == ("__debug__" : Str))=false:=by decide)(he:starEach (e::es) X.env=(false,eval e X.env)::starEach es X.env:=by rfl)(CP:(backTo pos<|starEach es X.env).any (·.1)=false:=by rfl):
  VE X (.Call (.Name x p) (e::es) [] pos) (aA op g):=aQ (uQ hc hg hm hv ha hn DJ he CP) fun _ _ _ h=>oC h
abbrev Fn:=List Vl->Option (Vl×List Vl)
def EK(n:Nat)(G:Fn):Sp:=fun vs H Q _=>vs.length=n/\∃ ds F r outs,aI H ds vs F/\F.Nodup/\G ds=some (r,outs)/\∀ v H' R R',Own H' r v R->aI H' outs vs R'->n_ H F H' (R++R')->Q v H'
@[simp] def ar(n:Nat)(G:Fn)(g:M (List Opd)):M Vl:=fun D=>(g D).bind fun p=>if p.1.length=n then (bb p.1 p.2).bind fun q=>(G q.1).map fun r=>(r.1,wb p.1 r.2 q.2) else none
theorem dy.length{H:Hp}{σ:St}:∀ {os:List Opd}{vs:List V}{R:List Addr},dy H σ os vs R->os.length=vs.length
 | [],_,_,h=>by rw[h.1];rfl
 | o::os,_,_,h=>by
  obtain⟨v,r,R1,R2,rfl,h1,h2,rfl⟩:=h;rw[ZC,ZC,dy.length h2]
theorem oD{G:Fn}{E:XK}(h:tV (ar n G g) σ H Q):ko (EK n G) [] E (tA g) σ H Q:=by
 obtain⟨D,F,r,D',st,nd,hg,q⟩:=h;obtain⟨⟨os,D1⟩,h1,h2⟩:=Z9.mp hg;split at h2
 ·rename_i hn;obtain⟨⟨ds,D2⟩,h3,h4⟩:=Z9.mp h2;obtain⟨⟨r',outs⟩,h5,h6⟩:=Z5.mp h4;cases h6;refine⟨D,F,os,D1,st,nd,h1,fun vs H1 F1 R1 s_ o1 s1=>?_⟩;obtain⟨F2,R2,o_,ow,pm⟩:=eh s_ o1 h3;have s2:=s1.B_ (pm.symm.trans Z1);rw[ZZ];refine⟨by rw[<- o1.length];exact hn,ds,R2,_,outs,ow,(ZM.mp s2.nd).1,h5,fun v H3 R R' w1 w2 s3=>?_⟩;have s4:=s2.trans s3 o_.chg;have J_:∀ a∈F2,a∉R2:=fun a ha hb=>(ZM.mp s2.nd).2.2 a hb a ha rfl;have Df:aj H3 D2 σ F2:=o_.mono s3.tup fun a ha o e=>s3.keep a o e (J_ a ha);obtain⟨F3,R3,Dv,IT⟩:=jd Df o1 w2;refine q v H3 F3 R Dv w1 (s4.less (C:=R3) ?_);refine List.Perm.trans ?_ Z1;rw[Z7];refine (ZT _ Z1).trans ?_;rw[<- Z7];refine (ZK _ IT).trans ?_;rw[Z7];exact ZT _ Z1
 ·cases h2
end
section
variable{X:Cx}
variable{k:Nat}
theorem oE{G:Fn}{f:Addr}{p:Pos}(F:B6 X.prog X.w X.K X.mg X.base DL k f fd ps (EK n G))(hr:z_ k X.A)(hg:Gl X x)(hm:X.mg x=some (.ref f))(hk:PySem.W.keepIn X.K (.ref f)=true)(hb:cf X.K fd ps [])(ha:VA X (e::es) g)(DJ:(x == ("__debug__" : Str))=false:=by decide)(he:starEach (e::es) X.env=(false,eval e X.env)::starEach es X.env:=by rfl)(CP:(backTo pos<|starEach es X.env).any (·.1)=false:=by rfl):
  VE X (.Call (.Name x p) (e::es) [] pos) (ar n G g):=aQ (uP F hr hg hm hk hb .nil vy ha DJ he CP) fun _ _ _ h=>oD h
inductive Fl where
 | nx | rt (d:Vl) | bk | ct
abbrev MS:=SD->Option (Fl×SD)
def aH(fix:List Nat)(σ σ':St):Prop:=σ'.length=σ.length/\∀ i∈fix,σ'[i]?=σ[i]?
theorem aH.refl{fix:List Nat}{σ:St}:aH fix σ σ:=⟨rfl,fun _ _=>rfl⟩
theorem aH.trans{σ2:St}(a:aH fix σ σ1)(b:aH fix σ1 σ2):aH fix σ σ2:=⟨b.1.trans a.1,fun i hi=>(b.2 i hi).trans<|a.2 i hi⟩
theorem aH.set{v:Option V}(h:j∉fix):aH fix σ (σ.set j v):=⟨XX,fun i hi=>Y7 fun e=>h (by rw[e];exact hi)⟩
def IU(fix:List Nat)(E:Ends)(σ:St)(H:Hp)(F:List Addr)(D':SD):Fl->Prop
 | .nx=>∀ σ' H' F',aH fix σ σ'->aj H' D' σ' F'->n_ H F H' F'->E.nx σ' H'
 | .bk=>∀ σ' H' F',aH fix σ σ'->aj H' D' σ' F'->n_ H F H' F'->E.bk σ' H'
 | .ct=>∀ σ' H' F',aH fix σ σ'->aj H' D' σ' F'->n_ H F H' F'->E.ct σ' H'
 | .rt d=>∀ v σ' H' F' R,aH fix σ σ'->aj H' D' σ' F'->Own H' d v R->n_ H F H' (F'++R)->E.rt v H'
def tS(fix:List Nat)(g:MS):TS:=fun E σ H=>∃ D F fl D',aj H D σ F/\F.Nodup/\g D=some (fl,D')/\IU fix E σ H F D' fl
def VS(X:Cx)(fix:List Nat)(st:Stmt)(g:MS):Prop:=∀ ⦃p⦄,Mr X st (tS fix g) p
def DV(X:Cx)(fix:List Nat)(Eg:List Stmt)(g:MS):Prop:=∀ ⦃p⦄,mT X Eg (tS fix g) p
variable{t':TS}
theorem dA{t:TS}(h:PS X st t)(i:∀ E σ H,t' E σ H->t E σ H):PS X st t':=fun pins s σ H D I hw=>h pins s σ H D I (i D σ H hw)
theorem fo{st:List Stmt}{t:TS}(h:DG X st t)(i:∀ E σ H,t' E σ H->t E σ H):DG X st t':=fun pins s σ H D I hw=>h pins s σ H D I (i D σ H hw)
theorem IU.on{fl:Fl}(h:IU fix E σ H F D' fl)(fx:aH fix σ σ1)(s:n_ H F H1 F1):IU fix E σ1 H1 F1 D' fl:=by
 cases fl with
 | nx=>exact fun σ' H' F' f st s'=>h σ' H' F' (fx.trans f) st (s.seq s')
 | bk=>exact fun σ' H' F' f st s'=>h σ' H' F' (fx.trans f) st (s.seq s')
 | ct=>exact fun σ' H' F' f st s'=>h σ' H' F' (fx.trans f) st (s.seq s')
 | rt d=>exact fun v σ' H' F' R f st ow s'=>h v σ' H' F' R (fx.trans f) st ow (s.seq s')
def sNil:MS:=fun D=>some (.nx,D)
@[simp] def ak(g h:MS):MS:=fun D=>(g D).bind fun p=>match p.1 with
 | .nx=>h p.2
 | fl=>some (fl,p.2)
theorem ck:DV X fix [] sNil:=by
 refine fo sZ fun E σ H ⟨D,F,fl,D',st,nd,hg,q⟩=>?_;cases hg;exact q σ H F aH.refl st (n_.perm nd<|ZI _)
variable{g:MS}
theorem aB(h:VS X fix st g):DV X fix [st] g:=tf h
theorem wz{h:MS}(w:tS fix (ak g h) E σ H):mZ (tS fix g) (tS fix h) E σ H:=by
 obtain⟨D,F,fl,D',st,nd,hg,q⟩:=w;obtain⟨⟨f1,D1⟩,h1,h2⟩:=Z9.mp hg;cases f1 with
 | nx=>exact⟨D,F,.nx,D1,st,nd,h1,fun σ' H' F' fx e_ s=>⟨D1,F',fl,D',e_,s.nd,h2,q.on fx s⟩⟩
 | bk=>cases h2;exact⟨D,F,.bk,D1,st,nd,h1,q⟩
 | ct=>cases h2;exact⟨D,F,.ct,D1,st,nd,h1,q⟩
 | rt d=>cases h2;exact⟨D,F,.rt d,D1,st,nd,h1,q⟩
theorem ao{Eg:List Stmt}{h:MS}(h1:VS X fix st g)(h2:DV X fix Eg h):DV X fix (st::Eg) (ak g h):=fo (gJ h1 h2) fun _ _ _ w=>wz w
def Fv:MS:=fun _=>none
theorem wA:VS X fix st Fv:=dA tz fun _ _ _ ⟨_,_,_,_,_,_,h,_⟩=>by cases h
@[simp] def er(g:M Vl):MS:=fun D=>(g D).map fun p=>(.nx,p.2)
variable{g:M Vl}
theorem je(h:VE X e g)(hs:swapsWith e none pos.line X.env=pure false:=by rfl):VS X fix (.Expr e pos) (er g):=by
 refine dA (tm h hs) fun E σ H ⟨D,F,fl,D',st,nd,hg,q⟩=>?_;obtain⟨⟨r,D1⟩,h1,h2⟩:=Z5.mp hg;cases h2;exact⟨D,F,r,_,st,nd,h1,fun v H' F' R e_ ow s=>q σ H' F' aH.refl e_<|s.less<|ZI _⟩
@[simp] def aO(g:M Vl):MS:=fun D=>(g D).map fun p=>(.rt p.1,p.2)
theorem bf(h:VE X e g):VS X fix (.Return (some e) pos) (aO g):=by
 refine dA (tu h) fun E σ H ⟨D,F,fl,D',st,nd,hg,q⟩=>?_;obtain⟨⟨r,D1⟩,h1,h2⟩:=Z5.mp hg;cases h2;exact⟨D,F,r,_,st,nd,h1,fun v H' F' R e_ ow s=>q v σ H' F' R aH.refl e_ ow s⟩
@[simp] def sIf(c:M Bool)(a b:MS):MS:=fun D=>(c D).bind fun p=>if p.1=true then a p.2 else b p.2
variable{gb:MS}
theorem cn{a b:List Stmt}{ga:MS}(hc:VT X c gc)(ha:DV X fix a ga)(hb:DV X fix b gb):VS X fix (.If c a b pos) (sIf gc ga gb):=by
 refine dA (m5 hc ha hb) fun E σ H ⟨D,F,fl,D',st,nd,hg,q⟩=>?_;obtain⟨⟨t,D1⟩,h1,h2⟩:=Z9.mp hg;refine⟨D,F,t,D1,st,nd,h1,fun H1 F1 s_ s1=>?_⟩;cases t with
 | true=>
  rw[Z0 rfl] at h2 ⊢;exact⟨D1,F1,fl,D',s_,s1.nd,h2,q.on aH.refl s1⟩
 | false=>
  rw[ZX ZJ] at h2 ⊢;exact⟨D1,F1,fl,D',s_,s1.nd,h2,q.on aH.refl s1⟩
@[simp] def aw(i:Nat)(g:M Vl):MS:=fun D=>(g D).bind fun p=>if i<p.2.length then some (.nx,p.2.set i<|some p.1) else none
variable{i:Nat}
theorem aC{pos':Pos}(hN:X.N.Nodup)(hi:X.N[i]?=some x)(hx:Loc X.env.scope x)(he:VE X e g)(hf:i∉fix)(hs:swapsWith e (some<|.Name x pos') pos.line X.env=pure false:=by rfl)(Fb:X.fn x=true\/X.env.scope.names.lookup x=some .local:=by first | exact .inl rfl | exact .inr rfl | assumption):VS X fix (.Assign [.Name x pos'] e pos) (aw i g):=by
 refine dA (m7 hN hi hx he hs Fb) fun E σ H ⟨D,F,fl,D',st,nd,hg,q⟩=>?_;obtain⟨⟨r,D1⟩,h1,h2⟩:=Z9.mp hg;split at h2
 ·rename_i hl;cases h2;refine⟨D,F,r,_,st,nd,h1,fun v H1 F1 R s_ ow s1=>?_⟩;obtain⟨F2,R2,o_,pm⟩:=s_.put (i:=i) ow hl;exact q _ H1 F2 (aH.set hf) o_ (s1.less pm)
 ·cases h2
abbrev MG:=Vl->SD->Option SD
def tG(fix:List Nat)(g:MG):TG:=fun v σ H Q=>∃ D F d R D',aj H D σ F/\Own H d v R/\(F++R).Nodup/\g d D=some D'/\∀ σ' H' F',aH fix σ σ'->aj H' D' σ' F'->n_ H (F++R) H' F'->Q σ' H'
def VG(X:Cx)(fix:List Nat)(e:Expr)(g:MG):Prop:=∀ ⦃p⦄,Mt X e (tG fix g) p
theorem kW{t t':TG}(h:PG X e t)(i:∀ v σ H Q,t' v σ H Q->t v σ H Q):PG X e t':=fun pins s σ H x v Q I r hw=>h pins s σ H x v Q I r (i x σ H Q hw)
@[simp] def gN(i:Nat):MG:=fun d D=>if i<D.length then some (D.set i<|some d) else none
theorem bg(hN:X.N.Nodup)(hi:X.N[i]?=some x)(hx:Loc X.env.scope x)(hf:i∉fix)(Fb:X.fn x=true\/X.env.scope.names.lookup x=some .local:=by first | exact .inl rfl | exact .inr rfl | assumption):VG X fix (.Name x pos) (gN i):=by
 refine kW (tB hN hi hx Fb) fun v σ H Q ⟨D,F,d,R,D',st,ow,nd,hg,q⟩=>?_;unfold gN at hg;split at hg
 ·rename_i hl;cases hg;obtain⟨F2,R2,o_,pm⟩:=st.put (i:=i) ow hl;exact q _ H F2 (aH.set hf) o_ ((n_.perm nd<|ZI _).less pm)
 ·cases hg
def N2(fix:List Nat)(g:List Vl->SD->Option SD):FK:=fun vs σ H Q=>∃ D F ds R D',aj H D σ F/\aI H ds vs R/\(F++R).Nodup/\g ds D=some D'/\∀ σ' H' F',aH fix σ σ'->aj H' D' σ' F'->n_ H (F++R) H' F'->Q σ' H'
def Ka(X:Cx)(fix:List Nat)(es:List Expr)(g:List Vl->SD->Option SD):Prop:=∀ ⦃p⦄,m6 X es (N2 fix g) p
@[simp] def gNil':List Vl->SD->Option SD
 | [],D=>some D
 | _,_=>none
@[simp] def cq(g:MG)(h:List Vl->SD->Option SD):List Vl->SD->Option SD
 | d::ds,D=>(g d D).bind (h ds)
 | _,_=>none
theorem oF{t t':FK}(h:HU X es t)(i:∀ v σ H Q,t' v σ H Q->t v σ H Q):HU X es t':=fun pins s σ H xs vs Q I r hw=>h pins s σ H xs vs Q I r (i xs σ H Q hw)
theorem jf:Ka X fix [] gNil':=by
 refine oF tE fun vs σ H Q ⟨D,F,ds,R,D',st,ow,nd,hg,q⟩=>?_;cases ds with
 | cons d ds=>cases hg
 | nil=>
  cases hg;exact⟨ow.1,q σ H F aH.refl st<|(n_.perm nd<|ZI _).less<|ZI _⟩
theorem et{g:MG}(h1:VG X fix e g)(h2:Ka X fix es h)(hs:(assignEach (e::es) X.env).map (·.2)=assign e X.env::(assignEach es X.env).map (·.2):=by rfl):Ka X fix (e::es) (cq g h):=by
 refine oF (tF h1 h2 hs) fun vs σ H Q ⟨D,F,ds,R,D',st,ow,nd,hg,q⟩=>?_;cases ds with
 | nil=>cases hg
 | cons d ds=>
  obtain⟨v,r,R1,R2,rfl,w1,w2,rfl⟩:=ow;obtain⟨D1,g1,g2⟩:=Z9.mp (show (g d D).bind (h ds)=some D' from hg);have Fw:((F++R1)++R2).Nodup:=by rw[Z7];exact nd
  refine⟨v,r,rfl,D,F,d,R1,D1,st,w1,(ZM.mp Fw).1,g1,fun σ1 H1 F1 fx s_ s1=>?_⟩;have J_:∀ a∈R2,a∉F++R1:=fun a ha hb=>(ZM.mp Fw).2.2 a hb a ha rfl;have N3:aI H1 ds r R2:=w2.mono s1.tup fun a ha o e=>s1.keep a o e (J_ a ha);have s2:n_ H (F++(R1++R2)) H1 (F1++R2):=by
   refine⟨fun a o e ha=>s1.keep a o e fun h=>ha ?_,fun a ha=>?_,ZM.mpr ⟨s1.nd,(ZM.mp Fw).2.1,fun a ha b hb e=>?_⟩,s1.tup,s1.grow⟩
   ·rw[<- Z7];exact ZH _ h
   ·rcases ZE.mp ha with ha | ha
    ·rcases s1.sub a ha with h | h
     ·left;rw[<- Z7];exact ZH _ h
     ·exact .inr h
    ·left;rw[<- Z7];exact ZN _ ha
   ·subst e;rcases s1.sub a ha with h | h
    ·exact J_ a hb h
    ·obtain⟨o,e,_⟩:=w2.chg a hb;rw[e] at h;cases h
  exact⟨D1,F1,ds,R2,D',s_,N3,s2.nd,g2,fun σ2 H2 F2 Hz o_ s3=>q σ2 H2 F2 (fx.trans Hz) o_<|s2.seq s3⟩
@[simp] def gT(n:Nat)(h:List Vl->SD->Option SD):MG:=fun d D=>match d with
 | .im (.tup is)=>if is.length=n then h (is.map .im) D else none
 | .Ib ds=>if ds.length=n then h ds D else none
 | _=>none
theorem oG{H:Hp}:∀ {is:List Im}{vs:List V},am H is vs->aI H (is.map .im) vs []
 | [],vs,h=>⟨h,rfl⟩
 | d::is,vs,h=>by
  obtain⟨v,r,rfl,h1,h2⟩:=h;exact⟨v,r,[],[],rfl,⟨h1,rfl⟩,oG h2,rfl⟩
theorem jg(hc:X.calm=true)(hs:Ka X fix es h)(hn:(assignEach es X.env).length=n:=by rfl)(DH:(assignEach es X.env).findIdx? (·.1)=none:=by rfl):VG X fix (.Tuple es k pos) (gT n h):=by
 refine kW (tK hc hs hn DH) fun v σ H Q ⟨D,F,d,R,D',st,ow,nd,hg,q⟩=>?_;unfold gT at hg;split at hg
 ·rename_i is;split at hg
  ·rename_i hl;obtain⟨⟨a,xs,rfl,h1,h2⟩,rfl⟩:=ow;exact⟨a,xs,rfl,BG.of h1,by rw[<- h2.length];exact hl,D,F,_,[],D',st,oG h2,nd,hg,q⟩
  ·cases hg
 ·rename_i ds;split at hg
  ·rename_i hl;obtain⟨a,xs,rfl,h1,h2⟩:=ow;exact⟨a,xs,rfl,BG.of h1,by rw[<- h2.length];exact hl,D,F,_,R,D',st,h2,nd,hg,q⟩
  ·cases hg
 ·cases hg
@[simp] def cG(g:M Vl)(h:MG):MS:=fun D=>(g D).bind fun p=>(h p.1 p.2).map fun D'=>(.nx,D')
theorem dS{h:MG}(he:VE X e g)(hg:VG X fix tg h)(hs:swapsWithSole [tg] e pos.line X.env=pure false:=by rfl)(hw:swappedStores [tg] e X.env=pure none:=by rfl)(h1:(assignEach [tg] X.env).map (·.2)=[assign tg X.env]:=by rfl):VS X fix (.Assign [tg] e pos) (cG g h):=by
 refine dA (tN he hg hs hw h1) fun E σ H ⟨D,F,fl,D',st,nd,Di,q⟩=>?_;obtain⟨⟨r,D1⟩,g1,g2⟩:=Z9.mp Di;obtain⟨D2,g3,g4⟩:=Z5.mp g2;cases g4;exact⟨D,F,r,D1,st,nd,g1,fun v H1 F1 R s_ ow s1=>⟨D1,F1,r,R,_,s_,ow,s1.nd,g3,fun σ' H' F' fx e_ s2=>q σ' H' F' fx e_<|s1.seq s2⟩⟩
@[simp] def eu(i j:Nat)(g:M (List Opd)):MS:=fun D=>(g D).bind fun p=>(bb p.1 p.2).bind fun q=>match q.1 with
 | [d1,d2]=>if i<q.2.length/\j<q.2.length then some (.nx,(q.2.set i<|some d1).set j<|some d2) else none
 | _=>none
theorem kX{y:Str}{g:M (List Opd)}{px py pt:Pos}{kt k2 G_}(hc:X.calm=true)(hN:X.N.Nodup)(hi:X.N[i]?=some x)(hj:X.N[j]?=some y)(Dc:i≠j)(hx:X.env.scope.names.lookup x=some .local)(hy:X.env.scope.names.lookup y=some .local)(ha:VA X [a,b] g)(N4:i∉fix)(N5:j∉fix)(hw:swappedStores [.Tuple [.Name x px,.Name y py] kt pt] (.Tuple [a,b] k2 G_) X.env=pure (some [x,y]))(hs:swapsWithSole [.Tuple [.Name x px,.Name y py] kt pt] (.Tuple [a,b] k2 G_) pos.line X.env=pure false:=by rfl):
  VS X fix (.Assign [.Tuple [.Name x px,.Name y py] kt pt] (.Tuple [a,b] k2 G_) pos) (eu i j g):=by
 refine dA (tR hc hN hi hj Dc hx hy ha hw hs) fun E σ H ⟨D,F,fl,D',st,nd,hg,q⟩=>?_;obtain⟨⟨os,D1⟩,h1,h2⟩:=Z9.mp hg;obtain⟨⟨ds,D2⟩,h3,h4⟩:=Z9.mp h2;refine⟨D,F,os,D1,st,nd,h1,fun vs H1 F1 R1 s_ o1 s1=>?_⟩;obtain⟨F2,R2,o_,ow,pm⟩:=eh s_ o1 h3;dsimp only at h4;split at h4
 ·rename_i d1 d2 e;split at h4
  ·rename_i hl;cases h4;obtain⟨v,r,A,B,rfl,w1,w2,rfl⟩:=ow;obtain⟨u,r',A',B',rfl,w3,⟨rfl,rfl⟩,rfl⟩:=w2;obtain⟨F3,G3,Df,IV⟩:=o_.put (i:=i) w1 hl.1;obtain⟨F4,G4,Dv,IT⟩:=Df.put (i:=j) w3 (by rw[XX];exact hl.2);refine⟨v,u,rfl,q _ H1 F4 ((aH.set N4).trans<|aH.set N5) Dv<|(s1.B_ pm.symm).less (C:=G4++G3) ?_⟩;rw[<- Z7,ZZ,<- Z7];refine (ZK G3 IT).trans ?_;rw[Z7];refine (ZT F3 Z1).trans ?_;rw[<- Z7];exact ZK _ IV
  ·cases h4
 ·cases h4
def dB(c:M Bool)(b:MS):Nat->MS
 | 0=>fun _=>none
 | n+1=>fun D=>(c D).bind fun p=>if p.1=true then (b p.2).bind fun q=>match q.1 with
  | .nx=>dB c b n q.2
  | .ct=>dB c b n q.2
  | .bk=>some (.nx,q.2)
  | .rt d=>some (.rt d,q.2) else some (.nx,p.2)
theorem oH(n:Nat)(hp:PassesOwn (model X.prog X.w) X.A X.env X.xe)(hc:VT X c gc)(hb:DV X fix body gb):VS X fix (.While c body [] pos) (dB gc gb n):=by
 refine dA (tU hp hc hb) fun E σ H ⟨D,F,fl,D',st,nd,hg,q⟩=>?_;refine⟨fun m σ' H'=>∃ Dd F',aj H' Dd σ' F'/\aH fix σ σ'/\n_ H F H' F'/\dB gc gb m Dd=some (fl,D'),⟨n,D,F,st,aH.refl,n_.perm nd<|ZI _,hg⟩,?_⟩;rintro m σ1 H1 ⟨D1,F1,s_,IW,s1,w⟩;cases m with
 | zero=>cases w
 | succ m=>
  rw[dB] at w;obtain⟨⟨t,D2⟩,w1,w2⟩:=Z9.mp w;refine⟨D1,F1,t,D2,s_,s1.nd,w1,fun H2 F2 o_ s2=>?_⟩;cases t with
  | false=>
   rw[ZX ZJ] at w2 ⊢;cases w2;exact q σ1 H2 F2 IW o_ (s1.seq s2)
  | true=>
   rw[Z0 rfl] at w2 ⊢;obtain⟨⟨f,D3⟩,w3,w4⟩:=Z9.mp w2;refine⟨fun σ' H'=>∃ Dd F',aj H' Dd σ' F'/\aH fix σ σ'/\n_ H F H' F'/\dB gc gb m Dd=some (fl,D'),fun σ' H' h=>⟨m,Nat.lt_succ_self m,h⟩,D2,F2,f,D3,o_,s2.nd,w3,?_⟩;cases f with
   | nx=>exact fun σ' H' F' fx e_ s'=>⟨D3,F',e_,IW.trans fx,(s1.seq s2).seq s',w4⟩
   | ct=>exact fun σ' H' F' fx e_ s'=>⟨D3,F',e_,IW.trans fx,(s1.seq s2).seq s',w4⟩
   | bk=>
    cases w4;exact fun σ' H' F' fx e_ s'=>q σ' H' F' (IW.trans fx) e_ ((s1.seq s2).seq s')
   | rt d=>
    cases w4;exact fun v σ' H' F' R fx e_ ow s'=>q v σ' H' F' R (IW.trans fx) e_ ow ((s1.seq s2).seq s')
structure D9(J:It)(H:Hp)(R:List Addr)(ds:List Im):Prop where
 go:∀ H',BD H H'->(∀ a∈R,∀ o,H a=some o->H' a=some o)->∀ (i:Nat) (d:Im),ds[i]?=some d->J.go i H'/\∀ x GL,J.Ip i H' x GL->aF H' GL/\BI GL d x
 stop:∀ H',BD H H'->(∀ a∈R,∀ o,H a=some o->H' a=some o)->J.stop ds.length H'
def gY(H:Hp)(σ:St)(R:List Addr):Option (Nat×Vl)->Prop
 | none=>True
 | some (i,d)=>∃ v,σ[i]?=some (some v)/\Own H d v R
def tI(g:M (List Im×Option (Nat×Vl))):TI:=fun σ H Rk=>∃ D F r D',aj H D σ F/\F.Nodup/\g D=some (r,D')/\∀ J H' F' R,aj H' D' σ F'->D9 J H' R r.1->gY H' σ R r.2->(∀ a∈R,DU H' a)->n_ H F H' (F'++R)->Rk J H'
def VI(X:Cx)(tg iter:Expr)(g:M (List Im×Option (Nat×Vl))):Prop:=∀ ⦃p⦄,Mv X tg iter (tI g) p
theorem kY{t t':TI}(h:PI X tg iter t)(i:∀ σ H R,t' σ H R->t σ H R):PI X tg iter t':=fun pins s σ H R I hw=>h pins s σ H R I (i σ H R hw)
def bn(tg:MG)(b:MS):List Im->MS
 | []=>fun D=>some (.nx,D)
 | x::r=>fun D=>(tg (.im x) D).bind fun D1=>(b D1).bind fun q=>match q.1 with
  | .nx=>bn tg b r q.2
  | .ct=>bn tg b r q.2
  | .bk=>some (.nx,q.2)
  | .rt d=>some (.rt d,q.2)
@[simp] def rst:Option (Nat×Vl)->SD->SD
 | none,D=>D
 | some (i,d),D=>match D[i]? with
  | some (some .jk)=>D.set i (some d)
  | _=>D
@[simp] def b8(g:M (List Im×Option (Nat×Vl)))(tg:MG)(b:MS):MS:=fun D=>(g D).bind fun p=>(bn tg b p.1.1 p.2).map fun q=>(q.1,rst p.1.2 q.2)
theorem kZ{o:Option (Nat×Vl)}(st:aj H D σ F)(h:gY H σ R o):∃ F1 G,aj H (rst o D) σ F1/\(F1++G).Perm (F++R):=by
 cases o with
 | none=>exact⟨F,R,st,ZI _⟩
 | some p=>
  obtain⟨i,d⟩:=p;obtain⟨v,h1,h2⟩:=h;unfold rst;dsimp only;split
  ·exact st.back h2 h1
  ·exact⟨F,R,st,ZI _⟩
def fq(fx:List Nat):Option (Nat×Vl)->Prop
 | none=>True
 | some (i,_)=>i∈fx
theorem wB{g:M (List Im×Option (Nat×Vl))}{gt:MG}(hp:PassesOwn (model X.prog X.w) X.A X.env X.xe)(hc:X.calm=true)(hi:VI X tg iter g)(hg:VG X fx tg gt)(hb:DV X fx body gb)(hf:∀ i∈fix,i∈fx)(hs:∀ D r D',g D=some (r,D')->fq fx r.2)(MN:PS X (.For tg iter body [] pos) (m8 (tI g) (tG fx gt)<|tS fx gb)):VS X fix (.For tg iter body [] pos) (b8 g gt gb):=by
 refine dA MN fun E σ H ⟨D,F,fl,D',st,nd,Di,q⟩=>?_;obtain⟨⟨⟨ds,o⟩,D1⟩,h1,h2⟩:=Z9.mp Di;obtain⟨⟨f,D2⟩,h3,h4⟩:=Z5.mp h2;cases h4;refine⟨D,F,(ds,o),D1,st,nd,h1,fun J H1 F1 R s_ it ln cR s1=>?_⟩;have N6:fq fx o:=hs D _ _ h1;have Kb:=ZM.mp s1.nd;have keepR:∀ {H2:Hp}{F2:List Addr},n_ H1 F1 H2 F2->∀ a∈R,∀ u,H1 a=some u->H2 a=some u:=fun s a ha u e=>s.keep a u e fun h=>Kb.2.2 a h a ha rfl;have IX:∀ {H2:Hp}{F2:List Addr}{σ2:St},n_ H1 F1 H2 F2->aH fx σ σ2->gY H2 σ2 R o:=fun {H2 F2 σ2} s f=>by
  cases o with
  | none=>trivial
  | some p=>
   obtain⟨i,d⟩:=p;obtain⟨v,e1,e2⟩:=ln;exact⟨v,(f.2 i N6).trans e1,e2.mono s.tup<|keepR s⟩
 have MO:∀ {σ2:St},aH fx σ σ2->aH fix σ σ2:=fun f=>⟨f.1,fun i hi=>f.2 i<|hf i hi⟩;have leave:∀ {σ2:St}{H2:Hp}{F2:List Addr}{D2:SD},IU fix E σ H F (rst o D2) .nx->aH fx σ σ2->aj H2 D2 σ2 F2->n_ H1 F1 H2 F2->E.nx σ2 H2:=fun {σ2 H2 F2 D2} q f o_ s2=>by
  obtain⟨F3,G,Df,pm⟩:=kZ o_ (IX s2 f);exact q σ2 H2 F3 (MO f) Df ((s1.trans s2 cR).less pm)
 refine⟨fun i m σ' H'=>m+i=ds.length/\∃ Dd F',aH fx σ σ'/\aj H' Dd σ' F'/\n_ H1 F1 H' F'/\bn gt gb (ds.drop i) Dd=some (f,D2),⟨ds.length,rfl,D1,F1,aH.refl,s_,n_.perm Kb.1<|ZI _,h3⟩,?_⟩;rintro i m σ' H' ⟨hm,Dd,F',IY,e_,s',hw⟩;by_cases DN:i<ds.length
 ·obtain⟨Lq,hy⟩:=it.go H' s'.tup (keepR s') i ds[i] (by simp[DN]);rw[Zm DN,bn] at hw;obtain⟨D3,w1,w2⟩:=Z9.mp hw;obtain⟨⟨f2,D4⟩,w3,w4⟩:=Z9.mp w2;refine .inr ⟨Lq,fun σ2 H2=>(m - 1)+(i+1)=ds.length/\∃ Dd F',aH fx σ σ2/\aj H2 Dd σ2 F'/\n_ H1 F1 H2 F'/\bn gt gb (ds.drop<|i+1) Dd=some (f,D2),fun σ2 H2 h=>⟨m - 1,by lia,h⟩,fun x H2 hx=>?_⟩;obtain⟨sm,Lr⟩:=hy x H2 hx;have o_:=e_.mono sm.tupS fun a _ o e=>sm a o e;have s2:=s'.same sm;refine⟨Dd,F',.im ds[i],[],D3,o_,⟨Lr,rfl⟩,by rw[ZZ];exact s2.nd,w1,fun σ3 H3 F3 Gf Df sg=>?_⟩;have s3:n_ H1 F1 H3 F3:=s2.seq (by rw[ZZ] at sg;exact sg);refine⟨D3,F3,f2,D4,Df,s3.nd,w3,?_⟩;cases f2 with
  | nx=>exact fun σ4 H4 F4 HA Dv s4=>⟨by lia,D4,F4,(IY.trans Gf).trans HA,Dv,s3.seq s4,w4⟩
  | ct=>exact fun σ4 H4 F4 HA Dv s4=>⟨by lia,D4,F4,(IY.trans Gf).trans HA,Dv,s3.seq s4,w4⟩
  | bk=>
   cases w4;exact fun σ4 H4 F4 HA Dv s4=>leave q ((IY.trans Gf).trans HA) Dv (s3.seq s4)
  | rt d=>
   cases w4;intro v σ4 H4 F4 R4 HA Dv N7 s4;have s5:=s3.seq s4;have f5:=(IY.trans Gf).trans HA;obtain⟨F5,G5,CW,Gh⟩:=kZ (R:=R) Dv (IX s5 f5);refine q v σ4 H4 F5 R4 (MO f5) CW N7 ((s1.trans s5 cR).less (C:=G5) ?_);rw[Z7];refine (ZT F5 Z1).trans ?_;rw[<- Z7];refine (ZK R4 Gh).trans ?_;rw[Z7,Z7];exact ZT _ Z1
 ·have hi:i=ds.length:=by lia
  subst hi;refine .inl ⟨it.stop H' s'.tup<|keepR s',?_⟩;rw[Ye (ZR _)] at hw;cases hw;exact leave q IY e_ s'
end
section
variable{X:Cx}
variable{gt:MG}
theorem dU{g:M (List Im×Option (Nat×Vl))}{gb:MS}(hp:PassesOwn (model X.prog X.w) X.A X.env X.xe)(hc:X.calm=true)(hi:VI X tg iter g)(hg:VG X fx tg gt)(hb:DV X fx body gb)(hf:∀ i∈fix,i∈fx)(hs:∀ D r D',g D=some (r,D')->fq fx r.2)(Kc:∀ x,foldedSetIterable iter X.env x=pure x:=by intro _;rfl):VS X fix (.For tg iter body [] pos) (b8 g gt gb):=
 wB hp hc hi hg hb hf hs (ud hp hc hi hg hb Kc)
def N8(K:PySem.W.Frag)(tl:TE):TI:=fun σ H R=>tl σ H fun x H1=>∃ a,x=.ref a/\(((∃ xs,BY K H1 a xs)/\R (Iq K a) H1)\/((∃ xs,BG K H1 a xs)/\R (JT K a) H1))
variable{l:Expr}
theorem wC{tl:TE}(hl:PE X l tl):PI X tg l (N8 X.K tl):=by
 intro pins s σ H R I h;refine A_ (hl pins s σ H _ I h) fun v s1 ⟨x,H1,I1,r1,q1⟩=>?_;obtain⟨a,e,q⟩:=q1;subst e;cases r1;rcases q with ⟨⟨xs,hq⟩,q⟩ | ⟨⟨xs,hq⟩,q⟩
 ·obtain⟨f',rv,p,hz⟩:=I1.list hq;refine XB p.isList ?_;refine⟨s1.heap.objs.size,[s1.heap.objs.size],_,_,H1,rfl,I1.kept (t':=s1.toks) fun b o e=>Z3 _ e,tW a _,⟨_,ZF _ rfl,rfl,rfl⟩,fun b hb=>?_,q⟩;have e:b=s1.heap.objs.size:=by simpa using hb
  subst e;exact I1.FZ (ZR _) (I1.l_.fresh<|ZR _)
 ·obtain⟨f',rv,p,hz⟩:=I1.tuple hq;refine wpAny_pyIter_tuple (show s1.heap.IsTuple a f'.toArray from p) ?_;refine⟨s1.heap.objs.size,[s1.heap.objs.size],_,_,H1,rfl,I1.kept (t':=s1.toks) fun b o e=>Z3 _ e,tX a _,⟨_,ZF _ rfl,rfl,rfl⟩,fun b hb=>?_,q⟩;have e:b=s1.heap.objs.size:=by simpa using hb
  subst e;exact I1.FZ (ZR _) (I1.l_.fresh<|ZR _)
theorem am.get{H:Hp}:∀ {ds:List Im}{vs:List V}{i:Nat}{d:Im},am H ds vs->ds[i]?=some d->∃ v,vs[i]?=some v/\BI H d v
 | [],_,_,_,_,e=>by simp at e
 | d::ds,_,0,_,h,e=>by
  obtain⟨v,r,rfl,h1,h2⟩:=h;simp at e;subst e;exact⟨v,rfl,h1⟩
 | d::ds,_,i+1,_,h,e=>by
  obtain⟨v,r,rfl,h1,h2⟩:=h;obtain⟨u,g1,g2⟩:=am.get (i:=i) h2 (by simpa using e);exact⟨u,by simpa using g1,g2⟩
variable{a:Addr}
theorem wD(h:H a=some (.lst xs))(hd:am H ds xs):D9 (Iq K a) H [a] ds where
 go:=fun H' t k i d e=>by
  obtain⟨v,g1,g2⟩:=hd.get e;have h':=BY.of (K:=K) (k a (.head _) _ h);refine⟨⟨xs,v,h',g1⟩,fun x GL ⟨e1,e2⟩=>?_⟩;subst e1;rw[e2 xs h'] at g1;cases g1;exact⟨aF.refl _,g2.mono t.tup⟩
 stop:=fun H' t k=>⟨xs,BY.of<|k a (.head _) _ h,by rw[<- hd.length];exact ZR _⟩
theorem wE{o:Obj}(h:H a=some (.Cg o<|.lst xs))(hd:am H ds xs):D9 (Iq K a) H [] ds where
 go:=fun H' t k i d e=>by
  obtain⟨v,g1,g2⟩:=hd.get e;have h':BY K H' a xs:=.inl (.inr ⟨o,t.Cg _ _ _ h⟩);refine⟨⟨xs,v,h',g1⟩,fun x GL ⟨e1,e2⟩=>?_⟩;subst e1;rw[e2 xs h'] at g1;cases g1;exact⟨aF.refl _,g2.mono t.tup⟩
 stop:=fun H' t k=>⟨xs,.inl<|.inr ⟨o,t.Cg _ _ _ h⟩,by rw[<- hd.length];exact ZR _⟩
theorem wF(h:H a=some (.tup xs))(hd:am H ds xs):D9 (JT K a) H [] ds where
 go:=fun H' t k i d e=>by
  obtain⟨v,g1,g2⟩:=hd.get e;have h':=BG.of (K:=K) (t.tup a _ h);refine⟨⟨xs,v,h',g1⟩,fun x GL ⟨e1,e2⟩=>?_⟩;subst e1;rw[e2 xs h'] at g1;cases g1;exact⟨aF.refl _,g2.mono t.tup⟩
 stop:=fun H' t k=>⟨xs,BG.of<|t.tup a _ h,by rw[<- hd.length];exact ZR _⟩
abbrev MI:=M (List Im×Option (Nat×Vl))
@[simp] def dC(d:Vl):Option (List Im):=match d with
 | .im (.tup ds)=>some ds
 | .lst ds=>some ds
 | .fz ds=>some ds
 | _=>none
@[simp] def bi(g:M Opd):MI:=fun D=>(g D).bind fun p=>match p.1 with
 | .vl d=>(dC d).map fun ds=>((ds,none),p.2)
 | .sl i=>(bK i p.2).bind fun q=>(dC q.1).map fun ds=>((ds,if q.1.cp=true then none else some (i,q.1)),q.2)
theorem oI(w:Own H d v R)(e:dC d=some ds):
  ∃ a,v=.ref a/\(((∃ xs,BY K H a xs)/\D9 (Iq K a) H R ds)\/((∃ xs,BG K H a xs)/\D9 (JT K a) H R ds)):=by
 unfold dC at e;split at e
 ·cases e;obtain⟨⟨a,xs,rfl,h1,h2⟩,rfl⟩:=w;exact⟨a,rfl,.inr ⟨⟨xs,BG.of h1⟩,wF h1 h2⟩⟩
 ·cases e;obtain⟨a,xs,rfl,h1,h2,rfl⟩:=w;exact⟨a,rfl,.inl ⟨⟨xs,BY.of h1⟩,wD h1 h2⟩⟩
 ·cases e;obtain⟨a,xs,o,rfl,h1,h2,rfl⟩:=w;exact⟨a,rfl,.inl ⟨⟨xs,.inl<|.inr ⟨o,h1⟩⟩,wE h1 h2⟩⟩
 ·cases e
theorem cZ{g:M Opd}(h:VO X l g):VI X tg l (bi g):=by
 refine kY (wC h) fun σ H Rk ⟨D,F,r,D',st,nd,hg,q⟩=>?_;obtain⟨⟨x,D1⟩,h1,h2⟩:=Z9.mp hg;refine⟨D,F,x,D1,st,nd,h1,fun v H1 F1 R s_ o1 s1=>?_⟩;cases x with
 | vl d=>
  obtain⟨ds,h3,h4⟩:=Z5.mp h2;cases h4;obtain⟨a,rfl,hh⟩:=oI (K:=X.K) o1 h3;refine⟨a,rfl,?_⟩;rcases hh with ⟨hx,it⟩ | ⟨hx,it⟩
  ·exact .inl ⟨hx,q _ H1 F1 R s_ it trivial (Own.chg o1) s1⟩
  ·exact .inr ⟨hx,q _ H1 F1 R s_ it trivial (Own.chg o1) s1⟩
 | sl i=>
  obtain⟨⟨d,D2⟩,h3,h4⟩:=Z9.mp h2;obtain⟨ds,h5,h6⟩:=Z5.mp h4;cases h6;obtain⟨v',F2,R2,g1,g2,g3,g4⟩:=oA s_ h3;obtain⟨o1,rfl⟩:=o1;rw[o1] at g1;cases g1;rw[ZZ] at s1;have s2:=s1.B_ g4.symm;obtain⟨a,rfl,hh⟩:=oI (K:=X.K) g2 h5;have ln:gY H1 σ R2 (if d.cp=true then none else some (i,d)):=by
   split
   ·trivial
   ·exact⟨_,o1,g2⟩
  refine⟨a,rfl,?_⟩;rcases hh with ⟨hx,it⟩ | ⟨hx,it⟩
  ·exact .inl ⟨hx,q _ H1 F2 R2 g3 it ln g2.chg s2⟩
  ·exact .inr ⟨hx,q _ H1 F2 R2 g3 it ln g2.chg s2⟩
theorem oJ{g:M Vl}:∀ D r D',bi (oV g) D=some (r,D')->fq fx r.2:=by
 intro D r D' h;obtain⟨⟨x,D1⟩,h1,h2⟩:=Z9.mp h;unfold oV at h1;obtain⟨p,h3,h4⟩:=Z5.mp h1;cases h4;obtain⟨ds,h5,h6⟩:=Z5.mp h2;cases h6
 trivial
variable{i:Nat}
theorem oK(hi:i∈fx):∀ D r D',bi (oSl i) D=some (r,D')->fq fx r.2:=by
 intro D r D' h;obtain⟨⟨x,D1⟩,h1,h2⟩:=Z9.mp h;unfold oSl at h1;split at h1
 ·cases h1;obtain⟨⟨d,D2⟩,h3,h4⟩:=Z9.mp h2;obtain⟨ds,h5,h6⟩:=Z5.mp h4;cases h6;show fq fx (if d.cp=true then none else some (i,d));split
  ·trivial
  ·exact hi
 ·cases h1
def bC(lo:Int)(n:Nat):List Im:=(range n).map fun (k:Nat)=>Im.int (lo+(k:Int))
theorem wG{lo:Int}:D9 (JU lo n) H [] (bC lo n) where
 go:=fun H' t k i d e=>by
  have hi:i<n:=by
   have:=(ZA.mp e).1
   rwa [bC,ZY,Y9] at this
  refine⟨hi,fun x GL ⟨e1,e2⟩=>?_⟩;subst e1;rw[bC,Zr,List.getElem?_range hi] at e;cases e;exact⟨aF.refl _,e2⟩
 stop:=fun H' t k=>by
  show n<=_;rw[bC,ZY,Y9];exact ZR _
def jh(i:Int):Prop := -1000000<=i/\i<=1000000
instance (i:Int):Decidable (jh i):=inferInstanceAs (Decidable<|_/\_)
@[simp] def iR1(g:M (List Opd)):MI:=fun D=>(g D).bind fun p=>(cY p.2 p.1).bind fun ds=>match ds with
 | [.im (.int j)]=>if jh j then some ((bC 0 j.toNat,none),p.2) else none
 | _=>none
theorem oM{d:Im}(h:eg H [.im d] vs):∃ v,vs=[v]/\BI H d v:=by
 obtain⟨v,r,rfl,⟨R,h1,_⟩,h2⟩:=h;cases (show r=[] from h2);exact⟨v,rfl,h1⟩
theorem wH{d e:Im}(h:eg H [.im d,.im e] vs):∃ v u,vs=[v,u]/\BI H d v/\BI H e u:=by
 obtain⟨v,r,rfl,⟨R,h1,_⟩,h2⟩:=h;obtain⟨u,rfl,h3⟩:=oM h2;exact⟨v,u,rfl,h1,h3⟩
theorem ft{a:Expr}{p:Pos}(hg:Gl X "range")(hm:X.mg "range" = none)(ha:VA X [a] g)(hs:starEach [a] X.env=[(false,eval a X.env)]:=by rfl):VI X tg (.Call (.Name "range" p) [a] [] pos) (iR1 g):=by
 refine kY (uc hg hm ha hs) fun σ H Rk ⟨D,F,r,D',st,nd,Di,q⟩=>?_;obtain⟨⟨os,D1⟩,h1,h2⟩:=Z9.mp Di;obtain⟨ds,h3,h4⟩:=Z9.mp h2;refine⟨D,F,os,D1,st,nd,h1,fun vs H1 F1 R1 s_ o1 s1=>?_⟩;have rd:=o1.read s_ h3;split at h4
 ·rename_i j;split at h4
  ·rename_i hj;cases h4;obtain⟨v,rfl,e⟩:=oM rd;cases (show v=.int j from e);exact⟨j,rfl,by have:=hj.1;lia,by have:=hj.2;lia,q _ H1 F1 [] s_ wG trivial (fun a ha=>nomatch ha) (by rw[ZZ];exact s1.less (ZI _))⟩
  ·cases h4
 ·cases h4
theorem gZ:∀ D r D',iR1 g D=some (r,D')->fq fx r.2:=by
 intro D r D' h;obtain⟨⟨os,D1⟩,h1,h2⟩:=Z9.mp h;obtain⟨ds,h3,h4⟩:=Z9.mp h2;split at h4
 ·split at h4
  ·cases h4;trivial
  ·cases h4
 ·cases h4
def Kd(X:Cx)(ifs:List Expr)(g:M Bool):Prop:=∀ ⦃p⦄,nP X ifs (E7 g) p
def kYes:M Bool:=fun D=>some (true,D)
theorem fu:Kd X [] kYes:=by
 intro pins s σ H Q I ⟨D,F,b,D',st,nd,hg,q⟩;cases hg;exact vF pins s σ H Q I (q H F st<|n_.perm nd<|ZI _)
theorem ji{g:M Bool}(h:VT X c g):Kd X [c] g:=vG h
@[simp] def dD(caps:List Nat)(D:SD):SD:=caps.map fun i=>D.getD i none
def dE:List Nat->SD->SD
 | [],D=>D
 | i::r,D=>dE r (match D[i]? with | some (some _)=>D.set i (some .jk) | _=>D)
@[simp] def cP:List Nat->SD->SD->SD
 | i::r,o::C,D=>cP r C (D.set i o)
 | _,_,D=>D
def b9(own : Nat)(tg : MG)(c : M Bool)(e : M Vl): List Im -> List Im -> SD -> Option (List Im × SD)
  | [], acc, C => some (acc, C)
  | x :: r, acc, C => (tg (.im x)<|replicate own none ++ C).bind fun D1 => (c D1).bind fun p => if p.1 = true then (e p.2).bind fun q => match q.1 with
      | .im d => if acc.length < 100000 then b9 own tg c e r (acc ++ [d]) (q.2.drop own) else none
      | _ => none
    else b9 own tg c e r acc (p.2.drop own)
@[simp] def aZ(own:Nat)(caps:List Nat)(gi:MI)(tg:MG)(c:M Bool)(e:M Vl):M Vl:=fun D=>(gi D).bind fun p=>(b9 own tg c e p.1.1 []<|dD caps p.2).map fun q=>(.lst q.1,rst p.1.2<|cP caps q.2 p.2)
def g0(own n:Nat):List Nat:=(range n).map (·+own)
theorem wI(h:D[i]?=some o):D.getD i none=o:=by rw[Z6,h];rfl
theorem aj.void(st:aj H D σ F)(i:Nat):∃ F1 F2,aj H (match D[i]? with | some (some _)=>D.set i (some .jk) | _=>D) σ F1/\ee H (D.getD i none) (σ.getD i none) F2/\(F1++F2).Perm F:=by
 split
 ·rename_i d hd;obtain⟨v,F1,F2,h1,h2,h3,h4⟩:=st.out hd;refine⟨F2,F1,h3,?_,h4⟩;rw[wI hd,Z6,h1];exact⟨v,rfl,h2⟩
 ·rename_i hn;refine⟨F,[],st,?_,by rw[ZZ]⟩;have:D.getD i none=none:=by
   rw[Z6];cases e:D[i]? with
   | none=>rfl
   | some o=>
    cases o with
    | none=>rfl
    | some d=>exact absurd e (hn d)
  rw[this];exact rfl
theorem oN{H:Hp}{σ:St}:∀ {caps:List Nat}{D:SD}{F:List Addr},caps.Nodup->aj H D σ F->∃ F1 F2,aj H (dE caps D) σ F1/\aj H (dD caps D) (caps.map fun i=>σ.getD i none) F2/\(F1++F2).Perm F
 | [],D,F,_,st=>⟨F,[],st,⟨rfl,rfl⟩,by rw[ZZ]⟩
 | i::r,D,F,nd,st=>by
  obtain⟨F1,F2,h1,h2,h3⟩:=st.void i;have hn:=Y0.mp nd;obtain⟨F3,F4,g1,g2,g3⟩:=oN (caps:=r) hn.2 h1;refine⟨F3,F2++F4,g1,⟨_,_,F2,F4,rfl,h2,?_,rfl⟩,dz.trans<|(ZT _ g3).trans<|Z1.trans h3⟩;have e:dD r (match D[i]? with | some (some _)=>D.set i (some .jk) | _=>D)=dD r D:=by
   unfold dD;refine X3 fun j hj=>?_;split
   ·rw[Z6,Z6,Y7];rintro rfl;exact hn.1 hj
   ·rfl
  rw[e] at g2;exact g2
theorem aj.Ls(st:aj H D σ F)(h:ee H o (σ.getD i none) G):∃ F1 F2,aj H (D.set i o) σ F1/\(F1++F2).Perm (F++G):=by
 cases o with
 | some d=>
  obtain⟨v,e,w⟩:=h;refine st.back w ?_;rw[Z6] at e;cases q:σ[i]? with
  | none=>rw[q] at e;cases e
  | some x=>rw[q] at e;rw[show x=some v from e]
 | none=>
  cases (show G=[] from h);rw[ZZ];by_cases hi:i<D.length
  ·cases q:D[i]? with
   | none=>exact absurd (List.getElem?_eq_none_iff.mp q) (by lia)
   | some x=>
    cases x with
    | none=>
     refine⟨F,[],?_,by rw[ZZ]⟩;have:D.set i none=D:=by
      refine Yr fun j=>?_;by_cases e:i=j
      ·subst e;rw[q,Yh hi]
      ·rw[Y7 e]
     rw[this];exact st
    | some d=>
     obtain⟨v,F1,F2,h1,h2,h3,h4⟩:=st.out q;have gen:∀ {D:SD}{σ:St}{F:List Addr}{i:Nat},aj H D σ F->∃ F1 F2,aj H (D.set i none) σ F1/\(F1++F2).Perm F:=by
      intro D;induction D with
      | nil=>intro σ F i st;exact⟨F,[],by simpa using st,by rw[ZZ]⟩
      | cons o D ih=>
       intro σ F i st;obtain⟨x,r,A,B,rfl,s1,s2,rfl⟩:=st;cases i with
       | zero=>exact⟨B,A,⟨x,r,[],B,rfl,rfl,s2,rfl⟩,Z1⟩
       | succ i=>
        obtain⟨C,E,c1,c2⟩:=ih (i:=i) s2;refine⟨A++C,E,⟨x,r,A,C,rfl,s1,c1,rfl⟩,?_⟩;rw[Z7];exact ZT _ c2
     exact gen st
  ·refine⟨F,[],?_,by rw[ZZ]⟩;rw[List.set_eq_of_length_le (by lia)];exact st
theorem oO{H:Hp}{σ:St}:∀ {caps:List Nat}{C D:SD}{F G:List Addr},aj H D σ F->aj H C (caps.map fun i=>σ.getD i none) G->∃ F1 F2,aj H (cP caps C D) σ F1/\(F1++F2).Perm (F++G)
 | [],C,D,F,G,st,_=>⟨F,G,by cases C<;>exact st,ZI _⟩
 | i::r,[],D,F,G,st,h=>⟨F,G,st,ZI _⟩
 | i::r,o::C,D,F,G,st,h=>by
  obtain⟨x,t,G1,G2,e,h1,h2,rfl⟩:=h;cases e;obtain⟨F1,A,g1,g2⟩:=st.Ls h1;obtain⟨F2,B,k1,k2⟩:=oO (caps:=r) (C:=C) g1 h2;refine⟨F2,B++A,k1,?_⟩;rw[<- Z7,<- Z7];refine (ZK A k2).trans ?_;rw[Z7];refine (ZT F1 Z1).trans ?_;rw[<- Z7];exact ZK _ g2
theorem wJ:∀ {caps:List Nat}{C D:SD},caps.length=C.length->caps.Nodup->cP caps C (dE caps D)=cP caps C D:=by
 have comm:∀ {r:List Nat}{C D:SD}{i:Nat}{o:Option Vl},i∉r->cP r C (D.set i o)=(cP r C D).set i o:=by
  intro r;induction r with
  | nil=>intro C D i o _;cases C<;>rfl
  | cons j r ih=>
   intro C D i o h;cases C with
   | nil=>rfl
   | cons c C=>
    have hj:i≠j:=fun e=>h (by rw[e];exact .head _);show cP r C ((D.set i o).set j c)=(cP r C<|D.set j c).set i o;rw[WP _ _ hj,ih fun z=>h<|.tail _ z]
 have Fx:∀ {r:List Nat}{D:SD}{i:Nat}{o:Option Vl},i∉r->dE r (D.set i o)=(dE r D).set i o:=by
  intro r;induction r with
  | nil=>intro D i o _;rfl
  | cons j r ih=>
   intro D i o h;have hj:i≠j:=fun e=>h (by rw[e];exact .head _);show dE r (match (D.set i o)[j]? with | some (some _)=>(D.set i o).set j (some .jk) | _=>D.set i o)=(dE r (match D[j]? with | some (some _)=>D.set j (some .jk) | _=>D)).set i o;rw[Y7 hj];cases D[j]? with
   | none=>exact ih fun z=>h (.tail _ z)
   | some q=>
    cases q with
    | none=>exact ih fun z=>h (.tail _ z)
    | some d=>
     show dE r ((D.set i o).set j<|some .jk)=_;rw[WP _ _ hj];exact ih fun z=>h (.tail _ z)
 intro caps;induction caps with
 | nil=>intro C D _ _;cases C<;>rfl
 | cons i r ih=>
  intro C D hl nd;have hn:=Y0.mp nd;cases C with
  | nil=>cases hl
  | cons c C=>
   have Ee:r.length=C.length:=by simpa using hl
   show cP r C ((dE r (match D[i]? with | some (some _)=>D.set i (some .jk) | _=>D)).set i c)=cP r C (D.set i c);split
   ·rw[Fx hn.1,Wy,<- Fx hn.1,ih Ee hn.2]
   ·rw[<- Fx hn.1,ih Ee hn.2]
theorem oP{H:Hp}{D:SD}{r:St}{F:List Addr}(h:aj H D r F):∀ {own:List Str},aj H (replicate own.length none++D) (own.map (fun _=>none)++r) F
 | []=>h
 | x::own=>⟨none,_,[],F,rfl,rfl,oP h (own:=own),rfl⟩
theorem k7{H:Hp}:∀ {n:Nat}{D:SD}{σ:St}{F:List Addr},aj H D σ F->∃ F1 F2,aj H (D.drop n) (σ.drop n) F1/\(F1++F2).Perm F
 | 0,D,σ,F,h=>⟨F,[],h,by rw[ZZ]⟩
 | n+1,[],σ,F,h=>by
  cases h.1;exact⟨[],F,⟨rfl,rfl⟩,ZI _⟩
 | n+1,o::D,σ,F,h=>by
  obtain⟨x,r,A,B,rfl,h1,h2,rfl⟩:=h;obtain⟨F1,F2,g1,g2⟩:=k7 (n:=n) h2;exact⟨F1,F2++A,g1,by rw[<- Z7];exact (ZK A g2).trans Z1⟩
theorem n_.both(a:n_ H F H1 (F1++R)):n_ H F H1 F1:=a.less (ZI _)
theorem am.snoc:∀ {ds:List Im}{vs:List V}{d:Im}{v:V},am H ds vs->BI H d v->am H (ds++[d]) (vs++[v])
 | [],vs,d,v,h,w=>by cases (show vs=[] from h);exact⟨v,[],rfl,w,rfl⟩
 | e::ds,vs,d,v,h,w=>by
  obtain⟨u,r,rfl,h1,h2⟩:=h;exact⟨u,r++[v],rfl,h1,h2.snoc w⟩
variable{gi:MI}
theorem oQ(nd:caps.Nodup)(h:tV (aZ own.length caps gi gt gc ge) σ H Q):
  i8 own caps (tI gi) (fun _=>tG (g0 own.length caps.length) gt) (fun _=>E7 gc) (fun _=>tV ge) σ H Q:=by
 obtain⟨D,F,r,D',st,N9,Di,q⟩:=h;obtain⟨⟨⟨xs,o⟩,D1⟩,h1,h2⟩:=Z9.mp Di;obtain⟨⟨ds,C'⟩,h3,h4⟩:=Z5.mp h2;cases h4;refine⟨D,F,(xs,o),D1,st,N9,h1,fun J H1 F1 R s_ it ln cR s1 Y=>?_⟩;obtain⟨Fo,Fc,so,sc,pm⟩:=oN nd s_;have s2:n_ H F H1 (Fc++(Fo++R)):=s1.B_ (by
  refine (ZK R pm.symm).trans ?_;rw[Z7];exact dz)
 have FQ:=ZM.mp s2.nd;have cO:∀ x∈Fo++R,DU H1 x:=fun x hx=>by
  rcases ZE.mp hx with hx | hx
  ·exact so.chg x hx
  ·exact cR x hx
 have EL:∀ {H2:Hp}{F2:List Addr},n_ H1 Fc H2 F2->∀ a∈Fo++R,∀ u,H1 a=some u->H2 a=some u:=fun s a ha u e=>s.keep a u e fun h=>FQ.2.2 a h a ha rfl;refine⟨fun i m ys H'=>m+i=xs.length/\∃ acc C HB,aj H' C (caps.map fun i=>σ.getD i none) HB/\C.length=caps.length/\n_ H1 Fc H' HB/\am H' acc ys/\b9 own.length gt gc ge (xs.drop i) acc C=some (ds,C'),
  ⟨xs.length,rfl,[],dD caps D1,Fc,sc,by rw[dD,ZY],n_.perm FQ.1<|ZI _,rfl,h3⟩,?_⟩;rintro i m ys H' ⟨hm,acc,C,HB,sC,lC,s',MP,hw⟩;by_cases DN:i<xs.length
 ·obtain⟨Lq,hy⟩:=it.go H' s'.tup (fun a ha=>EL s' a<|ZN _ ha) i xs[i] (by simp[DN]);rw[Zm DN,b9] at hw;obtain⟨D3,w1,w2⟩:=Z9.mp hw;obtain⟨⟨b,D4⟩,w3,w4⟩:=Z9.mp w2;refine .inr ⟨Lq,fun MQ H2=>(m - 1)+(i+1)=xs.length/\∃ acc C HB,aj H2 C (caps.map fun i=>σ.getD i none) HB/\C.length=caps.length/\n_ H1 Fc H2 HB/\am H2 acc MQ/\b9 own.length gt gc ge (xs.drop<|i+1) acc C=some (ds,C'),fun MQ H2 h=>⟨m - 1,by lia,h⟩,fun x H2 hx=>?_⟩;obtain⟨sm,Lr⟩:=hy x H2 hx;have N_:=sC.mono sm.tupS fun a _ o e=>sm a o e;have MR:=s'.same sm;have Gi:=MP.mono sm.tupS.tup;refine⟨replicate own.length none++C,HB,.im xs[i],[],D3,oP N_,⟨Lr,rfl⟩,by rw[ZZ];exact MR.nd,w1,fun σ3 H3 F3 Gf Df sg=>⟨fun j v hj=>?_,?_⟩⟩
  ·
   have hlen:own.length<=j:=by
    by_cases Oa:j<own.length
    ·rw[dh,Ze (by simpa using Oa),Zr] at hj;cases e:own[j]? with
     | none=>rw[e] at hj;cases hj
     | some z=>rw[e] at hj;cases hj
    ·lia
   have Ob:j<own.length+caps.length:=by
    have:=(ZA.mp hj).1
    rwa [dh,ZG,ZY,ZY] at this
   have hm:j∈g0 own.length caps.length:=YT.mpr ⟨j - own.length,Zp.mpr (by lia),by lia⟩;exact (Gf.2 j hm).trans hj
  ·have s3:n_ H1 Fc H3 F3:=MR.seq (by rw[ZZ] at sg;exact sg);have Gi:=Gi.mono sg.tup.tup;have Fy:σ3.drop own.length=caps.map fun i=>σ.getD i none:=by
    have Ph:=Df.len;refine Yr fun j=>?_;by_cases hj:j<caps.length
    ·have hm:j+own.length∈g0 own.length caps.length:=YT.mpr ⟨j,Zp.mpr hj,rfl⟩;have:=Gf.2 _ hm;rw[YY,Wp,this,dh,Y6 (by simp),ZY,Nat.add_sub_cancel]
    ·have l1:σ3.length<=own.length+caps.length:=by
      rw[Gf.1,dh,ZG,ZY,ZY];exact ZR _
     rw[Xx (by rw[Zj];lia),Xx (by rw[ZY];lia)]
   have lσ:σ3.length=own.length+caps.length:=by rw[Gf.1,dh,ZG,ZY,ZY]
   refine⟨D3,F3,b,D4,Df,s3.nd,w3,fun H4 F4 Dv s4=>?_⟩;have s5:=s3.seq s4;dsimp only at w4 ⊢;cases b with
   | false=>
    rw[ZX ZJ] at w4 ⊢;obtain⟨F5,G5,CW,Gh⟩:=k7 (n:=own.length) Dv;rw[Fy] at CW;exact⟨by lia,acc,D4.drop own.length,F5,CW,by rw[Zj,Dv.len,lσ];lia,s5.less Gh,Gi.mono s4.tup.tup,w4⟩
   | true=>
    rw[Z0 rfl] at w4 ⊢;obtain⟨⟨v,D5⟩,w5,w6⟩:=Z9.mp w4;dsimp only at w6;split at w6
    ·rename_i d;split at w6
     ·rename_i hl;refine⟨D4,F4,.im d,D5,Dv,s5.nd,w5,fun u H5 F5 R5 CW ow s6=>?_⟩;obtain⟨iu,rfl⟩:=ow;rw[ZZ] at s6;have D6:=(Gi.mono s4.tup.tup).mono s6.tup.tup;refine⟨WX (show ys.length<=100000 by rw[<- D6.length];lia) (by decide),?_⟩;obtain⟨F6,G6,MT,Oc⟩:=k7 (n:=own.length) CW;rw[Fy] at MT;exact⟨by lia,acc++[d],D5.drop own.length,F6,MT,by rw[Zj,CW.len,lσ];lia,(s5.seq s6).less Oc,D6.snoc iu,w6⟩
     ·cases w6
    ·cases w6
 ·have hi:i=xs.length:=by lia
  subst hi;refine .inl ⟨it.stop H' s'.tup<|fun a ha=>EL s' a<|ZN _ ha,fun Dn MU=>?_⟩;rw[Ye (ZR _),b9] at hw;cases hw;have Od:aj H' (dE caps D1) σ Fo:=so.mono s'.tup fun a ha=>EL s' a (ZH _ ha);obtain⟨F4,G4,Dv,IT⟩:=oO Od sC;rw[wJ (by rw[lC]) nd] at Dv;have Oe:gY H' σ R o:=by
   cases o with
   | none=>trivial
   | some p=>
    obtain⟨i,d⟩:=p;obtain⟨v,e1,e2⟩:=ln;exact⟨v,e1,e2.mono s'.tup fun a ha=>EL s' a<|ZN _ ha⟩
  obtain⟨F5,G5,CW,Gh⟩:=kZ (R:=R) Dv Oe;have sm:aF H' (upd H' Dn<|.lst ys):=(aF.refl H').upd MU;have s5:n_ H F H' F5:=(s2.trans s' cO).less (C:=G5++G4) (by
   rw[<- Z7];refine (ZK G4 Gh).trans ?_;rw[Z7];refine (ZT F4 Z1).trans ?_;rw[<- Z7];refine (ZK R IT).trans ?_;rw[Z7];exact dz)
  exact q _ _ F5 [Dn] (CW.mono sm.tupS fun a _ o e=>sm a o e) ⟨Dn,ys,rfl,bo,MP.mono sm.tupS.tup,rfl⟩ (s5.add MU CW.chg)
theorem dW{elt:Expr}{ifs:List Expr}{scope:Scope}(hc:X.calm=true)(S:p_ X scope own caps)(nd:caps.Nodup)(hi:VI X tg iter gi)(hg:∀ Y,VG (X.DM (bH X own caps) scope Y) (g0 own.length caps.length) tg gt)(ht:∀ Y,Kd (X.DM (bH X own caps) scope Y) ifs gc)(he:∀ Y,VE (X.DM (bH X own caps) scope Y) elt ge)(hs:∀ x,foldedSetIterable iter X.env x=pure x:=by intro _;rfl):VE X (.ListComp elt [⟨tg,iter,ifs,0⟩] scope pos) (aZ own.length caps gi gt gc ge):=
 aQ (vJ hc S hi hg ht he hs) fun σ H Q h=>oQ nd h
end
@[simp] def cQ(fix:List Nat):List Vl->SD->Nat->List Vl
 | d::ds,o::D,j=>(if d.cp=true then d else if j∈fix then o.getD .jk else .jk)::cQ fix ds D (j+1)
 | d::ds,[],j=>(if d.cp=true then d else .jk)::cQ fix ds [] (j+1)
 | [],_,_=>[]
@[simp] def aS(n m:Nat)(fix:List Nat)(g:MS):Fn:=fun ds=>if ds.length=n then match g (ds.map some++replicate (m - n) none) with
 | some (.rt r,D)=>some (r,cQ fix ds D 0)
 | some (.nx,D)=>some (.im .j_,cQ fix ds D 0)
 | _=>none else none
theorem jj{H:Hp}:∀ {ds:List Vl}{vs:List V}{F:List Addr}{m:Nat},aI H ds vs F->aj H (ds.map some++replicate m none) (vs.map some++replicate m none) F
 | [],vs,F,m,h=>by
  obtain⟨rfl,rfl⟩:=h;show aj H (replicate m none) (replicate m none) [];induction m with
  | zero=>exact⟨rfl,rfl⟩
  | succ m ih=>exact⟨none,_,[],[],rfl,rfl,ih,rfl⟩
 | d::ds,vs,F,m,h=>by
  obtain⟨v,r,F1,F2,rfl,h1,h2,rfl⟩:=h;exact⟨some v,_,F1,F2,rfl,⟨v,rfl,h1⟩,jj h2,rfl⟩
theorem jl{H H':Hp}{fix:List Nat}(t:BD H H'):∀ {ds:List Vl}{vs:List V}{F0:List Addr}{D:SD}{σ:St}{F:List Addr}{j0:Nat},aI H ds vs F0->aj H' D σ F->(∀ (j:Nat) (v:V),(j0+j)∈fix->vs[j]?=some v->σ[j]?=some (some v))->
  ∃ R G,aI H' (cQ fix ds D j0) vs R/\(R++G).Perm F
 | [],vs,F0,D,σ,F,j0,h,st,_=>⟨[],F,by unfold cQ;exact⟨h.1,rfl⟩,ZI _⟩
 | d::ds,vs,F0,[],σ,F,j0,h,st,k=>by
  obtain⟨v,r,A,B,rfl,h1,h2,rfl⟩:=h;obtain⟨rfl,rfl⟩:=st;obtain⟨R,G,g1,g2⟩:=jl (D:=[]) (σ:=[]) (F:=[]) (j0:=j0+1) t h2 ⟨rfl,rfl⟩ fun j v hj hv=>by
   have:=k (j+1) v (by rw[show j0+(j+1)=j0+1+j by lia];exact hj) (by simpa using hv);simp at this
  rw[cQ];refine⟨R,G,⟨v,r,[],R,rfl,?_,g1,rfl⟩,g2⟩;split
  ·rename_i hc;have:=h1.mono t fun a ha=>by rw[h1.cp hc] at ha;cases ha
   rw[h1.cp hc] at this;exact this
  ·exact rfl
 | d::ds,vs,F0,o::D,σ,F,j0,h,st,k=>by
  obtain⟨v,r,A,B,rfl,h1,h2,rfl⟩:=h;obtain⟨x,s,C,E,rfl,s1,s2,rfl⟩:=st;obtain⟨R,G,g1,g2⟩:=jl (D:=D) (σ:=s) (j0:=j0+1) t h2 s2 fun j v hj hv=>by
   have:=k (j+1) v (by rw[show j0+(j+1)=j0+1+j by lia];exact hj) (by simpa using hv);simpa using this
  rw[cQ];split
  ·rename_i hc;have hm:=h1.mono t fun a ha=>by rw[h1.cp hc] at ha;cases ha
   rw[h1.cp hc] at hm;refine⟨R,G++C,⟨v,r,[],R,rfl,hm,g1,rfl⟩,?_⟩;rw[<- Z7];exact (ZK C g2).trans Z1
  ·split
   ·rename_i hf;have hx:x=some v:=by
     have:=k 0 v hf rfl;simpa using this
    subst hx;cases o with
    | none=>
     refine⟨R,G++C,⟨v,r,[],R,rfl,rfl,g1,rfl⟩,?_⟩;rw[<- Z7];exact (ZK C g2).trans Z1
    | some e=>
     obtain⟨v',e1,w⟩:=s1;cases e1;refine⟨C++R,G,⟨v,r,C,R,rfl,w,g1,rfl⟩,?_⟩;rw[Z7];exact ZT _ g2
   ·refine⟨R,G++C,⟨v,r,[],R,rfl,rfl,g1,rfl⟩,?_⟩;rw[<- Z7];exact (ZK C g2).trans Z1
section
variable{P:Program}{w:World}{K:PySem.W.Frag}{mg:Str->Option Value}{base:Heap}
theorem MV{qual:Str}{f:Addr}{N:List Str}{k:Nat}{g:MS}(F:Dx K x qual st f fd)(S:k_ N ps (au st))(hn:ps.length=n)(MW:∀ i∈fix,i<n)(hb:∀ (q_:Value) (A:Around) (outer:List Env) (s:Shared) (H:Hp) (E:XK),z_ k (A.deeper<|envOfC qual (au st) s.heap.objs.size f q_)->DV (bX DL P w K mg base N qual (au st) f q_ A outer s H E).G8 fix (bG st) g):
  B6 P w K mg base DL (k+1) f fd ps (EK n<|aS n N.length fix g):=by
 refine F.ok S (fun vs H Q E h=>h.1.trans hn.symm) (fun q_ A outer s H vs Q E hr h=>⟨_,hb q_ A outer s H E hr,?_⟩);obtain⟨hl,ds,F0,r,outs,ow,nd,hg,q⟩:=h;have Lu:ds.length=n:=ow.length.trans hl;unfold aS at hg;rw[Z0 Lu] at hg;have st:=jj (m:=N.length - n) ow;have es:bW N vs=vs.map some++replicate (N.length - n) none:=by unfold bW;rw[hl]
 rw[es];have fin:∀ {σ':St}{H':Hp}{F':List Addr}{D':SD}{v:V}{R:List Addr},cQ fix ds D' 0=outs->aH fix (vs.map some++replicate (N.length - n) none) σ'->aj H' D' σ' F'->Own H' r v R->n_ H F0 H' (F'++R)->Q v H':=fun {σ' H' F' D' v R} eo fx e_ wr s'=>by
  obtain⟨R2,G,g1,g2⟩:=jl (fix:=fix) (j0:=0) s'.tup ow e_ fun j v hj hv=>by
   rw[Nat.zero_add] at hj;rw[fx.2 j hj,Ze (by rw[ZY];exact (ZA.mp hv).1),Zr,hv];rfl
  rw[eo] at g1;refine q v H' R R2 wr g1 (s'.less (C:=G) ?_);rw[Z7];exact (ZT R g2).trans Z1
 split at hg
 ·rename_i r' D' e;cases hg;exact⟨_,F0,.rt r,D',st,nd,e,fun v σ' H' F' R fx e_ wr s'=>fin rfl fx e_ wr s'⟩
 ·rename_i D' e;cases hg;exact⟨_,F0,.nx,D',st,nd,e,fun σ' H' F' fx e_ s'=>fin rfl fx e_ ⟨rfl,rfl⟩ (by rw[ZZ];exact s')⟩
 ·cases hg
end
def Out(H:Hp)(d:Vl)(Q:VK):Prop:=∀ v H' R,aF H H'->Own H' d v R->R.Nodup->(∀ a∈R,H a=none)->Q v H'
theorem Out.MX{d:Im}(q:Out H (.im d) Q)(s:aF H H')(h:BI H' d v):Q v H':=q v H' [] s ⟨h,rfl⟩ XM (fun a ha=>nomatch ha)
theorem Out.i{d:Im}(q:Out H (.im d) Q)(h:BI H d v):Q v H:=q.MX (aF.refl H) h
theorem Out.l(q:Out H (.lst ds) Q)(hp:H p=none)(h:am H ds xs):Q (.ref p) (upd H p<|.lst xs):=by
 have s:aF H (upd H p<|.lst xs):=(aF.refl H).upd hp;exact q _ _ [p] s ⟨p,xs,rfl,bo,h.mono s.tupS.tup,rfl⟩ (ZB _ _) fun a ha=>by rw[ZW.mp ha];exact hp
theorem Out.t(q:Out H (.im<|.tup ds) Q)(hp:H p=none)(h:am H ds xs):Q (.ref p) (upd H p<|.tup xs):=by
 have s:aF H (upd H p<|.tup xs):=(aF.refl H).upd hp;exact q.MX s ⟨p,xs,rfl,bo,h.mono s.tupS.tup⟩
section
variable{X:Cx}
theorem Ck.imp{f:Value->Value->Sem Value}{r:R2}(h:Ck X f r)(i:∀ x y H Q,r' x y H Q->r x y H Q):Ck X f r':=fun pins s σ H x y v u Q I rx ry hh=>h pins s σ H x y v u Q I rx ry (i x y H Q hh)
theorem aX.imp{f:Value}{r r':List V->Hp->VK->Prop}(h:aX X f r)(i:∀ xs H Q,r' xs H Q->r xs H Q):aX X f r':=fun pins s σ H xs us Q I rx hh=>h pins s σ H xs us Q I rx (i xs H Q hh)
theorem ES.imp{r:R2}(h:ES X r)(i:∀ x y H Q,r' x y H Q->r x y H Q):ES X r':=fun e1 e2 pins s σ H x y v u Q I rx ry hh=>h e1 e2 pins s σ H x y v u Q I rx ry (i x y H Q hh)
theorem Dz.i{d:Im}(h:Dz H (.im d) v):BI H d v:=h.elim fun _ w=>w.1
end
abbrev Op2:=Vl->Vl->Option Vl
@[simp] def c5(C:Int->Int->Bool)(g:Int->Int->Im):Op2:=fun a b=>match a,b with
 | .im (.int i),.im (.int j)=>if C i j=true then some (.im<|g i j) else none
 | _,_=>none
theorem oR{C:Int->Int->Bool}{g:Int->Int->Im}{a b:Vl}(h:c5 C g a b=some d):∃ i j,a=.im (.int i)/\b=.im (.int j)/\C i j=true/\d=.im (g i j):=by
 unfold c5 at h;split at h
 ·rename_i i j;split at h
  ·rename_i hc;cases h;exact⟨i,j,rfl,rfl,hc,rfl⟩
  ·cases h
 ·cases h
section
variable{X:Cx}
variable{f:Value->Value->Sem Value}{g:Int->Int->V}{h:Int->Int->Im}
theorem jm{C:Int->Int->Prop}{B:Int->Int->Bool}(o:Ck X f (rI C g))(hB:∀ i j,B i j=true->C i j)(hg:∀ H i j,BI H (h i j)<|g i j):DP X f (c5 B h):=
 o.imp fun x y H Q ⟨d1,d2,d,r1,r2,e,q⟩=>by
  obtain⟨i,j,rfl,rfl,hc,rfl⟩:=oR e;exact⟨i,j,r1.i,r2.i,hB i j hc,Out.i q<|hg H i j⟩
theorem jn(o:Ck X f (Gy g))(hg:∀ H i j,BI H (h i j)<|g i j):DP X f (c5 (fun _ _=>true) h):=
 o.imp fun x y H Q ⟨d1,d2,d,r1,r2,e,q⟩=>by
  obtain⟨i,j,rfl,rfl,hc,rfl⟩:=oR e;exact⟨i,j,r1.i,r2.i,Out.i q<|hg H i j⟩
@[simp] def vSub:Op2:=c5 (fun _ _=>true) fun i j=>.int (i - j)
def dq(i j:Int):Bool:=!(decide (Builtin.Int.intBits i > shortFactorBits) && decide (Builtin.Int.intBits j > shortFactorBits) && Builtin.Int.intTooBig (Builtin.Int.intBits i+Builtin.Int.intBits j))
@[simp] def vMul:Op2:=c5 dq fun i j=>.int (i * j)
@[simp] def vDiv:Op2:=c5 (fun _ j=>decide (0<j/\j<1073741824)) fun i j=>.int (i / j)
@[simp] def vMod:Op2:=c5 (fun _ j=>decide (0<j)) fun i j=>.int (i % j)
@[simp] def vPow:Op2:=c5 (fun i j=>decide (0<=j/\j<=1000000/\i.natAbs<2 ^ 64)) fun i j=>.int (i ^ j.toNat)
@[simp] def vLt:Op2:=c5 (fun _ _=>true) fun i j=>.bl (decide (i<j))
@[simp] def vGt:Op2:=c5 (fun _ _=>true) fun i j=>.bl (decide (j<i))
@[simp] def vGe:Op2:=c5 (fun _ _=>true) fun i j=>.bl (decide (j<=i))
theorem dF:DP X (binaryOp .Sub) vSub:=jn uk fun _ _ _=>rfl
theorem c6:DP X (binaryOp .Mult) vMul:=jm wl (fun i j h=>by unfold dq at h;unfold IntMulOk;rw[XG] at h;rw[h];exact ZJ) fun _ _ _=>rfl
theorem g7:DP X (binaryOp .FloorDiv) vDiv:=jm ul (fun i j h=>show 0<j/\j<1073741824 from Zf h) fun _ _ _=>rfl
theorem dG:DP X (binaryOp .Mod) vMod:=jm um (fun i j h=>Zf h) fun _ _ _=>rfl
theorem jo:DP X (binaryOp .Pow) vPow:=jm uo (fun i j h=>show 0<=j/\j<=1000000/\i.natAbs<2 ^ 64 from Zf h) fun _ _ _=>rfl
theorem wK:DP X (compareOp .Lt) vLt:=jn ut fun _ _ _=>rfl
theorem oS:DP X (compareOp .Gt) vGt:=jn uu fun _ _ _=>rfl
theorem wL:DP X (compareOp .GtE) vGe:=jn uw fun _ _ _=>rfl
theorem wM:Ck X (binaryOp .Add) (fun x y H Q=>∃ a b ys,x=.ref a/\y=.ref b/\BG X.K H a []/\BG X.K H b ys/\Q (.ref b) H):=by
 intro pins s σ H x y v u Q I rx ry h;obtain⟨a,b,ys,rfl,rfl,ha,hb,q⟩:=h;cases rx;cases ry;obtain⟨f',r1,p1,_⟩:=I.tuple ha;obtain⟨Cl,r2,p2,_⟩:=I.tuple hb;have e:f'=[]:=r1.CY.mpr rfl;subst e;obtain⟨⟨cls,dd,data,sl⟩,ho,hc,n,hd⟩:=id p1;obtain⟨⟨KN,GA,data2,HV⟩,He,Hf,n2,hd2⟩:=id p2;simp only at hc hd Hf hd2;subst hc hd Hf hd2;exact concat_meets ⟨_,ho,rfl⟩ ⟨_,He,rfl⟩ WI seq_tuple_add XO XU (X2 _ _) (tuple_addW0 a b _ _ n n2 dd GA sl HV rfl) ⟨ho,He,.ref b,H,I,rfl,q⟩
@[simp] def vAdd:Op2:=fun a b=>match a,b with
 | .im (.int i),.im (.int j)=>some (.im<|.int<|i+j)
 | .im (.tup x),.im (.tup y)=>if x.length+y.length<=100000 then some (.im<|.tup<|x++y) else none
 | .lst x,.lst y=>if x.length+y.length<=100000 then some (.lst<|x++y) else none
 | .im (.str x),.im (.str y)=>if x.length+y.length<=100000 then some (.im<|.str<|x++y) else none
 | _,_=>none
theorem am.app:∀ {a b:List Im}{x y:List V},am H a x->am H b y->am H (a++b) (x++y)
 | [],b,x,y,h,k=>by cases (show x=[] from h);exact k
 | d::a,b,x,y,h,k=>by
  obtain⟨v,r,rfl,h1,h2⟩:=h;exact⟨v,r++y,rfl,h1,h2.app k⟩
theorem am.nil{H:Hp}{a:List Im}(h:am H a []):a=[]:=by
 cases a with
 | nil=>rfl
 | cons d a=>obtain⟨_,_,e,_⟩:=h;cases e
theorem a9:DP X (binaryOp .Add) vAdd:=by
 refine (uj.or<|wM.or<|uU.or<|vg.or uF).imp fun x y H Q ⟨d1,d2,d,r1,r2,e,q⟩=>?_;unfold vAdd at e;split at e
 ·cases e;exact .inl ⟨_,_,r1.i,r2.i,Out.i q rfl⟩
 ·rename_i a b;split at e
  ·rename_i hl;cases e;obtain⟨p,xs,rfl,h1,h2⟩:=r1.i;obtain⟨p',ys,rfl,h3,h4⟩:=r2.i;refine .inr ?_;by_cases hx:xs=[]
   ·subst hx;cases h2.nil;exact .inl ⟨p,p',ys,rfl,rfl,BG.of h1,BG.of h3,Out.i q ⟨p',ys,rfl,h3,h4⟩⟩
   ·refine .inr (.inl ⟨p,p',xs,ys,rfl,rfl,BG.of h1,BG.of h3,hx,ej (by rw[<- h2.length,<- h4.length];exact hl),fun hy=>?_,fun hy n hn=>Out.t q hn<|h2.app h4⟩);subst hy;cases h4.nil;rw[ZZ] at q;exact Out.i q ⟨p,xs,rfl,h1,h2⟩
  ·cases e
 ·rename_i a b;split at e
  ·rename_i hl;cases e;obtain⟨_,p,xs,rfl,h1,h2,_⟩:=r1;obtain⟨_,p',ys,rfl,h3,h4,_⟩:=r2;exact .inr (.inr (.inr (.inl ⟨p,p',xs,ys,rfl,rfl,h1,h3,ej (by rw[<- h2.length,<- h4.length];exact hl),fun n hn=>Out.l q hn<|h2.app h4⟩)))
  ·cases e
 ·rename_i a b;split at e
  ·rename_i hl;cases e;exact .inr (.inr<|.inr<|.inr ⟨a,b,r1.i,r2.i,ej hl,Out.i q rfl⟩)
  ·cases e
 ·cases e
theorem wN(n:Nat){A:Around}{x y:Im}{u v:Value}(kx:Im.pl n x=true)(ky:Im.pl n y=true)(hu:A.units+n+2<cLine)(hx:Ci s.heap x u)(hy:Ci s.heap y v):SeqAt.RcAt A s u v (az x y):=by
 cases x with
 | j_=>
  cases (show u=.none from hx);cases y with
  | j_=>cases (show v=.none from hy);exact SeqAt.RcAt.none_none
  | bl b=>cases (show v=.bool b from hy);exact SeqAt.RcAt.none_bool b
  | int j=>obtain⟨t,rfl⟩:=hy;exact SeqAt.RcAt.none_int j t
  | str z=>obtain⟨t,rfl⟩:=hy;exact SeqAt.RcAt.none_str z t
  | tup ds=>obtain⟨a,o,items,m,rfl,h1,h2,h3,_⟩:=hy;exact SeqAt.RcAt.none_tuple ⟨o,h1,h2,m,h3⟩ (by lia)
  | fn a=>cases n<;>cases ky
  | fl a=>cases n<;>cases ky
  | fd=>cases n<;>cases ky
 | bl b=>
  cases (show u=.bool b from hx);cases y with
  | j_=>cases (show v=.none from hy);exact SeqAt.RcAt.bool_none b
  | bl c=>cases (show v=.bool c from hy);exact SeqAt.RcAt.bool_bool b c
  | int j=>obtain⟨t,rfl⟩:=hy;exact SeqAt.RcAt.bool_int b j t
  | str z=>obtain⟨t,rfl⟩:=hy;exact SeqAt.RcAt.bool_str b z t
  | tup ds=>obtain⟨a,o,items,m,rfl,h1,h2,h3,_⟩:=hy;exact SeqAt.RcAt.bool_tuple b ⟨o,h1,h2,m,h3⟩ (by lia)
  | fn a=>cases n<;>cases ky
  | fl a=>cases n<;>cases ky
  | fd=>cases n<;>cases ky
 | int i=>
  obtain⟨t0,rfl⟩:=hx;cases y with
  | j_=>cases (show v=.none from hy);exact SeqAt.RcAt.int_none i t0
  | bl c=>cases (show v=.bool c from hy);exact SeqAt.RcAt.int_bool i t0 c
  | int j=>obtain⟨t,rfl⟩:=hy;exact SeqAt.RcAt.int_int i t0 j t
  | str z=>obtain⟨t,rfl⟩:=hy;exact SeqAt.RcAt.int_str i t0 z t
  | tup ds=>obtain⟨a,o,items,m,rfl,h1,h2,h3,_⟩:=hy;exact SeqAt.RcAt.int_tuple i t0 ⟨o,h1,h2,m,h3⟩ (by lia)
  | fn a=>cases n<;>cases ky
  | fl a=>cases n<;>cases ky
  | fd=>cases n<;>cases ky
 | str i=>
  obtain⟨t0,rfl⟩:=hx;cases y with
  | j_=>cases (show v=.none from hy);exact SeqAt.RcAt.str_none i t0
  | bl c=>cases (show v=.bool c from hy);exact SeqAt.RcAt.str_bool i t0 c
  | int j=>obtain⟨t,rfl⟩:=hy;exact SeqAt.RcAt.str_int i t0 j t
  | str z=>obtain⟨t,rfl⟩:=hy;exact SeqAt.RcAt.str_str i t0 z t
  | tup ds=>obtain⟨a,o,items,m,rfl,h1,h2,h3,_⟩:=hy;exact SeqAt.RcAt.str_tuple i t0 ⟨o,h1,h2,m,h3⟩ (by lia)
  | fn a=>cases n<;>cases ky
  | fl a=>cases n<;>cases ky
  | fd=>cases n<;>cases ky
 | fn a=>cases n<;>cases kx
 | fl a=>cases n<;>cases kx
 | fd=>cases n<;>cases kx
 | tup ds=>
  cases n with
  | zero=>cases kx
  | succ n=>
  obtain⟨a,o,items,m,rfl,h1,h2,h3,h4⟩:=hx;have ta:s.heap.IsTuple a items:=⟨o,h1,h2,m,h3⟩;cases y with
  | j_=>cases (show v=.none from hy);exact SeqAt.RcAt.tuple_none ta (by lia)
  | bl c=>cases (show v=.bool c from hy);exact SeqAt.RcAt.tuple_bool c ta (by lia)
  | int j=>obtain⟨t,rfl⟩:=hy;exact SeqAt.RcAt.tuple_int j t ta (by lia)
  | str z=>obtain⟨t,rfl⟩:=hy;exact SeqAt.RcAt.tuple_str z t ta (by lia)
  | fn a=>cases ky
  | fl a=>cases ky
  | fd=>cases ky
  | tup es=>
   obtain⟨b,o',x_,m',rfl,g1,g2,g3,g4⟩:=hy;have tb:s.heap.IsTuple b x_:=⟨o',g1,g2,m',g3⟩;have l1:=h4.length;have l2:=g4.length;have l3:items.toList.length=items.size:=by simp
   have l4:x_.toList.length=x_.size:=by simp
   rw[l3] at l1;rw[l4] at l2;have q:=SeqAt.RcAt.tuples (A:=A) (e:=fun j=>az (ds.getD j .j_)<|es.getD j .j_) ta tb (by lia) fun j j1 j2=>by
    obtain⟨d1,e1,r1⟩:=h4.get (j:=j) (v:=items[j]) (by rw[Zt];simp[j1]);obtain⟨d2,e2,r2⟩:=g4.get (j:=j) (v:=x_[j]) (by rw[Zt];simp[j2]);rw[Z6,e1,Z6,e2];exact cw n (df kx e1) (df ky e2) (by show A.units+1+n+1<cLine;lia) r1 r2
   rw[<- l1,<- l2,gF (ds:=ds) (es:=es) (fun j x y a b=>by rw[Z6,a,Z6,b];rfl)] at q;rw[az];exact q
@[simp] def vEq:Op2:=fun a b=>match a,b with
 | .im x,.im y=>if (Im.pl 8 x && Im.pl 8 y)=true then some (.im<|.bl<|az x y) else none
 | .lst x,.lst y=>if (Im.pls 8 x && Im.pls 8 y)=true then some (.im<|.bl<|bx x y) else none
 | _,_=>none
theorem k8:∀ {x y:List Im},x.length≠y.length->bx x y=false
 | [],[],h=>absurd rfl h
 | [],_::_,_=>rfl
 | _::_,[],_=>rfl
 | a::x,b::y,h=>by
  rw[bx,k8 (fun e=>h (by rw[ZC,ZC,e])),Bool.and_false]
theorem fU{pins:List (Addr×Obj)}(I:Inv X pins σ H s){a:Addr}{xs:List V}{ds:List Im}(h1:H a=some (.lst xs))(h2:am H ds xs):∃ f':List Value,s.heap.IsList a f'.toArray/\aJ s.heap ds f'/\f'.length=ds.length:=by
 obtain⟨z,f',n,rv,e⟩:=I.l_ a _ h1;have:=h2.Du I.l_ rv;exact⟨f',⟨_,e,rfl,n,rfl⟩,this,this.length.symm⟩
theorem dX(hu:X.A.units+20<cLine):DP X (compareOp .Eq) vEq:=by
 intro pins s σ H x y v u Q I rx ry ⟨d1,d2,d,r1,r2,e,q⟩;unfold vEq at e;split at e
 ·rename_i a b;split at e
  ·rename_i hp;cases e;rw[ZV] at hp;exact wN 8 hp.1 hp.2 (by lia) (r1.i.Du I.l_ rx) (r2.i.Du I.l_ ry) X.prog X.w _ _ ⟨.bl _,H,I,rfl,Out.i q rfl⟩
  ·cases e
 ·rename_i a b;split at e
  ·rename_i hp;cases e;rw[ZV] at hp;obtain⟨_,p,xs,rfl,h1,h2,_⟩:=r1;obtain⟨_,p',ys,rfl,h3,h4,_⟩:=r2;cases rx;cases ry;obtain⟨i1,l1,v1,n1⟩:=fU I h1 h2;obtain⟨i2,l2,v2,n2⟩:=fU I h3 h4;by_cases hl:a.length=b.length
   ·have:=SeqAt.RcAt.lists (A:=X.A) (e:=fun j=>az (a.getD j .j_)<|b.getD j .j_) l1 l2 (by rw[ZU,ZU,n1,n2];exact hl) (by lia) fun j j1 j2=>by
     obtain⟨d1,e1,r1⟩:=v1.get (j:=j) (v:=i1.toArray[j]) (by simp at j1;simp[j1]);obtain⟨d2,e2,r2⟩:=v2.get (j:=j) (v:=i2.toArray[j]) (by simp at j2;simp[j2]);rw[Z6,e1,Z6,e2];exact cw 8 (df hp.1 e1) (df hp.2 e2) (by show X.A.units+1+8+1<cLine;lia) r1 r2
    refine this X.prog X.w _ _ ⟨.bl _,H,I,rfl,?_⟩;have e5:=gF (ds:=a) (es:=b) (e:=fun j=>az (a.getD j .j_)<|b.getD j .j_) (fun j x y a b=>by rw[Z6,a,Z6,b];rfl);rw[<- hl,Nat.min_self,Yl,Bool.and_true] at e5;rw[ZU,n1,e5];exact Out.i q rfl
   ·refine SeqAt.RcAt.lists_lengths (A:=X.A) l1 l2 (by rw[ZU,ZU,n1,n2];simpa using hl) (by lia) X.prog X.w _ _ ⟨.bl _,H,I,rfl,?_⟩;rw[k8 hl] at q;exact Out.i q rfl
  ·cases e
 ·cases e
end
section
variable{X:Cx}
theorem wO(n:Nat){A:Around}{x y:Im}{u v:Value}(kx:Im.pl n x=true)(ky:Im.pl n y=true)(hu:A.units+n+2<cLine)(hx:Ci s.heap x u)(hy:Ci s.heap y v):SeqAt.RcNeAt A s u v (!az x y):=by
 cases x with
 | j_=>
  cases (show u=.none from hx);cases y with
  | j_=>cases (show v=.none from hy);exact SeqAt.RcNeAt.none_none
  | bl b=>cases (show v=.bool b from hy);exact SeqAt.RcNeAt.none_bool b
  | int j=>obtain⟨t,rfl⟩:=hy;exact SeqAt.RcNeAt.none_int j t
  | str z=>obtain⟨t,rfl⟩:=hy;exact SeqAt.RcNeAt.none_str z t
  | tup ds=>obtain⟨a,o,items,m,rfl,h1,h2,h3,_⟩:=hy;exact SeqAt.RcNeAt.none_tuple ⟨o,h1,h2,m,h3⟩ (by lia)
  | fn a=>cases n<;>cases ky
  | fl a=>cases n<;>cases ky
  | fd=>cases n<;>cases ky
 | bl b=>
  cases (show u=.bool b from hx);cases y with
  | j_=>cases (show v=.none from hy);exact SeqAt.RcNeAt.bool_none b
  | bl c=>cases (show v=.bool c from hy);exact SeqAt.RcNeAt.bool_bool b c
  | int j=>obtain⟨t,rfl⟩:=hy;exact SeqAt.RcNeAt.bool_int b j t
  | str z=>obtain⟨t,rfl⟩:=hy;exact SeqAt.RcNeAt.bool_str b z t
  | tup ds=>obtain⟨a,o,items,m,rfl,h1,h2,h3,_⟩:=hy;exact SeqAt.RcNeAt.bool_tuple b ⟨o,h1,h2,m,h3⟩ (by lia)
  | fn a=>cases n<;>cases ky
  | fl a=>cases n<;>cases ky
  | fd=>cases n<;>cases ky
 | int i=>
  obtain⟨t0,rfl⟩:=hx;cases y with
  | j_=>cases (show v=.none from hy);exact SeqAt.RcNeAt.int_none i t0
  | bl c=>cases (show v=.bool c from hy);exact SeqAt.RcNeAt.int_bool i t0 c
  | int j=>obtain⟨t,rfl⟩:=hy;exact SeqAt.RcNeAt.int_int i t0 j t
  | str z=>obtain⟨t,rfl⟩:=hy;exact SeqAt.RcNeAt.int_str i t0 z t
  | tup ds=>obtain⟨a,o,items,m,rfl,h1,h2,h3,_⟩:=hy;exact SeqAt.RcNeAt.int_tuple i t0 ⟨o,h1,h2,m,h3⟩ (by lia)
  | fn a=>cases n<;>cases ky
  | fl a=>cases n<;>cases ky
  | fd=>cases n<;>cases ky
 | str i=>
  obtain⟨t0,rfl⟩:=hx;cases y with
  | j_=>cases (show v=.none from hy);exact SeqAt.RcNeAt.str_none i t0
  | bl c=>cases (show v=.bool c from hy);exact SeqAt.RcNeAt.str_bool i t0 c
  | int j=>obtain⟨t,rfl⟩:=hy;exact SeqAt.RcNeAt.str_int i t0 j t
  | str z=>obtain⟨t,rfl⟩:=hy;exact SeqAt.RcNeAt.str_str i t0 z t
  | tup ds=>obtain⟨a,o,items,m,rfl,h1,h2,h3,_⟩:=hy;exact SeqAt.RcNeAt.str_tuple i t0 ⟨o,h1,h2,m,h3⟩ (by lia)
  | fn a=>cases n<;>cases ky
  | fl a=>cases n<;>cases ky
  | fd=>cases n<;>cases ky
 | fn a=>cases n<;>cases kx
 | fl a=>cases n<;>cases kx
 | fd=>cases n<;>cases kx
 | tup ds=>
  cases n with
  | zero=>cases kx
  | succ n=>
  obtain⟨a,o,items,m,rfl,h1,h2,h3,h4⟩:=hx;have ta:s.heap.IsTuple a items:=⟨o,h1,h2,m,h3⟩;cases y with
  | j_=>cases (show v=.none from hy);exact SeqAt.RcNeAt.tuple_none ta (by lia)
  | bl c=>cases (show v=.bool c from hy);exact SeqAt.RcNeAt.tuple_bool c ta (by lia)
  | int j=>obtain⟨t,rfl⟩:=hy;exact SeqAt.RcNeAt.tuple_int j t ta (by lia)
  | str z=>obtain⟨t,rfl⟩:=hy;exact SeqAt.RcNeAt.tuple_str z t ta (by lia)
  | fn a=>cases ky
  | fl a=>cases ky
  | fd=>cases ky
  | tup es=>
   obtain⟨b,o',x_,m',rfl,g1,g2,g3,g4⟩:=hy;have tb:s.heap.IsTuple b x_:=⟨o',g1,g2,m',g3⟩;have l1:=h4.length;have l2:=g4.length;have l3:items.toList.length=items.size:=by simp
   have l4:x_.toList.length=x_.size:=by simp
   rw[l3] at l1;rw[l4] at l2;have q:=SeqAt.RcNeAt.tuples (A:=A) (e:=fun j=>az (ds.getD j .j_)<|es.getD j .j_) ta tb (by lia) fun j j1 j2=>by
    obtain⟨d1,e1,r1⟩:=h4.get (j:=j) (v:=items[j]) (by rw[Zt];simp[j1]);obtain⟨d2,e2,r2⟩:=g4.get (j:=j) (v:=x_[j]) (by rw[Zt];simp[j2]);rw[Z6,e1,Z6,e2];exact cw n (df kx e1) (df ky e2) (by show A.units+1+n+1<cLine;lia) r1 r2
   rw[<- l1,<- l2,gF (ds:=ds) (es:=es) (fun j x y a b=>by rw[Z6,a,Z6,b];rfl)] at q;rw[az];exact q
@[simp] def vNe:Op2:=fun a b=>match a,b with
 | .im x,.im y=>if (Im.pl 8 x && Im.pl 8 y)=true then some (.im<|.bl<|!az x y) else none
 | .lst x,.lst y=>if (Im.pls 8 x && Im.pls 8 y)=true then some (.im<|.bl<|!bx x y) else none
 | _,_=>none
theorem jp(hu:X.A.units+20<cLine):DP X (compareOp .NotEq) vNe:=by
 intro pins s σ H x y v u Q I rx ry ⟨d1,d2,d,r1,r2,e,q⟩;unfold vNe at e;split at e
 ·rename_i a b;split at e
  ·rename_i hp;cases e;rw[ZV] at hp;exact wO 8 hp.1 hp.2 (by lia) (r1.i.Du I.l_ rx) (r2.i.Du I.l_ ry) X.prog X.w _ _ ⟨.bl _,H,I,rfl,Out.i q rfl⟩
  ·cases e
 ·rename_i a b;split at e
  ·rename_i hp;cases e;rw[ZV] at hp;obtain⟨_,p,xs,rfl,h1,h2,_⟩:=r1;obtain⟨_,p',ys,rfl,h3,h4,_⟩:=r2;cases rx;cases ry;obtain⟨i1,l1,v1,n1⟩:=fU I h1 h2;obtain⟨i2,l2,v2,n2⟩:=fU I h3 h4;by_cases hl:a.length=b.length
   ·have:=SeqAt.RcNeAt.lists (A:=X.A) (e:=fun j=>az (a.getD j .j_)<|b.getD j .j_) l1 l2 (by rw[ZU,ZU,n1,n2];exact hl) (by lia) fun j j1 j2=>by
     obtain⟨d1,e1,r1⟩:=v1.get (j:=j) (v:=i1.toArray[j]) (by simp at j1;simp[j1]);obtain⟨d2,e2,r2⟩:=v2.get (j:=j) (v:=i2.toArray[j]) (by simp at j2;simp[j2]);rw[Z6,e1,Z6,e2];exact cw 8 (df hp.1 e1) (df hp.2 e2) (by show X.A.units+1+8+1<cLine;lia) r1 r2
    refine this X.prog X.w _ _ ⟨.bl _,H,I,rfl,?_⟩;have e5:=gF (ds:=a) (es:=b) (e:=fun j=>az (a.getD j .j_)<|b.getD j .j_) (fun j x y a b=>by rw[Z6,a,Z6,b];rfl);rw[<- hl,Nat.min_self,Yl,Bool.and_true] at e5;rw[ZU,n1,e5];exact Out.i q rfl
   ·refine SeqAt.RcNeAt.lists_lengths (A:=X.A) l1 l2 (by rw[ZU,ZU,n1,n2];simpa using hl) (by lia) X.prog X.w _ _ ⟨.bl _,H,I,rfl,?_⟩;rw[k8 hl] at q;exact Out.i q rfl
  ·cases e
 ·cases e
@[simp] def oIs(n:Bool):Op2:=fun a b=>match a,b with
 | .im x,.im .j_=>some (.im<|.bl<|n != decide (x=.j_))
 | .im (.bl x),.im (.bl y)=>some (.im<|.bl<|n != (x == y))
 | _,_=>none
theorem wP{d:Im}(h:BI H d v):decide (v=.j_)=decide (d=.j_):=by
 cases d with
 | j_=>cases (show v=.j_ from h);rfl
 | bl b=>cases (show v=.bl b from h);rfl
 | int b=>cases (show v=.int b from h);rfl
 | str b=>cases (show v=.str b from h);rfl
 | fn b=>cases (show v=.ref b from h);rfl
 | tup ds=>obtain⟨a,xs,rfl,_⟩:=h;rfl
 | fl ds=>obtain⟨a,xs,o,rfl,_⟩:=h;rfl
 | fd=>obtain⟨a,o,rfl,_⟩:=h;rfl
theorem wQ:Ck X (compareOp .Is) (fun x y H Q=>∃ a b,x=.bl a/\y=.bl b/\Q (.bl<|a == b) H):=by
 intro pins s σ H x y v u Q I rx ry ⟨a,b,e1,e2,q⟩;subst e1 e2;cases rx;cases ry;refine wpAny_is_plain (by cases a<;>cases b<;>rfl) ⟨.bl<|a == b,H,I,?_,q⟩;cases a<;>cases b<;>rfl
theorem oU:DP X (compareOp .Is) (oIs false):=by
 refine (ux.or wQ).imp fun x y H Q ⟨d1,d2,d,r1,r2,e,q⟩=>?_;unfold oIs at e;split at e
 ·rename_i a;cases e;refine .inl ⟨r2.i,?_⟩;rw[wP r1.i];refine Out.i q ?_;show _=_;rw[Bool.false_bne]
 ·cases e;refine .inr ⟨_,_,r1.i,r2.i,Out.i q ?_⟩;show _=_;rw[Bool.false_bne]
 ·cases e
def bw{κ:Type}[DecidableEq κ](kvs:List (κ×Im))(k:κ):Option Im:=(kvs.find? fun p=>decide (p.1=k)).map (·.2)
theorem fV{κ:Type}[DecidableEq κ]{H:Hp}{k:κ}:∀ {kvs:List (κ×Im)}{B7:List (κ×V)},CC H kvs B7->(∀ d,bw kvs k=some d->∃ v,cg B7 k=some v/\BI H d v)/\(bw kvs k=none->cg B7 k=none)
 | _,_,.nil=>⟨(fun d e=>by cases e),(fun _=>rfl)⟩
 | _,_,.cons (a:=p) (b:=q) h t=>by
  obtain⟨h1,h2⟩:=fV (k:=k) t;by_cases e:p.1=k
  ·have e':q.1=k:=h.1.symm.trans e;refine⟨fun d hd=>?_,fun hn=>?_⟩
   ·have:∀ r,bw (p::r) k=some p.2:=fun r=>by simp[bw,YR,e]
    rw[this] at hd;cases hd;exact⟨q.2,iW e',h.2⟩
   ·have:∀ r,bw (p::r) k=some p.2:=fun r=>by simp[bw,YR,e]
    rw[this] at hn;cases hn
  ·have e':¬ q.1=k:=fun z=>e (h.1.trans z);have:∀ r,bw (p::r) k=bw r k:=fun r=>by simp[bw,YR,e]
   rw[this,iX e'];exact⟨h1,h2⟩
@[simp] def vIx:Op2:=fun a b=>match a,b with
 | .im (.tup ds),.im (.int i)=>(DK ds i).map .im
 | .lst ds,.im (.int i)=>(DK ds i).map .im
 | .fz ds,.im (.int i)=>(DK ds i).map .im
 | .dT kvs,.im (.tup k)=>if Im.keys 7 k=true then (bw kvs k).map .im else none
 | .dK kvs,.im (.int i)=>(bw kvs<|.inl i).map .im
 | .dK kvs,.im (.str i)=>(bw kvs<|.inr i).map .im
 | _,_=>none
theorem wR(hu:X.A.units+20<cLine):ES X (fun x y H Q=>∃ a v,x=.ref a/\bN H a y (some v)/\Q v H):=by
 intro value slice pins s σ H x y v u Q I rx ry ⟨a,z,e,g,q⟩ hs;subst e;cases rx;exact tail_any (vn I g) PySem.F.slot_dict_getitem.lookup (vj hu I g ry fun w' s3 I3 Fe=>⟨z,H,I3,Fe,q⟩) hs
theorem k9{i:Int}{d:Im}(h:am H ds xs)(e:DK ds i=some d):∃ v,DK xs i=some v/\BI H d v:=by
 unfold DK at e ⊢;rw[<- h.length];obtain⟨j,e1,e2⟩:=Z9.mp e;obtain⟨v,g1,g2⟩:=h.get e2;exact⟨v,by rw[e1];exact g1,g2⟩
theorem oW(hu:X.A.units+20<cLine):ES X (fun x y H Q=>∃ d1 d2 d,Dz H d1 x/\Dz H d2 y/\vIx d1 d2=some d/\∀ v H' R,aF H H'->Own H' d v R->R.Nodup->(∀ a∈R,H a=none)->Q v H'):=by
 refine (uY.or<|uZ.or<|wR hu).imp fun x y H Q ⟨d1,d2,d,r1,r2,e,q⟩=>?_;unfold vIx at e;split at e
 ·obtain⟨d',e1,e2⟩:=Z5.mp e;cases e2;obtain⟨p,xs,rfl,h1,h2⟩:=r1.i;obtain⟨v,g1,g2⟩:=k9 h2 e1;exact .inr (.inl ⟨p,xs,_,v,rfl,r2.i,BG.of h1,g1,Out.i q g2⟩)
 ·obtain⟨d',e1,e2⟩:=Z5.mp e;cases e2;obtain⟨_,p,xs,rfl,h1,h2,_⟩:=r1;obtain⟨v,g1,g2⟩:=k9 h2 e1;exact .inl ⟨p,xs,_,v,rfl,r2.i,BY.of h1,g1,Out.i q g2⟩
 ·obtain⟨d',e1,e2⟩:=Z5.mp e;cases e2;obtain⟨_,p,xs,o,rfl,h1,h2,_⟩:=r1;obtain⟨v,g1,g2⟩:=k9 h2 e1;exact .inl ⟨p,xs,_,v,rfl,r2.i,.inl<|.inr ⟨o,h1⟩,g1,Out.i q g2⟩
 ·rename_i kvs k;split at e
  ·rename_i hk;obtain⟨d',e1,e2⟩:=Z5.mp e;cases e2;obtain⟨_,p,B7,rfl,h1,h2,_⟩:=r1;obtain⟨v,g1,g2⟩:=(fV h2).1 d' e1;obtain⟨b,xs,rfl,k1,k2⟩:=r2.i;exact .inr (.inr ⟨p,v,rfl,by rw[<- g1];exact bN.t h1 ⟨hk,b,xs,rfl,k1,k2⟩,Out.i q g2⟩)
  ·cases e
 ·rename_i kvs i;obtain⟨d',e1,e2⟩:=Z5.mp e;cases e2;obtain⟨_,p,B7,rfl,h1,h2,_⟩:=r1;obtain⟨v,g1,g2⟩:=(fV h2).1 d' e1;refine .inr (.inr ⟨p,v,rfl,?_,Out.i q g2⟩);rw[show y=kV (.inl i) from r2.i,<- g1];exact bN.k h1
 ·rename_i kvs i;obtain⟨d',e1,e2⟩:=Z5.mp e;cases e2;obtain⟨_,p,B7,rfl,h1,h2,_⟩:=r1;obtain⟨v,g1,g2⟩:=(fV h2).1 d' e1;refine .inr (.inr ⟨p,v,rfl,?_,Out.i q g2⟩);rw[show y=kV (.inr i) from r2.i,<- g1];exact bN.k h1
 ·cases e
end
end L2
namespace HT
open PySem PySem.Spec PyProof.Rows
section
variable{prog:Program}{w:World}{A:Around}{E:Value->Shared->Prop}{s:Shared}
end
end HT
namespace L2
open PySem PySem.Spec PyProof.Rows
section
variable{X:Cx}
@[simp] def lc(g:M Vl):M Vl:=fun D=>(g D).bind fun p=>match p.1 with
 | .im (.int i)=>some (.im<|.int<|-i,p.2)
 | _=>none
theorem oX{a:Expr}{g:M Vl}{pos:Pos}(h:VE X a g):VE X (.UnaryOp .USub a pos) (lc g):=by
 refine aQ (ug uq h) fun σ H Q ⟨D,F,r,D',st,nd,hg,q⟩=>?_;obtain⟨⟨x,D1⟩,h1,h2⟩:=Z9.mp hg;refine⟨D,F,x,D1,st,nd,h1,fun v H1 F1 R s_ ow s1=>?_⟩;dsimp only at h2;split at h2
 ·rename_i i;cases h2;exact⟨i,ow.1,q _ H1 F1 [] s_ ⟨rfl,rfl⟩ (by rw[ZZ];exact s1.both)⟩
 ·cases h2
def wS:M (Option Int):=fun D=>some (none,D)
variable{H:Hp}
theorem am.take:∀ {ds:List Im}{xs:List V} (n:Nat),am H ds xs->am H (ds.take n) (xs.take n)
 | ds,xs,0,h=>rfl
 | [],xs,n+1,h=>by cases (show xs=[] from h);exact rfl
 | d::ds,xs,n+1,h=>by
  obtain⟨v,r,rfl,h1,h2⟩:=h;exact⟨v,_,rfl,h1,h2.take n⟩
abbrev OpN:=List Vl->Option Vl
@[simp] def vLen:OpN:=fun ds=>match ds with
 | [.im (.tup x)]=>some (.im<|.int x.length)
 | [.lst x]=>some (.im<|.int x.length)
 | [.fz x]=>some (.im<|.int x.length)
 | [.Co x]=>some (.im<|.int x.length)
 | [.dK x]=>some (.im<|.int x.length)
 | [.im (.str x)]=>if x.length<=100000 then some (.im<|.int x.length) else none
 | _=>none
variable{vs:List V}
theorem bL{d:Vl}(h:eg H [d] vs):∃ v,vs=[v]/\Dz H d v:=by
 obtain⟨v,r,rfl,h1,h2⟩:=h;cases (show r=[] from h2);exact⟨v,rfl,h1⟩
theorem oY{d e:Vl}(h:eg H [d,e] vs):∃ v u,vs=[v,u]/\Dz H d v/\Dz H e u:=by
 obtain⟨v,r,rfl,h1,h2⟩:=h;obtain⟨u,rfl,h3⟩:=bL h2;exact⟨v,u,rfl,h1,h3⟩
theorem CC.length{κ:Type}{H:Hp}{l:List (κ×Im)}{m:List (κ×V)}(h:CC H l m):l.length=m.length:=Yq h
theorem g8:cF X (.builtin "len") vLen:=by
 refine (u5.or<|u6.or vA).imp fun xs H Q ⟨ds,d,rd,e,q⟩=>?_;unfold vLen at e;split at e
 ·cases e;obtain⟨v,rfl,h⟩:=bL rd;obtain⟨p,xs,rfl,h1,h2⟩:=h.i;exact .inl ⟨p,xs,rfl,.inr<|BG.of h1,by rw[<- h2.length];exact Out.i q rfl⟩
 ·cases e;obtain⟨v,rfl,_,p,xs,rfl,h1,h2,_⟩:=bL rd;exact .inl ⟨p,xs,rfl,.inl<|BY.of h1,by rw[<- h2.length];exact Out.i q rfl⟩
 ·cases e;obtain⟨v,rfl,_,p,xs,o,rfl,h1,h2,_⟩:=bL rd;exact .inl ⟨p,xs,rfl,.inl<|.inl<|.inr ⟨o,h1⟩,by rw[<- h2.length];exact Out.i q rfl⟩
 ·cases e;obtain⟨v,rfl,_,p,xs,G,rfl,h1,h2,_⟩:=bL rd;exact .inl ⟨p,xs,rfl,.inl<|BY.of h1,by rw[<- h2.length];exact Out.i q rfl⟩
 ·cases e;obtain⟨v,rfl,_,p,B7,rfl,h1,h2,_⟩:=bL rd;exact .inr (.inr ⟨p,B7,rfl,h1,by rw[<- h2.length];exact Out.i q rfl⟩)
 ·split at e
  ·rename_i hl;cases e;obtain⟨v,rfl,h⟩:=bL rd;cases (show v=_ from h.i);exact .inr (.inl ⟨_,rfl,ej hl,Out.i q rfl⟩)
  ·cases e
 ·cases e
@[simp] def vTuple:OpN:=fun ds=>match ds with
 | [d]=>(dC d).map fun x=>.im (.tup x)
 | _=>none
@[simp] def vList:OpN:=fun ds=>match ds with
 | [d]=>(dC d).map .lst
 | _=>none
theorem jq:cF X (.type "tuple") vTuple:=by
 refine u8.imp fun xs H Q ⟨ds,d,rd,e,q⟩=>?_;unfold vTuple at e;split at e
 ·obtain⟨x,e1,e2⟩:=Z5.mp e;cases e2;obtain⟨v,rfl,h⟩:=bL rd;unfold dC at e1;split at e1
  ·cases e1;obtain⟨p,xs,rfl,h1,h2⟩:=h.i;exact⟨p,xs,rfl,.inr ⟨BG.of h1,Out.i q ⟨p,xs,rfl,h1,h2⟩⟩⟩
  ·cases e1;obtain⟨_,p,xs,rfl,h1,h2,_⟩:=h;exact⟨p,xs,rfl,.inl ⟨BY.of h1,fun l hl=>Out.t q hl h2⟩⟩
  ·cases e1;obtain⟨_,p,xs,o,rfl,h1,h2,_⟩:=h;exact⟨p,xs,rfl,.inl ⟨.inl<|.inr ⟨o,h1⟩,fun l hl=>Out.t q hl h2⟩⟩
  ·cases e1
 ·cases e
theorem wT:cF X (.type "list") vList:=by
 refine u7.imp fun xs H Q ⟨ds,d,rd,e,q⟩=>?_;unfold vList at e;split at e
 ·obtain⟨x,e1,e2⟩:=Z5.mp e;cases e2;obtain⟨v,rfl,h⟩:=bL rd;unfold dC at e1;split at e1
  ·cases e1;obtain⟨p,xs,rfl,h1,h2⟩:=h.i;exact⟨p,xs,rfl,.inr<|BG.of h1,fun l hl=>Out.l q hl h2⟩
  ·cases e1;obtain⟨_,p,xs,rfl,h1,h2,_⟩:=h;exact⟨p,xs,rfl,.inl<|BY.of h1,fun l hl=>Out.l q hl h2⟩
  ·cases e1;obtain⟨_,p,xs,o,rfl,h1,h2,_⟩:=h;exact⟨p,xs,rfl,.inl<|.inl<|.inr ⟨o,h1⟩,fun l hl=>Out.l q hl h2⟩
  ·cases e1
 ·cases e
@[simp] def vInt:OpN:=fun ds=>match ds with
 | [.im (.int i)]=>some (.im<|.int i)
 | [.im (.bl b)]=>some (.im<|.int<|if b then 1 else 0)
 | _=>none
theorem oZ:cF X (.type "int") vInt:=by
 refine uJ.imp fun xs H Q ⟨ds,d,rd,e,q⟩=>?_;unfold vInt at e;split at e
 ·cases e;obtain⟨v,rfl,h⟩:=bL rd;cases (show v=_ from h.i);exact .inl ⟨_,rfl,Out.i q rfl⟩
 ·cases e;obtain⟨v,rfl,h⟩:=bL rd;cases (show v=_ from h.i);exact .inr ⟨_,rfl,Out.i q rfl⟩
 ·cases e
@[simp] def vAbs:OpN:=fun ds=>match ds with
 | [.im (.int i)]=>some (.im<|.int<|if i<0 then -i else i)
 | _=>none
theorem pc:cF X (.builtin "abs") vAbs:=by
 refine uG.imp fun xs H Q ⟨ds,d,rd,e,q⟩=>?_;unfold vAbs at e;split at e
 ·cases e;obtain⟨v,rfl,h⟩:=bL rd;cases (show v=_ from h.i);exact⟨_,rfl,Out.i q rfl⟩
 ·cases e
@[simp] def vMax2:OpN:=fun ds=>match ds with
 | [.im (.int i),.im<|.int j]=>some (.im<|.int<|if j > i then j else i)
 | _=>none
@[simp] def vMin2:OpN:=fun ds=>match ds with
 | [.im (.int i),.im<|.int j]=>some (.im<|.int<|if j<i then j else i)
 | _=>none
theorem lg(hc:X.calm=true):cF X (.builtin "max") vMax2:=by
 refine (uH hc).imp fun xs H Q ⟨ds,d,rd,e,q⟩=>?_;unfold vMax2 at e;split at e
 ·cases e;obtain⟨v,u,rfl,h,k⟩:=oY rd;cases (show v=_ from h.i);cases (show u=_ from k.i);exact⟨_,_,rfl,Out.i q rfl⟩
 ·cases e
theorem lh(hc:X.calm=true):cF X (.builtin "min") vMin2:=by
 refine (uI hc).imp fun xs H Q ⟨ds,d,rd,e,q⟩=>?_;unfold vMin2 at e;split at e
 ·cases e;obtain⟨v,u,rfl,h,k⟩:=oY rd;cases (show v=_ from h.i);cases (show u=_ from k.i);exact⟨_,_,rfl,Out.i q rfl⟩
 ·cases e
@[simp] def bls:List Im->Option (List Bool)
 | []=>some []
 | .bl b::ds=>(bls ds).map fun r=>b::r
 | _::_=>none
theorem lj{H:Hp}:∀ {ds:List Im}{xs:List V}{bs:List Bool},am H ds xs->bls ds=some bs->xs=bs.map V.bl
 | [],xs,bs,h,e=>by cases e;exact h
 | .bl b::ds,xs,bs,h,e=>by
  obtain⟨v,r,rfl,h1,h2⟩:=h;rw[bls] at e;obtain⟨p,e1,e2⟩:=Z5.mp e;cases e2;cases (show v=.bl b from h1);rw[lj h2 e1];rfl
 | .j_::_,_,_,_,e=>by cases e
 | .int _::_,_,_,_,e=>by cases e
 | .str _::_,_,_,_,e=>by cases e
 | .tup _::_,_,_,_,e=>by cases e
 | .fn _::_,_,_,_,e=>by cases e
 | .fl _::_,_,_,_,e=>by cases e
 | .fd::_,_,_,_,e=>by cases e
@[simp] def vAll:OpN:=fun ds=>match ds with
 | [.lst x]=>(bls x).map fun bs=>.im (.bl<|bs.all id)
 | _=>none
@[simp] def vAny:OpN:=fun ds=>match ds with
 | [.lst x]=>(bls x).map fun bs=>.im (.bl<|bs.any id)
 | _=>none
theorem lm(hc:X.calm=true):cF X (.builtin "all") vAll:=by
 refine (wj hc).imp fun xs H Q ⟨ds,d,rd,e,q⟩=>?_;unfold vAll at e;split at e
 ·obtain⟨x,e1,e2⟩:=Z5.mp e;cases e2;obtain⟨v,rfl,_,p,xs,rfl,h1,h2,_⟩:=bL rd;rw[lj h2 e1] at h1;exact⟨p,x,rfl,h1,Out.i q rfl⟩
 ·cases e
end
section
variable{X:Cx}
theorem wU(hc:X.calm=true):aX X (.builtin "any") (fun xs H Q=>∃ l bs,xs=[.ref l]/\H l=some (.lst<|List.map V.bl bs)/\Q (.bl<|bs.any id) H):=by
 intro pins s σ H xs us Q I r h;obtain⟨l,bs,rfl,hl,q⟩:=h;obtain⟨u,rfl,ru⟩:=cy r;cases ru;obtain⟨z,f',n,rv,e⟩:=I.l_ l _ hl;have GK:s.heap.IsList l f'.toArray:=⟨_,e,rfl,n,rfl⟩;refine call_any_walk (XB GK ⟨s.heap.objs.size,[s.heap.objs.size,l],[s.heap.objs.size],f'.toArray.size,_,_,fun i=>(bs[i]?).getD false,rfl,Walks.list (A:=X.A.in1) (I.ok.hd hc) _ l (Zx<|ZP e) f'.toArray,
  ⟨⟨_,ZF _ rfl,rfl,rfl⟩,GK.push _⟩,fun i v s' Q' E' hP hQ=>?_,fun h' tk hk=>?_⟩)
 ·obtain⟨b,eb,rfl⟩:=n9 rv i v (by simpa using hP);simp only[eb,Xr] at hQ;exact YH hQ
 ·have el:f'.toArray.size=bs.length:=by
   have:=rv.length;rw[ZY] at this;rw[ZU,this]
  rw[el,LSm.range_any];exact⟨.bl _,H,I.kept<|LSm.kept_iter hk,rfl,q⟩
theorem wV(hc:X.calm=true):cF X (.builtin "any") vAny:=by
 refine (wU hc).imp fun xs H Q ⟨ds,d,rd,e,q⟩=>?_;unfold vAny at e;split at e
 ·obtain⟨x,e1,e2⟩:=Z5.mp e;cases e2;obtain⟨v,rfl,_,p,xs,rfl,h1,h2,_⟩:=bL rd;rw[lj h2 e1] at h1;exact⟨p,x,rfl,h1,Out.i q rfl⟩
 ·cases e
@[simp] def lq(T:String)(d:Vl):Option Bool:=
 if T = "int" then match d with
  | .im (.int _)=>some true
  | .im (.bl _)=>some true
  | .im (.str _)=>some false
  | .im (.tup _)=>some false
  | .im .j_=>some false
  | .lst _=>some false
  | .im (.fl _)=>some false
  | .im .fd=>some false
  | .dT _=>some false
  | .dK _=>some false
  | _=>none
 else if T = "bool" then match d with
  | .im (.int _)=>some false
  | .im (.bl _)=>some true
  | .im (.str _)=>some false
  | .im (.tup _)=>some false
  | .im .j_=>some false
  | .lst _=>some false
  | .im (.fl _)=>some false
  | .im .fd=>some false
  | .dT _=>some false
  | .dK _=>some false
  | _=>none
 else if T = "str" then match d with
  | .im (.int _)=>some false
  | .im (.bl _)=>some false
  | .im (.str _)=>some true
  | .im (.tup _)=>some false
  | .im .j_=>some false
  | .lst _=>some false
  | .im (.fl _)=>some false
  | .im .fd=>some false
  | .dT _=>some false
  | .dK _=>some false
  | _=>none
 else if T = "tuple" then match d with
  | .im (.int _)=>some false
  | .im (.bl _)=>some false
  | .im (.str _)=>some false
  | .im (.tup _)=>some true
  | .im .j_=>some false
  | .lst _=>some false
  | .im (.fl _)=>some false
  | .im .fd=>some false
  | .dT _=>some false
  | .dK _=>some false
  | _=>none
 else none
variable{pins:List (Addr×Obj)}{H:Hp}{s:Shared}
theorem eE{σ:St}(I:Inv X pins σ H s){a:Addr}(h:(∃ k,H a=some (.dT k))\/∃ k,H a=some (.dK k)):∃ o,s.heap.get? a=some o/\o.cls=.type "dict" := by
 rcases h with ⟨k,h⟩ | ⟨k,h⟩
 ·obtain⟨_,_,xs,_,o,es,ep,h1,h2,_⟩:=(show bj X.prog X.w H s.heap a (.dT k) from I.l_ a _ h);exact⟨o,h1,h2.1⟩
 ·obtain⟨_,_,vs,_,o,es,ep,h1,h2,_⟩:=(show bj X.prog X.w H s.heap a (.dK k) from I.l_ a _ h);exact⟨o,h1,h2.1⟩
theorem jr{σ:St}(I:Inv X pins σ H s){a:Addr}{p:Obj}(h:H a=some (.Cg p<|.dT [])):∃ o,s.heap.get? a=some o/\o.cls=.type "dict" := by
 obtain⟨_,_,_,xs,_,o,es,ep,h1,h2,_⟩:=(show bj X.prog X.w H s.heap a (.Cg p<|.dT []) from I.l_ a _ h);exact⟨o,h1,h2.1⟩
theorem wW:aX X (.builtin "isinstance") (fun xs H Q=>∃ x T d b,xs=[x,.ty T]/\Dz H d x/\lq T d=some b/\Q (.bl b) H):=by
 intro pins s σ H xs us Q I r h;obtain⟨x,T,d,b,rfl,rd,hi,q⟩:=h;have r0:=r;cases r with
 | cons r rr=>
  cases rr with
  | cons r' rr=>
   cases rr;cases r';have f1:∀ {b:Bool},Q (.bl b) H->EP X pins σ Q (.bool b) { s with toks:=s.toks+1 }:=fun {b} q=>⟨.bl b,H,I.tok _,rfl,q⟩;have dI:∀ {a:Addr},(∃ o,s.heap.get? a=some o/\o.cls=.type "dict")->(T = "int" \/ T = "bool" \/ T = "str" \/ T = "tuple")->b=false->wpAny (model X.prog X.w) X.A (call (.builtin "isinstance") [.ref a,.type T]) (EP X pins σ Q) X.xe s:=by
    rintro a ⟨o,ho,hc⟩ hT rfl;rcases hT with rfl | rfl | rfl | rfl
    ·exact IsiPair.dict_int ho hc (f1 q)
    ·exact IsiPair.dict_bool ho hc (f1 q)
    ·exact IsiPair.dict_str ho hc (f1 q)
    ·exact IsiPair.dict_tuple ho hc (f1 q)
   have nI:(T = "int" \/ T = "bool" \/ T = "str" \/ T = "tuple")->b=false->wpAny (model X.prog X.w) X.A (call (.builtin "isinstance") [.none,.type T]) (EP X pins σ Q) X.xe s:=by
    rintro hT rfl;rcases hT with rfl | rfl | rfl | rfl
    ·exact IsiPair.NoneType_int (f1 q)
    ·exact IsiPair.NoneType_bool (f1 q)
    ·exact IsiPair.NoneType_str (f1 q)
    ·exact IsiPair.NoneType_tuple (f1 q)
   have cI:n6 X.K H x T b->wpAny (model X.prog X.w) X.A (call (.builtin "isinstance") [_,.type T]) (EP X pins σ Q) X.xe s:=fun hh=>wg pins s σ H _ _ Q I r0 ⟨x,T,b,rfl,hh,q⟩;unfold lq at hi;split at hi
   ·rename_i hT;subst hT;split at hi
    ·cases hi;exact cI (.inl ⟨_,rd.i,.inl ⟨rfl,rfl⟩⟩)
    ·cases hi;exact cI (.inr<|.inl ⟨_,rd.i,.inr<|.inl ⟨rfl,rfl⟩⟩)
    ·cases hi;exact cI (.inr<|.inr<|.inl ⟨_,rd.i,.inr<|.inl ⟨rfl,rfl⟩⟩)
    ·cases hi;obtain⟨a,xs,e,h1,h2⟩:=rd.i;exact cI (.inr<|.inr<|.inr<|.inl ⟨a,xs,e,BG.of h1,.inr<|.inl ⟨rfl,rfl⟩⟩)
    ·cases hi;cases (show x=.j_ from rd.i);cases r;exact nI (.inl rfl) rfl
    ·cases hi;obtain⟨_,a,xs,e,h1,h2,_⟩:=rd;exact cI (.inr<|.inr<|.inr<|.inr ⟨a,xs,e,BY.of h1,.inr<|.inl ⟨rfl,rfl⟩⟩)
    ·cases hi;obtain⟨a,xs,o,e,h1,h2⟩:=rd.i;exact cI (.inr<|.inr<|.inr<|.inr ⟨a,xs,e,.inl<|.inr ⟨o,h1⟩,.inr<|.inl ⟨rfl,rfl⟩⟩)
    ·cases hi;obtain⟨a,o,rfl,h1⟩:=rd.i;cases r;exact dI (jr I h1) (.inl rfl) rfl
    ·cases hi;obtain⟨_,a,xs,rfl,h1,h2,_⟩:=rd;cases r;exact dI (eE I<|.inl ⟨_,h1⟩) (.inl rfl) rfl
    ·cases hi;obtain⟨_,a,xs,rfl,h1,h2,_⟩:=rd;cases r;exact dI (eE I<|.inr ⟨_,h1⟩) (.inl rfl) rfl
    ·cases hi
   ·split at hi
    ·rename_i hT;subst hT;split at hi
     ·cases hi;exact cI (.inl ⟨_,rd.i,.inr<|.inr<|.inr<|.inl ⟨rfl,rfl⟩⟩)
     ·cases hi;exact cI (.inr<|.inl ⟨_,rd.i,.inl ⟨rfl,rfl⟩⟩)
     ·cases hi;exact cI (.inr<|.inr<|.inl ⟨_,rd.i,.inr<|.inr<|.inr<|.inl ⟨rfl,rfl⟩⟩)
     ·cases hi;obtain⟨a,xs,e,h1,h2⟩:=rd.i;exact cI (.inr<|.inr<|.inr<|.inl ⟨a,xs,e,BG.of h1,.inr<|.inr<|.inr<|.inl ⟨rfl,rfl⟩⟩)
     ·cases hi;cases (show x=.j_ from rd.i);cases r;exact nI (.inr<|.inl rfl) rfl
     ·cases hi;obtain⟨_,a,xs,e,h1,h2,_⟩:=rd;exact cI (.inr<|.inr<|.inr<|.inr ⟨a,xs,e,BY.of h1,.inr<|.inr<|.inr<|.inl ⟨rfl,rfl⟩⟩)
     ·cases hi;obtain⟨a,xs,o,e,h1,h2⟩:=rd.i;exact cI (.inr<|.inr<|.inr<|.inr ⟨a,xs,e,.inl<|.inr ⟨o,h1⟩,.inr<|.inr<|.inr<|.inl ⟨rfl,rfl⟩⟩)
     ·cases hi;obtain⟨a,o,rfl,h1⟩:=rd.i;cases r;exact dI (jr I h1) (.inr<|.inl rfl) rfl
     ·cases hi;obtain⟨_,a,xs,rfl,h1,h2,_⟩:=rd;cases r;exact dI (eE I<|.inl ⟨_,h1⟩) (.inr<|.inl rfl) rfl
     ·cases hi;obtain⟨_,a,xs,rfl,h1,h2,_⟩:=rd;cases r;exact dI (eE I<|.inr ⟨_,h1⟩) (.inr<|.inl rfl) rfl
     ·cases hi
    ·split at hi
     ·rename_i hT;subst hT;split at hi
      ·cases hi;exact cI (.inl ⟨_,rd.i,.inr<|.inr<|.inl ⟨rfl,rfl⟩⟩)
      ·cases hi;exact cI (.inr<|.inl ⟨_,rd.i,.inr<|.inr<|.inr<|.inl ⟨rfl,rfl⟩⟩)
      ·cases hi;exact cI (.inr<|.inr<|.inl ⟨_,rd.i,.inl ⟨rfl,rfl⟩⟩)
      ·cases hi;obtain⟨a,xs,e,h1,h2⟩:=rd.i;exact cI (.inr<|.inr<|.inr<|.inl ⟨a,xs,e,BG.of h1,.inr<|.inr<|.inl ⟨rfl,rfl⟩⟩)
      ·cases hi;cases (show x=.j_ from rd.i);cases r;exact nI (.inr<|.inr<|.inl rfl) rfl
      ·cases hi;obtain⟨_,a,xs,e,h1,h2,_⟩:=rd;exact cI (.inr<|.inr<|.inr<|.inr ⟨a,xs,e,BY.of h1,.inr<|.inr<|.inl ⟨rfl,rfl⟩⟩)
      ·cases hi;obtain⟨a,xs,o,e,h1,h2⟩:=rd.i;exact cI (.inr<|.inr<|.inr<|.inr ⟨a,xs,e,.inl<|.inr ⟨o,h1⟩,.inr<|.inr<|.inl ⟨rfl,rfl⟩⟩)
      ·cases hi;obtain⟨a,o,rfl,h1⟩:=rd.i;cases r;exact dI (jr I h1) (.inr<|.inr<|.inl rfl) rfl
      ·cases hi;obtain⟨_,a,xs,rfl,h1,h2,_⟩:=rd;cases r;exact dI (eE I<|.inl ⟨_,h1⟩) (.inr<|.inr<|.inl rfl) rfl
      ·cases hi;obtain⟨_,a,xs,rfl,h1,h2,_⟩:=rd;cases r;exact dI (eE I<|.inr ⟨_,h1⟩) (.inr<|.inr<|.inl rfl) rfl
      ·cases hi
     ·split at hi
      ·rename_i hT;subst hT;split at hi
       ·cases hi;exact cI (.inl ⟨_,rd.i,.inr<|.inl ⟨rfl,rfl⟩⟩)
       ·cases hi;exact cI (.inr<|.inl ⟨_,rd.i,.inr<|.inr<|.inl ⟨rfl,rfl⟩⟩)
       ·cases hi;exact cI (.inr<|.inr<|.inl ⟨_,rd.i,.inr<|.inr<|.inl ⟨rfl,rfl⟩⟩)
       ·cases hi;obtain⟨a,xs,e,h1,h2⟩:=rd.i;exact cI (.inr<|.inr<|.inr<|.inl ⟨a,xs,e,BG.of h1,.inl ⟨rfl,rfl⟩⟩)
       ·cases hi;cases (show x=.j_ from rd.i);cases r;exact nI (.inr<|.inr<|.inr rfl) rfl
       ·cases hi;obtain⟨_,a,xs,e,h1,h2,_⟩:=rd;exact cI (.inr<|.inr<|.inr<|.inr ⟨a,xs,e,BY.of h1,.inr<|.inr<|.inr<|.inr ⟨rfl,rfl⟩⟩)
       ·cases hi;obtain⟨a,xs,o,e,h1,h2⟩:=rd.i;exact cI (.inr<|.inr<|.inr<|.inr ⟨a,xs,e,.inl<|.inr ⟨o,h1⟩,.inr<|.inr<|.inr<|.inr ⟨rfl,rfl⟩⟩)
       ·cases hi;obtain⟨a,o,rfl,h1⟩:=rd.i;cases r;exact dI (jr I h1) (.inr<|.inr<|.inr rfl) rfl
       ·cases hi;obtain⟨_,a,xs,rfl,h1,h2,_⟩:=rd;cases r;exact dI (eE I<|.inl ⟨_,h1⟩) (.inr<|.inr<|.inr rfl) rfl
       ·cases hi;obtain⟨_,a,xs,rfl,h1,h2,_⟩:=rd;cases r;exact dI (eE I<|.inr ⟨_,h1⟩) (.inr<|.inr<|.inr rfl) rfl
       ·cases hi
      ·cases hi
@[simp] def eF(T:String)(g:M Opd):M Vl:=fun D=>(g D).bind fun p=>(rsl p.2 p.1).bind fun d=>(lq T d).map fun b=>(.im<|.bl b,p.2)
variable{e:Expr}{g:M Opd}
theorem fW{T:String}{x:Str}{p p2 pos:Pos}(hg:Gl X "isinstance")(hm:X.mg "isinstance" = none)(hv:bootBuiltins "isinstance" = some (.builtin "isinstance"))(Of:Gl X x)(Og:X.mg x=none)(Oh:bootBuiltins x=some (.type T))(h:VO X e g)(hn:x ≠ "__name__" := by decide)(hd:(x == ("__debug__" : Str))=false:=by decide)(he:starEach [e,.Name x p2] X.env=(false,eval e X.env)::starEach [.Name x p2] X.env:=by rfl)(FP:starEach [.Name x p2] X.env=(false,eval (.Name x p2) X.env)::starEach [] X.env:=by rfl)(CP:(backTo pos<|starEach [.Name x p2] X.env).any (·.1)=false:=by rfl):VE X (.Call (.Name "isinstance" p) [e,.Name x p2] [] pos) (eF T g):=by
 refine aQ (iV wW hg hm hv (dv h (dv (mX (v:=.ty T) Of Og Oh rfl hn hd) gK FP) he) (by decide) (by decide) he CP) fun σ H Q ⟨D,F,r,D',st,nd,Di,q⟩=>?_;obtain⟨⟨o,D1⟩,h1,h2⟩:=Z9.mp Di;obtain⟨d,h3,h4⟩:=Z9.mp h2;obtain⟨b,h5,h6⟩:=Z5.mp h4;cases h6;exact⟨D,F,o,D1,st,nd,h1,fun v H1 F1 R s_ o1 s1=>⟨v,T,d,b,rfl,o1.read s_ h3,h5,q _ H1 F1 [] s_ ⟨rfl,rfl⟩ (by rw[ZZ];exact s1.both)⟩⟩
@[simp] def g9:Vl->Option Bool
 | .im .j_=>some false
 | .im (.bl b)=>some b
 | .im (.int i)=>some (i != 0)
 | .im (.str x)=>if x.length<=100000 then some ((x.length:Int) != 0) else none
 | .im (.tup ds)=>some (!ds.isEmpty)
 | .lst ds=>some (!ds.isEmpty)
 | .fz ds=>some (!ds.isEmpty)
 | .dK kvs=>some (!kvs.isEmpty)
 | _=>none
theorem am.emp{ds:List Im}{xs:List V}(h:am H ds xs):(!xs.isEmpty)=!ds.isEmpty:=by
 cases ds with
 | nil=>cases (show xs=[] from h);rfl
 | cons d ds=>obtain⟨v,r,rfl,_⟩:=h;rfl
theorem wX{d:Vl}{v:V}{b:Bool}(h:Dz H d v)(e:g9 d=some b):km X.K v H b:=by
 unfold g9 at e;split at e
 ·cases e;cases (show v=_ from h.i);rfl
 ·cases e;cases (show v=_ from h.i);rfl
 ·cases e;cases (show v=_ from h.i);rfl
 ·split at e
  ·rename_i hl;cases e;cases (show v=_ from h.i);exact⟨ej hl,rfl⟩
  ·cases e
 ·cases e;obtain⟨p,xs,rfl,h1,h2⟩:=h.i;exact .inr (.inl ⟨xs,BG.of h1,h2.emp.symm⟩)
 ·cases e;obtain⟨_,p,xs,rfl,h1,h2,_⟩:=h;exact .inl ⟨xs,BY.of h1,h2.emp.symm⟩
 ·cases e;obtain⟨_,p,xs,o,rfl,h1,h2,_⟩:=h;exact .inl ⟨xs,.inl<|.inr ⟨o,h1⟩,h2.emp.symm⟩
 ·cases e;obtain⟨_,p,B7,rfl,h1,h2,_⟩:=h;refine .inr (.inr ⟨B7,h1,?_⟩);cases h2<;>rfl
 ·cases e
@[simp] def cb(g:M Opd):M Bool:=fun D=>(g D).bind fun p=>(rsl p.2 p.1).bind fun d=>(g9 d).map fun b=>(b,p.2)
theorem dH(h:VO X e g)(he:∀ whole,isTrue e X.env whole=(do let v <- whole;standAt e.pos;holding [v] (truthy v)):=by intro _;rfl):VT X e (cb g):=by
 refine kQ (uE h he) fun σ H Q ⟨D,F,b,D',st,nd,Di,q⟩=>?_;obtain⟨⟨o,D1⟩,h1,h2⟩:=Z9.mp Di;obtain⟨d,h3,h4⟩:=Z9.mp h2;obtain⟨b',h5,h6⟩:=Z5.mp h4;cases h6;exact⟨D,F,o,D1,st,nd,h1,fun v H1 F1 R s_ o1 s1=>⟨_,wX (o1.read s_ h3) h5,q H1 F1 s_ s1.both⟩⟩
end
variable{w_ apos:Pos}{o:Expr}{id T:String}{name:Str}{g:M (List Opd)}{i:Nat}{ty:Vl->Bool}{K:PySem.W.Frag}{o':HO}{a:Addr}{H:Hp}
theorem n_.chg{F F1:List Addr}(ha:a∈F)(c:DU H a)(nd:F1.Nodup)(sb:∀ x∈F1,x∈F):n_ H F (upd H a o') F1:=by
 obtain⟨o,e,ht,hf⟩:=c;refine⟨fun x u ex hx=>?_,fun x hx=>.inl<|sb x hx,nd,BD.of (fun x xs ex=>?_)<|fun x p u ex=>?_,fun x u ex=>?_⟩
 ·rw[aE (fun z=>hx (by rw[z];exact ha))];exact ex
 ·rw[aE]
  ·exact ex
  ·rintro rfl;rw[e] at ex;exact ht xs (Zw ex)
 ·rw[aE]
  ·exact ex
  ·rintro rfl;rw[e] at ex;exact hf p u (Zw ex)
 ·by_cases hx:x=a
  ·subst hx;exact⟨o',bo⟩
  ·exact⟨u,(aE hx).trans ex⟩
theorem BI.Ev(c:DU H a):EM H (upd H a o'):=(n_.chg (F:=[a]) (F1:=[]) (.head _) c XM<|fun x hx=>nomatch hx).tup.tup
def IZ(X:Cx)(id:String)(mt:Vl->List Vl->Option (Vl×Vl)):Prop:=
 Iw X id fun x vs H Q=>∃ c ds r c' R S,Own H c x R/\aI H ds vs S/\(R++S).Nodup/\mt c ds=some (r,c')/\∀ v H' R1 R2,Own H' r v R1->Own H' c' x R2->n_ H (R++S) H' (R1++R2)->Q v H'
@[simp] def fw:Vl->Bool
 | .lst _=>true
 | .Co _=>true
 | _=>false
@[simp] def c7(ty:Vl->Bool)(i:Nat)(mt:Vl->List Vl->Option (Vl×Vl))(g:M (List Opd)):M Vl:=fun D=>match D[i]? with
 | some (some c0)=>if ty c0=true then (g D).bind fun p=>(bb p.1 p.2).bind fun q=>match q.2[i]? with
   | some (some c)=>(mt c q.1).map fun r=>(r.1,q.2.set i<|some r.2)
   | _=>none
  else none
 | _=>none
theorem pd{mt:Vl->List Vl->Option (Vl×Vl)}{σ:St}{Q:VK}(Fi:∀ H c x R,Own H c x R->ty c=true->GC K T x H)(h:tV (c7 ty i mt g) σ H Q):∃ x,σ[i]?=some (some x)/\GC K T x H/\tA g σ H fun vs H2=>∃ c ds r c' R S,Own H2 c x R/\aI H2 ds vs S/\(R++S).Nodup/\mt c ds=some (r,c')/\∀ v H' R1 R2,Own H' r v R1->Own H' c' x R2->n_ H2 (R++S) H' (R1++R2)->Q v H':=by
 obtain⟨D,F,r,D',st,nd,hg,q⟩:=h;unfold c7 at hg;split at hg
 ·rename_i c0 Lv;split at hg
  ·rename_i ht;obtain⟨x,A0,B0,hx,w0,_,_⟩:=st.out Lv;refine⟨x,hx,Fi H c0 x _ w0 ht,?_⟩;obtain⟨⟨os,D1⟩,h1,h2⟩:=Z9.mp hg;obtain⟨⟨ds,D2⟩,h3,h4⟩:=Z9.mp h2;refine⟨D,F,os,D1,st,nd,h1,fun vs H1 F1 R1 s_ o1 s1=>?_⟩;obtain⟨F2,S,o_,ow,pm⟩:=eh s_ o1 h3;dsimp only at h4;split at h4
   ·rename_i c hc;obtain⟨⟨r',c'⟩,h5,h6⟩:=Z5.mp h4;cases h6;obtain⟨x',R,F3,Ek,w1,Df,IV⟩:=o_.out hc;rw[hx] at Ek;cases Ek;have s2:n_ H F H1 ((R++S)++F3):=s1.B_ (pm.symm.trans ((ZK S IV.symm).trans (by
     rw[Z7];exact Z1)))
    have FQ:=ZM.mp s2.nd;refine⟨c,ds,_,c',R,S,w1,ow,FQ.1,h5,fun v H' A B wa wb s3=>?_⟩;have Dv:aj H' (D2.set i<|some .jk) σ F3:=Df.mono s3.tup fun a ha o e=>s3.keep a o e fun h=>FQ.2.2 a h a ha rfl;obtain⟨F4,G,CW,Gh⟩:=Dv.back wb hx;rw[Wy] at CW;refine q v H' F4 A CW wa ((s2.trans s3 Df.chg).less (C:=G) ?_);rw[Z7];refine (ZT F4 Z1).trans ?_;rw[<- Z7];refine (ZK A Gh).trans ?_;rw[Z7];refine Z1.trans ?_;rw[Z7];refine Z1.trans ?_;rw[Z7,Z7];refine (ZT A ?_);exact Z1
   ·cases h4
  ·cases hg
 ·cases hg
section
variable{X:Cx}
theorem fy:∀ (H:Hp) (c:Vl) (x:V) (R:List Addr),Own H c x R->fw c=true->GC K "list" x H:=by
 intro H c x R h e;cases c with
 | lst ds=>obtain⟨a,xs,rfl,h1,_⟩:=h;exact .inl ⟨rfl,xs,BY.of h1⟩
 | Co ds=>obtain⟨a,xs,G,rfl,h1,_⟩:=h;exact .inl ⟨rfl,xs,BY.of h1⟩
 | _=>cases e
theorem js{mt:Vl->List Vl->Option (Vl×Vl)}{e:Expr}{es:List Expr}(Fi:∀ H c x R,Own H c x R->ty c=true->GC X.K T x H)(pa:PlainAttrs T)(slot:Slot T name id)(ht:typeOf (.builtin id)=pure (.type "method_descriptor"))(hm:IZ X id mt)(ho:PE X o (e8 i))(ha:VA X (e::es) g)(B8:attributeBase o name X.env (eval o X.env)=eval o X.env:=by rfl)(Eo:((backTo w_<|starEach (e::es) X.env).all (fun x=>!x.1) && (backToKw w_<|keywordEach [] X.env).all (fun x=>x.1.isSome)
   && decide ((e::es).length+([]:List Keyword).length+(if ([]:List Keyword).isEmpty then 0 else 1)<30))=true:=by rfl)(B9:(apos.endLine == w_.line)=true:=by rfl)(hs:starEach (e::es) X.env=(false,eval e X.env)::starEach es X.env:=by rfl)(Cm:(backTo w_<|starEach es X.env).any (·.1)=false:=by rfl):
  VE X (.Call (.Attribute o name apos) (e::es) [] w_) (c7 ty i mt g):=
 aQ (kw pa slot ht hm ho ha B8 Eo B9 hs Cm) fun σ H Q h=>by
  obtain⟨x,hx,h1,h2⟩:=pd Fi h;exact⟨x,hx,h1,h2⟩
theorem wY{mt:Vl->List Vl->Option (Vl×Vl)}(Fi:∀ H c x R,Own H c x R->ty c=true->GC X.K T x H)(pa:PlainAttrs T)(slot:Slot T name id)(ht:typeOf (.builtin id)=pure (.type "method_descriptor"))(hm:IZ X id mt)(ho:PE X o (e8 i))(B8:attributeBase o name X.env (eval o X.env)=eval o X.env:=by rfl)(B9:(apos.endLine == w_.line)=true:=by rfl):
  VE X (.Call (.Attribute o name apos) [] [] w_) (c7 ty i mt aNil):=
 aQ (va pa slot ht hm ho B8 B9) fun σ H Q h=>by
  obtain⟨x,hx,h1,h2⟩:=pd Fi h;refine⟨x,hx,h1,?_⟩;obtain⟨D,F,r,D',st,nd,hg,q⟩:=h2;cases hg;exact q [] H F [] st ⟨rfl,rfl⟩ (by rw[ZZ];exact n_.perm nd (ZI _))
@[simp] def mAppend:Vl->List Vl->Option (Vl×Vl):=fun c ds=>match c,ds with
 | .lst xs,[.im d]=>if xs.length<100000 then some (.im .j_,.lst<|xs++[d]) else none
 | _,_=>none
theorem lr{n:Nat}(h:n<100000):n<sizeLine:=Zz h (by decide)
theorem ls:IZ X "list.append" mAppend:=by
 intro pins s σ H x vs v us Q I rx rv ⟨c,ds,r,c',R,S,wc,wd,nd,e,q⟩;unfold mAppend at e;split at e
 ·split at e
  ·rename_i hl;cases e;obtain⟨a,ys,rfl,h1,h2,rfl⟩:=wc;obtain⟨y,t,S1,S2,rfl,⟨hy,rfl⟩,⟨rfl,rfl⟩,rfl⟩:=wd;have c:DU H a:=⟨_,h1,(fun _ e=>by cases e),(fun _ _ e=>by cases e)⟩;refine vd pins s σ H _ _ v us Q I rx rv ⟨a,ys,y,rfl,rfl,h1,lr (by rw[<- h2.length];exact hl),q .j_ _ [] [a] ⟨rfl,rfl⟩ ?_ (n_.chg (.head _) c (ZB _ _) fun x hx=>by simpa using hx)⟩;exact⟨a,_,rfl,bo,(h2.snoc hy).mono<|BI.Ev c,rfl⟩
  ·cases e
 ·cases e
@[simp] def mPop:Vl->List Vl->Option (Vl×Vl):=fun c ds=>match c,ds with
 | .lst xs,[]=>(xs.getLast?).map fun d=>(.im d,.lst xs.dropLast)
 | _,_=>none
theorem am.last{ds:List Im}{xs:List V}{d:Im}(h:am H ds xs)(e:ds.getLast?=some d):∃ v,xs[xs.length - 1]?=some v/\BI H d v/\am H ds.dropLast xs.dropLast:=by
 rw[List.getLast?_eq_getElem?] at e;obtain⟨v,g1,g2⟩:=h.get e;refine⟨v,by rw[<- h.length];exact g1,g2,?_⟩;rw[List.dropLast_eq_take,List.dropLast_eq_take,<- h.length];exact h.take _
theorem wZ:IZ X "list.pop" mPop:=by
 intro pins s σ H x vs v us Q I rx rv ⟨c,ds,r,c',R,S,wc,wd,nd,e,q⟩;unfold mPop at e;split at e
 ·obtain⟨d,e1,e2⟩:=Z5.mp e;cases e2;obtain⟨a,ys,rfl,h1,h2,rfl⟩:=wc;obtain⟨rfl,rfl⟩:=wd;obtain⟨y,g1,g2,g3⟩:=h2.last e1;have c:DU H a:=⟨_,h1,(fun _ e=>by cases e),(fun _ _ e=>by cases e)⟩;refine vf pins s σ H _ _ v us Q I rx rv ⟨a,ys,y,rfl,rfl,h1,g1,q y _ [] [a] ⟨g2.mono<|BI.Ev c,rfl⟩ ?_ (n_.chg (.head _) c (ZB _ _) fun x hx=>by simpa using hx)⟩;exact⟨a,_,rfl,bo,g3.mono<|BI.Ev c,rfl⟩
 ·cases e
@[simp] def A8:Vl->List Vl->Option (Vl×Vl):=fun c ds=>match c,ds with
 | .lst xs,[.im (.int i)]=>if 0<=i/\i<xs.length then (xs[i.toNat]?).map fun d=>(.im d,.lst<|xs.eraseIdx i.toNat) else none
 | _,_=>none
@[simp] def mExtend:Vl->List Vl->Option (Vl×Vl):=fun c ds=>match c,ds with
 | .lst xs,[.lst ys]=>if xs.length+ys.length<=100000 then some (.im .j_,.lst<|xs++ys) else none
 | _,_=>none
theorem w9:IZ X "list.extend" mExtend:=by
 intro pins s σ H x vs v us Q I rx rv ⟨c,ds,r,c',R,S,wc,wd,nd,e,q⟩;unfold mExtend at e;split at e
 ·split at e
  ·rename_i hl;cases e;obtain⟨a,ys,rfl,h1,h2,rfl⟩:=wc;obtain⟨y,t,S1,S2,rfl,⟨b,zs,rfl,h3,h4,rfl⟩,⟨rfl,rfl⟩,rfl⟩:=wd;have c:DU H a:=⟨_,h1,(fun _ e=>by cases e),(fun _ _ e=>by cases e)⟩;refine ve pins s σ H _ _ v us Q I rx rv ⟨a,b,ys,zs,rfl,rfl,h1,h3,ej (by rw[<- h2.length,<- h4.length];exact hl),q .j_ _ [] [a] ⟨rfl,rfl⟩ ?_ (n_.chg (.head _) c (ZB _ _) fun x hx=>by
    rw[List.nil_append] at hx;exact ZH _ hx)⟩
   exact⟨a,_,rfl,bo,(h2.app h4).mono<|BI.Ev c,rfl⟩
  ·cases e
 ·cases e
def jt(X:Cx)(pt:Vl->Vl->Vl->Option Vl):Prop:=
 kf X fun o i v H Q=>∃ c k d c' R S,Own H c o R/\Own H k i []/\Own H d v S/\(R++S).Nodup/\pt c k d=some c'/\∀ H' R',Own H' c' o R'->n_ H (R++S) H' R'->Q H'
@[simp] def putV(c k d:Vl):Option Vl:=match c,k,d with
 | .lst xs,.im<|.int i,.im d=>(GB xs.length i).map fun j=>.lst (xs.set j d)
 | _,_,_=>none
theorem am.set{H:Hp}{d:Im}{v:V}(w:BI H d v):∀ {ds:List Im}{xs:List V} (n:Nat),am H ds xs->am H (ds.set n d) (xs.set n v)
 | [],xs,n,h=>by cases (show xs=[] from h);exact rfl
 | e::ds,xs,0,h=>by obtain⟨u,r,rfl,h1,h2⟩:=h;exact⟨v,r,rfl,w,h2⟩
 | e::ds,xs,n+1,h=>by obtain⟨u,r,rfl,h1,h2⟩:=h;exact⟨u,_,rfl,h1,am.set w n h2⟩
theorem pf:jt X putV:=by
 intro pins s σ H o i v ov iv u Q I ro ri rv ⟨c,k,d,c',R,S,wc,wk,wd,nd,e,q⟩;unfold putV at e;split at e
 ·obtain⟨j,e1,e2⟩:=Z5.mp e;cases e2;obtain⟨a,ys,rfl,h1,h2,rfl⟩:=wc;obtain⟨hd,rfl⟩:=wd;have c:DU H a:=⟨_,h1,(fun _ e=>by cases e),(fun _ _ e=>by cases e)⟩;refine u4 pins s σ H _ _ _ ov iv u Q I ro ri rv ⟨a,ys,_,j,rfl,wk.1,h1,by rw[<- h2.length];exact e1,q _ [a] ?_ (n_.chg (.head _) c (ZB _ _) fun x hx=>by simpa using hx)⟩;exact⟨a,_,rfl,bo,(am.set hd j h2).mono<|BI.Ev c,rfl⟩
 ·cases e
@[simp] def gIx(i:Nat)(gk:M Vl)(pt:Vl->Vl->Vl->Option Vl):MG:=fun d D=>match D[i]? with
 | some (some _)=>(gk D).bind fun p=>if p.1.cp=true then match p.2[i]? with
   | some (some c)=>(pt c p.1 d).map fun c'=>p.2.set i (some c')
   | _=>none
  else none
 | _=>none
theorem fX{fix:List Nat}{k:Expr}{gk:M Vl}{pt:Vl->Vl->Vl->Option Vl}{pos:Pos}(ho:PE X o (e8 i))(hk:VE X k gk)(hp:jt X pt)(ha:∀ v,assign (.Subscript o k pos) X.env v=(do
   let ov <- holding [v] (eval o X.env)
   let iv <- holding [v,ov] (eval k X.env)
   standAt pos
   holding [v,ov,iv] (setItem ov iv v)
   release [v,ov,iv] []):=by intro _;rfl):VG X fix (.Subscript o k pos) (gIx i gk pt):=by
 refine kW (tM ho hk hp ha) fun v σ H Q ⟨D,F,d,R,D',st,ow,nd,hg,q⟩=>?_;unfold gIx at hg;split at hg
 ·rename_i c0 Lv;obtain⟨x,A0,B0,hx,w0,_,_⟩:=st.out Lv;obtain⟨⟨kd,D1⟩,h1,h2⟩:=Z9.mp hg;split at h2
  ·rename_i Oi;refine⟨x,hx,D,F,kd,D1,st,(ZM.mp nd).1,h1,fun kv H1 F1 RK s_ wk s1=>?_⟩;obtain rfl:=wk.cp Oi;rw[ZZ] at s1;have Oj:=ZM.mp nd;dsimp only at h2;split at h2
   ·rename_i c hc;obtain⟨c',h5,h6⟩:=Z5.mp h2;cases h6;obtain⟨x',RC,F3,Ek,w1,Df,IV⟩:=s_.out hc;rw[hx] at Ek;cases Ek;have Ol:Own H1 d v R:=ow.mono s1.tup fun a ha o e=>s1.keep a o e fun h=>Oj.2.2 a h a ha rfl;have s2:n_ H (F++R) H1 ((RC++R)++F3):=by
     have e0:n_ H (F++R) H (F++R):=n_.perm nd (ZI _);have:=n_.trans (F1:=F) (R:=R) e0 s1 ow.chg;refine this.B_ ((ZK R IV.symm).trans ?_);rw[Z7];exact Z1
    have FQ:=ZM.mp s2.nd;refine⟨c,kd,d,c',RC,R,w1,wk,Ol,FQ.1,h5,fun H' R' w' s3=>?_⟩;have Dv:aj H' (D1.set i<|some .jk) σ F3:=Df.mono s3.tup fun a ha o e=>s3.keep a o e fun h=>FQ.2.2 a h a ha rfl;obtain⟨F4,G,CW,Gh⟩:=Dv.back w' hx;rw[Wy] at CW;exact q σ H' F4 aH.refl CW ((s2.trans s3 Df.chg).less<|Gh.trans Z1)
   ·cases h2
  ·cases h2
 ·cases hg
end
section
variable{prog:Program}{w:World}{A:Around}{E:Value->Shared->Prop}{s:Shared}
end
section
variable{X:Cx}
end
end L2
namespace L2
open PySem PySem.Spec PyProof.Rows PySem.W
variable{ns:List Int}{p:Array Nat}{α:Type}
theorem xa(l:List α)(d:α):(range l.length).map (fun i=>l.getD i d)=l:=by
 apply List.ext_getElem
 ·simp
 ·intro i h1 h2;simp[List.getD,h2]
theorem lu{l:List α}{d:α}(h:Rg l.length p):(p.toList.map fun i=>l.getD i d).Perm l:=by
 have:=List.Perm.map (fun i=>l.getD i d) h;rw[xa] at this;exact this
theorem lv{α β:Type}{F:α->β->Prop}:∀ {l₁:List α}{l₂:List β},l₁.length=l₂.length->(∀ (i:Nat) a b,l₁[i]?=some a->l₂[i]?=some b->F a b)->Paired F l₁ l₂
 | [],[],_,_=>.nil
 | a::l,b::m,h,f=>.cons (f 0 a b rfl rfl) (lv (by simpa using h) fun i x y h1 h2=>f (i+1) x y (by simpa using h1) (by simpa using h2))
 | [],_::_,h,_=>by simp at h
 | _::_,[],h,_=>by simp at h
section
variable{prog:Program}{w:World}{A:Around}{E:Value->Shared->Prop}{s:Shared}{vs:List Value}
theorem pg{B:Addr}{n0:Nat}{P:PySem.Fin->Shared->Prop}(key:Nat->Int)(κ:SortKind)(ho:s.heap.get? B=some (seqObj "list" vs.toArray n0))(r_:2<=vs.length->∀ h6:Heap,(∀ b o,b≠B->s.heap.get? b=some o->h6.get? b=some o)->∀ Q:SortKind->Shared->Prop,Q κ { s with heap:=h6 }->wpAny (model prog w) A (keyKind' vs.toArray) Q E { s with heap:=h6 })(HC:∀ h6:Heap,(∀ b o,b≠B->s.heap.get? b=some o->h6.get? b=some o)->bZ vs.length key (kas_cmp prog w A κ<|vs.toArray.zip vs.toArray) { s with heap:=h6 })(inj:∀ i j,i<vs.length->j<vs.length->key i=key j->i=j)(up:vs.length<1001\/∀ j,1<=j->j<vs.length->key (j - 1)<=key j)(hz:vs.length<=1000)(h:∀ (p:Array Nat) (h':Heap),Rg vs.length p->Up key p vs.length->(∀ b o,b≠B->s.heap.get? b=some o->h'.get? b=some o)->(∃ e,h'.get? B=some (seqObj "list" (p.toList.map fun i=>vs.getD i Value.none).toArray e))->
   P (.done<|.ret .none) { s with heap:=h' }):wpAny (model prog w) A (Builtin.«list.sort» ⟨[.ref B],[]⟩) P E s:=by
 have MY:vs.length<=sizeLine:=Zo hz (by decide);rw[list_sort_plain];have hB:B<s.heap.objs.size:=ZP ho;refine Z8 (listItems_at ho rfl (Z8 (listUpdate_at ho rfl ?_ (hsz:=by rw[ZU];exact MY) (hsz2:=by show 0<=_;exact Ys _))));have Lw:=get?_update_seq ho (fun _=>#[]);generalize Lx:(if (#[]:Array Value).size == vs.toArray.size then n0 else n0+1)=e1 at Lw;refine Z8 (seqEpoch_at Lw rfl (Z8 (wpAny_newTuple (Z8<|wpAny_newList<|YA ?_) (by simpa using MY))));have k6:∀ b o,b≠B->s.heap.get? b=some o->(((s.heap.update B<|Obj.mapSeq fun _=>#[]).push<|seqObj "tuple" vs.toArray.toList.toArray 0).push<|seqObj "list" ([]:List Value).toArray 0).get? b=some o:=fun b o hb e=>
  Z3 _ (Z3 _<|(YC _ _<|Yw hb).trans e);have o6:(((s.heap.update B<|Obj.mapSeq fun _=>#[]).push<|seqObj "tuple" vs.toArray.toList.toArray 0).push<|seqObj "list" ([]:List Value).toArray 0).get? B=some (seqObj "list" #[] e1):=
  Z3 _ (Z3 _ Lw);show wpAny (model prog w) A _ P E { s with heap:=((s.heap.update B<|Obj.mapSeq fun _=>#[]).push<|seqObj "tuple" vs.toArray.toList.toArray 0).push (seqObj "list" ([]:List Value).toArray 0) };generalize ((s.heap.update B<|Obj.mapSeq fun _=>#[]).push<|seqObj "tuple" vs.toArray.toList.toArray 0).push (seqObj "list" ([]:List Value).toArray 0)=h6 at k6 o6 ⊢;have fin:∀ (st:SortSt) (p:Array Nat),Rg vs.length p->Up key p vs.length->arrOf st=p.map (kas_item<|vs.toArray.zip vs.toArray)->failedOf st=none->
   wpAny (model prog w) A (do
    let touched:=(<- seqEpoch B) != e1
    Builtin.List.listUpdate (.ref B) fun _=>(arrOf st).map (·.2)
    if let some e:=failedOf st then rule "list.sort.comparison-raised";throw e
    if touched then rule "list.sort.modified";raiseError "ValueError" "list modified during sort"
    ret .none) P E { s with heap:=h6 }:=fun st p r1 r2 r3 r4=>by
  have out:=kat_snds (ks:=vs) (vs:=vs) rfl r3;rw[out,r4];refine Z8 (seqEpoch_at (s:={ s with heap:=h6 }) o6 rfl (Z8 (listUpdate_at (s:={ s with heap:=h6 }) o6 rfl ?_ (hsz:=Ys _) (hsz2:=by
   show (List.toArray<|p.toList.map fun i=>vs.getD i Value.none).size<=_;rw[ZU,ZY,Zv,r1.size];lia))))
  simp only[bne_self_eq_false,Zd,X7];refine ZS (h p _ r1 r2 (fun b o hb e=>(YC _ _<|Yw hb).trans<|k6 b o hb e) ⟨_,get?_update_seq o6 fun _=>_⟩)
 dsimp only;by_cases h2:vs.toArray.size<2
 ·rw[Z0 h2,Z0 h2];refine Z8 (ZS ?_);rw[StateT.run_pure];apply Z8;apply ZS;have Hy:vs.length<2:=by simpa using h2
  refine fin (SortSt.mk' general' (vs.toArray.zip vs.toArray) #[] 7 none) (range vs.length).toArray (ZI _) (fun i j Dc hj=>?_) ?_ rfl
  ·have:i=j:=by lia
   subst this;exact XT _
  ·have:=kas_range (vs.toArray.zip vs.toArray);rw[show (vs.toArray.zip vs.toArray).size=vs.length by simp] at this;exact this.symm
 ·rw[ZX h2,ZX h2];have Hy:2<=vs.length:=by simpa using h2
  refine Z8 (r_ Hy h6 k6 _ ?_)
  ·have cm:=HC h6 k6;have kr:=kas_range (vs.toArray.zip vs.toArray);rw[show (vs.toArray.zip vs.toArray).size=vs.length by simp] at kr;have run:=v3 (E:=E) (Q:=fun _ st s'=>s'={ s with heap:=h6 }/\∃ p,Rg vs.length p/\Up key p vs.length/\arrOf st=p.map (kas_item<|vs.toArray.zip vs.toArray)/\failedOf st=none) cm
    inj Hy up fun p' e_ a b c d=>⟨rfl,p',a,b,c,d⟩;unfold kas_st at run;rw[kr] at run;refine Z8 (Zc run (fun r s' hr=>?_) fun _ _ e=>e);obtain⟨u,st⟩:=r;obtain⟨rfl,p,r1,r2,r3,r4⟩:=hr;exact fin st p r1 r2 r3 r4
end
section
variable{X:Cx}{pins:List (Addr×Obj)}{σ:L2.St}{H:Hp}{s:Shared}
theorem ph(hc:X.calm=true){a:Addr}{ys:List V}{f':List Value}{n:Nat}{T:String}{o:Obj}{Q:VK}(key:Nat->Int)(κ:SortKind)(I:Inv X pins σ H s)(rv:ay ys f')(hT:T = "list" \/ T = "tuple")(e:s.heap.get? a=some o)(eC:o.cls=.type T)(eD:o.data=.seq f'.toArray n)(hz:ys.length<=1000)(r_:2<=f'.length->∀ (h6:Heap) (tk:Nat),(∀ b o,s.heap.get? b=some o->h6.get? b=some o)->∀ (A:Around) (E:Value->Shared->Prop) (Q:SortKind->Shared->Prop),Q κ { s with heap:=h6,toks:=tk }->wpAny (model X.prog X.w) A (keyKind' f'.toArray) Q E { s with heap:=h6,toks:=tk })(HC:∀ (h6:Heap) (tk:Nat),(∀ b o,s.heap.get? b=some o->h6.get? b=some o)->bZ f'.length key (kas_cmp X.prog X.w X.A.in1.in1 κ<|f'.toArray.zip f'.toArray) { s with heap:=h6,toks:=tk })(inj:∀ i j,i<f'.length->j<f'.length->key i=key j->i=j)(up:f'.length<1001\/∀ j,1<=j->j<f'.length->key (j - 1)<=key j)(q:∀ (p:Array Nat) l,Rg f'.length p->Up key p f'.length->H l=none->Q (.ref l) (upd H l<|.lst<|p.toList.map fun i=>ys.getD i .j_)):
  wpAny (model X.prog X.w) X.A (call (.builtin "sorted") [.ref a]) (EP X pins σ Q) X.xe s:=by
 have hl:ys.length=f'.length:=rv.length;have I_:f'.length<=sizeLine:=Zo (by lia) (show 1000<=sizeLine by decide);refine Calls.call_function_entry kind_sorted plain_sorted entry_sorted (args_sorted1 _) ?z
 case z=>
  unfold Builtin.«sorted»;refine Z8 (m:=checkCount "sorted" 1 1 _) (ZS (Z8 (wpAny_collect_seq a hT e eC eD (fun h' HD=>?_) (by rw[ZU];exact I_))));show wpAny _ _ (newList f' >>= _) _ _ _;refine Z8 (wpAny_newList ?_ I_);have oB:(h'.push<|seqObj "list" f'.toArray 0).get? h'.objs.size=some (seqObj "list" f'.toArray 0):=ZF _ rfl;have kB:∀ b o,s.heap.get? b=some o->(h'.push<|seqObj "list" f'.toArray 0).get? b=some o:=fun b o e=>Z3 _ (HD b o e);have I1:Inv X pins σ H { s with heap:=h' }:=I.kept (t':=s.toks) HD;have nB:∀ b o,s.heap.get? b=some o->b≠h'.objs.size:=fun b o e=>Zx (ZP<|HD b o e);refine Z8 (YA<|Y2 slot_list_sort ⟨_,oB,rfl⟩ entry_list_sort ?y<|args_list_sort _)
  case y=>
   refine pg (s:={ s with heap:=h'.push (seqObj "list" f'.toArray 0) }) key κ oB (fun h2 h6 k6 Q hq=>r_ h2 h6 s.toks (fun b o eb=>k6 b o (nB b o eb)<|kB b o eb) _ _ Q hq) (fun h6 k6=>HC h6 s.toks fun b o eb=>k6 b o (nB b o eb)<|kB b o eb) inj up (by lia) fun p h2 r1 r2 k2 ⟨e9,Ly⟩=>⟨_,rfl,ZS ⟨_,rfl,?_⟩⟩;have fB:H h'.objs.size=none:=I1.l_.fresh (ZR _);have Lz:∀ b o,h'.get? b=some o->b≠h'.objs.size:=fun b o e=>Zx (ZP e);refine⟨.ref h'.objs.size,upd H h'.objs.size<|.lst<|p.toList.map fun i=>ys.getD i .j_,?_,rfl,q p _ r1 r2 fB⟩;refine I1.laid (t':=s.toks) (fun b u e=>k2 b u (Lz b u e)<|Z3 _ e) (ZR _) ⟨?_,_,e9,?_,Ly⟩
   ·rw[ZY,Zv,r1.size];lia
   ·refine lv (by simp) fun i v u h1 h2=>?_;rw[Zr] at h1 h2;cases HE:p.toList[i]? with
    | none=>rw[HE] at h1;cases h1
    | some k=>
     rw[HE] at h1 h2;cases h1;cases h2;have hk:k<f'.length:=Zp.mp (r1.mem_iff.mp<|YM HE);obtain⟨u,h3,h4⟩:=rv.get (i:=k) (x:=ys[k]'(by lia)) (by simp[show k<ys.length by lia]);rw[ZL hk] at h3;have h3:=Zw h3;simp only[List.getD,ZL hk,ZL (show k<ys.length by lia),Xr];rw[h3];exact h4
end
def fY(ns:List Int)(i:Nat):Int:=ns.getD i 0
theorem pi(nd:ns.Nodup):∀ i j,i<ns.length->j<ns.length->fY ns i=fY ns j->i=j:=fun i j hi hj e=>by
 unfold fY at e;rw[Z6,Z6,ZL hi,ZL hj] at e;have e':ns[i]=ns[j]:=e;rcases Nat.lt_trichotomy i j with h | h | h
 ·exact absurd e' ((Y1.mp nd) i j hi hj h)
 ·exact h
 ·exact absurd e'.symm ((Y1.mp nd) j i hj hi h)
theorem Om(hp:Rg ns.length p)(up:Up (fY ns) p ns.length)(nd:ns.Nodup):(p.toList.map fun i=>ns.getD i 0).Pairwise (· < ·):=by
 rw[Y1];intro i j hi hj Dc;have hs:=hp.size;have EV:i<ns.length:=by simpa [hs] using hi
 have GJ:j<ns.length:=by simpa [hs] using hj
 have ne:=hp.ne (pi nd) Dc GJ;have le:=up i j (by lia) GJ;have g:∀ k (hk:k<(p.toList.map fun i=>ns.getD i 0).length),(p.toList.map fun i=>ns.getD i 0)[k]=y_ (fY ns) p k:=fun k hk=>by
  have Fq:k<p.size:=by simpa using hk
  rw[List.getElem_map,Array.getElem_toList];show _=ns.getD (p.getD k 0) 0;simp[Array.getD,Fq]
 rw[g i hi,g j hj];lia
section
variable{X:Cx}
theorem ju{H:Hp}:∀ {ns:List Int}{f':List Value},ay (ns.map V.int) f'->∀ (i:Nat),i<ns.length->∃ t,f'[i]?=some (.int (ns.getD i 0) t)
 | n::r,_,.cons a b,0,h=>by obtain⟨t,rfl⟩:=a;exact⟨t,rfl⟩
 | n::r,_,.cons a b,i+1,h=>by
  obtain⟨t,e⟩:=ju (H:=H) b i (by simpa using h);exact⟨t,by simpa using e⟩
theorem xb(hc:X.calm=true):aX X (.builtin "sorted") (fun xs H Q=>∃ (a:Addr) (ns:List Int),xs=[.ref a]/\H a=some (.lst<|ns.map V.int)/\ns.Nodup/\ns.length<=1000/\
  ∀ l (Ke:List Int),H l=none->Ke.Perm ns->Ke.Pairwise (· < ·)->Q (.ref l) (upd H l<|.lst<|Ke.map V.int)):=by
 intro pins s σ H xs us Q I r h;obtain⟨a,ns,rfl,ha,nd,hz,q⟩:=h;obtain⟨u,rfl,ru⟩:=cy r;cases ru;obtain⟨z,f',n,rv,e⟩:=I.l_ a _ ha;have li:f'.length=ns.length:=by rw[<- rv.length,ZY]
 refine ph hc (fY ns) oneType' I rv (.inl rfl) e rfl rfl (by rw[ZY];exact hz) (fun h2 h6 tk k A E Q hq=>?_) (fun h6 tk k=>?_) (by rw[li];exact pi nd) (.inl (by lia)) fun p l r1 r2 fl=>?_
 ·refine kas_kind (T:=Value.type "int") h2 (fun v hv=>?_) (by decide) (by decide) hq;obtain⟨i,hi⟩:=List.getElem?_of_mem hv;obtain⟨t,ht⟩:=ju (H:=H) rv i (by rw[<- li];exact (ZA.mp hi).1);rw[hi] at ht;cases ht;exact Looks.of_pure rfl
 ·intro i j C hi hj q;obtain⟨t,h1⟩:=ju (H:=H) rv i (by lia);obtain⟨u,h2⟩:=ju (H:=H) rv j (by lia);unfold kas_cmp;rw[kat_item rfl,kat_item rfl,Z6,Z6,h1,h2];show wpAny _ _ (keyLt' oneType' (.int _ t)<|.int _ u) _ _ _;rw[keyLt'_oneType];exact oneLt_int q
 ·rw[li] at r1 r2;have e2:(p.toList.map fun i=>(ns.map V.int).getD i .j_)=(p.toList.map fun i=>ns.getD i 0).map V.int:=by
   rw[YO];refine X3 fun k hk=>?_;have Fq:k<ns.length:=Zp.mp (r1.mem_iff.mp hk);show (ns.map V.int).getD k .j_=V.int (ns.getD k 0);simp[List.getD,Fq]
  rw[e2];exact q l _ fl (lu r1) (Om r1 r2 nd)
end
end L2
namespace L2
open PySem PySem.Spec PyProof.Rows
section
variable{X:Cx}
def cH:List Im->List Im->List Im
 | x::xs,y::ys=>.tup [x,y]::cH xs ys
 | _,_=>[]
theorem pj:∀ (xs ys:List Im),(cH xs ys).length=min xs.length ys.length
 | [],ys=>by simp[cH]
 | x::xs,[]=>by simp[cH]
 | x::xs,y::ys=>by simp[cH,pj xs ys]
theorem pk:∀ (xs ys:List Im) (i:Nat) (d:Im),(cH xs ys)[i]?=some d->∃ x y,xs[i]?=some x/\ys[i]?=some y/\d=.tup [x,y]
 | [],ys,i,d,h=>by simp[cH] at h
 | x::xs,[],i,d,h=>by simp[cH] at h
 | x::xs,y::ys,0,d,h=>by simp[cH] at h;exact⟨x,y,rfl,rfl,h.symm⟩
 | x::xs,y::ys,i+1,d,h=>by
  obtain⟨a,b,h1,h2,h3⟩:=pk xs ys i d (by simpa [cH] using h);exact⟨a,b,by simpa using h1,by simpa using h2,h3⟩
@[simp] def iZ(g:M (List Opd)):MI:=fun D=>(g D).bind fun p=>(cY p.2 p.1).bind fun ds=>match ds with
 | [.im (.tup x),.im<|.tup y]=>some ((cH x y,none),p.2)
 | _=>none
theorem xc{K:PySem.W.Frag}{H:Hp}{a b:Addr}{xs ys:List V}{ds es:List Im}(h:H a=some (.tup xs))(hd:am H ds xs)(h':H b=some (.tup ys))(Ef:am H es ys):D9 (J7 K a b) H [] (cH ds es) where
 go:=fun H' t k i d e=>by
  obtain⟨x,y,e1,e2,rfl⟩:=pk ds es i d e;obtain⟨v,g1,g2⟩:=hd.get e1;obtain⟨u,k1,k2⟩:=Ef.get e2;have q1:=BG.of (K:=K) (t.tup a _ h);have q2:=BG.of (K:=K) (t.tup b _ h');refine⟨⟨xs,ys,v,u,q1,q2,g1,k1⟩,fun z GL ⟨T,x',y',f,ez,eH,y1,y2⟩=>?_⟩;subst ez eH;have z1:=y1 xs q1;have z2:=y2 ys q2;rw[g1] at z1;rw[k1] at z2;cases z1;cases z2;have s:aF H' (upd H' T<|.tup [v,u]):=(aF.refl H').upd f;exact⟨s,T,[v,u],rfl,bo,⟨v,[u],rfl,(g2.mono t.tup).mono s.tupS.tup,u,[],rfl,(k2.mono t.tup).mono s.tupS.tup,rfl⟩⟩
 stop:=fun H' t k=>⟨xs,ys,BG.of<|t.tup a _ h,BG.of<|t.tup b _ h',by rw[pj,<- hd.length,<- Ef.length];lia⟩
theorem xf{a b:Expr}{g:M (List Opd)}{p pos:Pos}{es:List Expr}{ek:Nat}{ps:Pos}(hg:Gl X "zip")(hm:X.mg "zip" = none)(ha:VA X [a,b] g)(hs:starEach [a,b] X.env=[(false,eval a X.env),(false,eval b X.env)]:=by rfl)(FP:starEach [b] X.env=[(false,eval b X.env)]:=by rfl):
  VI X (.Tuple es ek ps) (.Call (.Name "zip" p) [a,b] [] pos) (iZ g):=by
 refine kY (wf hg hm ha hs FP) fun σ H Rk ⟨D,F,r,D',st,nd,Di,q⟩=>?_;obtain⟨⟨os,D1⟩,h1,h2⟩:=Z9.mp Di;obtain⟨ds,h3,h4⟩:=Z9.mp h2;refine⟨D,F,os,D1,st,nd,h1,fun vs H1 F1 R1 s_ o1 s1=>?_⟩;have rd:=o1.read s_ h3;split at h4
 ·cases h4;obtain⟨v,u,rfl,e,e'⟩:=wH rd;obtain⟨a,xs,rfl,k1,k2⟩:=e;obtain⟨b,ys,rfl,k3,k4⟩:=e';exact⟨a,b,rfl,⟨xs,BG.of k1⟩,⟨ys,BG.of k3⟩,q _ H1 F1 [] s_ (xc k1 k2 k3 k4) trivial (fun a ha=>nomatch ha) (by rw[ZZ];exact s1.both)⟩
 ·cases h4
@[simp] def A9:OpN:=fun ds=>match ds with
 | [.im (.int i),.im<|.int j,.im<|.int k]=>some (.im<|.int<|min (min i j) k)
 | _=>none
def eG(lt:Im->Im->Bool)(x:Im):List Im->List Im
 | []=>[x]
 | y::r=>if lt x y=true then x::y::r else y::eG lt x r
def cS(lt:Im->Im->Bool):List Im->List Im
 | []=>[]
 | x::r=>eG lt x (cS lt r)
def ltI:Im->Im->Bool
 | .int i,.int j=>decide (i<j)
 | _,_=>false
def Dj:List Im->Option (List Int)
 | []=>some []
 | .int i::r=>(Dj r).map fun s=>i::s
 | _::_=>none
@[simp] def vSorted:OpN:=fun ds=>match ds with
 | [.lst x]=>(Dj x).bind fun ns=>if ns.Nodup/\ns.length<=1000 then some (.lst<|cS ltI x) else none
 | _=>none
def eI(x:Int):List Int->List Int
 | []=>[x]
 | y::r=>if x<y then x::y::r else y::eI x r
def fZ:List Int->List Int
 | []=>[]
 | x::r=>eI x (fZ r)
theorem pp(x:Int):∀ l:List Int,eG ltI (.int x) (l.map .int)=(eI x l).map .int
 | []=>rfl
 | y::r=>by
  rw[Zy,eG,eI,ltI];by_cases h:x<y
  ·rw[Z0 (by simpa using h),Z0 h];rfl
  ·rw[ZX (by simpa using h),ZX h,pp x r];rfl
theorem pq:∀ l:List Int,cS ltI (l.map .int)=(fZ l).map .int
 | []=>rfl
 | x::r=>by rw[Zy,cS,pq r,pp];rfl
theorem lx(x:Int):∀ l:List Int,(eI x l).Perm (x::l)
 | []=>ZI _
 | y::r=>by
  rw[eI];split
  ·exact ZI _
  ·exact ((lx x r).cons y).trans (List.Perm.swap x y r)
theorem lz:∀ l:List Int,(fZ l).Perm l
 | []=>ZI _
 | x::r=>(lx x _).trans ((lz r).cons x)
theorem pu(x:Int):∀ l:List Int,l.Pairwise (·<=·)->(eI x l).Pairwise (·<=·)
 | [],_=>ZB _ _
 | y::r,h=>by
  obtain⟨h1,h2⟩:=Zn.mp h;rw[eI];split
  ·rename_i On;refine Zn.mpr ⟨fun z hz=>?_,h⟩;rcases ZO.mp hz with rfl | hz
   ·lia
   ·have:=h1 z hz;lia
  ·rename_i On;refine Zn.mpr ⟨fun z hz=>?_,pu x r h2⟩;rcases ZO.mp ((lx x r).mem_iff.mp hz) with rfl | hz
   ·lia
   ·exact h1 z hz
theorem pz:∀ l:List Int,(fZ l).Pairwise (·<=·)
 | []=>List.Pairwise.nil
 | x::r=>pu x _ (pz r)
theorem xg{l:List Int}(h:l.Nodup):(fZ l).Pairwise (· < ·):=by
 have h1:=pz l;have h2:(fZ l).Nodup:=(lz l).nodup_iff.mpr h;exact List.Pairwise.imp₂ (fun a b x y=>by lia) h1 h2
theorem pA:∀ {l m:List Int},l.Perm m->l.Pairwise (· < ·)->m.Pairwise (· < ·)->l=m
 | [],m,h,_,_=>h.nil_eq
 | a::l,[],h,_,_=>absurd h.length_eq (by simp)
 | a::l,b::m,h,hl,hm=>by
  have Ee:=Zn.mp hl;have LC:=Zn.mp hm;have e:a=b:=by
   rcases ZO.mp (h.mem_iff.mp<|.head _) with z | z
   ·exact z
   ·rcases ZO.mp (h.mem_iff.mpr<|.head _) with y | y
    ·exact y.symm
    ·have h1:=Ee.1 b y;have h2:=LC.1 a z;lia
  subst e;rw[pA h.cons_inv Ee.2 LC.2]
theorem pB:∀ {x:List Im}{ns:List Int},Dj x=some ns->x=ns.map .int
 | [],ns,h=>by cases h;rfl
 | .int i::r,ns,h=>by
  rw[Dj] at h;obtain⟨s,h1,rfl⟩:=Z5.mp h;rw[pB h1];rfl
 | .j_::_,_,h=>by cases h
 | .bl _::_,_,h=>by cases h
 | .str _::_,_,h=>by cases h
 | .tup _::_,_,h=>by cases h
 | .fn _::_,_,h=>by cases h
 | .fl _::_,_,h=>by cases h
 | .fd::_,_,h=>by cases h
theorem pC{H:Hp}:∀ {ns:List Int}{vs:List V},am H (ns.map .int) vs->vs=ns.map V.int
 | [],vs,h=>h
 | n::r,vs,h=>by
  obtain⟨v,t,rfl,h1,h2⟩:=h;cases (show v=.int n from h1);rw[pC h2];rfl
theorem pE{H:Hp}:∀ ns:List Int,am H (ns.map .int) (ns.map V.int)
 | []=>rfl
 | n::r=>⟨.int n,_,rfl,rfl,pE r⟩
theorem xh(hc:X.calm=true)(hu:X.A.units+20<cLine):cF X (.builtin "sorted") vSorted:=by
 refine (xb hc).imp fun xs H Q ⟨ds,d,rd,e,q⟩=>?_;unfold vSorted at e;split at e
 ·rename_i x;obtain⟨ns,e1,e2⟩:=Z9.mp e;split at e2
  ·rename_i hn;cases e2;obtain⟨v,rfl,_,p,xs,rfl,h1,h2,_⟩:=bL rd;cases pB e1;cases pC h2;refine⟨p,ns,rfl,h1,hn.1,hn.2,fun l Ke fl pm up=>?_⟩;rw[pq] at q;rw[pA (pm.trans (lz ns).symm) up (xg hn.1)];exact Out.l q fl (pE _)
  ·cases e2
 ·cases e
theorem pF(hu:X.A.units+20<cLine):jt X putV:=pf
end
variable{Dk body:List Stmt}{b0 st:Stmt}{Gj w_ cp np Gk pos' pos p:Pos}{y x0 qual x:Str}{CM C L e f a:Addr}{q pins:List (Addr×Obj)}{EE:Value->Shared->Prop}{t:TS}{hs:List ExceptHandler}{h0:ExceptHandler}{D:Ends}{R:SD->SD->Prop}{s s0:Shared}{σ:St}{E:XK}{outer l:List Env}{A:Around}{cd a0:Value}{H0 H:Hp}{Q:Unit->Shared->Prop}{vs:Array Value}{oe:Obj}{h' h:Heap}{S:List Addr}{w:World}{P:Program}{m k i n:Nat}{N own ps:List Str}{gc:M Bool}{fix caps:List Nat}{scope:Scope}{ifs es:List Expr}{elt iter tg:Expr}{κ:Type}{G:Fn}{g:M (List Opd)}{K:PySem.W.Frag}
def hU:List (Addr×Obj)->Bool
 | []=>true
 | (_,o)::r=>(match o.data with
  | .seq _ _=>(match o.cls with | .type n=>n != "list" | _=>true)
  | _=>true) && hU r
theorem xi{K:List (Addr×Obj)}{o:Obj}{f':Array Value}(h:hU K=true)(e:K.lookup a=some o)(hc:o.cls=.type "list")(hd:o.data=.seq f' n):False:=by
 induction K with
 | nil=>cases e
 | cons p r ih=>
  obtain⟨b,x⟩:=p;rw[hU,ZV] at h;simp only[List.lookup] at e;split at e
  ·cases e;have h1:=h.1;rw[hd] at h1;dsimp only at h1;rw[hc] at h1;exact absurd h1 (by decide)
  ·exact ih h.2 e
theorem pG{H:Hp}:∀ ns:List Int,am H (ns.map .int) (ns.map V.int)
 | []=>rfl
 | n::r=>⟨.int n,_,rfl,rfl,pG r⟩
theorem xl(hK:hU K=true)(H:Hp)(a:Addr)(ns:List Int)(hO:i7 H)(hS:BY K H a (ns.map V.int))(ht:∃ outs,G [.fz (ns.map .int)]=some (.im<|.bl true,outs)){E:XK}:EK 1 G [.ref a] H (fun v _=>v=.bl true) E:=by
 obtain⟨outs,ht⟩:=ht;have hf:∃ o,H a=some (.Cg o<|.lst<|ns.map V.int):=by
  rcases hS with (h | h) | ⟨o,f',n,h1,h2,h3,h4,_⟩
  ·rcases hO a with e | ⟨o,xs,e⟩
   ·rw[e] at h;cases h
   ·rw[e] at h;cases h
  ·exact h
  ·exact (xi hK h1 h2 h4).elim
 obtain⟨o,ho⟩:=hf;refine⟨rfl,[.fz (ns.map .int)],[],.im<|.bl true,outs,⟨_,_,[],[],rfl,⟨a,_,o,rfl,ho,pG ns,rfl⟩,⟨rfl,rfl⟩,rfl⟩,XM,ht,fun v H' R R' h _ _=>?_⟩;exact h.1
theorem f8{us:List Value}(h:us.length=n+1):∃ a r,us=a::r/\r.length=n:=by
 cases us with
 | nil=>cases h
 | cons a r=>exact⟨a,r,rfl,Nat.succ.inj h⟩
theorem Dx.HF{fd:FuncData}(F:Dx K x qual st f fd)(h:∀ (kV doc pm:Value) (an:Option Addr) (q_ ct:Value) (a:Value),bindArgs (PySem.W.fnOf x qual (cW st) (bG st) (au st) .none kV doc pm an q_ ct) ⟨[a],[]⟩=pure (ps.zip [a]))(hp:ps.length=1:=by rfl):cf K fd ps []:=
 F.binds fun kV doc pm an q_ ct us hl=>by
  replace hl:=hl.trans hp;obtain⟨a,u1,rfl,h1⟩:=f8 hl;obtain rfl:=YJ h1;exact h kV doc pm an q_ ct a
theorem Dx.HG{fd:FuncData}(F:Dx K x qual st f fd)(h:∀ (kV doc pm:Value) (an:Option Addr) (q_ ct:Value) (a b:Value),bindArgs (PySem.W.fnOf x qual (cW st) (bG st) (au st) .none kV doc pm an q_ ct) ⟨[a,b],[]⟩=pure (ps.zip [a,b]))(hp:ps.length=2:=by rfl):cf K fd ps []:=
 F.binds fun kV doc pm an q_ ct us hl=>by
  replace hl:=hl.trans hp;obtain⟨a,u1,rfl,h1⟩:=f8 hl;obtain⟨b,u2,rfl,h2⟩:=f8 h1;obtain rfl:=YJ h2;exact h kV doc pm an q_ ct a b
theorem Dx.HH{fd:FuncData}(F:Dx K x qual st f fd)(h:∀ (kV doc pm:Value) (an:Option Addr) (q_ ct:Value) (a b c:Value),bindArgs (PySem.W.fnOf x qual (cW st) (bG st) (au st) .none kV doc pm an q_ ct) ⟨[a,b,c],[]⟩=pure (ps.zip [a,b,c]))(hp:ps.length=3:=by rfl):cf K fd ps []:=
 F.binds fun kV doc pm an q_ ct us hl=>by
  replace hl:=hl.trans hp;obtain⟨a,u1,rfl,h1⟩:=f8 hl;obtain⟨b,u2,rfl,h2⟩:=f8 h1;obtain⟨c,u3,rfl,h3⟩:=f8 h2;obtain rfl:=YJ h3;exact h kV doc pm an q_ ct a b c
section
variable{prog:Program}{w:World}{A:Around}{E:Value->Shared->Prop}{s:Shared}
end
section
variable{X:Cx}
end
section
variable{X:Cx}
end
section
variable{X:Cx}
def hV:Im->Option Key
 | .int i=>some (.inl i)
 | .str x=>some (.inr x)
 | _=>none
@[simp] theorem Ba(i:Int):hV (.int i)=some (.inl i):=rfl
@[simp] theorem Bb(x:Str):hV (.str x)=some (.inr x):=rfl
def kI:Key->Im
 | .inl i=>.int i
 | .inr x=>.str x
@[simp] theorem Bc(i:Int):kI (.inl i)=.int i:=rfl
@[simp] theorem Bd(x:Str):kI (.inr x)=.str x:=rfl
theorem xm{d:Im}{v:V}{k:Key}(h:BI H d v)(e:hV d=some k):v=kV k:=by
 cases d with
 | int i=>cases e;exact h
 | str x=>cases e;exact h
 | _=>cases e
def dr{κ:Type}[DecidableEq κ](kvs:List (κ×Im))(k:κ)(d:Im):List (κ×Im):=
 if (kvs.any fun kv=>decide (kv.1=k))=true then kvs.map (fun kv=>if kv.1=k then (kv.1,d) else kv) else kvs++[(k,d)]
theorem CC.any[DecidableEq κ]{H:Hp}{k:κ}{l:List (κ×Im)}{m:List (κ×V)}(h:CC H l m):(l.any fun kv=>decide (kv.1=k))=(m.any fun kv=>decide (kv.1=k)):=by
 unfold CC at h;induction h with
 | nil=>rfl
 | cons r _ ih=>rw[X9,X9,ih,r.1]
theorem CC.upd[DecidableEq κ]{H:Hp}{k:κ}{d:Im}{v:V}(w:BI H d v){l:List (κ×Im)}{m:List (κ×V)}(h:CC H l m):CC H (l.map fun kv=>if kv.1=k then (kv.1,d) else kv) (m.map fun kv=>if kv.1=k then (kv.1,v) else kv):=by
 unfold CC at h;induction h with
 | nil=>exact .nil
 | @cons p q _ _ r _ ih=>
  rw[Zy,Zy];refine .cons ?_ ih;by_cases e:p.1=k
  ·have e':q.1=k:=r.1.symm.trans e;rw[Z0 e,Z0 e'];exact⟨r.1,w⟩
  ·have e':¬ q.1=k:=fun z=>e (r.1.trans z);rw[ZX e,ZX e'];exact r
theorem xn{α β:Type}{F:α->β->Prop}{l:List α}{m:List β}{a:α}{b:β}(h:Paired F l m)(x:F a b):Paired F (l++[a]) (m++[b]):=by
 induction h with
 | nil=>exact .cons x .nil
 | cons r _ ih=>exact .cons r ih
theorem CC.put[DecidableEq κ]{H:Hp}{k:κ}{d:Im}{v:V}(w:BI H d v){l:List (κ×Im)}{m:List (κ×V)}(h:CC H l m):CC H (dr l k d) (bY m k v):=by
 unfold dr bY;rw[h.any];split
 ·exact h.upd w
 ·exact xn h ⟨rfl,w⟩
@[simp] def eDict0T:M Vl:=fun D=>some (.dT [],D)
theorem pH:VE X (.Dict [] [] pos) eDict0T:=by
 refine aQ vo fun σ H Q ⟨D,F,r,D',st,nd,Di,q⟩ p hp=>?_;cases Di;have s:aF H (L2.upd H p<|.dT []):=(aF.refl H).upd hp;have s1:n_ H F H (F++[]):=by rw[ZZ];exact n_.perm nd (ZI _)
 exact q _ _ F [p] (st.mono s.tupS fun a _ o e=>s a o e) ⟨p,[],rfl,bo,.nil,rfl⟩ (s1.new s (ZB _ _) (fun a ha=>by rw[ZW.mp ha];exact hp) st.chg)
@[simp] def Be(gk gv:M Vl):M Vl:=fun D=>(gk D).bind fun p=>(gv p.2).bind fun q=>match p.1,q.1 with
 | .im k,.im d=>(hV k).map fun k'=>(.dK [(k',d)],q.2)
 | _,_=>none
@[simp] def putA(c k d:Vl):Option Vl:=match c,k,d with
 | .lst xs,.im<|.int i,.im d=>(GB xs.length i).map fun j=>.lst (xs.set j d)
 | .dK kvs,.im k,.im d=>(hV k).bind fun k'=>if kvs.length<100000 then some (.dK<|dr kvs k' d) else none
 | .dT kvs,.im<|.tup k,.im d=>if Im.keys 7 k=true/\kvs.length<100000 then some (.dT<|dr kvs k d) else none
 | _,_,_=>none
theorem jv(hu:X.A.units+20<cLine):jt X putA:=by
 intro pins s σ H o i v ov iv u Q I ro ri rv ⟨c,k,d,c',R,S,wc,wk,wd,nd,e,q⟩;unfold putA at e;split at e
 ·exact pf pins s σ H o i v ov iv u Q I ro ri rv ⟨_,_,_,c',R,S,wc,wk,wd,nd,e,q⟩
 ·obtain⟨k',e1,e2⟩:=Z9.mp e;split at e2
  ·rename_i hl;cases e2;obtain⟨a,ys,rfl,h1,h2,rfl⟩:=wc;obtain⟨hd,rfl⟩:=wd;have c:DU H a:=⟨_,h1,(fun _ e=>by cases e),(fun _ _ e=>by cases e)⟩;cases ro;have hy:=xm wk.1 e1;subst hy;refine nK hu I (fc.k h1 (by rw[<- h2.length];exact lr hl)) ri rv fun s' I'=>⟨_,I',q _ [a] ?_ (n_.chg (.head _) c (ZB _ _) fun x hx=>by simpa using hx)⟩;exact⟨a,_,rfl,bo,(CC.put hd h2).mono<|BI.Ev c,rfl⟩
  ·cases e2
 ·split at e
  ·rename_i hl;cases e;obtain⟨a,ys,rfl,h1,h2,rfl⟩:=wc;obtain⟨hd,rfl⟩:=wd;have c:DU H a:=⟨_,h1,(fun _ e=>by cases e),(fun _ _ e=>by cases e)⟩;cases ro;obtain⟨b,xs,rfl,k1,k2⟩:=wk.1;refine nK hu I (fc.t h1 ⟨hl.1,b,xs,rfl,k1,k2⟩ (by rw[<- h2.length];exact lr hl.2)) ri rv fun s' I'=>⟨_,I',q _ [a] ?_ (n_.chg (.head _) c (ZB _ _) fun x hx=>by simpa using hx)⟩;exact⟨a,_,rfl,bo,(CC.put hd h2).mono<|BI.Ev c,rfl⟩
  ·cases e
 ·cases e
end
section
variable{X:Cx}
def pI:Opd->Vl->Option (Nat×Vl)
 | .sl i,d=>some (i,d)
 | .vl _,_=>none
@[simp] theorem Bf(i:Nat)(d:Vl):pI (.sl i) d=some (i,d):=rfl
@[simp] theorem Bg(c d:Vl):pI (.vl c) d=none:=rfl
end
section
variable{prog:Program}{w:World}{A:Around}{E:Value->Shared->Prop}{s:Shared}
end
section
variable{X:Cx}
end
section
variable{X:Cx}
end
section
variable{prog:Program}{w:World}{A:Around}{E:Value->Shared->Prop}{s:Shared}
end
section
variable{prog:Program}{w:World}{A:Around}{E:Value->Shared->Prop}{s:Shared}
end
section
variable{X:Cx}
end
section
variable{X:Cx}
end
section
variable{X:Cx}
end
section
variable{X:Cx}
theorem xo{i0:Nat}{wi:TI}{g:Fk->TG}{tt:Fk->TT}{te:Fk->TE}(hN:X.N.Nodup)(LD:X.N[i0]?=some x0)(LE:Loc X.env.scope x0)(hc:X.calm=true)(S:p_ X scope own caps)(hi:PI X tg iter wi)(hg:∀ Y,PG (X.DM (bH X own caps) scope Y) tg<|g Y)(ht:∀ Y,IC (X.DM (bH X own caps) scope Y) ifs<|tt Y)(he:∀ Y,PE (X.DM (bH X own caps) scope Y) elt<|te Y)(hs:∀ x,foldedSetIterable iter X.env x=pure x:=by intro _;rfl)(LF:swapsWith (.ListComp elt [⟨tg,iter,ifs,0⟩] scope pos) (some<|.Name x0 pos') Gk.line X.env=pure true:=by rfl)(Ja:X.fn x0=true\/X.env.scope.names.lookup x0=some .local:=by first | exact .inl rfl | exact .inr rfl | assumption):
  PS X (.Assign [.Name x0 pos'] (.ListComp elt [⟨tg,iter,ifs,0⟩] scope pos) Gk) (kh (i8 own caps wi g tt te)<|kg i0):=by
 intro pins s σ H Dn I h;rw[exec_Assign_Name_used _ _ _ _ LF];refine Z8 (WQ<|Z8 ?_);show wpAny _ X.A (do let _ <- comprehension (.ListComp elt [⟨tg,iter,ifs,0⟩] scope pos) scope X.env _ (newList []) false (eval iter X.env) (some<|assign (.Name x0 pos') X.env)) _ _ s;refine Z8 (Zc (nQ (use:=some (assign (.Name x0 pos') X.env)) (Qp:=fun _ s'=>SP X pins Dn .next s') hc S hi hg ht he hs I h fun D C H4 s4 m I4 hn f J0 J1 z p q=>?_) (fun _ s' hq=>ZS<|ZS hq) fun _ _ e=>e);show wpAny _ X.A (assign (.Name x0 pos') X.env<|.ref D) _ _ s4;refine wpAny_assign_Name (ke I4 hN LD LE (v:=.ref D) rfl (fun s5 I5 h5=>?_) Ja);obtain⟨a,Oo,ha⟩:=h5;have Op:C≠a:=by
  rcases ha with rfl | ha
  ·exact Yw J0
  ·exact Yw (J1 _ _ ha)
 exact⟨m,hn.sameBut Oo Op,fun h' sb=>⟨_,_,I5.turned (it:=C) (t':=s5.toks) (fun b o hb e=>(sb.2 b hb).trans e) f (Yw J0) (.inr z) J1 p,q⟩⟩
end
section
variable{X:Cx}
theorem pJ{gi:MI}{gt:MG}{ge:M Vl}(hN:X.N.Nodup)(LD:X.N[i]?=some x0)(LE:Loc X.env.scope x0)(hc:X.calm=true)(S:p_ X scope own caps)(nd:caps.Nodup)(hi:VI X tg iter gi)(hg:∀ Y,VG (X.DM (bH X own caps) scope Y) (g0 own.length caps.length) tg gt)(ht:∀ Y,Kd (X.DM (bH X own caps) scope Y) ifs gc)(he:∀ Y,VE (X.DM (bH X own caps) scope Y) elt ge)(hf:i∉fix)(hs:∀ x,foldedSetIterable iter X.env x=pure x:=by intro _;rfl)(LF:swapsWith (.ListComp elt [⟨tg,iter,ifs,0⟩] scope pos) (some<|.Name x0 pos') Gk.line X.env=pure true:=by rfl)(Ja:X.fn x0=true\/X.env.scope.names.lookup x0=some .local:=by first | exact .inl rfl | exact .inr rfl | assumption):
  VS X fix (.Assign [.Name x0 pos'] (.ListComp elt [⟨tg,iter,ifs,0⟩] scope pos) Gk) (aw i<|aZ own.length caps gi gt gc ge):=by
 refine dA (xo hN LD LE hc S hi hg ht he hs LF Ja) fun E σ H ⟨D,F,fl,D',st,Fw,Di,q⟩=>?_;obtain⟨⟨r,D1⟩,h1,h2⟩:=Z9.mp Di;split at h2
 ·rename_i hl;cases h2;refine oQ nd ⟨D,F,r,_,st,Fw,h1,fun v H1 F1 R s_ ow s1=>?_⟩;obtain⟨F2,R2,o_,pm⟩:=s_.put (i:=i) ow hl;exact q _ H1 F2 (aH.set hf) o_ (s1.less pm)
 ·cases h2
end
section
variable{X:Cx}
def pK:Vl->Vl
 | .lst x=>.im (.fl x)
 | .dT []=>.im .fd
 | d=>d
@[simp] theorem Bh(x:List Im):pK (.lst x)=.im (.fl x):=rfl
@[simp] theorem Bi(d:Im):pK (.im d)=.im d:=rfl
end
def Raw(K:PySem.W.Frag)(x:Str)(st:Stmt)(f:Addr):Prop:=∃ fd,Dx K x x st f fd/\PySem.W.nsIn K mainGlobals x=some (some<|.ref f)
def CQ(K:PySem.W.Frag)(mg:Str->Option Value)(x:Str)(st:Stmt)(f:Addr)(ps:List Str):Prop:=∃ fd,Dx K x x st f fd/\cf K fd ps []/\mg x=some (.ref f)
def BK(P:Program)(w:World)(K:PySem.W.Frag)(mg:Str->Option Value)(base:Heap)(k:Nat)(x:Str)(st:Stmt)(f:Addr)(ps:List Str)(n:Nat)(G:Fn):Prop:=∃ fd,Dx K x x st f fd/\cf K fd ps []/\mg x=some (.ref f)/\B6 P w K mg base DL k f fd ps (EK n G)
theorem xp{oc:Value}{od an:Option Addr}{EH:Array (Option Value)}{kV doc pm q_ ct:Value}(a:PySem.W.nsIn K mainGlobals x=some (some<|.ref f))(l:K.lookup f=some ⟨oc,od,.func<|PySem.W.fnOf x x (cW st) (bG st) (au st) .none kV doc pm an q_ ct,EH⟩)(c:PySem.W.codeIn K q_ x=true)(k:PySem.W.keepIn K (.ref f)=true):Raw K x st f:=⟨_,vz l c k,a⟩
section
variable{P:Program}{w:World}{K:PySem.W.Frag}{mg:Str->Option Value}{base h:Heap}{k n:Nat}{x:Str}{st:Stmt}{f:Addr}{ps:List Str}{G:Fn}
theorem Raw.b1(r:Raw K x st f)(X:K.In h)(Gg:h.Ns mainGlobals mg)(hb:∀ (kV doc pm:Value) (an:Option Addr) (q_ ct a:Value),bindArgs (PySem.W.fnOf x x (cW st) (bG st) (au st) .none kV doc pm an q_ ct) ⟨[a],[]⟩=pure (ps.zip [a]))(hp:ps.length=1:=by rfl):CQ K mg x st f ps:=
 have ⟨_,U,a⟩:=r
 ⟨_,U,U.HF hb hp,Y4 X Gg a⟩
theorem Raw.b2(r:Raw K x st f)(X:K.In h)(Gg:h.Ns mainGlobals mg)(hb:∀ (kV doc pm:Value) (an:Option Addr) (q_ ct a b:Value),bindArgs (PySem.W.fnOf x x (cW st) (bG st) (au st) .none kV doc pm an q_ ct) ⟨[a,b],[]⟩=pure (ps.zip [a,b]))(hp:ps.length=2:=by rfl):CQ K mg x st f ps:=
 have ⟨_,U,a⟩:=r
 ⟨_,U,U.HG hb hp,Y4 X Gg a⟩
theorem Raw.b3(r:Raw K x st f)(X:K.In h)(Gg:h.Ns mainGlobals mg)(hb:∀ (kV doc pm:Value) (an:Option Addr) (q_ ct a b c:Value),bindArgs (PySem.W.fnOf x x (cW st) (bG st) (au st) .none kV doc pm an q_ ct) ⟨[a,b,c],[]⟩=pure (ps.zip [a,b,c]))(hp:ps.length=3:=by rfl):CQ K mg x st f ps:=
 have ⟨_,U,a⟩:=r
 ⟨_,U,U.HH hb hp,Y4 X Gg a⟩
theorem BK.fd{fd:FuncData}(C:BK P w K mg base k x st f ps n G)(U:Dx K x x st f fd):B6 P w K mg base DL k f fd ps (EK n G):=by
 obtain⟨Pi,U',_,_,g⟩:=C;obtain⟨oc,od,kV,doc,pm,an,q_,ct,EH,e,l,_⟩:=U.ex;obtain⟨Pj,Pk,Pl,Oq,Pm,Pn,Os,Po,Ot,e',l',_⟩:=U'.ex;rw[l] at l';cases l';exact g
theorem xq(r:Raw K x st f)(X:K.In h)(Gg:h.Ns mainGlobals mg){fa:Addr}(LG:mg x=some (.ref fa)){p:Str}(hb:∀ (kV doc pm:Value) (an:Option Addr) (q_ ct:Value) (s:Shared) (v:Value),BindsTo s (PySem.W.fnOf x x (cW st) (bG st) (au st) .none kV doc pm an q_ ct) ⟨[v],[]⟩ [(p,v)])(C:∀ base,BK P w K mg base k x st f [p] n G):
  ∃ fd:FuncData,(∀ (s:Shared) (v:Value),BindsTo s fd ⟨[v],[]⟩ [(p,v)])/\∀ base:Heap,K.In base->base.Ns mainGlobals mg->B6 P w K mg base DL k fa fd [p] (EK n G):=by
 obtain⟨fd,U,a⟩:=r;cases LG.symm.trans (Y4 X Gg a);refine⟨fd,?_,fun b _ _=>(C b).fd U⟩;obtain⟨oc,od,kV,doc,pm,an,q_,ct,EH,rfl,l,_⟩:=U.ex;exact hb kV doc pm an q_ ct
theorem bP{g:MS}(F:CQ K mg x st f ps)(S:k_ N ps (au st))(hn:ps.length=n)(MW:∀ i∈fix,i<n)(hb:N.Nodup->∀ (q_:Value) (A:Around) (outer:List Env) (s:Shared) (H:Hp) (E:XK),z_ k (A.deeper<|envOfC x (au st) s.heap.objs.size f q_)->DV (bX DL P w K mg base N x (au st) f q_ A outer s H E).G8 fix (bG st) g):
  BK P w K mg base (k+1) x st f ps n (aS n N.length fix g):=
 have ⟨_,U,b,m⟩:=F
 ⟨_,U,b,m,MV U S hn MW<|hb S.nd⟩
end
section
variable{X:Cx}
variable{e:Expr}
theorem aN(C:BK X.prog X.w X.K X.mg X.base k x st f ps n G)(hr:z_ m X.A)(hg:Gl X x)(ha:VA X (e::es) g)(hm:k<=m:=by decide)(DJ:(x == ("__debug__" : Str))=false:=by decide)(he:starEach (e::es) X.env=(false,eval e X.env)::starEach es X.env:=by rfl)(CP:(backTo pos<|starEach es X.env).any (·.1)=false:=by rfl):
  VE X (.Call (.Name x p) (e::es) [] pos) (ar n G g):=
 have ⟨_,U,b,m,F⟩:=C
 oE F (hr.mono hm) hg m U.kp b ha DJ he CP
theorem ai{i:Int}{j pos}:VO X (.Constant (.int i) j pos) (oV<|eC<|.int i):=ad ef
theorem vv(i:Nat){x:Str}{pos:Pos}(hN:X.N[i]?=some x:=by rfl)(hv:JP X.env.scope x:=by first | exact Or.inl rfl | exact Or.inr (Or.inl rfl) | exact Or.inr (Or.inr rfl))(hd:(x == ("__debug__" : Str))=false:=by decide)(DY:(x == ("__classdict__" : Str))=false:=by decide):VO X (.Name x pos) (oSl i):=wo (mU hN hv hd DY)
theorem ag{g:M Opd}(he:VO X e g)(hs:starEach [e] X.env=(false,eval e X.env)::starEach [] X.env:=by rfl):VA X [e] (aa g aNil):=ah he fm hs
theorem bM{a b:Expr}{ga gb:M Opd}(hr:z_ m X.A)(ha:VO X a ga)(hb:VO X b gb)(hs:ku b:=by exact fun _ _=>rfl):VE X (.Subscript a b pos) (ae vIx ga gb):=og (oW (by have:=hr.un;omega)) ha hb hs
end
theorem BX.gone(x:BX P w H h)(n:h.get? a=none):H a=none:=by
 cases q:H a with
 | none=>rfl
 | some o=>
  have hx:∃ u,h.get? a=some u:=by
   have z:=x a o q;clear q;induction o with
   | lst xs=>obtain⟨_,f',m,_,e⟩:=z;exact⟨_,e⟩
   | tup xs=>obtain⟨_,f',_,ob,e,_⟩:=z;exact⟨_,e⟩
   | dK kvs=>obtain⟨_,_,vs,_,ob,es,ep,e,_⟩:=z;exact⟨_,e⟩
   | dT kvs=>obtain⟨_,_,xs,_,ob,es,ep,e,_⟩:=z;exact⟨_,e⟩
   | set S m=>obtain⟨ob,es,ep,t,e,_⟩:=z;exact⟨_,e⟩
   | ins C dx fs=>obtain⟨_,_,_,e,_⟩:=z;exact⟨_,e⟩
   | own _=>exact z
   | xd fs=>obtain⟨mA,⟨o,es,ep,e,_⟩,_⟩:=z;exact⟨_,e⟩
   | JN lo hi=>obtain⟨t,u,v,e⟩:=z;exact⟨_,e⟩
   | Cg ob u ih=>exact⟨_,z.1⟩
   | Gu ps=>exact⟨_,z⟩
   | met f y=>exact⟨_,z⟩
   | ext φ=>exact z.2.1
  obtain⟨u,e⟩:=hx;rw[n] at e;cases e
section
variable{M:Model}{A:Around}{EE:Value->Shared->Prop}{s:Shared}{P:Program}{w:World}{H:Hp}{base:Heap}{env:Env}{outer:List Env}{L e:Addr}
theorem lD(hl:s.heap.FunFrames base l)(hs:∀ b∈BS l,b∈S):s.heap.FunFrames (PySem.W.hideAll s.heap S) l:=by
 induction l with
 | nil=>trivial
 | cons x r ih=>
  obtain⟨hk,⟨L,o,hf,_,ho,hd⟩,hr⟩:=hl;refine⟨hk,⟨L,o,hf,YN S<|hs L ?_,ho,hd⟩,ih hr fun b hb=>hs b ?_⟩
  ·show L∈(x::r).filterMap (·.frame);rw[YD,hf];exact .head _
  ·show b∈(x::r).filterMap (·.frame);rw[YD,hf];exact .tail _ hb
theorem lE(hl:s.heap.FunFrames base l)(hH:∀ b∈S,H b=none){xs:List Addr}(hS:∀ b∈S,b∈BS l\/b∈xs)(l_:BX P w H s.heap)(k1:(PySem.W.hideAll s.heap S).StaysIn h')(k4:∀ b o,s.heap.get? b=some o->(∀ vs,o.data≠.fields vs)->∃ sl,h'.get? b=some { o with slots:=sl }):Un (BS l) xs H H s.heap h'/\BX P w H h':=by
 have keep:∀ b o,s.heap.get? b=some o->b∉S->h'.get? b=some o:=fun b o q n=>k1 b o (Yn S q n);refine⟨⟨fun b o q _ nf nx=>keep b o q fun z=>(hS b z).elim nf nx,fun b o q _ hf _=>?_,fun _ _ _ n _=>n,fun b o q nx=>?_,fun _ _ q=>q,fun _ _ _ q=>q,fun _ ps q=>⟨#[],by rw[q];simp⟩⟩,fun a o q=>?_⟩
 ·obtain⟨_,o',ho,hd⟩:=hl.mem hf;rw[q] at ho;cases ho;exact k4 b o q hd
 ·by_cases hb:b∈S
  ·rcases hS b hb with hf | hx
   ·obtain⟨_,o',ho,hd⟩:=hl.mem hf;rw[q] at ho;cases ho;obtain⟨sl,e1⟩:=k4 b o q hd;exact⟨_,e1⟩
   ·exact absurd hx nx
  ·exact⟨o,keep b o q hb⟩
 ·refine (l_ a o q).Cs (fun b u hb hu=>keep b u hu fun z=>?_) (fun _ z=>z) fun _ _ z=>z;rcases hb with rfl | hb
  ·rw[hH b z] at q;cases q
  ·rw[hH b z] at hb;cases hb
def MZ(H:Hp)(h0 h:Heap)(e:Addr)(cls a0:Value):Prop:=∃ oe vs T oT ts,h.get? e=some oe/\(oe.cls=cls/\vs[0]?=some a0)/\oe.data=.fields vs/\vs[1]?=some (.ref T)/\h0.get? T=none/\T≠e/\h.get? T=some oT/\oT.data=.fields ts/\ts[3]?=some .none/\H T=none
theorem xr(Ou:A.frames=some (env::outer))(hl:s.heap.FunFrames base (env::outer))(hf:env.frame=some L)(he:s.heap.get? e=some oe)(hd:oe.data=.fields vs)(h1:vs[1]?=some .none)(h0:vs[0]?=some a0)(hH:H e=none)(hF:∀ b∈BS (env::outer),H b=none)(l_:BX P w H s.heap)(h:∀ h',Un (BS (env::outer)) [e] H H s.heap h'->BX P w H h'->MZ H s.heap h' e oe.cls a0->Q () { s with heap:=h' }):wpAny M A (leaving env<|.ref e) Q EE s:=by
 have hS:∀ b∈e::BS (env::outer),b∈BS (env::outer)\/b∈[e]:=fun b hb=>by
  rcases ZO.mp hb with r | r
  ·rw[r];exact .inr (.head _)
  ·exact .inl r
 refine wpAny_leaving_firstW (base:=PySem.W.hideAll s.heap (e::BS (env::outer))) Ou (lD hl fun b hb=>.tail _ hb) hf he (fun b o q=>XW _ q) (YN _<|.head _) hd h1 h0 fun h' ⟨k1,_,k3,k4⟩=>?_;obtain⟨GM,Gm,T,oT,ts,t1,t2,t3,t4,t5,t6,t7,t8,t9⟩:=k3;obtain⟨u,ho⟩:=lE (P:=P) (w:=w) hl (fun b hb=>(hS b hb).elim (hF b) fun z=>by rw[ZW.mp z];exact hH) (xs:=[e]) hS l_ k1 k4;have hT:s.heap.get? T=none:=by
  cases q:s.heap.get? T with
  | none=>rfl
  | some o=>
   by_cases hT:T∈e::BS (env::outer)
   ·rcases ZO.mp hT with r | r
    ·exact absurd r t6
    ·obtain⟨_,o',EQ,Ef⟩:=hl.mem r;obtain⟨sl,e1⟩:=k4 T o' EQ Ef;rw[t7] at e1;cases e1;exact absurd t8 (Ef ts)
   ·rw[Yn _ q hT] at t5;cases t5
 exact h h' u ho ⟨GM,Gm,T,oT,ts,t1,t2,t3,t4,hT,t6,t7,t8,t9,l_.gone hT⟩
end
theorem Un.out{fs:List Addr}{h0 h1 h2:Heap}(a:Un fs [] H0 H h0 h1)(b:Un (L::fs) [e] H H h1 h2)(hL:∀ c o,h0.get? c=some o->c≠L)(hE:∀ c o,h0.get? c=some o->c≠e):Un fs [] H0 H h0 h2:=by
 have nx:∀ c o,h0.get? c=some o->c∉[e]:=fun c o q z=>hE c o q (ZW.mp z);have nf:∀ c o,h0.get? c=some o->c∉fs->c∉L::fs:=fun c o q n z=>(ZO.mp z).elim (hL c o q) n;have n0:∀ c:Addr,c∉([]:List Addr):=fun c z=>by cases z
 refine⟨fun c o q n hc _=>b.keep c o (a.keep c o q n hc<|n0 c) (a.free c o q n<|n0 c) (nf c o q hc)<|nx c o q,fun c o q n hc _=>?_,fun c o q n _=>a.free c o q n<|n0 c,fun c o q _=>?_,fun c xs q=>b.Cj c xs<|a.Cj c xs q,fun c o u q=>b.Ch c o u<|a.Ch c o u q,fun c ps q=>?_⟩
 ·obtain⟨sl,e1⟩:=a.slot c o q n hc (n0 c);obtain⟨Ii,e2⟩:=b.slot c _ e1 (a.free c o q n<|n0 c) (.tail _ hc) (nx c o q);exact⟨Ii,e2⟩
 ·obtain⟨o',e1⟩:=a.there c o q (n0 c);exact b.there c o' e1 (nx c o q)
 ·obtain⟨m1,e1⟩:=a.Ct c ps q;obtain⟨m2,e2⟩:=b.Ct c _ e1;exact⟨m1++m2,by rw[e2,Array.append_assoc]⟩
def GN(P:Program)(w:World):Ff:=fun outer H s E ev s'=>∃ (e C:Addr) (a0:Value) (H':Hp),ev=.ref e/\s'.os=s.os/\AllBare s'.gens/\Un (BS outer) [] H H' s.heap s'.heap/\BX P w H' s'.heap/\s.heap.get? e=none/\H' e=none/\MZ H' s.heap s'.heap e (.ref C) a0/\E (.ref C) none H'
theorem xt{mg:Str->Option Value}{base:Heap}{t':Nat}(I:Inv (bX (GN P w) P w K mg base N qual scope f cd A outer s0 H0 E) pins σ H s)(k:∀ b u,s.heap.get? b=some u->h'.get? b=some u)(n:s.heap.get? e=none)(he:h'.get? e=some oe)(hc:oe.cls=.ref C)(hd:oe.data=.fields vs)(h1:vs[1]?=some .none)(h0:vs[0]?=some a0)(wq:E (.ref C) none H):
  (bX (GN P w) P w K mg base N qual scope f cd A outer s0 H0 E).xe (.ref e) { s with heap:=h',toks:=t' }:=by
 have J:=I.kept (t':=t') k;have hE:H e=none:=I.l_.gone n;refine xr (base:=base) (P:=P) (w:=w) (H:=H) (L:=s0.heap.objs.size) J.ok.frames J.stack rfl he hd h1 h0 hE J.Cu J.l_ fun h2 un ho tr=>?_;rw[hc] at tr;obtain⟨GM,Gm,T,oT,ts,t1,t2,t3,t4,t5,t6⟩:=tr;have old:∀ c o,s0.heap.get? c=some o->∃ o',s.heap.get? c=some o':=fun c o q=>I.base.there c o q fun z=>by cases z
 refine⟨e,C,a0,H,rfl,J.os,J.bare,?_,ho,?_,hE,⟨GM,Gm,T,oT,ts,t1,t2,t3,t4,?_,t6⟩,wq⟩
 ·refine Un.out (L:=s0.heap.objs.size) (e:=e) J.base un (fun c o q=>Zx<|ZP q) fun c o q z=>?_;obtain⟨o',e1⟩:=old c o q;rw[z,n] at e1;cases e1
 ·cases q:s0.heap.get? e with
  | none=>rfl
  | some o=>
   obtain⟨o',e1⟩:=old e o q;rw[n] at e1;cases e1
 ·cases q:s0.heap.get? T with
  | none=>rfl
  | some o=>
   obtain⟨o',e1⟩:=old T o q;rw[k T o' e1] at t5;cases t5
theorem xu{bB:List Value}{M0:String}(X:K.In h)(q:PySem.W.excIn K C bB M0=true):∃ bm N nm qn bs Jb sn sb ab cl dd k0 k1 k2 k3 k5 mN,h.get? C=some (excClassObj nm qn C N bs bm Jb sn sb ab cl dd k0 k1 k2 k3 k5 M0)/\h.Ns N mN/\mN "__init__" = none/\OwnTail h bB bm:=by
 unfold PySem.W.excIn at q;split at q
 ·rename_i dd cd sl lk;split at q
  ·rename_i C' bm k0 k1 k2 k3 nw k5 e1 e2;rw[ZV,ZV,ZV,ZV,ZV] at q;obtain⟨⟨⟨⟨⟨q1,q2⟩,q3⟩,q4⟩,q5⟩,q6⟩:=q;cases WA.mp q1;cases WA.mp q2;obtain⟨nm,bs,mr,nn,qn,Jb,sn,sb,ab,cl,dl⟩:=cd;dsimp only at e1 q3 q5 q6;cases dl with
   | true=>cases q3
   | false=>
    subst e1;obtain⟨sl⟩:=sl;dsimp only at e2;subst e2;exact⟨bm,nn,nm,qn,bs,Jb,sn,sb,ab,cl,dd,k0,k1,k2,k3,k5,_,X _ _ lk,.of_isNs<|PySem.W.isNs_of_in X q5,PySem.W.nsMap_none_of_in X q5<|WA.mp q6,PySem.W.tail_of_in X q4⟩
  ·cases q
 ·cases q
def Kf(X:Cx)(C:Addr):TS:=fun _ σ H=>∀ (pins:List (Addr×Obj)) (s:Shared) (e:Addr) (h':Heap) (oe:Obj) (vs:Array Value) (a0:Value),Inv X pins σ H s->(∀ b u,s.heap.get? b=some u->h'.get? b=some u)->s.heap.get? e=none->h'.get? e=some oe->oe.cls=.ref C->oe.data=.fields vs->vs[1]?=some .none->vs[0]?=some a0->X.xe (.ref e) { s with heap:=h' }
section
variable{X:Cx}
theorem xv{m:Str}{j}(hc:X.calm=true)(hg:Gl X x)(hm:X.mg x=some (.ref C))(q:PySem.W.excIn X.K C [.type "ValueError",.type "Exception",.type "BaseException",.type "object"] "ValueError.__new__" = true)(hd:(x == ("__debug__" : Str))=false:=by decide):
  PS X (.Raise (some<|.Call (.Name x np) [.Constant (.str m) j cp] [] w_) none pos) (Kf X C):=by
 intro pins s σ H D I h;have hb:PE X (.Name x np) (tC<|.ref C):=mW (v:=.ref C) hg hm rfl hd;obtain⟨bm,N,nm,qn,bs,Jb,sn,sb,ab,cl,dd,k0,k1,k2,k3,k5,mN,c1,c2,c3,c4⟩:=xu I.mod.G7 q;have st:starEach [Expr.Constant (.str m) j cp] X.env=(false,eval (.Constant (.str m) j cp) X.env)::starEach [] X.env:=rfl;refine wpAny_Raise_call_subT (C:=C) (nm:=nm) (q:=qn) (bs:=bs) (hdct:=Jb) (sn:=sn) (sub:=sb) (ab:=ab) (col:=cl) (dd:=dd) (k0:=k0) (k1:=k1) (k2:=k2) (k3:=k3) (k5:=k5) (bm:=bm) (N:=N) (mN:=mN) WW (c4.hasType WW.hasBase) (I.ok.hd hc) (by rw[st];rfl) c3 (A_ (hb pins s σ H (fun v H1=>v=.ref C/\H1=H) I ⟨rfl,rfl⟩) fun u s1 ⟨v,H1,I1,r,e1,e2⟩=>?_);subst e1 e2;cases r;refine⟨rfl,?_⟩;have pa:PA X [Expr.Constant (.str m) j cp] _:=dv mV gK;have sp:=pa w_ pins s1 σ H1 (fun vs H2=>vs.length=1/\H2=H1) I1 ⟨rfl,rfl⟩;rw[st] at sp ⊢;refine Calls.evalArgs_plain (A_ sp fun us s2 ⟨vs,H2,I2,rv,l,e2⟩=>?_);subst e2;refine⟨rfl,?_,I2.bk _ _ c1,c2.keeps I2.bk,c4.keeps I2.bk,fun h' ex mk=>?_⟩
 ·show us.length<=sizeLine;rw[<- rv.length,l];decide
 ·obtain⟨t,m1,_,_⟩:=mk.there;exact h pins s2 ex h' _ _ _ I2 mk.keeps mk.new m1 rfl rfl rfl rfl
end
def tQ(fix:List Nat)(Z:St->Hp->Prop)(R:SD->SD->Prop)(σ:St)(H:Hp):Prop:=∃ D F D',aj H D σ F/\F.Nodup/\R D D'/\∀ σ' H' F',aH fix σ σ'->aj H' D' σ' F'->n_ H F H' F'->Z σ' H'
def DW(X:Cx)(fix:List Nat)(Z:St->Hp->Prop)(Eg:List Stmt)(R:SD->SD->Prop):Prop:=DG X Eg fun _ σ H=>tQ fix Z R σ H
def FR(X:Cx)(fix:List Nat)(Z:St->Hp->Prop)(e:Expr)(R:SD->SD->Prop):Prop:=PE X e fun σ H _=>tQ fix Z R σ H
def GO(X:Cx)(fix:List Nat)(Z:St->Hp->Prop)(es:List Expr)(R:SD->SD->Prop):Prop:=PA X es fun σ H _=>tQ fix Z R σ H
section
variable{X:Cx}{fix:List Nat}{Z:St->Hp->Prop}{R:SD->SD->Prop}
theorem jw(Eg:List Stmt):DG X Eg fun _ _ _=>False:=fun _ _ _ _ _ _ h=>h.elim
theorem xw{Eg:List Stmt}{g:MS}(h1:VS X fix st g)(h2:DW X fix Z Eg R):DW X fix Z (st::Eg) fun D D'=>∃ D1,g D=some (.nx,D1)/\R D1 D':=
 fo (gJ h1 h2) fun E σ H ⟨D,F,D',st,nd,⟨D1,hg,hr⟩,z⟩=>⟨D,F,.nx,D1,st,nd,hg,fun σ' H' F' fx e_ s=>⟨D1,F',D',e_,s.nd,hr,fun σ2 H2 F2 Hz o_ s2=>z σ2 H2 F2 (fx.trans Hz) o_<|s.seq s2⟩⟩
theorem xx{c:Expr}{a b rest:List Stmt}(hc:VT X c gc)(ha:DW X fix Z a R):DW X fix Z (.If c a b pos::rest) fun D D'=>∃ D1,gc D=some (true,D1)/\R D1 D':=
 fo (gJ (m5 hc ha<|jw b)<|jw rest) fun E σ H ⟨D,F,D',st,nd,⟨D1,hg,hr⟩,z⟩=>⟨D,F,true,D1,st,nd,hg,fun H' F' e_ s=>⟨D1,F',D',e_,s.nd,hr,fun σ2 H2 F2 Hz o_ s2=>z σ2 H2 F2 Hz o_<|s.seq s2⟩⟩
theorem xy{m:Str}{j}{rest:List Stmt}(hc:X.calm=true)(hg:Gl X x)(hm:X.mg x=some (.ref C))(q:PySem.W.excIn X.K C [.type "ValueError",.type "Exception",.type "BaseException",.type "object"] "ValueError.__new__" = true)(hz:∀ D σ H,Z σ H->Kf X C D σ H)(hd:(x == ("__debug__" : Str))=false:=by decide):
  DW X fix Z (.Raise (some<|.Call (.Name x np) [.Constant (.str m) j cp] [] w_) none pos::rest) fun D D'=>D'=D:=
 fo (gJ (xv hc hg hm q hd)<|jw rest) fun E σ H ⟨D,F,D',st,nd,e,z⟩=>hz _ σ H (z σ H F aH.refl (by rw[e];exact st)<|n_.perm nd<|ZI _)
theorem xz(es:List Expr):PA X es (fun _ _ _=>False):=fun _ _ _ _ _ _ _ h=>h.elim
variable{e:Expr}
theorem xA(h:FR X fix Z e R)(hs:starEach (e::es) X.env=(false,eval e X.env)::starEach es X.env:=by rfl):GO X fix Z (e::es) R:=
 fun pos pins s σ H Q I w=>(dv h (xz es) hs) pos pins s σ H Q I w
theorem xB{g:M Opd}(he:VO X e g)(hr:GO X fix Z es R)(hs:starEach (e::es) X.env=(false,eval e X.env)::starEach es X.env:=by rfl):GO X fix Z (e::es) fun D D'=>∃ x D1,g D=some (x,D1)/\R D1 D':=by
 intro pos pins s σ H Q I ⟨D,F,D',st,nd,⟨x,D1,hg,Ov⟩,z⟩;refine (dv he hr hs) pos pins s σ H Q I ⟨D,F,x,D1,st,nd,hg,fun v H1 F1 R1 s_ o1 s1=>⟨D1,F1,D',s_,(ZM.mp s1.nd).1,Ov,fun σ2 H2 F2 fx o_ s2=>?_⟩⟩;exact z σ2 H2 F2 fx o_ ((s1.trans s2 o1.chg).less (C:=R1)<|ZI _)
theorem xC{x1}(h:GO X fix Z es R):FR X fix Z (.Tuple es x1 pos) R:=aQ (ni h) fun _ _ _ w=>w
theorem xD{rest:List Stmt}(hN:X.N.Nodup)(hi:X.N[i]?=some x)(hx:Loc X.env.scope x)(he:FR X fix Z e R)(hs:swapsWith e (some<|.Name x pos') pos.line X.env=pure false:=by rfl)(Fb:X.fn x=true\/X.env.scope.names.lookup x=some .local:=by first | exact .inl rfl | exact .inr rfl | assumption):DW X fix Z (.Assign [.Name x pos'] e pos::rest) R:=
 fo (gJ (m7 hN hi hx he hs Fb)<|jw rest) fun _ _ _ w=>w
def Kg(n:Nat)(Rr:List Vl->Prop)(C:Addr):Sp:=fun vs H _ E=>vs.length=n/\∃ ds F,aI H ds vs F/\F.Nodup/\Rr ds/\∀ H' F',n_ H F H' F'->E (.ref C) none H'
def GP(X:Cx)(pins:List (Addr×Obj))(b:Addr):Prop:=X.s₀.heap.get? b=none/\b≠X.env.locals/\(∀ x c,X.env.cells.lookup x=some c->c≠b)/\∀ p∈X.pn++pins,p.1≠b
theorem jx{b:Addr}(I:Inv X pins σ H s)(n:s.heap.get? b=none)(hx:b∉X.ex):GP X pins b:=by
 refine⟨?_,fun e=>?_,fun x c h e=>?_,fun p hp e=>?_⟩
 ·cases q:X.s₀.heap.get? b with
  | none=>rfl
  | some o=>
   obtain⟨o',e1⟩:=I.base.there b o q hx;rw[n] at e1;cases e1
 ·obtain⟨m,⟨o,es,ep,ho,_⟩,_⟩:=I.loc;rw[<- e,n] at ho;cases ho
 ·obtain⟨v,o,ho,_⟩:=I.cell x c h;rw[e,n] at ho;cases ho
 ·have:=(I.pin p hp).1;rw[e,n] at this;cases this
def Exc(X:Cx)(pins:List (Addr×Obj))(H:Hp)(h:Heap)(e C:Addr)(a0:Value):Prop:=H e=none/\GP X pins e/\∃ oe vs T oT ts,h.get? e=some oe/\(oe.cls=.ref C/\vs[0]?=some a0)/\oe.data=.fields vs/\vs[1]?=some (.ref T)/\T≠e/\h.get? T=some oT/\oT.data=.fields ts/\ts[3]?=some .none/\H T=none/\GP X pins T
def Jc(X:Cx)(C:Addr)(σ:St)(H':Hp):Prop:=∀ (pins:List (Addr×Obj)) (s':Shared) (e:Addr) (a0:Value),Inv X pins σ H' s'->Exc X pins H' s'.heap e C a0->X.xe (.ref e) s'
theorem xE{Rr:List Vl->Prop}{fd:FuncData}(F:B6 X.prog X.w X.K X.mg X.base (GN X.prog X.w) k f fd ps (Kg n Rr C))(hr:z_ k X.A)(hg:Gl X x)(hm:X.mg x=some (.ref f))(hk:PySem.W.keepIn X.K (.ref f)=true)(hb:cf X.K fd ps [])(hx:X.ex=[])(hz:∀ σ H,Z σ H->Jc X C σ H)(ha:VA X (e::es) g)(DJ:(x == ("__debug__" : Str))=false:=by decide)(he:starEach (e::es) X.env=(false,eval e X.env)::starEach es X.env:=by rfl)(CP:(backTo pos<|starEach es X.env).any (·.1)=false:=by rfl):
  FR X fix Z (.Call (.Name x p) (e::es) [] pos) fun D D'=>∃ os D1 ds,g D=some (os,D1)/\os.length=n/\bb os D1=some (ds,D')/\Rr ds:=by
 intro pins s σ H Q I ⟨D,F0,D',st,nd,⟨os,D1,ds,h1,hn,h3,hR⟩,z⟩;refine Yg (gH I hg hm ?_ DJ);refine W3 (h₀:=X.base) I.ok.mod.G7 hk (A_ (@ha pos pins s σ H (fun vs H1=>Kg n Rr C vs H1 (fun _ _=>False) fun c _ H'=>c=.ref C/\Jc X C σ H') I ⟨D,F0,os,D1,st,nd,h1,fun vs H1 F1 R1 s_ o1 s1=>?_⟩) fun us s1 ⟨vs,H1,I1,r,q⟩=>⟨I1.EO,?_⟩) he CP
 ·obtain⟨F2,R2,o_,ow,pm⟩:=eh s_ o1 h3;have s2:=s1.B_ (pm.symm.trans Z1);refine⟨by rw[<- o1.length];exact hn,ds,R2,ow,(ZM.mp s2.nd).1,hR,fun H3 F3 s3=>⟨rfl,hz σ H3<|z σ H3 F2 aH.refl ?_ ?_⟩⟩
  ·exact o_.mono s3.tup fun a ha o e=>s3.keep a o e fun hb=>(ZM.mp s2.nd).2.2 a hb a ha rfl
  ·exact (s2.trans s3 o_.chg).less (C:=F3) Z1
 ·have hl:(us++[]).length=ps.length:=by rw[ZZ,<- r.length];exact F.len _ _ _ _ q
  have bd:=hb s1 us I1.EO hl;rw[ZZ] at bd;refine wpAny_call (W6 (F.run X.A X.stack s1 H1 ⟨us,[]⟩ us vs _ _ hr I1.Hb bd r q) fun rs s' hq=>?_);cases rs with
  | error ev=>
   obtain⟨ex,C',a0,H',rfl,Iu,bare,un,l_,Ik,hE,tr,⟨eC,cat⟩⟩:=hq;cases eC;have nx:∀ b:Addr,b∉X.ex:=fun b z=>by rw[hx] at z;cases z
   obtain⟨oe,Gm,T,oT,ts,t1,t2,t3,t4,t5,t6,t7,t8,t9,tH⟩:=tr;exact cat pins s' ex a0 (I1.Gx (ch:=[]) Iu un l_ bare fun b z=>by cases z) ⟨hE,jx I1 Ik<|nx _,oe,Gm,T,oT,ts,t1,t2,t3,t4,t6,t7,t8,t9,tH,jx I1 t5<|nx _⟩
  | ok fl=>
   cases fl with
   | ret u=>obtain⟨v,H',_,_,_,_,_,fs⟩:=hq;exact False.elim fs
   | next=>exact False.elim hq
   | brk=>exact False.elim hq
   | cont=>exact False.elim hq
end
section
variable{P:Program}{w:World}{K:PySem.W.Frag}{mg:Str->Option Value}{base:Heap}
theorem xF(D:Ends)(σ:St)(H:Hp)(h:E (.ref C) none H):Kf (bX (GN P w) P w K mg base N qual scope f cd A outer s0 H0 E) C D σ H:=
 fun pins s e h' oe vs a0 I k n he hc hd h1 h0=>xt (t':=s.toks) I k n he hc hd h1 h0 h
theorem Ow{fd:FuncData}(F:Dx K x qual st f fd)(S:k_ N ps (au st))(hn:ps.length=n)(hb:∀ (q_:Value) (A:Around) (outer:List Env) (s:Shared) (H:Hp) (E:XK),z_ k (A.deeper<|envOfC qual (au st) s.heap.objs.size f q_)->DW (bX (GN P w) P w K mg base N qual (au st) f q_ A outer s H E) fix (fun _ H'=>E (.ref C) none H') (bG st) R):
  B6 P w K mg base (GN P w) (k+1) f fd ps (Kg n (fun ds=>∃ D',R (ds.map some++replicate (N.length - n) none) D') C):=by
 obtain⟨oc,od,kV,doc,pm,an,q_,ct,EH,rfl,lk,DY⟩:=F.ex;refine nu lk DY S (fun vs H Q E h=>h.1.trans hn.symm) fun A outer s H vs Q E hr h=>⟨_,hb q_ A outer s H E hr,?_⟩;obtain⟨hl,ds,F0,ow,nd,⟨D',hR⟩,z⟩:=h;have st:=jj (m:=N.length - n) ow;have es:bW N vs=vs.map some++replicate (N.length - n) none:=by unfold bW;rw[hl]
 rw[es];exact⟨_,F0,D',st,nd,hR,fun _ H' F' _ _ s=>z H' F' s⟩
end
abbrev Cx.hold(X:Cx)(E:Value->Shared->Prop)(ps:List (Addr×Obj)):Cx:={ X with xe:=E,pn:=X.pn++ps }
section
variable{X:Cx}{pins q:List (Addr×Obj)}{σ:St}{H:Hp}{s:Shared}{E:Value->Shared->Prop}
theorem Inv.hold(I:Inv X pins σ H s)(E:Value->Shared->Prop):Inv (X.hold E pins) [] σ H s:=
 ⟨⟨I.ok.mod,I.ok.kind,I.ok.glob,I.ok.blt,I.ok.above,I.ok.inj,I.ok.has,I.ok.E_,I.ok.hd,I.ok.frames,I.ok.Fa,I.ok.Gv,I.ok.bs,I.ok.Em,I.ok.Da,I.ok.Db,I.ok.BQ,I.ok.EN⟩,I.os,I.bare,I.base,I.loc,I.cell,I.free,I.BC,fun p hp=>I.pin p (by rw[ZZ] at hp;exact hp),I.l_,I.len⟩
theorem Inv.BR(I:Inv (X.hold E pins) q σ H s):Inv X pins σ H s:=
 ⟨⟨I.ok.mod,I.ok.kind,I.ok.glob,I.ok.blt,I.ok.above,I.ok.inj,I.ok.has,I.ok.E_,I.ok.hd,I.ok.frames,I.ok.Fa,I.ok.Gv,I.ok.bs,I.ok.Em,I.ok.Da,I.ok.Db,I.ok.BQ,I.ok.EN⟩,I.os,I.bare,I.base,I.loc,I.cell,I.free,I.BC,fun p hp=>I.pin p<|ZH _ hp,I.l_,I.len⟩
theorem SP.BR{f:Flow}{s':Shared}(h:SP (X.hold E pins) q D f s'):SP X pins D f s':=by
 cases f with
 | next=>obtain⟨σ',H',I,q⟩:=h;exact⟨σ',H',I.BR,q⟩
 | brk=>obtain⟨σ',H',I,q⟩:=h;exact⟨σ',H',I.BR,q⟩
 | cont=>obtain⟨σ',H',I,q⟩:=h;exact⟨σ',H',I.BR,q⟩
 | ret u=>obtain⟨v,σ',H',I,r,q⟩:=h;exact⟨v,σ',H',I.BR,r,q⟩
theorem xG(hb:∀ E p,DG (X.hold E p) body t):PS X (.Try body (h0::hs) [] [] pos) t:=by
 intro pins s σ H D I hw;refine wpAny_Try_except (Zc (hb _ pins [] s σ H D (I.hold _) hw) (fun f s1 q=>?_) fun e s1 z=>z);have q:=SP.BR q;cases f with
 | next=>exact Yc q
 | brk=>exact q
 | cont=>exact q
 | ret u=>exact q
theorem xH{g:MS}(hb:∀ E p,DV (X.hold E p) fix body g):VS X fix (.Try body (h0::hs) [] [] pos) g:=xG fun E p=>hb E p
theorem Inv.GQ{T:Addr}(I:Inv X pins σ H s)(u:Un (BS X.stack) [e,T] H H s.heap h')(l_:BX X.prog X.w H h')(n:∀ b∈[e,T],X.s₀.heap.get? b=none/\b≠X.env.locals/\(∀ x c,X.env.cells.lookup x=some c->c≠b)/\∀ p∈X.pn++pins,p.1≠b):
  Inv X pins σ H { s with heap:=h' }:=by
 have ok:({ X with ex:=[e,T]++X.ex }:Cx).Ok:=by
  refine⟨I.ok.mod,I.ok.kind,I.ok.glob,I.ok.blt,I.ok.above,I.ok.inj,I.ok.has,I.ok.E_,I.ok.hd,I.ok.frames,I.ok.Fa,fun b hb=>?_,I.ok.bs,I.ok.Em,fun b o q hb=>?_,fun b hb hf=>?_,I.ok.BQ,I.ok.EN⟩
  ·rcases ZE.mp hb with z | z
   ·exact⟨(n b z).2.1,(n b z).2.2.1⟩
   ·exact I.ok.Gv b z
  ·rcases ZE.mp hb with z | z
   ·have:=(n b z).1;rw[(I.ok.bs b o q).1] at this;cases this
   ·exact I.ok.Da b o q z
  ·rcases ZE.mp hb with z | z
   ·obtain⟨_,o,ho,_⟩:=I.ok.BQ.mem hf;rw[(n b z).1] at ho;cases ho
   ·exact I.ok.Db b z hf
 have J:Inv { X with ex:=[e,T]++X.ex } pins σ H s:=⟨ok,I.os,I.bare,I.base.mono (fun _ z=>z) fun b z=>ZN _ z,I.loc,I.cell,I.free,I.BC,I.pin,I.l_,I.len⟩;have J2:=J.call (g':=s.gens) (t':=s.toks) (d':=s.drawn) u l_ J.bare fun b hb=>⟨.inl<|ZH _ hb,(n b hb).2⟩;have nx:∀ b o,X.s₀.heap.get? b=some o->b∉X.ex->b∉[e,T]++X.ex:=fun b o q hx hb=>by
  rcases ZE.mp hb with z | z
  ·rw[(n b z).1] at q;cases q
  ·exact hx z
 have b2:=J2.base;exact⟨I.ok,J2.os,J2.bare,⟨fun b o q a c d=>b2.keep b o q a c<|nx b o q d,fun b o q a c d=>b2.slot b o q a c<|nx b o q d,fun b o q a d=>b2.free b o q a<|nx b o q d,fun b o q d=>b2.there b o q<|nx b o q d,b2.Cj,b2.Ch,b2.Ct⟩,J2.loc,J2.cell,J2.free,J2.BC,J2.pin,J2.l_,J2.len⟩
theorem xI{M:Model}{Q:Shared->Prop}(I:Inv X pins σ H s)(x:Exc X pins H s.heap e C a0)(hA:A.frames=some X.stack)(DH:X.stack=X.env::outer)(hf:X.env.frame=some L)(hx:X.ex=[])(h:∀ h',Inv X pins σ H { s with heap:=h' }->Exc X pins H h' e C a0->Q { s with heap:=h' }):wpAny M A (noteFrame (.ref e) X.env) (fun _ s2=>wpAny M A (setFlight (.ref e) none) (fun _ s3=>Q s3) EE s2) EE s:=by
 obtain⟨hE,fE,oe,vs,T,oT,ts,t1,t2,t3,t4,t6,t7,t8,t9,tH,fT⟩:=x;have hl:s.heap.FunFrames X.base (X.env::outer):=DH ▸ I.stack;have hF:∀ b∈BS (X.env::outer),H b=none:=fun b hb=>I.Cu b (DH ▸ hb);have hS:∀ b∈e::T::BS (X.env::outer),b∈BS (X.env::outer)\/b∈[e,T]:=fun b hb=>by
  rcases ZO.mp hb with r | r
  ·rw[r];exact .inr (.head _)
  ·rcases ZO.mp r with r | r
   ·rw[r];exact .inr (.tail _<|.head _)
   ·exact .inl r
 have hH:∀ b∈e::T::BS (X.env::outer),H b=none:=fun b hb=>by
  rcases ZO.mp hb with r | r
  ·rw[r];exact hE
  ·rcases ZO.mp r with r | r
   ·rw[r];exact tH
   ·exact hF b r
 refine wpAny_noteFrame_onW (base:=PySem.W.hideAll s.heap (e::T::BS (X.env::outer))) (hA.trans (by rw[DH])) (lD hl fun b hb=>.tail _<|.tail _ hb) hf ⟨oe,vs,T,oT,ts,t1,t2,t3,t4,YN _<|.tail _<|.head _,t6,t7,t8,t9⟩ (fun b o q=>XW _ q) (YN _<|.head _) fun h2 ⟨k1,k2,k3,k4⟩=>?_;refine wpAny_setFlight_noneW (s:={ s with heap:=h2 }) k1 k2 k3 fun h3 j1 _ j3 j4=>?_;have k5:∀ b o,s.heap.get? b=some o->(∀ vs,o.data≠.fields vs)->∃ sl,h3.get? b=some { o with slots:=sl }:=fun b o q d=>by
  obtain⟨sl,e1⟩:=k4 b o q d;exact⟨sl,j4 b _ e1 d⟩
 obtain⟨u,ho⟩:=lE (P:=X.prog) (w:=X.w) (xs:=[e,T]) hl hH hS I.l_ j1 k5;have J:Inv X pins σ H { s with heap:=h3 }:=I.GQ (DH ▸ u) ho fun b hb=>by
  rcases ZO.mp hb with r | r
  ·rw[r];exact fE
  ·rw[ZW.mp r];exact fT
 obtain⟨GM,Gm,T',LJ,Jd,q1,q2,q3,q4,q5,q6,q7,q8,q9⟩:=j3;have Je:H T'=none/\GP X pins T':=by
  by_cases z:T'=T
  ·rw[z];exact⟨tH,fT⟩
  ·have n:s.heap.get? T'=none:=by
    cases q:s.heap.get? T' with
    | none=>rfl
    | some o=>
     by_cases hm:T'∈e::T::BS (X.env::outer)
     ·rcases ZO.mp hm with r | r
      ·exact absurd r q6
      ·rcases ZO.mp r with r | r
       ·exact absurd r z
       ·obtain⟨_,o',EQ,Ef⟩:=hl.mem r;obtain⟨sl,e1⟩:=k5 T' o' EQ Ef;rw[q7] at e1;cases e1;exact absurd q8 (Ef Jd)
     ·rw[Yn _ q hm] at q5;cases q5
   exact⟨I.l_.gone n,jx I n (by rw[hx];exact Xq)⟩
 exact h h3 J ⟨hE,fE,GM,Gm,T',LJ,Jd,q1,q2,q3,q4,q6,q7,q8,q9,Je.1,Je.2⟩
end
section
variable{X:Cx}{pins:List (Addr×Obj)}{σ:St}{H:Hp}{s:Shared}
variable{n:Str}
theorem jy{M:Model}(I:Inv X pins σ H s)(hN:X.N.Nodup)(hi:X.N[i]?=some n)(hk:X.env.kindOf n=some .local)(h:∀ s',Inv X pins (σ.set i none) H s'->Q () s'):wpAny M A (do bindName X.env n .none;unbindBehindTheSuite X.env n pos) Q EE s:=by
 obtain⟨m,hn,hl⟩:=id I.loc;have LK:∀ b o,X.s₀.heap.get? b=some o->b≠X.env.locals:=fun b o e=>Zx (Zz (ZP e) I.ok.above);refine wpAny_nameGoes_keeps hk hn (by rw[I.ok.kind];rfl) fun h' v Ik hs=>h _ ?_;refine⟨I.ok,I.os,I.bare,⟨fun b o e a c d=>(hs.2 b<|LK b o e).trans<|I.base.keep b o e a c d,fun b o e a c d=>?_,I.base.free,fun b o e d=>?_,I.base.Cj,I.base.Ch,I.base.Ct⟩,⟨_,Ik,fun j y v' e1 e2 e3=>?_⟩,fun y c e=>?_,I.free,I.BC,fun p hp=>?_,fun b ob e=>?_,by rw[XX];exact I.len⟩
 ·obtain⟨sl,e1⟩:=I.base.slot b o e a c d;exact⟨sl,(hs.2 b<|LK b o e).trans e1⟩
 ·obtain⟨o',e1⟩:=I.base.there b o e d;exact⟨o',(hs.2 b<|LK b o e).trans e1⟩
 ·by_cases hj:j=i
  ·rw[hj,XD] at e2;rw[Z0 rfl] at e2;split at e2<;>cases e2
  ·rw[Y7 (Yw hj)] at e2;obtain⟨u',r',q⟩:=hl j y v' e1 e2 e3;refine⟨u',r',?_⟩;rcases q with ⟨k,e⟩ | ⟨k,c,e,z⟩
   ·have ny:y≠n:=fun z=>hj (kc hN e1<|z ▸ hi);exact .inl ⟨k,(ZX ny).trans e⟩
   ·exact .inr ⟨k,c,e,z.sameBut hs<|I.FY y c e⟩
 ·obtain⟨w',z⟩:=I.cell y c e;exact⟨w',z.sameBut hs<|I.FY y c e⟩
 ·obtain⟨e,n',ne,nf,d⟩:=I.pin p hp;exact⟨(hs.2 p.1 ne).trans e,n',ne,nf,d⟩
 ·refine (I.l_ b ob e).Cs (fun c u hc q=>(hs.2 c fun z=>?_).trans q) (fun _ q=>q) fun _ _ q=>q;rcases hc with r | r
  ·rw[<- r,z,I.free] at e;cases e
  ·rw[z,I.free] at r;cases r
theorem xJ{M:Model}(I:Inv X pins σ H s)(x:Exc X pins H s.heap e C a0)(DH:X.stack=X.env::outer)(hx:X.ex=[])(h:∀ h',Inv X pins σ H { s with heap:=h' }->Exc X pins H h' e C a0->Q () { s with heap:=h' }):wpAny M A (setFlight (.ref e) none) Q EE s:=by
 obtain⟨hE,fE,oe,vs,T,oT,ts,t1,t2,t3,t4,t6,t7,t8,t9,tH,fT⟩:=x;have hl:s.heap.FunFrames X.base (X.env::outer):=DH ▸ I.stack;have hF:∀ b∈BS (X.env::outer),H b=none:=fun b hb=>I.Cu b (DH ▸ hb);have hS:∀ b∈e::T::BS (X.env::outer),b∈BS (X.env::outer)\/b∈[e,T]:=fun b hb=>by
  rcases ZO.mp hb with r | r
  ·rw[r];exact .inr (.head _)
  ·rcases ZO.mp r with r | r
   ·rw[r];exact .inr (.tail _<|.head _)
   ·exact .inl r
 have hH:∀ b∈e::T::BS (X.env::outer),H b=none:=fun b hb=>by
  rcases ZO.mp hb with r | r
  ·rw[r];exact hE
  ·rcases ZO.mp r with r | r
   ·rw[r];exact tH
   ·exact hF b r
 refine wpAny_setFlight_noneW (base:=PySem.W.hideAll s.heap (e::T::BS (X.env::outer))) (fun b o q=>XW _ q) (lD hl fun b hb=>.tail _<|.tail _ hb) ⟨oe,vs,T,oT,ts,t1,t2,t3,t4,YN _<|.tail _<|.head _,t6,t7,t8,t9⟩ fun h3 j1 _ j3 j4=>?_;have k5:∀ b o,s.heap.get? b=some o->(∀ vs,o.data≠.fields vs)->∃ sl,h3.get? b=some { o with slots:=sl }:=fun b o q d=>⟨o.slots,j4 b o q d⟩;obtain⟨u,ho⟩:=lE (P:=X.prog) (w:=X.w) (xs:=[e,T]) hl hH hS I.l_ j1 k5;have J:Inv X pins σ H { s with heap:=h3 }:=I.GQ (DH ▸ u) ho fun b hb=>by
  rcases ZO.mp hb with r | r
  ·rw[r];exact fE
  ·rw[ZW.mp r];exact fT
 obtain⟨GM,Gm,T',LJ,Jd,q1,q2,q3,q4,q5,q6,q7,q8,q9⟩:=j3;have Je:H T'=none/\GP X pins T':=by
  by_cases z:T'=T
  ·rw[z];exact⟨tH,fT⟩
  ·have n:s.heap.get? T'=none:=by
    cases q:s.heap.get? T' with
    | none=>rfl
    | some o=>
     by_cases hm:T'∈e::T::BS (X.env::outer)
     ·rcases ZO.mp hm with r | r
      ·exact absurd r q6
      ·rcases ZO.mp r with r | r
       ·exact absurd r z
       ·obtain⟨_,o',EQ,Ef⟩:=hl.mem r;obtain⟨sl,e1⟩:=k5 T' o' EQ Ef;rw[q7] at e1;cases e1;exact absurd q8 (Ef Jd)
     ·rw[Yn _ q hm] at q5;cases q5
   exact⟨I.l_.gone n,jx I n (by rw[hx];exact Xq)⟩
 exact h h3 J ⟨hE,fE,GM,Gm,T',LJ,Jd,q1,q2,q3,q4,q6,q7,q8,q9,Je.1,Je.2⟩
abbrev Cx.DQ(X:Cx)(ps:List (Addr×Obj))(e:Addr)(oe:Obj):Cx:={ X with A:=X.A.mark (some<|.ref e),calm:=false,xe:=fun _ _=>False,pn:=X.pn++(ps++[(e,oe)]) }
theorem Inv.DQ(I:Inv X pins σ H s)(x:Exc X pins H s.heap e C a0)(he:s.heap.get? e=some oe):Inv (X.DQ pins e oe) [] σ H s:=by
 obtain⟨hE,fE,GM,vs,T,oT,ts,t1,t2,t3,_⟩:=x;rw[he] at t1;cases t1;refine⟨⟨I.ok.mod,I.ok.kind,I.ok.glob,I.ok.blt,I.ok.above,I.ok.inj,I.ok.has,I.ok.E_,fun z=>(by cases z),I.ok.frames,I.ok.Fa,I.ok.Gv,I.ok.bs,I.ok.Em,I.ok.Da,I.ok.Db,I.ok.BQ,I.ok.EN⟩,I.os,I.bare,I.base,I.loc,I.cell,I.free,I.BC,fun p hp=>?_,I.l_,I.len⟩;have hp:p∈X.pn++(pins++[(e,oe)]):=by rw[ZZ] at hp;exact hp
 rw[<- Z7] at hp;rcases ZE.mp hp with z | z
 ·exact I.pin p z
 ·rw[ZW.mp z];refine⟨he,hE,fE.2.1,fun hf=>?_,fun v hv=>?_⟩
  ·obtain⟨_,o,ho,_⟩:=I.ok.BQ.mem hf;rw[fE.1] at ho;cases ho
  ·rw[t3] at hv;cases hv
theorem Inv.DR(ok:X.Ok)(I:Inv (X.DQ pins e oe) q σ H s):Inv X pins σ H s:=
 ⟨ok,I.os,I.bare,I.base,I.loc,I.cell,I.free,I.BC,fun p hp=>I.pin p (ZH _ (show p∈X.pn++(pins++[(e,oe)]) by rw[<- Z7];exact ZH _ hp)),I.l_,I.len⟩
theorem Exc.same(x:Exc X pins H h e C a0)(hs:Heap.SameBut a h h')(n:∀ b,GP X pins b->b≠a):Exc X pins H h' e C a0:=by
 obtain⟨hE,fE,oe,vs,T,oT,ts,t1,t2,t3,t4,t6,t7,t8,t9,tH,fT⟩:=x;exact⟨hE,fE,oe,vs,T,oT,ts,(hs.2 e<|n e fE).trans t1,t2,t3,t4,t6,(hs.2 T<|n T fT).trans t7,t8,t9,tH,fT⟩
theorem xK{rest:List ExceptHandler}(I:Inv X pins σ H s)(x:Exc X pins H s.heap e C a0)(DH:X.stack=X.env::outer)(hx:X.ex=[])(hg:Gl X y)(hm:X.mg y=some (.ref CM))(hq:PySem.W.exmOne X.K (.ref C) (.ref CM)=some true)(hN:X.N.Nodup)(hi:X.N[i]?=some n)(hk:X.env.kindOf n=some .local)(hs:∀ oe:Obj,oe.cls=.ref C->DG (X.DQ pins e oe) (b0::Dk) t)(ht:t { nx:=fun σ' H'=>D.nx (σ'.set i none) H',rt:=D.rt,bk:=fun σ' H'=>D.bk (σ'.set i none) H',ct:=fun σ' H'=>D.ct (σ'.set i none) H' } (σ.set i<|some<|.ref e) H)(hd:(y == ("__debug__" : Str))=false:=by decide):
  wpAny (model X.prog X.w) X.A (handleBy (.ref e) X.env (.ExceptHandler (some<|.Name y np) (some n) (b0::Dk) Gj::rest)) (SP X pins D) EE s:=by
 refine wpAny_handleBy_cons (codeAny_handlers_test ?_) (by intro q;cases q);obtain⟨oe,he,hc⟩:∃ oe,s.heap.get? e=some oe/\oe.cls=.ref C:=by
  obtain⟨_,_,oe,_,_,_,_,t1,t2,_⟩:=x;exact⟨oe,t1,t2.1⟩
 have S:=I.DQ x he;refine gH S hg hm ?_ hd;have LT:PySem.W.Looks (model X.prog X.w) s.heap (typeOf<|.ref e) (.ref C):=hc ▸ ((X5 he).andThen .now);refine PySem.W.exm_one (M:=model X.prog X.w) I.EO LT hq _ _ _ s (fun b o q=>q) ?_;refine codeAny_handlers_suite_as (xJ I x DH hx fun h' J xj=>?_);refine ke (v:=.ref e) J hN hi (.inl hk) rfl (fun s2 J2 ⟨a,sm,ha⟩=>?_) (.inr hk);have x2:=xj.same sm fun b fb=>by
  rcases ha with z | z
  ·rw[z];exact fb.2.1
  ·exact fun w=>fb.2.2.1 n a z w.symm
 obtain⟨Ox,Kh,Hf⟩:∃ oe,s2.heap.get? e=some oe/\oe.cls=.ref C:=by
  obtain⟨_,_,oe,_,_,_,_,t1,t2,_⟩:=x2;exact⟨oe,t1,t2.1⟩
 refine Zc (hs Ox Hf [] s2 _ H _ (J2.DQ x2 Kh) ht) (fun f s3 q=>?_) fun _ _ z=>False.elim z;cases f with
 | next=>obtain⟨σ',H',K,q⟩:=q;exact jy (K.DR I.ok) hN hi hk fun s4 K4=>⟨_,H',K4,q⟩
 | brk=>obtain⟨σ',H',K,q⟩:=q;exact jy (K.DR I.ok) hN hi hk fun s4 K4=>⟨_,H',K4,q⟩
 | cont=>obtain⟨σ',H',K,q⟩:=q;exact jy (K.DR I.ok) hN hi hk fun s4 K4=>⟨_,H',K4,q⟩
 | ret u=>obtain⟨v,σ',H',K,r,q⟩:=q;exact jy (K.DR I.ok) hN hi hk fun s4 K4=>⟨v,_,H',K4,r,q⟩
end
theorem aj.GR{H:Hp}:∀ {D:SD}{σ:St}{F:List Addr}{i:Nat},aj H D σ F->∃ F1 F2,aj H (D.set i none) (σ.set i none) F1/\(F1++F2).Perm F
 | [],σ,F,i,h=>by obtain⟨rfl,rfl⟩:=h;exact⟨[],[],⟨rfl,rfl⟩,.refl _⟩
 | o::D,σ,F,0,h=>by
  obtain⟨x,r,F1,F2,rfl,h1,h2,rfl⟩:=h;exact⟨F2,F1,⟨none,r,[],F2,rfl,rfl,h2,rfl⟩,Z1⟩
 | o::D,σ,F,i+1,h=>by
  obtain⟨x,r,F1,F2,rfl,h1,h2,rfl⟩:=h;obtain⟨G1,G2,k1,k2⟩:=aj.GR (i:=i) h2;refine⟨F1++G1,G2,⟨x,r.set i none,F1,G1,rfl,h1,k1,rfl⟩,?_⟩;rw[Z7];exact k2.append_left F1
def f9(gb gc:MS):MS:=fun D=>match gb D with
 | some r=>some r
 | none=>gc D
section
variable{X:Cx}
theorem Exc.BR{E:Value->Shared->Prop}{ps:List (Addr×Obj)}(x:Exc (X.hold E ps) q H h e C a0):Exc X ps H h e C a0:=by
 have f:∀ b,GP (X.hold E ps) q b->GP X ps b:=fun b z=>⟨z.1,z.2.1,z.2.2.1,fun p hp=>z.2.2.2 p<|ZH _ hp⟩;obtain⟨hE,fE,oe,vs,T,oT,ts,t1,t2,t3,t4,t6,t7,t8,t9,tH,fT⟩:=x;exact⟨hE,f e fE,oe,vs,T,oT,ts,t1,t2,t3,t4,t6,t7,t8,t9,tH,f T fT⟩
theorem xL{n:Str}{gb gc:MS}{g:Addr->MS}(DH:X.stack=X.env::outer)(hf:X.env.frame=some L)(hx:X.ex=[])(hg:Gl X y)(hm:X.mg y=some (.ref CM))(hq:PySem.W.exmOne X.K (.ref C) (.ref CM)=some true)(hN:X.N.Nodup)(hi:X.N[i]?=some n)(hk:X.env.kindOf n=some .local)(Ki:i∉fix)(hb:∀ E p,DV (X.hold E p) fix body gb)(hr:∀ E p Z,(∀ σ H,Z σ H->Jc (X.hold E p) C σ H)->DW (X.hold E p) fix Z body R)(hs:∀ p e oe,oe.cls=.ref C->DV (X.DQ p e oe) fix (b0::Dk) (g e))(hc:∀ D fl D3,gb D=none->gc D=some (fl,D3)->fl=.nx/\∃ D',R D D'/\i<D'.length/\∀ e,∃ D4,g e (D'.set i<|some<|.im<|.fn e)=some (.nx,D4)/\D4.set i none=D3)(hd:(y == ("__debug__" : Str))=false:=by decide):
  VS X fix (.Try body [.ExceptHandler (some<|.Name y np) (some n) (b0::Dk) Gj] [] [] pos) (f9 gb gc):=by
 intro pins s σ H D I ⟨D0,F,fl,D1,st,nd,Jf,q⟩;unfold f9 at Jf;cases hv:gb D0 with
 | some r=>
  rw[hv] at Jf;exact (xH (pos:=pos) hb) s σ H D I ⟨D0,F,fl,D1,st,nd,by rw[hv];exact Jf,q⟩
 | none=>
  rw[hv] at Jf;obtain⟨rfl,D',hR,hl,Oy⟩:=hc D0 fl D1 hv Jf;refine wpAny_Try_except (Zc ((hr _ pins (fun σ' H'=>∃ F',aH fix σ σ'/\aj H' D' σ' F'/\n_ H F H' F')<|fun σ' H' hZ q' s' e a0 J xj=>?_) [] s σ H D (I.hold _) ⟨D0,F,D',st,nd,hR,fun σ' H' F' fx e_ sp=>⟨F',fx,e_,sp⟩⟩) (fun f s1 w=>?_) fun e s1 z=>z)
  ·obtain⟨F',fx,e_,sp⟩:=hZ;have K:=J.BR;have xk:=xj.BR;refine xI K xk K.ok.frames DH hf hx fun h' K2 x2=>?_;obtain⟨D4,e4,e5⟩:=Oy e;obtain⟨F1,F2,p1,p2⟩:=e_.put (d:=.im (.fn e)) (v:=.ref e) (G:=[]) ⟨rfl,rfl⟩ hl;rw[ZZ] at p2;have M1:n_ H F H' F1:=sp.less (C:=F2) p2;refine xK K2 x2 DH hx hg hm hq hN hi hk (t:=tS fix (g e)) (fun oe ho=>hs pins e oe ho) ⟨_,F1,.nx,D4,p1,M1.nd,e4,fun σ2 H2 G2 Hz o_ Oz=>?_⟩ hd;obtain⟨G3,G4,u1,u2⟩:=o_.GR (i:=i);rw[e5] at u1;refine q (σ2.set i none) H2 G3 ?_ u1 ((M1.seq Oz).less (C:=G4) u2);exact (fx.trans<|aH.set Ki).trans (Hz.trans<|aH.set Ki)
  ·have w:=SP.BR w;cases f with
   | next=>exact Yc w
   | brk=>exact w
   | cont=>exact w
   | ret u=>exact w
end
end L2
namespace L2
open PySem PySem.Spec PySem.Calls PyProof.Rows
variable{Q:VK}{H:Hp}{σ:St}{g:M Opd}{c:Value}{oe:Obj}{C e:Addr}
theorem xM{K:PySem.W.Frag}(hc:oe.cls=.ref C)(q:PySem.W.kitOne K (.ref C) c=some true):Answers (fun s=>K.In s.heap/\s.heap.get? e=some oe) (.ref e) c true:=by
 intro dep tk prog w A R s hs;obtain⟨h0,g,d,tt,os⟩:=s;obtain⟨⟨X,p⟩,hq⟩:=hs;have LT:PySem.W.Looks (model prog w) h0 (typeOf<|.ref e) (.ref C):=hc ▸ (X5 p).andThen .now;unfold PySem.W.kitOne at q;unfold Builtin.«isinstance.nested»;refine Z8 (LT.at ?_);by_cases z:(Value.ref C == c)=true
 ·rw[Z0 z];exact Z8 (YE<|ZS<|hq tt)
 ·rw[ZX z] at q;rw[ZX z];obtain⟨Fi,OA,IS⟩:=PySem.W.kit_cls (M:=model prog w) X q;have LI:PySem.W.Looks (model prog w) h0 (isInstance (.ref e) c) true:=LT.andThen IS;refine Z8 (Fi.at ?_);rw[Z0 (by decide)]
  k_delta "plainIsInstance"
  refine Z8 (Z8<|OA.at ?_);simp only[WR,Zd,X7];refine Z8 (LI.at ?_);simp only[Wz];exact ZS (ZS<|hq tt)
section
variable{X:Cx}
theorem xN{v:V}(hp:(e,oe)∈X.pn)(hc:oe.cls=.ref C)(hv:∀ u,av v u->u=c)(q:PySem.W.kitOne X.K (.ref C) c=some true):aX X (.builtin "isinstance") (fun xs H Q=>xs=[.ref e,v]/\Q (.bl true) H):=by
 intro pins s σ H xs us Q I r ⟨ex,hq⟩;subst ex;cases r with
 | cons r rr=>
  cases rr with
  | cons r' rr=>
   cases rr;cases (show _=Value.ref e from r);rw[hv _ r'];have he:=(I.pin (e,oe)<|ZH _ hp).1;exact call_isinstance (S:=fun _ R s=>(X.K.In s.heap/\s.heap.get? e=some oe)/\∀ tk,R (.ok<|.ret<|.bool true) { s with toks:=tk }) (fun prog w A R s hs=>isinstance_outer (xM hc q 0 _ prog w A R s hs) (by intro z;cases z)) ⟨⟨I.EO,he⟩,fun tk=>⟨.bl true,H,I.tok _,rfl,hq⟩⟩
theorem pL{R:VK}(h:tO g σ H Q)(k:∀ v H1,Q v H1->R v H1):tO g σ H R:=by
 obtain⟨D,F,r,D',st,nd,e,q⟩:=h;exact⟨D,F,r,D',st,nd,e,fun v H1 F1 R1 a b c=>k _ _<|q v H1 F1 R1 a b c⟩
def lF(e:Addr):Vl->Bool
 | .im (.fn a)=>decide (a=e)
 | _=>false
theorem pM:∀ {d:Vl},lF e d=true->d=.im (.fn e)
 | .im (.fn a),h=>by rw[Zf h]
def hX(e:Addr)(g:M Opd):M Vl:=fun D=>(g D).bind fun p=>(rsl p.2 p.1).bind fun d=>if lF e d=true then some (.im<|.bl true,p.2) else none
theorem xO(h:tV (hX e g) σ H Q):tO g σ H fun x H1=>x=.ref e/\Q (.bl true) H1:=by
 obtain⟨D,F,r,D',st,nd,Di,q⟩:=h;obtain⟨⟨o,D1⟩,h1,h2⟩:=Z9.mp Di;obtain⟨d,h3,h4⟩:=Z9.mp h2;split at h4
 ·rename_i h5;rw[pM h5] at h3;cases h4;exact⟨D,F,o,D1,st,nd,h1,fun v H1 F1 R s_ o1 s1=>⟨(o1.read s_ h3).i,q _ H1 F1 [] s_ ⟨rfl,rfl⟩ (by rw[ZZ];exact s1.both)⟩⟩
 ·cases h4
theorem xP{T:String}{y:Str}{ex:Expr}{p p2 pos:Pos}(hp:(e,oe)∈X.pn)(hc:oe.cls=.ref C)(q:PySem.W.kitOne X.K (.ref C) (.type T)=some true)(hg:Gl X "isinstance")(hm:X.mg "isinstance" = none)(hv:bootBuiltins "isinstance" = some (.builtin "isinstance"))(LL:Gl X y)(LM:X.mg y=none)(OB:bootBuiltins y=some (.type T))(h:VO X ex g)(hn:y ≠ "__name__" := by decide)(hd:(y == ("__debug__" : Str))=false:=by decide)(he:starEach [ex,.Name y p2] X.env=(false,eval ex X.env)::starEach [.Name y p2] X.env:=by rfl)(FP:starEach [.Name y p2] X.env=(false,eval (.Name y p2) X.env)::starEach [] X.env:=by rfl)(CP:(backTo pos<|starEach [.Name y p2] X.env).any (·.1)=false:=by rfl):VE X (.Call (.Name "isinstance" p) [ex,.Name y p2] [] pos) (hX e g):=
 aQ (iV (xN (v:=.ty T) hp hc (fun _ r=>r) q) hg hm hv (dv h (dv (mX (v:=.ty T) LL LM OB rfl hn hd) gK FP) he) (by decide) (by decide) he CP) fun σ H Q z=>pL (xO z) fun x H1 ⟨e1,q1⟩=>⟨by rw[e1],q1⟩
end
end L2
namespace L2
open PySem PySem.Spec PyProof.Rows
variable{i:Nat}{np pos:Pos}{C:Addr}{x:Str}{st:Stmt}{e:Expr}{Eg:List Stmt}
abbrev RS:=SD->Option SD
variable{r:RS}
abbrev D_(r:RS):SD->SD->Prop:=fun D D'=>r D=some D'
def jz(g:MS)(r:RS):RS:=fun D=>match g D with
 | some (.nx,D1)=>r D1
 | _=>none
def Kj(c:M Bool)(r:RS):RS:=fun D=>match c D with
 | some (true,D1)=>r D1
 | _=>none
def pN(n:Nat)(Rr:List Vl->Bool)(g:M (List Opd)):RS:=fun D=>(g D).bind fun p=>if p.1.length=n then (bb p.1 p.2).bind fun q=>if Rr q.1=true then some q.2 else none else none
def Gn(n m:Nat)(r:RS):List Vl->Bool:=fun ds=>(r<|ds.map some++replicate (m - n) none).isSome
section
variable{X:Cx}{fix:List Nat}{Z:St->Hp->Prop}{R R':SD->SD->Prop}{r:RS}
theorem lG(h:DW X fix Z Eg R)(k:∀ D D',R' D D'->R D D'):DW X fix Z Eg R':=fo h fun E σ H ⟨D,F,D',st,nd,e,z⟩=>⟨D,F,D',st,nd,k _ _ e,z⟩
theorem xQ(h:FR X fix Z e R)(k:∀ D D',R' D D'->R D D'):FR X fix Z e R':=aQ h fun σ H Q ⟨D,F,D',st,nd,e,z⟩=>⟨D,F,D',st,nd,k _ _ e,z⟩
theorem xR{g:MS}(h1:VS X fix st g)(h2:DW X fix Z Eg (D_ r)):DW X fix Z (st::Eg) (D_<|jz g r):=lG (xw h1 h2) fun D D' e=>by
 change (match g D with | some (.nx,D1)=>r D1 | _=>none)=some D' at e;split at e
 ·rename_i D1 h;exact⟨D1,h,e⟩
 ·cases e
theorem xS{c:Expr}{a b rest:List Stmt}{gc:M Bool}(hc:VT X c gc)(ha:DW X fix Z a (D_ r)):DW X fix Z (.If c a b pos::rest) (D_<|Kj gc r):=lG (xx hc ha) fun D D' e=>by
 change (match gc D with | some (true,D1)=>r D1 | _=>none)=some D' at e;split at e
 ·rename_i D1 h;exact⟨D1,h,e⟩
 ·cases e
theorem xT{m:Str}{j}{cp w_:Pos}{rest:List Stmt}(hc:X.calm=true)(hg:Gl X x)(hm:X.mg x=some (.ref C))(q:PySem.W.excIn X.K C [.type "ValueError",.type "Exception",.type "BaseException",.type "object"] "ValueError.__new__" = true)(hz:∀ D σ H,Z σ H->Kf X C D σ H)(hd:(x == ("__debug__" : Str))=false:=by decide):
  DW X fix Z (.Raise (some<|.Call (.Name x np) [.Constant (.str m) j cp] [] w_) none pos::rest) (D_ some):=lG (xy hc hg hm q hz hd) fun D D' e=>(Zw e).symm
theorem xU{rest:List Stmt}{pos':Pos}(hN:X.N.Nodup)(hi:X.N[i]?=some x)(hx:Loc X.env.scope x)(he:FR X fix Z e (D_ r))(hs:swapsWith e (some<|.Name x pos') pos.line X.env=pure false:=by rfl)(Fb:X.fn x=true\/X.env.scope.names.lookup x=some .local:=by first | exact .inl rfl | exact .inr rfl | assumption):DW X fix Z (.Assign [.Name x pos'] e pos::rest) (D_ r):=xD hN hi hx he hs Fb
end
def jA(P:Program)(w:World)(K:PySem.W.Frag)(mg:Str->Option Value)(base:Heap)(k:Nat)(x:Str)(st:Stmt)(f:Addr)(ps:List Str)(n:Nat)(Rr:List Vl->Bool)(C:Addr):Prop:=
 ∃ fd,Dx K x x st f fd/\cf K fd ps []/\mg x=some (.ref f)/\B6 P w K mg base (GN P w) k f fd ps (Kg n (fun ds=>Rr ds=true) C)
section
variable{P:Program}{w:World}{K:PySem.W.Frag}{mg:Str->Option Value}{base h:Heap}{k n:Nat}{x:Str}{st:Stmt}{f C:Addr}{ps:List Str}
theorem xV{N:List Str}{fix:List Nat}(F:CQ K mg x st f ps)(S:k_ N ps (au st))(hn:ps.length=n)(hb:N.Nodup->∀ (q_:Value) (A:Around) (outer:List Env) (s:Shared) (H:Hp) (E:XK),z_ k (A.deeper<|envOfC x (au st) s.heap.objs.size f q_)->DW (bX (GN P w) P w K mg base N x (au st) f q_ A outer s H E) fix (fun _ H'=>E (.ref C) none H') (bG st) (D_ r)):
  jA P w K mg base (k+1) x st f ps n (Gn n N.length r) C:=
 have ⟨_,U,b,m⟩:=F
 ⟨_,U,b,m,by
  have:=Ow U S hn (hb S.nd);have e:(fun ds:List Vl=>∃ D',D_ r (ds.map some++replicate (N.length - n) none) D')=fun ds=>Gn n N.length r ds=true:=by
   funext ds;exact propext (WO.symm)
  rw[e] at this;exact this⟩
end
section
variable{X:Cx}{fix:List Nat}{Z:St->Hp->Prop}
theorem xW{n k m:Nat}{Rr:List Vl->Bool}{f:Addr}{ps:List Str}{p:Pos}{es:List Expr}{g:M (List Opd)}(F:jA X.prog X.w X.K X.mg X.base k x st f ps n Rr C)(hr:z_ m X.A)(hg:Gl X x)(hx:X.ex=[])(hz:∀ σ H,Z σ H->Jc X C σ H)(ha:VA X (e::es) g)(hm:k<=m:=by decide)(DJ:(x == ("__debug__" : Str))=false:=by decide)(he:starEach (e::es) X.env=(false,eval e X.env)::starEach es X.env:=by rfl)(CP:(backTo pos<|starEach es X.env).any (·.1)=false:=by rfl):
  FR X fix Z (.Call (.Name x p) (e::es) [] pos) (D_<|pN n Rr g):=by
 obtain⟨fd,U,b,m,F⟩:=F;refine xQ (xE F (hr.mono hm) hg m U.kp b hx hz ha DJ he CP) fun D D' e=>?_;obtain⟨⟨os,D1⟩,h1,h2⟩:=Z9.mp e;dsimp only at h2;split at h2
 ·rename_i hl;obtain⟨⟨ds,D2⟩,h3,h4⟩:=Z9.mp h2;dsimp only at h4;split at h4
  ·rename_i h5;cases h4;exact⟨os,D1,ds,h1,hl,h3,h5⟩
  ·cases h4
 ·cases h2
def jB(r:RS)(gs:SD->Option SD):MS:=fun D=>(r D).bind fun D'=>(gs D').map fun D3=>(.nx,D3)
theorem xX{body:List Stmt}{y n:Str}{Gj:Pos}{b0:Stmt}{Dk:List Stmt}{CM L:Addr}{gb:MS}{g:Addr->MS}{gs:SD->Option SD}{outer:List Env}(DH:X.stack=X.env::outer)(hf:X.env.frame=some L)(hx:X.ex=[])(hg:Gl X y)(hm:X.mg y=some (.ref CM))(hq:PySem.W.exmOne X.K (.ref C) (.ref CM)=some true)(hN:X.N.Nodup)(hi:X.N[i]?=some n)(hk:X.env.kindOf n=some .local)(Ki:i∉fix)(hb:∀ E p,DV (X.hold E p) fix body gb)(hr:∀ E p Z,(∀ σ H,Z σ H->Jc (X.hold E p) C σ H)->DW (X.hold E p) fix Z body (D_ r))(hs:∀ p e oe,oe.cls=.ref C->(e,oe)∈(X.DQ p e oe).pn->DV (X.DQ p e oe) fix (b0::Dk) (g e))(hc:∀ D' D3,gs D'=some D3->i<D'.length/\∀ e,∃ D4,g e (D'.set i<|some<|.im<|.fn e)=some (.nx,D4)/\D4.set i none=D3)(hd:(y == ("__debug__" : Str))=false:=by decide):
  VS X fix (.Try body [.ExceptHandler (some<|.Name y np) (some n) (b0::Dk) Gj] [] [] pos) (f9 gb<|jB r gs):=by
 refine xL DH hf hx hg hm hq hN hi hk Ki hb hr (fun p e oe h=>hs p e oe h<|ZN _<|ZN _<|ZW.mpr rfl) (fun D fl D3 _ h=>?_) hd;obtain⟨D',h1,h2⟩:=Z9.mp h;obtain⟨D4,h3,h4⟩:=Z5.mp h2;cases h4;obtain⟨hl,k⟩:=hc D' D3 h3;exact⟨rfl,D',h1,hl,k⟩
theorem xY{K:PySem.W.Frag}:PySem.W.kitOne K (.ref C) (.ref C)=some true:=Z0 (Yl _)
def Kk(K:PySem.W.Frag)(mg:Str->Option Value)(y:Str)(C:Addr):Prop:=mg y=some (.ref C)/\PySem.W.excIn K C [.type "ValueError",.type "Exception",.type "BaseException",.type "object"] "ValueError.__new__" = true
end
section
variable{X:Cx}
end
end L2
namespace L2
open PySem PySem.Spec PySem.Calls PyProof.Rows PySem.W
variable{tk:Tok}
structure FS(K:PySem.W.Frag)(C:Addr):Prop where
 ga:PySem.W.findIn K (.ref C) "__getattribute__" = some (some<|.builtin "BaseException.__getattribute__")
 gh:PySem.W.findIn K (.ref C) "__getattr__" = some none
 cl:PySem.W.findIn K (.ref C) "__class__" = some (some<|.builtin "object.__class__")
 ob:PySem.W.mroIn K C (.type "object")=some true
 be:PySem.W.mroIn K C (.type "BaseException")=some true
 gt:PySem.W.specialIn K (.builtin "object.__class__") "__get__" = some (some<|.builtin "getset_descriptor.__get__")
 tk:PySem.W.takesIn K (.builtin "object.__class__")=some true
 cs:PySem.W.isClsIn K C=true
section
variable{prog:Program}{w:World}{A:Around}{E:Value->Shared->Prop}{K:PySem.W.Frag}{C e:Addr}{oe:Obj}{h:Heap}{g:Array GenState}{d:Drawn}{t:Nat}{os:OsState}
theorem xZ{R:Result->Shared->Prop}{tp:Value}(k:FS K C)(X:K.In h)(he:h.get? e=some oe)(hc:oe.cls=.ref C)(hq:R (.ok<|.ret<|.ref C) ⟨h,g,d,t,os⟩):
  codeAny (model prog w) A (.call (.builtin "getset_descriptor.__get__") ⟨[.builtin "object.__class__",.ref e,tp],[]⟩) R ⟨h,g,d,t,os⟩:=by
 have La:PySem.W.Looks (model prog w) h (typeOf<|.ref e) (.ref C):=hc ▸ ((X5 he).andThen .now);have Lb:PySem.W.Looks (model prog w) h (isSubtype (.ref C)<|.type<|".".intercalate ("object.__class__".cutAt '.').dropLast) true:=by
  rw[F.owner_object_class];exact PySem.W.looks_mroIn X k.ob
 refine codeAny_call_builtin F.slot_gs_get.plain F.entry_gs_get (F.slot_gs_get.check _ _ _ _ _ _ _ _ Xw (F.args_gs_get _ _ _) ?_);repeat (any_goals (first | assumption | (with_reducible refine XA he ?_;rw[hc]) | (with_reducible refine Looks.at Lb ?_) | wp_step))
 refine⟨Code.quiet_builtin _ (by decide +kernel),Wu F.entry_object_class ?_⟩;repeat (any_goals (first | assumption | (with_reducible refine XA he ?_;rw[hc]) | wp_step))
theorem x5{Q:Fin->Shared->Prop}(k:FS K C)(X:K.In h)(he:h.get? e=some oe)(hc:oe.cls=.ref C)(hq:Q (.done<|.ret<|.ref C) ⟨h,g,d,t,os⟩):
  wpAny (model prog w) A (Builtin.«object.__getattribute__» ⟨[.ref e,.str "__class__" tk],[]⟩) Q E ⟨h,g,d,t,os⟩:=by
 have Lc:=Xg (M:=model prog w) X k.cl;have Pp:(⟨h,g,d,t,os⟩:Shared).TypeIs (.builtin "object.__class__") "getset_descriptor" := Xw;have f5:=Xw;have f6:=F.slot_gs_get.lookup;have f7:=F.slot_gs_set.lookup;repeat (any_goals (first | assumption | (with_reducible refine XA he ?_;rw[hc]) | (with_reducible refine Looks.at Lc ?_) | wp_step))
 refine xZ k X he hc ?_;repeat (any_goals (first | assumption | wp_step))
theorem x6{M:Model}{nv:Value}{Q:Unit->Shared->Prop}(k:FS K C)(X:K.In h)(he:h.get? e=some oe)(hc:oe.cls=.ref C)(hq:Q () ⟨h,g,d,t,os⟩):wpAny M A (checkBuiltinCall "BaseException.__getattribute__" ⟨[.ref e,nv],[]⟩) Q E ⟨h,g,d,t,os⟩:=by
 have b1:builtinKind "BaseException.__getattribute__" = some .slot:=by decide +kernel
 have b2:splitId "BaseException.__getattribute__" = some ("BaseException","__getattribute__"):=by decide +kernel
 have b3:=F.args_bexc_ga (.ref e) nv;have Lt:PySem.W.Looks M h (typeOf<|.ref e) (.ref C):=hc ▸ ((X5 he).andThen .now);have Li:PySem.W.Looks M h (isInstance (.ref e)<|.type "BaseException") true:=Lt.andThen (PySem.W.looks_mroIn X k.be);simp only[checkBuiltinCall,b1,b2];refine Z8 (Li.at ?_);repeat (any_goals (first | assumption | wp_step))
theorem x8{fill expr:Bool}{Q:Value->Shared->Prop}(k:FS K C)(X:K.In h)(he:h.get? e=some oe)(hc:oe.cls=.ref C)(hq:Q (.ref C) ⟨h,g,d,t,os⟩):
  wpAny (model prog w) A (getAttrBy (.ref e) (.str "__class__" tk) fill expr) Q E ⟨h,g,d,t,os⟩:=by
 have Lg:=Xg (M:=model prog w) X k.ga;have Lh:=Xg (M:=model prog w) X k.gh;have f3:=WE.ga.bind (.ref e);have b0:(expr && onTheHeap (Value.builtin "BaseException.__getattribute__"))=false:=by cases expr<;>rfl
 have b2:(Value.builtin "BaseException.__getattribute__" == Value.builtin "object.__getattribute__")=false:=by decide +kernel
 have b1:(onTheHeap (Value.ref C) && Value.builtin "BaseException.__getattribute__" == Value.builtin "object.__getattribute__")=false:=by rw[b2];rfl
 repeat (any_goals (first | assumption | (with_reducible refine XA he ?_;rw[hc]) | (with_reducible refine Looks.at Lg ?_) | (with_reducible refine Looks.at Lh ?_) | wp_step))
 refine codeAny_call_builtin WE.ga.plain F.entry_bexc_ga (x6 k X he hc<|x5 k X he hc ?_);repeat (any_goals (first | assumption | wp_step))
theorem x9{Q:Option Value->Shared->Prop}(k:FS K C)(X:K.In h)(he:h.get? e=some oe)(hc:oe.cls=.ref C)(hq:Q (some<|.ref C) ⟨h,g,d,t+1,os⟩):wpAny (model prog w) A (getAttr? (.ref e) "__class__") Q E ⟨h,g,d,t,os⟩:=by
 unfold getAttr? getAttrBy?;repeat (any_goals (first | assumption | with_reducible apply x8 k X he hc | wp_step))
theorem ya(k:FS K C)(hc:oe.cls=.ref C):PySem.W.KitX K (.ref e) (.ref C) fun h=>h.get? e=some oe where
 ty:=fun _ _ _ p=>hc ▸ ((X5 p).andThen .now)
 it:=fun _ _ X _=>by
  have z:=k.cs;unfold PySem.W.isClsIn PySem.W.clsIn at z;split at z
  ·rename_i q;intro _ _ _ _ m hq;exact Z8 (wpAny_loadPart (m _ _<|X _ _ q)<|ZS hq)
  ·cases z
 ne:=fun h tp _ _ _ _ X p=>by
  have z:=k.cs;unfold PySem.W.isClsIn PySem.W.clsIn at z;split at z
  ·rename_i q;refine Bool.eq_false_iff.mpr fun b=>?_;cases Value.ref.inj (WA.mp b);cases (X _ _ q).symm.trans p
  ·cases z
 ca:=fun {_ _ _ _ _ s} X p z=>by
  obtain⟨h,g,d,t,os⟩:=s;exact x9 k X p hc z
end
end L2
namespace L2
open PySem PySem.Spec PySem.Calls PyProof.Rows
section
variable{X:Cx}
variable{e C:Addr}{oe:Obj}{b:Bool}
theorem yb{v:V}{c:Value}(k:FS X.K C)(hp:(e,oe)∈X.pn)(hc:oe.cls=.ref C)(hv:∀ u,av v u->u=c)(q:PySem.W.kitOne X.K (.ref C) c=some b):aX X (.builtin "isinstance") (fun xs H Q=>xs=[.ref e,v]/\Q (.bl b) H):=by
 intro pins s σ H xs us Q I r ⟨ex,hq⟩;subst ex;cases r with
 | cons r rr=>
  cases rr with
  | cons r' rr=>
   cases rr;cases (show _=Value.ref e from r);rw[hv _ r'];exact PySem.W.kia_one (ya k hc) I.EO (I.pin (e,oe)<|ZH _ hp).1 q (by intro z;cases z) fun tk=>⟨.bl b,H,I.tok _,rfl,hq⟩
def c8(e:Addr)(b:Bool)(g:M Opd):M Vl:=fun D=>(g D).bind fun p=>(rsl p.2 p.1).bind fun d=>if lF e d=true then some (.im<|.bl b,p.2) else none
variable{g:M Opd}
theorem yc{σ:St}{H:Hp}{Q:VK}(h:tV (c8 e b g) σ H Q):tO g σ H fun x H1=>x=.ref e/\Q (.bl b) H1:=by
 obtain⟨D,F,r,D',st,nd,Di,q⟩:=h;obtain⟨⟨o,D1⟩,h1,h2⟩:=Z9.mp Di;obtain⟨d,h3,h4⟩:=Z9.mp h2;split at h4
 ·rename_i h5;rw[pM h5] at h3;cases h4;exact⟨D,F,o,D1,st,nd,h1,fun v H1 F1 R s_ o1 s1=>⟨(o1.read s_ h3).i,q _ H1 F1 [] s_ ⟨rfl,rfl⟩ (by rw[ZZ];exact s1.both)⟩⟩
 ·cases h4
theorem eJ{CN:Addr}{y:Str}{ex:Expr}{p p2 pos:Pos}(k:FS X.K C)(hp:(e,oe)∈X.pn)(hc:oe.cls=.ref C)(q:PySem.W.kitOne X.K (.ref C) (.ref CN)=some b)(hg:Gl X "isinstance")(hm:X.mg "isinstance" = none)(hv:bootBuiltins "isinstance" = some (.builtin "isinstance"))(LL:Gl X y)(LM:X.mg y=some (.ref CN))(h:VO X ex g)(hd:(y == ("__debug__" : Str))=false:=by decide)(he:starEach [ex,.Name y p2] X.env=(false,eval ex X.env)::starEach [.Name y p2] X.env:=by rfl)(FP:starEach [.Name y p2] X.env=(false,eval (.Name y p2) X.env)::starEach [] X.env:=by rfl)(CP:(backTo pos<|starEach [.Name y p2] X.env).any (·.1)=false:=by rfl):VE X (.Call (.Name "isinstance" p) [ex,.Name y p2] [] pos) (c8 e b g):=
 aQ (iV (yb (v:=.ref CN) k hp hc (fun _ r=>r) q) hg hm hv (dv h (dv (mW (v:=.ref CN) LL LM rfl hd) gK FP) he) (by decide) (by decide) he CP) fun σ H Q z=>pL (yc z) fun x H1 ⟨e1,q1⟩=>⟨by rw[e1],q1⟩
end
variable{es:List Expr}{fix:List Nat}{n k:Nat}{ps N:List Str}{st:Stmt}{x qual:Str}{f C:Addr}{pos:Pos}{oe:Obj}{e:Expr}
abbrev FT(A:Around):Around:={ A with handled:=none }
theorem z_.FT{k:Nat}{A:Around}(r:z_ k A)(v:Option Value):z_ k (FT<|A.mark v):=⟨rfl,r.dp,r.un,r.gd⟩
abbrev LN(P:Program)(w:World)(K:PySem.W.Frag)(mg:Str->Option Value)(base:Heap)(N:List Str)(qual:Str)(scope:Scope)(f:Addr)(cd:Value)(A:Around)(outer:List Env)(s:Shared)(H:Hp)(e:Addr)(oe:Obj):Cx:=
 { (bX DL P w K mg base N qual scope f cd A outer s H E0).G8 with calm:=false,pn:=[(e,oe)] }
section
variable{P:Program}{w:World}{K:PySem.W.Frag}{mg:Str->Option Value}{base:Heap}
variable{e:Addr}
theorem Inv.toH{scope:Scope}{cd:Value}{A:Around}{outer:List Env}{s s1:Shared}{H H1:Hp}{σ:St}(I:Inv (bX DL P w K mg base N qual scope f cd (FT A) outer s H E0) [] σ H1 s1)(hA:A.frames=some outer)(he:s.heap.get? e=some oe)(hE:H e=none)(hf:e∉BS outer)(hd:∀ v,oe.data≠.cell v):Inv (LN P w K mg base N qual scope f cd A outer s H e oe) [] σ H1 s1:=by
 refine⟨⟨I.ok.mod,I.ok.kind,I.ok.glob,I.ok.blt,I.ok.above,I.ok.inj,I.ok.has,I.ok.E_,fun z=>(by cases z),Around.frames_deeper hA,I.ok.Fa,I.ok.Gv,I.ok.bs,I.ok.Em,I.ok.Da,I.ok.Db,I.ok.BQ,I.ok.EN⟩,I.os,I.bare,I.base,I.loc,I.cell,I.free,I.BC,fun p hp=>?_,I.l_,I.len⟩;rw[ZW.mp (show p∈[(e,oe)] from by rw[ZZ] at hp;exact hp)];have nx:e∉(bX DL P w K mg base N qual scope f cd (FT A) outer s H E0).ex:=fun z=>by cases z
 exact⟨I.base.keep e oe he hE hf nx,I.base.free e oe he hE nx,Zx<|ZP he,hf,hd⟩
def M2(P:Program)(w:World)(K:PySem.W.Frag)(mg:Str->Option Value)(base:Heap)(k:Nat)(f:Addr)(fd:FuncData)(ps:List Str)(n:Nat)(G:Fn)(e:Addr)(oe:Obj):Prop:=
 ∀ (A:Around) (outer:List Env) (s:Shared) (H:Hp) (args:Args) (us:List Value) (vs:List V) (Q:VK),z_ k (FT A)->ER P w K mg base A outer s H->BindsTo s fd args (ps.zip us)->ay vs us->s.heap.get? e=some oe->H e=none->e∉BS outer->(∀ v,oe.data≠.cell v)->EK n G vs H Q E0->
  codeAny (model P w) A (.call (.ref f) args) (CR DL outer P w H s Q E0) s
theorem OC{fd:FuncData}{g:MS}(F:Dx K x qual st f fd)(S:k_ N ps (au st))(hn:ps.length=n)(hb:∀ (q_:Value) (A:Around) (outer:List Env) (s:Shared) (H:Hp),z_ k ((FT A).deeper<|envOfC qual (au st) s.heap.objs.size f q_)->DV (LN P w K mg base N qual (au st) f q_ A outer s H e oe) fix (bG st) g):
  M2 P w K mg base (k+1) f fd ps n (aS n N.length fix g) e oe:=by
 obtain⟨oc,od,kV,doc,pm,an,q_,ct,EH,rfl,lk,DY⟩:=F.ex;intro A outer s H args us vs Q hr e0 OD r he hE hf OE Fh;have hl:vs.length=ps.length:=Fh.1.trans hn.symm;have kI:K.In s.heap:=e0.mod.G7.keeps fun b o z=>(e0.bs b o z).1;have nl:s.heap.NoLimit:=e0.mod.nolimit.keeps fun b o z=>(e0.bs b o z).1;have par:∀ y∈ps.zip us,(au st).names.lookup y.1=some .local\/((au st).names.lookup y.1=some .cell/\((cellsFrom (s.heap.objs.size+1) (au st).names []).lookup y.1).isSome=true):=fun y hy=>
  (S.par y.1 (Xf<|show (y.1,y.2)∈_ from hy).1).imp id fun q=>⟨q,XR _ _ _<|.inl q⟩;refine codeAny_call_function (show A.depth < _ from hr.depth) (kI _ _ lk) rfl S.co S.gen rfl (PySem.W.codeRec_of kI DY) (OD _ _ _ _<|wpAny_newFunctionEnv_cells S.kind par fun env OF s1 x=>?_);subst OF;refine⟨nl.keeps x.toInCall.keep,codeAny_func ?_⟩;have e1:ER P w K mg base (FT A) outer s H:=⟨e0.frames,e0.mod,e0.bs,e0.Em,e0.BQ,e0.EN,e0.l_,e0.bare⟩;have I:=(nt (CX:=DL) (E:=E0) S rfl e1 hl r x).toH e0.frames he hE hf OE;obtain⟨FL,ds,F0,rv,outs,ow,nd,hg,q⟩:=Fh;have Lu:ds.length=n:=ow.length.trans FL;unfold aS at hg;rw[Z0 Lu] at hg;have M3:=jj (m:=N.length - n) ow;have es:bW N vs=vs.map some++replicate (N.length - n) none:=by unfold bW;rw[FL]
 have fin:∀ {σ':St}{H':Hp}{F':List Addr}{D':SD}{v:V}{R:List Addr},cQ fix ds D' 0=outs->aH fix (vs.map some++replicate (N.length - n) none) σ'->aj H' D' σ' F'->Own H' rv v R->n_ H F0 H' (F'++R)->Q v H':=fun {σ' H' F' D' v R} eo fx e_ wr s'=>by
  obtain⟨R2,G,g1,g2⟩:=jl (fix:=fix) (j0:=0) s'.tup ow e_ fun j v hj hv=>by
   rw[Nat.zero_add] at hj;rw[fx.2 j hj,Ze (by rw[ZY];exact (ZA.mp hv).1),Zr,hv];rfl
  rw[eo] at g1;refine q v H' R R2 wr g1 (s'.less (C:=G) ?_);rw[Z7];exact (ZT R g2).trans Z1
 have rd:tS fix g { nx:=fun _ H'=>Q .j_ H',rt:=Q } (bW N vs) H:=by
  rw[es];split at hg
  ·rename_i r' D' z;cases hg;exact⟨_,F0,.rt rv,D',M3,nd,z,fun v σ' H' F' R fx e_ wr s'=>fin rfl fx e_ wr s'⟩
  ·rename_i D' z;cases hg;exact⟨_,F0,.nx,D',M3,nd,z,fun σ' H' F' fx e_ s'=>fin rfl fx e_ ⟨rfl,rfl⟩ (by rw[ZZ];exact s')⟩
  ·cases hg
 refine Zc (hb q_ A outer s H (hr.deeper _) s1 (bW N vs) H _ I rd) (fun fl s' hs=>?_) fun _ _ z=>False.elim z;cases fl with
 | ret u=>
  obtain⟨v,σ',H',J,rv,q⟩:=hs;exact⟨v,H',J.os,J.bare,J.base,J.l_,rv,q⟩
 | next=>
  obtain⟨σ',H',J,q⟩:=hs;exact⟨V.j_,H',J.os,J.bare,J.base,J.l_,rfl,q⟩
 | brk=>obtain⟨_,_,_,q⟩:=hs;exact False.elim q
 | cont=>obtain⟨_,_,_,q⟩:=hs;exact False.elim q
def jC(P:Program)(w:World)(K:PySem.W.Frag)(mg:Str->Option Value)(base:Heap)(k:Nat)(x:Str)(st:Stmt)(f:Addr)(ps:List Str)(n:Nat)(G:Addr->Fn)(C:Addr):Prop:=
 ∃ fd,Dx K x x st f fd/\cf K fd ps []/\mg x=some (.ref f)/\∀ e oe,oe.cls=.ref C->M2 P w K mg base k f fd ps n (G e) e oe
theorem yd{g:Addr->MS}(F:CQ K mg x st f ps)(S:k_ N ps (au st))(hn:ps.length=n)(hb:N.Nodup->∀ (e:Addr) (oe:Obj),oe.cls=.ref C->∀ (q_:Value) (A:Around) (outer:List Env) (s:Shared) (H:Hp),z_ k ((FT A).deeper<|envOfC x (au st) s.heap.objs.size f q_)->DV (LN P w K mg base N x (au st) f q_ A outer s H e oe) fix (bG st) (g e)):
  jC P w K mg base (k+1) x st f ps n (fun e=>aS n N.length fix<|g e) C:=
 have ⟨_,U,b,m⟩:=F
 ⟨_,U,b,m,fun e oe hc=>OC U S hn<|hb S.nd e oe hc⟩
end
section
variable{X:Cx}
theorem ye{m:Nat}{G:Addr->Fn}{e0:Addr}{p:Pos}{g:M (List Opd)}(F:jC X.prog X.w X.K X.mg X.base k x st f ps n G C)(hc:oe.cls=.ref C)(hp:(e0,oe)∈X.pn)(hr:z_ m (FT X.A))(hn:ps.length=n)(hg:Gl X x)(ha:VA X (e::es) g)(hm:k<=m:=by decide)(DJ:(x == ("__debug__" : Str))=false:=by decide)(he:starEach (e::es) X.env=(false,eval e X.env)::starEach es X.env:=by rfl)(CP:(backTo pos<|starEach es X.env).any (·.1)=false:=by rfl):
  VE X (.Call (.Name x p) (e::es) [] pos) (ar n (G e0) g):=by
 obtain⟨fd,U,b,mm,F⟩:=F;have pe:PE X (.Call (.Name x p) (e::es) [] pos) (ko (EK n<|G e0) [] E0<|tA g):=by
  intro pins s σ H Q I h;refine Yg (gH I hg mm ?_ DJ);refine W3 (h₀:=X.base) I.ok.mod.G7 U.kp (A_ (@ha pos pins s σ H _ I h) fun us s1 ⟨vs,H1,I1,r,q⟩=>⟨I1.EO,?_⟩) he CP;have q:EK n (G e0) (vs++[]) H1 Q E0:=q;rw[ZZ] at q;have hl:us.length=ps.length:=by rw[<- r.length];exact q.1.trans hn.symm
  have bd:=b s1 us I1.EO (by rw[ZZ];exact hl);rw[ZZ] at bd;obtain⟨p1,p2,p3,p4,p5⟩:=I1.pin (e0,oe) (ZH _ hp);have nf:e0∉BS X.stack:=by
   rcases I1.ok.Fa with z | ⟨z,z2⟩
   ·rw[z];exact p4
   ·rw[z];intro LO;have:e0∈X.env.locals::BS X.outer:=by
     unfold BS at LO ⊢;rw[YD,z2] at LO;exact LO
    rcases ZO.mp this with y | y
    ·exact p3 y
    ·exact p4 y
  refine wpAny_call (W6 (F e0 oe hc X.A X.stack s1 H1 ⟨us,[]⟩ us vs Q (hr.mono hm) I1.Hb bd r p1 p2 nf p5 q) fun rs s' hq=>?_);cases rs with
  | error ev=>exact False.elim hq
  | ok fl=>
   cases fl with
   | ret u=>exact I1.after hq
   | next=>exact False.elim hq
   | brk=>exact False.elim hq
   | cont=>exact False.elim hq
 exact aQ pe fun _ _ _ h=>oD h
end
def M4(g:M Opd)(r:RS):RS:=fun D=>(g D).bind fun p=>r p.2
section
variable{X:Cx}{fix:List Nat}{Z:St->Hp->Prop}{r:RS}
theorem yf(h:FR X fix Z e (D_ r))(hs:starEach (e::es) X.env=(false,eval e X.env)::starEach es X.env:=by rfl):GO X fix Z (e::es) (D_ r):=xA h hs
theorem yg{g:M Opd}(he:VO X e g)(hr:GO X fix Z es (D_ r))(hs:starEach (e::es) X.env=(false,eval e X.env)::starEach es X.env:=by rfl):GO X fix Z (e::es) (D_<|M4 g r):=
 fun pos pins s σ H Q I ⟨D,F,D',st,nd,w,z⟩=>have ⟨⟨x,D1⟩,h1,h2⟩:=Z9.mp w;(xB he hr hs) pos pins s σ H Q I ⟨D,F,D',st,nd,⟨x,D1,h1,h2⟩,z⟩
theorem yh{x1}(h:GO X fix Z es (D_ r)):FR X fix Z (.Tuple es x1 pos) (D_ r):=xC h
end
end L2
namespace L2
open PySem PySem.Spec PyProof.Rows
theorem pO{α:Type}[DecidableEq α]:∀ {l m:List α},l.Nodup->(∀ x∈l,x∈m)->l.length<=m.length
 | [],m,_,_=>Ys _
 | a::l,m,nd,h=>by
  have Fw:=Y0.mp nd;have q:=pO (l:=l) (m:=m.erase a) Fw.2 fun x hx=>(List.mem_erase_of_ne (fun e:x=a=>Fw.1<|e ▸ hx)).mpr (h x<|.tail _ hx);have ha:=h a (.head _);rw[WM ha] at q;have:=Wx ha;rw[ZC];lia
section
variable{prog:Program}{w:World}{A:Around}{E:Value->Shared->Prop}{s:Shared}
end
section
variable{prog:Program}{w:World}
end
section
variable(w:World)(P:List Im->Addr->Prop)
end
section
variable{prog:Program}{w:World}{P:List Im->Addr->Prop}{A:Around}{E:Value->Shared->Prop}
end
section
variable{prog:Program}{w:World}{P:List Im->Addr->Prop}{A:Around}{E:Value->Shared->Prop}{s:Shared}
end
section
variable{prog:Program}{w:World}{A:Around}{E:Value->Shared->Prop}{s:Shared}
end
section
variable{prog:Program}{w:World}{A:Around}{E:Value->Shared->Prop}{s:Shared}
end
section
variable{prog:Program}{w:World}{A:Around}{E:Value->Shared->Prop}{s:Shared}
end
section
variable{prog:Program}{w:World}{P:List Im->Addr->Prop}{A:Around}{E:Value->Shared->Prop}{s:Shared}
end
section
variable{prog:Program}{w:World}{P:List Im->Addr->Prop}{A:Around}{E:Value->Shared->Prop}{s:Shared}
end
section
variable{prog:Program}{w:World}{A:Around}{E:Value->Shared->Prop}{s:Shared}
end
section
variable{prog:Program}{w:World}{A:Around}{E:Value->Shared->Prop}{s:Shared}
end
section
variable{prog:Program}{w:World}{A:Around}{E:Value->Shared->Prop}{s:Shared}
end
section
variable{prog:Program}{w:World}{P:List Im->Addr->Prop}{A:Around}{E:Value->Shared->Prop}{s:Shared}
end
end L2
namespace L2
open PySem PySem.Spec PyProof.Rows PySem.W
section
variable{X:Cx}{pins:List (Addr×Obj)}{σ:St}{H:Hp}{s:Shared}
end
section
variable{X:Cx}
end
end L2
namespace HT
open PySem PySem.Spec PyProof.Rows
section
variable{prog:Program}{w:World}{A:Around}{E:Value->Shared->Prop}{s:Shared}
end
end HT
namespace L2
open PySem PySem.Spec PyProof.Rows
section
variable{X:Cx}
end
variable{Q:Value->Shared->Prop}{b:Bool}{d2:Vl}{u v:Value}{y x:V}{s:Shared}{H:Hp}{σ:St}{pins:List (Addr×Obj)}{d:Im}
theorem pP{h:Heap}:∀ (n:Nat) {x y:Im}{v:Value},Im.pl n x=true->Im.pl n y=true->Ci h x v->Ci h y v->x=y
 | n,.j_,y,v,_,ky,hx,hy=>by
  cases (show v=.none from hx);cases y with
  | j_=>rfl
  | bl b=>cases hy
  | int j=>obtain⟨u,e⟩:=hy;cases e
  | str z=>obtain⟨u,e⟩:=hy;cases e
  | tup ds=>obtain⟨_,_,_,_,e,_⟩:=hy;cases e
  | fn a=>cases n<;>cases ky
  | fl a=>cases n<;>cases ky
  | fd=>cases n<;>cases ky
 | n,.bl b,y,v,_,ky,hx,hy=>by
  cases (show v=.bool b from hx);cases y with
  | j_=>cases hy
  | bl c=>cases hy;rfl
  | int j=>obtain⟨u,e⟩:=hy;cases e
  | str z=>obtain⟨u,e⟩:=hy;cases e
  | tup ds=>obtain⟨_,_,_,_,e,_⟩:=hy;cases e
  | fn a=>cases n<;>cases ky
  | fl a=>cases n<;>cases ky
  | fd=>cases n<;>cases ky
 | n,.int i,y,v,_,ky,hx,hy=>by
  obtain⟨t,rfl⟩:=hx;cases y with
  | j_=>cases hy
  | bl c=>cases hy
  | int j=>obtain⟨u,e⟩:=hy;injection e with e;rw[e]
  | str z=>obtain⟨u,e⟩:=hy;cases e
  | tup ds=>obtain⟨_,_,_,_,e,_⟩:=hy;cases e
  | fn a=>cases n<;>cases ky
  | fl a=>cases n<;>cases ky
  | fd=>cases n<;>cases ky
 | n,.str i,y,v,_,ky,hx,hy=>by
  obtain⟨t,rfl⟩:=hx;cases y with
  | j_=>cases hy
  | bl c=>cases hy
  | int j=>obtain⟨u,e⟩:=hy;cases e
  | str z=>obtain⟨u,e⟩:=hy;injection e with e;rw[e]
  | tup ds=>obtain⟨_,_,_,_,e,_⟩:=hy;cases e
  | fn a=>cases n<;>cases ky
  | fl a=>cases n<;>cases ky
  | fd=>cases n<;>cases ky
 | n+1,.tup ds,y,v,kx,ky,hx,hy=>by
  obtain⟨a,o,items,m,rfl,h1,h2,h3,h4⟩:=hx;cases y with
  | j_=>cases hy
  | bl c=>cases hy
  | int j=>obtain⟨u,e⟩:=hy;cases e
  | str z=>obtain⟨u,e⟩:=hy;cases e
  | fn a=>cases ky
  | fl a=>cases ky
  | fd=>cases ky
  | tup es=>
   obtain⟨a',o',x_,m',e,g1,g2,g3,g4⟩:=hy;cases e;rw[h1] at g1;cases g1;rw[h3] at g3;injection g3 with g3 _;subst g3;have all:∀ (ds es:List Im) (vs:List Value),Im.pls n ds=true->Im.pls n es=true->aJ h ds vs->aJ h es vs->ds=es:=by
    intro ds;induction ds with
    | nil=>
     intro es vs _ _ a b;cases es with
     | nil=>rfl
     | cons e es=>obtain⟨_,_,q,_⟩:=b;rw[show vs=[] from a] at q;cases q
    | cons d ds ih=>
     intro es vs k1 k2 a b;obtain⟨v,r,rfl,a1,a2⟩:=a;cases es with
     | nil=>cases (show v::r=[] from b)
     | cons e es=>
      obtain⟨v',r',q,b1,b2⟩:=b;cases q;rw[Im.pls,ZV] at k1 k2;rw[pP n k1.1 k2.1 a1 b1,ih es r k1.2 k2.2 a2 b2]
   rw[all ds es _ kx ky h4 g4]
 | 0,.tup _,_,_,k,_,_,_=>by cases k
 | n,.fn _,_,_,k,_,_,_=>by cases n<;>cases k
 | n,.fl _,_,_,k,_,_,_=>by cases n<;>cases k
 | n,.fd,_,_,k,_,_,_=>by cases n<;>cases k
open Classical in
noncomputable def c9(h:Heap)(d:Im)(v:Value):Bool:=if z:∃ x,Im.pl 8 x=true/\Ci h x v then az z.choose d else false
theorem dJ{h:Heap}{x:Im}(k:Im.pl 8 x=true)(i:Ci h x v):c9 h d v=az x d:=by
 unfold c9;have z:∃ x,Im.pl 8 x=true/\Ci h x v:=⟨x,k,i⟩;rw[dif_pos z,pP 8 z.choose_spec.1 k z.choose_spec.2 i]
theorem ic{h:Heap}{d:Im}:∀ {ds:List Im}{vs:List Value},Im.pls 8 ds=true->aJ h ds vs->vs.any (c9 h d)=ds.any fun x=>az x d
 | [],vs,_,e=>by rw[show vs=[] from e];rfl
 | x::ds,vs,k,e=>by
  obtain⟨v,r,rfl,h1,h2⟩:=e;rw[Im.pls,ZV] at k;rw[X9,X9,dJ k.1 h1,ic k.2 h2]
theorem fA{h:Heap}:∀ {ds:List Im}{vs:List Value}{v:Value},Im.pls 8 ds=true->aJ h ds vs->v∈vs->∃ x,Im.pl 8 x=true/\Ci h x v
 | [],vs,v,_,e,m=>by rw[show vs=[] from e] at m;cases m
 | x::ds,vs,v,k,e,m=>by
  obtain⟨u,r,rfl,h1,h2⟩:=e;rw[Im.pls,ZV] at k;rcases ZO.mp m with rfl | m
  ·exact⟨x,k.1,h1⟩
  ·exact fA k.2 h2 m
section
variable{X:Cx}
def inB(d:Im):Vl->Option Bool
 | .im (.tup ds)=>if (Im.pl 8 d && Im.pls 8 ds)=true then some (ds.any fun x=>az x d) else none
 | .lst ds=>if (Im.pl 8 d && Im.pls 8 ds)=true then some (ds.any fun x=>az x d) else none
 | .dT kvs=>match d with
  | .tup k=>if Im.keys 7 k=true then some (bw kvs k).isSome else none
  | _=>none
 | .dK kvs=>match d with
  | .int i=>some (bw kvs<|.inl i).isSome
  | .str x=>some (bw kvs<|.inr x).isSome
  | _=>none
 | _=>none
@[simp] theorem yi(d:Im)(ds:List Im):inB d (.im<|.tup ds)=if (Im.pl 8 d && Im.pls 8 ds)=true then some (ds.any fun x=>az x d) else none:=rfl
@[simp] theorem yj(d:Im)(ds:List Im):inB d (.lst ds)=if (Im.pl 8 d && Im.pls 8 ds)=true then some (ds.any fun x=>az x d) else none:=rfl
@[simp] theorem Bj(k:List Im)(kvs:List (List Im×Im)):inB (.tup k) (.dT kvs)=if Im.keys 7 k=true then some (bw kvs k).isSome else none:=rfl
@[simp] def vIn:Op2:=fun a b=>match a with
 | .im d=>(inB d b).map fun r=>.im (.bl r)
 | _=>none
@[simp] def vNotIn:Op2:=fun a b=>match a with
 | .im d=>(inB d b).map fun r=>.im (.bl<|!r)
 | _=>none
theorem gf{κ:Type}[DecidableEq κ]{H:Hp}{k:κ}{kvs:List (κ×Im)}{B7:List (κ×V)}(h:CC H kvs B7):(cg B7 k).isSome=(bw kvs k).isSome:=by
 cases e:bw kvs k with
 | none=>rw[(fV h).2 e];rfl
 | some d=>obtain⟨v,h1,_⟩:=(fV h).1 d e;rw[h1];rfl
theorem yk(hu:X.A.units+20<cLine)(I:Inv X pins σ H s)(rx:av x v)(ry:av y u)(i1:BI H d x)(r2:Dz H d2 y)(e:inB d d2=some b)(q:∀ s',Inv X pins σ H s'->Q (.bool b) s'):wpAny (model X.prog X.w) X.A (compareOp .In v u) Q X.xe s:=by
 unfold inB at e;split at e
 ·rename_i ds;split at e
  ·rename_i hp;cases e;rw[ZV] at hp;obtain⟨a,xs,rfl,h1,h2⟩:=r2.i;cases ry;obtain⟨f',rv,p,_⟩:=I.tuple (BG.of h1);have iv:=h2.Du I.l_ rv;refine SeqAt.in_tupleAt (c9 s.heap d) (show s.heap.IsTuple a f'.toArray from p) (fun w hw=>?_) ?_
   ·obtain⟨z,z1,z2⟩:=fA hp.2 iv (by simpa using hw);rw[dJ z1 z2];exact cw 8 z1 hp.1 (by show X.A.units+1+8+1<cLine;lia) z2 (i1.Du I.l_ rx)
   ·rw[Xp,ic hp.2 iv];exact q s I
  ·cases e
 ·rename_i ds;split at e
  ·rename_i hp;cases e;rw[ZV] at hp;obtain⟨_,a,xs,rfl,h1,h2,_⟩:=r2;cases ry;obtain⟨f',p,iv,_⟩:=fU I h1 h2;refine SeqAt.in_listAt (c9 s.heap d) p (fun w hw=>?_) ?_
   ·obtain⟨z,z1,z2⟩:=fA hp.2 iv (by simpa using hw);rw[dJ z1 z2];exact cw 8 z1 hp.1 (by show X.A.units+1+8+1<cLine;lia) z2 (i1.Du I.l_ rx)
   ·rw[Xp,ic hp.2 iv];exact q s I
  ·cases e
 ·rename_i kvs;split at e
  ·rename_i k;split at e
   ·rename_i hk;cases e;obtain⟨_,a,B7,rfl,h1,h2,_⟩:=r2;cases ry;obtain⟨b,ys,rfl,g1,g2⟩:=i1;rw[<- gf h2] at q;exact kz hu I (bN.t h1 ⟨hk,b,ys,rfl,g1,g2⟩) rx q
   ·cases e
  ·cases e
 ·rename_i kvs;split at e
  ·rename_i i;cases e;obtain⟨_,a,B7,rfl,h1,h2,_⟩:=r2;cases ry;rw[<- gf h2] at q;cases (show x=kV (.inl i) from i1);exact kz hu I (bN.k h1) rx q
  ·rename_i i;cases e;obtain⟨_,a,B7,rfl,h1,h2,_⟩:=r2;cases ry;rw[<- gf h2] at q;cases (show x=kV (.inr i) from i1);exact kz hu I (bN.k h1) rx q
  ·cases e
 ·cases e
theorem gg(hu:X.A.units+20<cLine):DP X (compareOp .In) vIn:=by
 intro pins s σ H x y v u Q I rx ry ⟨d1,d2,d,r1,r2,e,q⟩;unfold vIn at e;split at e
 ·obtain⟨b,e1,e2⟩:=Z5.mp e;cases e2;exact yk hu I rx ry r1.i r2 e1 fun s' I'=>⟨.bl b,H,I',rfl,Out.i q rfl⟩
 ·cases e
theorem yl(hu:X.A.units+20<cLine)(I:Inv X pins σ H s)(rx:av x v)(ry:av y u)(i1:BI H d x)(r2:Dz H d2 y)(e:inB d d2=some b)(q:∀ s',Inv X pins σ H s'->Q (.bool<|!b) s'):wpAny (model X.prog X.w) X.A (compareOp .NotIn v u) Q X.xe s:=by
 unfold inB at e;split at e
 ·rename_i ds;split at e
  ·rename_i hp;cases e;rw[ZV] at hp;obtain⟨a,xs,rfl,h1,h2⟩:=r2.i;cases ry;obtain⟨f',rv,p,_⟩:=I.tuple (BG.of h1);have iv:=h2.Du I.l_ rv;refine SeqAt.notIn_tupleAt (c9 s.heap d) (show s.heap.IsTuple a f'.toArray from p) (fun w hw=>?_) ?_
   ·obtain⟨z,z1,z2⟩:=fA hp.2 iv (by simpa using hw);rw[dJ z1 z2];exact cw 8 z1 hp.1 (by show X.A.units+1+8+1<cLine;lia) z2 (i1.Du I.l_ rx)
   ·rw[Xp,ic hp.2 iv];exact q s I
  ·cases e
 ·rename_i ds;split at e
  ·rename_i hp;cases e;rw[ZV] at hp;obtain⟨_,a,xs,rfl,h1,h2,_⟩:=r2;cases ry;obtain⟨f',p,iv,_⟩:=fU I h1 h2;refine SeqAt.notIn_listAt (c9 s.heap d) p (fun w hw=>?_) ?_
   ·obtain⟨z,z1,z2⟩:=fA hp.2 iv (by simpa using hw);rw[dJ z1 z2];exact cw 8 z1 hp.1 (by show X.A.units+1+8+1<cLine;lia) z2 (i1.Du I.l_ rx)
   ·rw[Xp,ic hp.2 iv];exact q s I
  ·cases e
 ·rename_i kvs;split at e
  ·rename_i k;split at e
   ·rename_i hk;cases e;obtain⟨_,a,B7,rfl,h1,h2,_⟩:=r2;cases ry;obtain⟨b,ys,rfl,g1,g2⟩:=i1;rw[<- gf h2] at q;exact kA hu I (bN.t h1 ⟨hk,b,ys,rfl,g1,g2⟩) rx q
   ·cases e
  ·cases e
 ·rename_i kvs;split at e
  ·rename_i i;cases e;obtain⟨_,a,B7,rfl,h1,h2,_⟩:=r2;cases ry;rw[<- gf h2] at q;cases (show x=kV (.inl i) from i1);exact kA hu I (bN.k h1) rx q
  ·rename_i i;cases e;obtain⟨_,a,B7,rfl,h1,h2,_⟩:=r2;cases ry;rw[<- gf h2] at q;cases (show x=kV (.inr i) from i1);exact kA hu I (bN.k h1) rx q
  ·cases e
 ·cases e
theorem jD(hu:X.A.units+20<cLine):DP X (compareOp .NotIn) vNotIn:=by
 intro pins s σ H x y v u Q I rx ry ⟨d1,d2,d,r1,r2,e,q⟩;unfold vNotIn at e;split at e
 ·obtain⟨b,e1,e2⟩:=Z5.mp e;cases e2;exact yl hu I rx ry r1.i r2 e1 fun s' I'=>⟨.bl<|!b,H,I',rfl,Out.i q rfl⟩
 ·cases e
end
mutual
def BE:Im->Im->Bool
 | .int i,.int j=>decide (i<j)
 | .tup a,.tup b=>bS a b
 | _,_=>false
def bS:List Im->List Im->Bool
 | [],[]=>false
 | [],_::_=>true
 | _::_,[]=>false
 | a::r,b::t=>if Im.beq a b=true then bS r t else BE a b
end
mutual
def bT:Nat->Im->Im->Bool
 | _,.int _,.int _=>true
 | n+1,.tup a,.tup b=>bD n a b
 | _,_,_=>false
def bD:Nat->List Im->List Im->Bool
 | _,[],[]=>true
 | n,a::r,b::t=>bT n a b && bD n r t
 | _,_,_=>false
end
theorem lH:∀ {n:Nat}{a b:List Im},bD n a b=true->a.length=b.length
 | _,[],[],_=>rfl
 | n,a::r,b::t,h=>by
  rw[bD,ZV] at h;rw[ZC,ZC,lH h.2]
 | _,[],_::_,h=>by cases h
 | _,_::_,[],h=>by cases h
mutual
theorem jE:∀ {n:Nat}{a b:Im},bT n a b=true->Im.pl n a=true/\Im.pl n b=true/\az a b=Im.beq a b
 | n,.int i,.int j,_=>by
  refine⟨by cases n<;>rfl,by cases n<;>rfl,?_⟩;rw[az,Im.beq];by_cases h:i=j<;>simp[h]
 | n+1,.tup a,.tup b,h=>by
  rw[bT] at h;obtain⟨h1,h2,h3⟩:=pQ h;exact⟨h1,h2,by rw[az,Im.beq];exact h3⟩
theorem pQ:∀ {n:Nat}{a b:List Im},bD n a b=true->Im.pls n a=true/\Im.pls n b=true/\bx a b=Im.DF a b
 | n,[],[],_=>⟨by cases n<;>rfl,by cases n<;>rfl,rfl⟩
 | n,a::r,b::t,h=>by
  rw[bD,ZV] at h;obtain⟨h1,h2,h3⟩:=jE h.1;obtain⟨g1,g2,g3⟩:=pQ h.2;exact⟨by rw[Im.pls,h1,g1];rfl,by rw[Im.pls,h2,g2];rfl,by rw[bx,Im.DF,h3,g3]⟩
end
theorem fC{a b:Im}(h:¬ a=b):Im.beq a b=false:=by
 cases e:Im.beq a b with
 | false=>rfl
 | true=>exact absurd ((Im.beq_iff a b).mp e) h
mutual
theorem jF:∀ a:Im,BE a a=false
 | .int i=>by simp[BE]
 | .tup a=>by rw[BE];exact pR a
 | .j_=>rfl
 | .bl _=>rfl
 | .str _=>rfl
 | .fn _=>rfl
 | .fl _=>rfl
 | .fd=>rfl
theorem pR:∀ a:List Im,bS a a=false
 | []=>rfl
 | a::r=>by rw[bS,Z0<|(Im.beq_iff a a).mpr rfl];exact pR r
end
mutual
theorem gj:∀ {n:Nat}{a b:Im},bT n a b=true->a≠b->BE a b=!(BE b a)
 | n,.int i,.int j,_,h=>by
  have:i≠j:=fun e=>h (by rw[e]);rw[BE,BE];rcases Int.lt_or_gt_of_ne this with g | g
  ·simp[g];lia
  ·simp[g];lia
 | n+1,.tup a,.tup b,h,e=>by
  rw[bT] at h;rw[BE,BE];exact pS h fun z=>e (by rw[z])
theorem pS:∀ {n:Nat}{a b:List Im},bD n a b=true->a≠b->bS a b=!(bS b a)
 | n,[],[],_,h=>absurd rfl h
 | n,a::r,b::t,h,e=>by
  rw[bD,ZV] at h;rw[bS,bS];by_cases z:a=b
  ·subst z;rw[Z0 ((Im.beq_iff a a).mpr rfl),Z0<|(Im.beq_iff a a).mpr rfl];exact pS h.2 fun w=>e (by rw[w])
  ·rw[fC z,fC<|fun w=>z w.symm,ZX ZJ,ZX ZJ];exact gj h.1 z
end
mutual
theorem jG:∀ {n:Nat}{a b c:Im},bT n a b=true->bT n b c=true->BE a b=true->BE b c=true->BE a c=true
 | n,.int i,.int j,.int k,_,_,h1,h2=>by
  rw[BE] at h1 h2 ⊢;have:=Zf h1;have:=Zf h2;exact Zq (by lia)
 | n+1,.tup a,.tup b,.tup c,l1,l2,h1,h2=>by
  rw[bT] at l1 l2;rw[BE] at h1 h2 ⊢;exact pT l1 l2 h1 h2
theorem pT:∀ {n:Nat}{a b c:List Im},bD n a b=true->bD n b c=true->bS a b=true->bS b c=true->bS a c=true
 | n,[],[],[],_,_,h,_=>h
 | n,a::r,b::t,c::u,l1,l2,h1,h2=>by
  rw[bD,ZV] at l1 l2;rw[bS] at h1 h2 ⊢;by_cases z1:a=b
  ·subst z1;rw[Z0 ((Im.beq_iff a a).mpr rfl)] at h1;by_cases z2:a=c
   ·subst z2;rw[Z0 ((Im.beq_iff a a).mpr rfl)] at h2 ⊢;exact pT l1.2 l2.2 h1 h2
   ·rw[fC z2,ZX ZJ] at h2 ⊢;exact h2
  ·rw[fC z1,ZX ZJ] at h1;by_cases z2:b=c
   ·subst z2;rw[fC z1,ZX ZJ];exact h1
   ·rw[fC z2,ZX ZJ] at h2;have h3:=jG l1.1 l2.1 h1 h2;have z3:¬ a=c:=fun w=>by
     subst w;have:=gj l2.1 z2;rw[h1,h2] at this;cases this
    rw[fC z3,ZX ZJ];exact h3
end
def lJ(A:Around)(s:Shared)(y x:Value)(k:Bool):Prop:=∀ (prog:Program) (w:World) (E:Value->Shared->Prop) (Q:Value->Shared->Prop),Q (.bool k) s->wpAny (model prog w) A (richCompare .Lt y x) Q E s
def eM(f:Bool):List (Bool×Bool)->Bool
 | []=>f
 | (e,k)::r=>if e=true then eM f r else k
section
open PySem.SeqAt
open PySem.AutoSeq1 (wpAny_loadPart')
open PySem.MeetsSeq PySem.MeetsSeq2 PySem.MeetsSeq3
theorem ym(l b:Addr)(items t_:Array Value)(n n2:Nat)(dd GA:Option Addr)(sl HV:Array (Option Value))(ps:List (Bool×Bool))(MN:ps.length=min items.size t_.size):
  Meets (Builtin.«tuple.__lt__» ⟨[.ref l,.ref b],[]⟩)
   (fun A R s=>s.heap.get? l=some { cls:=.type "tuple",dict:=dd,data:=.seq items n,slots:=sl }/\s.heap.get? b=some { cls:=.type "tuple",dict:=GA,data:=.seq t_ n2,slots:=HV }/\
    (∀ j (h1:j<items.size) (h2:j<t_.size) (h3:j<ps.length),EqAt A.in1 s items[j] t_[j] (ps[j]).1/\((ps[j]).1=false->lJ A.in1 s items[j] t_[j] (ps[j]).2))/\
    R (.ok<|.ret<|.bool<|eM (decide (items.size<t_.size)) ps) s):=
 .of_wp fun prog w A R s h=>by
  obtain⟨hp,g,d,tk,os⟩:=s;obtain⟨hl,hb,he,h⟩:=h;have f2:=AutoSeq1.sub_tuple_tuple;have hZ:(items.toList.zip t_.toList).length=min items.size t_.size:=by simp
  wp_walk using wpAny_loadPart' hl,wpAny_loadPart' hb,WL _ (fun rest b s'=>b.1=none/\s'=⟨hp,g,d,tk,os⟩/\∃ i,rest=(items.toList.zip t_.toList).drop i/\
   R (.ok<|.ret<|.bool<|eM (decide (items.size<t_.size))<|ps.drop i) ⟨hp,g,d,tk,os⟩) _
  case turn=>
   rintro⟨y,x⟩ rest b s' ⟨LP,rfl,i,hz,hR⟩;have DN:i<(items.toList.zip t_.toList).length:=by
    rcases Nat.lt_or_ge i (items.toList.zip t_.toList).length with h' | h'
    ·exact h'
    ·rw[Ye h'] at hz;cases hz
   have hm:i<min items.size t_.size:=hZ ▸ DN;have h1:i<items.size:=by lia
   have h2:i<t_.size:=by lia
   have h3:i<ps.length:=by lia
   rw[Zm DN] at hz;injection hz with M5 Jg;have hy:y=items[i]:=by have:=congrArg Prod.fst M5;simpa using this
   have hx:x=t_[i]:=by have:=congrArg Prod.snd M5;simpa using this
   subst hy hx;rw[Zm h3] at hR;obtain⟨Lx,Kh⟩:=he i h1 h2 h3;generalize ps[i]=pr at hR Lx Kh;obtain⟨e,k⟩:=pr;refine Z8 (Lx prog w _ _ ?_);cases e with
   | true=>
    have Jh:R (.ok<|.ret<|.bool<|eM (decide (items.size<t_.size))<|ps.drop<|i+1) ⟨hp,g,d,tk,os⟩:=hR
    wp_walk
    exact⟨rfl,rfl,i+1,Jg,Jh⟩
   | false=>
    have Jh:R (.ok<|.ret<|.bool k) ⟨hp,g,d,tk,os⟩:=hR;have OG:=Kh rfl prog w
    wp_walk using OG
    exact⟨_,rfl,by simpa using Jh⟩
  case fin=>
   rintro⟨b1,b2⟩ s' ⟨LP,rfl,i,hz,hR⟩;simp only at LP;subst LP;have Pq:min items.size t_.size<=i:=by
    rcases Nat.lt_or_ge i (items.toList.zip t_.toList).length with h' | h'
    ·rw[Zm h'] at hz;cases hz
    ·exact hZ ▸ h'
   rw[Ye (by lia)] at hR;have Jh:R (.ok<|.ret<|.bool<|decide (items.size<t_.size)) ⟨hp,g,d,tk,os⟩:=hR
   wp_walk
   exact⟨_,rfl,by simpa [Builtin.Tuple.tupleCompareSizes] using Jh⟩
  case h=>
   exact⟨rfl,rfl,0,rfl,by simpa using h⟩
end
def FU(ds es:List Im):List (Bool×Bool):=(ds.zip es).map fun p=>(az p.1 p.2,BE p.1 p.2)
theorem pU:∀ {n:Nat}{ds es:List Im},bD n ds es=true->eM false (FU ds es)=bS ds es
 | _,[],[],_=>rfl
 | n,a::r,b::t,h=>by
  rw[bD,ZV] at h;show (if az a b=true then eM false (FU r t) else BE a b)=bS (a::r) (b::t);rw[bS,(jE h.1).2.2,pU h.2]
 | _,[],_::_,h=>by cases h
 | _,_::_,[],h=>by cases h
theorem pV{n:Nat}:∀ {ds es:List Im}{j:Nat}{a b:Im},bD n ds es=true->ds[j]?=some a->es[j]?=some b->bT n a b=true
 | [],es,j,a,b,_,h,_=>by simp at h
 | d::ds,[],j,a,b,h,_,_=>by cases h
 | d::ds,e::es,0,a,b,h,h1,h2=>by
  rw[bD,ZV] at h;cases h1;cases h2;exact h.1
 | d::ds,e::es,j+1,a,b,h,h1,h2=>by
  rw[bD,ZV] at h;exact pV (j:=j) h.2 (by simpa using h1) (by simpa using h2)
theorem pW{A:Around}{i j:Int}(hx:Ci s.heap (.int i) u)(hy:Ci s.heap (.int j) v):lJ A s u v (BE (.int i)<|.int j):=by
 obtain⟨t,rfl⟩:=hx;obtain⟨t',rfl⟩:=hy;intro prog w E Q q;rw[BE] at q;exact HT.uR A s i t j t' prog w E Q q
theorem lK:∀ {n:Nat}{x y:Im},bT n x y=true->(∃ i j,x=.int i/\y=.int j)\/∃ m a b,n=m+1/\x=.tup a/\y=.tup b/\bD m a b=true:=by
 intro n x y h;unfold bT at h;split at h
 ·exact .inl ⟨_,_,rfl,rfl⟩
 ·exact .inr ⟨_,_,_,rfl,rfl,rfl,h⟩
 ·cases h
theorem yn(n:Nat):∀ {A:Around}{x y:Im}{u v:Value},bT n x y=true->A.units+n+2<cLine->Ci s.heap x u->Ci s.heap y v->lJ A s u v (BE x y):=by
 induction n with
 | zero=>
  intro A x y u v h hu hx hy;rcases lK h with ⟨i,j,rfl,rfl⟩ | ⟨m,_,_,e,_⟩
  ·exact pW hx hy
  ·cases e
 | succ n ih=>
  intro A x y u v h hu hx hy;rcases lK h with ⟨i,j,rfl,rfl⟩ | ⟨m,ds,es,e,rfl,rfl,h⟩
  ·exact pW hx hy
  cases e;obtain⟨a,o,f',m,rfl,h1,h2,h3,h4⟩:=hx;obtain⟨b,o',its',m',rfl,g1,g2,g3,g4⟩:=hy;obtain⟨cls,dd,data,sl⟩:=o;obtain⟨OH,FM,M6,Ii⟩:=o';simp only at h2 h3 g2 g3;subst h2 h3 g2 g3;have l0:=lH h;have l1:ds.length=f'.size:=by rw[h4.length,Zv]
  have l2:es.length=its'.size:=by rw[g4.length,Zv]
  intro prog w E Q q;rw[BE,<- pU h] at q;have lp:(FU ds es).length=min f'.size its'.size:=by rw[FU,ZY,List.length_zip,l1,l2]
  have hd:decide (f'.size<its'.size)=false:=Zs (by lia);refine richCompare_meets_room (op:=.Lt) ⟨_,h1,rfl⟩ ⟨_,g1,rfl⟩ PySem.F.slot_tuple_lt PySem.F.entry_tuple_lt (PySem.F.args_tuple_lt_2 _ _) (ym a b f' its' m m' dd FM sl Ii (FU ds es) lp)
   ⟨h1,g1,fun j j1 j2 j3=>?_,show Value.bool (eM (decide (f'.size<its'.size))<|FU ds es)≠Value.notImplemented/\Q (.bool<|eM (decide (f'.size<its'.size))<|FU ds es) s from ⟨(fun x=>nomatch x),by rw[hd];exact q⟩⟩ (by lia);obtain⟨d1,e1,r1⟩:=h4.get (j:=j) (v:=f'[j]) (by rw[Zt];simp[j1]);obtain⟨d2,e2,r2⟩:=g4.get (j:=j) (v:=its'[j]) (by rw[Zt];simp[j2]);have lk:=pV h e1 e2;have hp:=jE lk;have ez:(FU ds es)[j]=(az d1 d2,BE d1 d2):=by
   have:(FU ds es)[j]?=some (az d1 d2,BE d1 d2):=by
    rw[FU,Zr,(List.getElem?_zip_eq_some (z:=(d1,d2))).mpr ⟨e1,e2⟩];rfl
   rw[ZL j3] at this;exact Zw this
  rw[ez];exact⟨cw n hp.1 hp.2.1 (by show A.units+1+n+1<cLine;lia) r1 r2,fun _=>ih lk (by show A.units+1+n+2<cLine;lia) r1 r2⟩
end L2
namespace L2
open PySem PySem.Spec PyProof.Rows PySem.W
variable{f':List Value}{ds:List Im}
theorem pX{α:Type}{p q:α->Bool}:∀ {l:List α},(∀ x∈l,p x=true->q x=true)->(∃ x∈l,q x=true/\p x=false)->l.countP p<l.countP q
 | [],_,h=>by obtain⟨x,hx,_⟩:=h;cases hx
 | a::l,h,⟨x,hx,h1,h2⟩=>by
  rw[Xo,Xo];have le:l.countP p<=l.countP q:=List.countP_mono_left fun y hy=>h y (.tail _ hy);rcases ZO.mp hx with rfl | hx
  ·rw[h1,h2];simp;lia
  ·have:=pX (fun y hy=>h y<|.tail _ hy) ⟨x,hx,h1,h2⟩;have ha:=h a (.head _);cases e1:p a<;>cases e2:q a<;>rw[e1,e2] at ha<;>simp at ha ⊢<;>lia
structure CS(ds:List Im):Prop where
 Kl:ds.length<=1000
 Ea:∀ a∈ds,∀ b∈ds,bT 6 a b=true
 nd:ds.Nodup
def GS(ds:List Im)(x:Im):Nat:=ds.countP fun d=>BE d x
theorem jH(o:CS ds){x y:Im}(hx:x∈ds)(hy:y∈ds)(h:BE x y=true):GS ds x<GS ds y:=
 pX (fun z hz e=>jG (o.Ea z hz x hx) (o.Ea x hx y hy) e h) ⟨x,hx,h,jF x⟩
theorem pY(o:CS ds){x y:Im}(hx:x∈ds)(hy:y∈ds):decide ((GS ds x:Int)<(GS ds y:Int))=BE x y:=by
 cases e:BE x y with
 | true=>exact Zq (by have:=jH o hx hy e;lia)
 | false=>
  refine Zs fun z=>?_;by_cases h:x=y
  ·subst h;lia
  ·have t:=gj (o.Ea x hx y hy) h;rw[e] at t;have t':BE y x=true:=by cases q:BE y x<;>rw[q] at t<;>simp at t ⊢
   have:=jH o hy hx t';lia
theorem yo(o:CS ds){x y:Im}(hx:x∈ds)(hy:y∈ds)(h:GS ds x=GS ds y):x=y:=by
 by_cases e:x=y
 ·exact e
 ·have t:=gj (o.Ea x hx y hy) e;cases q:BE x y with
  | true=>have:=jH o hx hy q;lia
  | false=>
   rw[q] at t;have t':BE y x=true:=by cases q:BE y x<;>rw[q] at t<;>simp at t ⊢
   have:=jH o hy hx t';lia
def dY(ds:List Im)(i:Nat):Int:=GS ds (ds.getD i .j_)
theorem gl{i:Nat}(h:i<ds.length):ds.getD i .j_∈ds:=by
 rw[Z6,ZL h];exact List.getElem_mem h
theorem lL(o:CS ds):∀ i j,i<ds.length->j<ds.length->dY ds i=dY ds j->i=j:=fun i j hi hj e=>by
 have:=yo o (gl hi) (gl hj) (by unfold dY at e;lia);rw[Z6,ZL hi,Z6,ZL hj] at this;exact (WJ o.nd).mp this
theorem M7(o:CS ds){p:Array Nat}(hp:Rg ds.length p)(up:Up (dY ds) p ds.length):(p.toList.map fun i=>ds.getD i .j_).Pairwise (fun a b=>BE a b=true):=by
 rw[Y1];intro i j hi hj Dc;have hs:=hp.size;have EV:i<ds.length:=by simpa [hs] using hi
 have GJ:j<ds.length:=by simpa [hs] using hj
 have ne:=hp.ne (lL o) Dc GJ;have le:=up i j (by lia) GJ;have g:∀ k (hk:k<(p.toList.map fun i=>ds.getD i .j_).length),(p.toList.map fun i=>ds.getD i .j_)[k]=ds.getD (p.getD k 0) .j_:=fun k hk=>by
  have Fq:k<p.size:=by simpa using hk
  rw[List.getElem_map,Array.getElem_toList];simp[Array.getD,Fq]
 rw[g i hi,g j hj];rw[<- pY o (gl<|hp.lt EV) (gl<|hp.lt GJ)];refine Zq ?_;have e:∀ k,(GS ds (ds.getD (p.getD k 0) .j_):Int)=y_ (dY ds) p k:=fun _=>rfl;rw[e i,e j];lia
theorem pZ:∀ {l m:List Im},l.Perm m->l.Pairwise (fun a b=>BE a b=true)->m.Pairwise (fun a b=>BE a b=true)->(∀ a∈l,∀ b∈l,BE a b=true->BE b a=false)->l=m
 | [],m,p,_,_,_=>(List.nil_perm.mp p).symm
 | a::l,m,p,h1,h2,as=>by
  cases m with
  | nil=>exact absurd p.length_eq (by simp)
  | cons b m=>
   have e:a=b:=by
    by_cases e:a=b
    ·exact e
    ·have ha:a∈m:=by
      rcases ZO.mp (p.mem_iff.mp<|.head _) with z | z
      ·exact absurd z e
      ·exact z
     have hb:b∈l:=by
      rcases ZO.mp (p.mem_iff.mpr<|.head _) with z | z
      ·exact absurd z.symm e
      ·exact z
     have q1:=(Zn.mp h1).1 b hb;have q2:=(Zn.mp h2).1 a ha;rw[as a (.head _) b (.tail _ hb) q1] at q2;cases q2
   subst e;rw[pZ (List.Perm.cons_inv p) (Zn.mp h1).2 (Zn.mp h2).2 fun x hx y hy=>as x (.tail _ hx) y<|.tail _ hy]
theorem lM(x:Im):∀ l:List Im,(eG BE x l).Perm (x::l)
 | []=>ZI _
 | y::r=>by
  rw[eG];split
  ·exact ZI _
  ·exact (List.Perm.cons y<|lM x r).trans (List.Perm.swap x y r)
theorem gm:∀ l:List Im,(cS BE l).Perm l
 | []=>ZI _
 | x::r=>(lM x _).trans (List.Perm.cons x<|gm r)
theorem qc{x:Im}:∀ {l:List Im},l.Pairwise (fun a b=>BE a b=true)->(∀ y∈l,x≠y)->(∀ a∈x::l,∀ b∈x::l,bT 6 a b=true)->(eG BE x l).Pairwise (fun a b=>BE a b=true)
 | [],_,_,_=>ZB _ _
 | y::r,h,n,lk=>by
  have h':=Zn.mp h;rw[eG];split
  ·rename_i e;refine Zn.mpr ⟨fun z hz=>?_,h⟩;rcases ZO.mp hz with rfl | hz
   ·exact e
   ·exact jG (lk x (.head _) y<|.tail _<|.head _) (lk y (.tail _<|.head _) z<|.tail _<|.tail _ hz) e (h'.1 z hz)
  ·rename_i e;refine Zn.mpr ⟨fun z hz=>?_,qc h'.2 (fun z hz=>n z<|.tail _ hz) fun a ha b hb=>lk a ?_ b ?_⟩
   ·rcases ZO.mp ((lM x r).mem_iff.mp hz) with rfl | hz
    ·have t:=gj (lk z (.head _) y<|.tail _<|.head _) (n y<|.head _);cases q:BE y z with
     | true=>rfl
     | false=>rw[q] at t;exact absurd t e
    ·exact h'.1 z hz
   ·rcases ZO.mp ha with rfl | ha
    ·exact .head _
    ·exact .tail _ (.tail _ ha)
   ·rcases ZO.mp hb with rfl | hb
    ·exact .head _
    ·exact .tail _ (.tail _ hb)
theorem lN:∀ {l:List Im},l.Nodup->(∀ a∈l,∀ b∈l,bT 6 a b=true)->(cS BE l).Pairwise (fun a b=>BE a b=true)
 | [],_,_=>.nil
 | x::r,nd,lk=>by
  have Fw:=Y0.mp nd;refine qc (lN Fw.2 fun a ha b hb=>lk a (.tail _ ha) b<|.tail _ hb) (fun y hy e=>Fw.1 (by rw[e];exact (gm r).mem_iff.mp hy)) fun a ha b hb=>lk a ?_ b ?_
  ·rcases ZO.mp ha with rfl | ha
   ·exact .head _
   ·exact .tail _ ((gm r).mem_iff.mp ha)
  ·rcases ZO.mp hb with rfl | hb
   ·exact .head _
   ·exact .tail _ ((gm r).mem_iff.mp hb)
theorem qd{l:List Im}(o:CS ds)(p:l.Perm ds)(h:l.Pairwise (fun a b=>BE a b=true)):l=cS BE ds:=by
 refine pZ (p.trans (gm ds).symm) h (lN o.nd o.Ea) fun a ha b hb e=>?_;have t:=gj (o.Ea a (p.mem_iff.mp ha) b<|p.mem_iff.mp hb) (fun z=>by subst z;rw[jF] at e;cases e);rw[e] at t;cases q:BE b a with
 | false=>rfl
 | true=>rw[q] at t;cases t
def cU:Im->Bool
 | .tup (.int _::_)=>true
 | _=>false
def fF:Im->Bool
 | .tup (.tup _::_)=>true
 | _=>false
section
variable{prog:Program}{w:World}{A:Around}{E:Value->Shared->Prop}{s:Shared}
theorem qe{b:Bool}(n:Nat)(hu:A.units+n+2<cLine){Q:Bool->Shared->Prop}:∀ {ds es:List Im}{vs ws:List Value}{i:Nat},bD n ds es=true->aJ s.heap ds vs->aJ s.heap es ws->(b=true->i=0->∃ k r,ds=.int k::r)->Q (bS ds es) s->KatLex prog w A b false Q (vs.zip ws) i s
 | [],[],vs,ws,i,_,h1,h2,_,q=>by
  rw[show vs=[] from h1];exact kat_nil q
 | d::ds,e::es,vs,ws,i,h,h1,h2,hb,q=>by
  rw[bD,ZV] at h;obtain⟨v,vs,rfl,a1,a2⟩:=h1;obtain⟨u,ws,rfl,b1,b2⟩:=h2;rw[List.zip_cons_cons];obtain⟨p1,p2,p3⟩:=jE h.1;refine kat_cons (cw n p1 p2 (by lia) a1 b1 prog w _ _ ?_);rw[p3];rw[bS] at q;cases hq:Im.beq d e with
  | true=>
   rw[hq,Z0 rfl] at q;exact kat_yes (qe n hu h.2 a2 b2 (fun _ z=>by lia) q)
  | false=>
   rw[hq,ZX ZJ] at q;refine kat_no ?_;by_cases hf:(b && i == 0)=true
   ·rw[hf];rw[ZV] at hf;obtain⟨k,r,z⟩:=hb hf.1 (by simpa using hf.2);cases z;rcases lK h.1 with ⟨i',j,z1,z2⟩ | ⟨_,_,_,_,z1,_⟩
    ·cases z1;cases z2;obtain⟨t,rfl⟩:=a1;obtain⟨t',rfl⟩:=b1;rw[BE] at q;exact oneLt_int q
    ·cases z1
   ·rw[show (b && i == 0)=false by simpa using hf];exact kat_one _ _ (yn n h.1 hu a1 b1 prog w _ _ q)
 | [],_::_,_,_,_,h,_,_,_,_=>by cases h
 | _::_,[],_,_,_,h,_,_,_,_=>by cases h
theorem qf{b:Bool}(o:CS ds)(iv:aJ s.heap ds f')(ht:∀ d∈ds,∃ r,d=.tup r)(hb:b=true->∀ d∈ds,cU d=true)(hu:A.units+9<cLine):
  bZ f'.length (dY ds) (kas_cmp prog w A (tuples' b)<|f'.toArray.zip f'.toArray) s:=by
 intro i j C hi hj q;have hl:=iv.length;have mi:=gl (ds:=ds) (i:=i) (by lia);have mj:=gl (ds:=ds) (i:=j) (by lia);unfold dY at q;rw[pY o mi mj] at q;obtain⟨d1,e1,r1⟩:=iv.get (j:=i) (v:=f'[i]) (by simp);obtain⟨d2,e2,r2⟩:=iv.get (j:=j) (v:=f'[j]) (by simp);rw[Z6,e1,Z6,e2] at q;rw[Z6,e1] at mi;rw[Z6,e2] at mj;obtain⟨a,ea⟩:=ht d1 mi;obtain⟨b',eb⟩:=ht d2 mj;subst ea eb;have lk:bD 5 a b'=true:=o.Ea _ mi _ mj;unfold kas_cmp;rw[kat_item rfl,kat_item rfl,Z6,Z6,ZL hi,ZL hj];show wpAny _ _ (keyLt' (tuples' b) f'[i] f'[j]) _ _ _;obtain⟨x,ox,xs,n1,z1,g1,g2,g3,g4⟩:=r1;obtain⟨y,oy,ys,n2,z2,k1,k2,k3,k4⟩:=r2;rw[z1,z2];refine kat_lt (b:=b) g1 g3 k1 k3 ?_;have l1:a.length=xs.size:=by rw[g4.length,Zv]
 have l2:b'.length=ys.size:=by rw[k4.length,Zv]
 rw[show decide (xs.size<ys.size)=false from Zs (by have:=lH lk;lia)];refine qe 5 (by lia) lk g4 k4 (fun OI _=>?_) (by have q':C (BE (.tup a)<|.tup b') s:=q;rw[BE] at q';exact q');have:=hb OI _ mi;unfold cU at this;split at this
 ·rename_i h;cases h;exact⟨_,_,rfl⟩
 ·cases this
theorem qg:∀ {ds:List Im}{f':List Value},aJ s.heap ds f'->(∀ d∈ds,cU d=true)\/(∀ d∈ds,fF d=true)->∃ fs,KatTups s.heap f' fs/\fs.length=f'.length/\
  ((∀ d∈ds,cU d=true)->∀ v∈fs,∃ i t,v=Value.int i t)/\((∀ d∈ds,fF d=true)->∀ v∈fs,∃ a ob,v=Value.ref a/\s.heap.get? a=some ob/\ob.cls=.type "tuple")
 | [],f',h,_=>by
  rw[show f'=[] from h];exact⟨[],trivial,rfl,(fun _ _ h=>nomatch h),(fun _ _ h=>nomatch h)⟩
 | d::ds,f',h,hf=>by
  obtain⟨v,r,rfl,h1,h2⟩:=h;obtain⟨fs,t1,t2,t3,t4⟩:=qg h2 (hf.imp (fun z x hx=>z x<|.tail _ hx) fun z x hx=>z x<|.tail _ hx);have sh:∃ f r',d=.tup (f::r'):=by
   rcases hf with z | z
   ·have:=z d (.head _);unfold cU at this;split at this
    ·exact⟨_,_,rfl⟩
    ·cases this
   ·have:=z d (.head _);unfold fF at this;split at this
    ·exact⟨_,_,rfl⟩
    ·cases this
  obtain⟨f,r',rfl⟩:=sh;obtain⟨a,o,items,n,rfl,g1,g2,g3,g4⟩:=h1;obtain⟨fv,rv,e,g5,g6⟩:=g4;have Ja:items[0]?=some fv:=by
   rw[<- Zt,e];rfl
  refine⟨fv::fs,KatTups.cons g1 g2 g3 Ja t1,by simp[t2],fun z u hu=>?_,fun z u hu=>?_⟩
  ·rcases ZO.mp hu with rfl | hu
   ·have:=z _ (.head _);unfold cU at this;split at this
    ·rename_i q;cases q;exact⟨_,g5⟩
    ·cases this
   ·exact t3 (fun x hx=>z x<|.tail _ hx) u hu
  ·rcases ZO.mp hu with rfl | hu
   ·have:=z _ (.head _);unfold fF at this;split at this
    ·rename_i q;cases q;obtain⟨a',o',_,_,e',k1,k2,_⟩:=g5;exact⟨a',o',e',k1,k2⟩
    ·cases this
   ·exact t4 (fun x hx=>z x<|.tail _ hx) u hu
end
section
variable{X:Cx}
theorem am.pick{H:Hp}{ys:List V}(h:am H ds ys):∀ {p:List Nat},(∀ k∈p,k<ds.length)->am H (p.map fun i=>ds.getD i .j_) (p.map fun i=>ys.getD i .j_)
 | [],_=>rfl
 | k::p,hp=>by
  obtain⟨v,e1,e2⟩:=h.get (i:=k) (d:=ds.getD k .j_) (by
   have:=hp k (.head _);rw[Z6,ZL this];rfl)
  refine⟨v,_,?_,e2,h.pick fun j hj=>hp j<|.tail _ hj⟩;rw[Zy,Z6,e1];rfl
structure CT(ds:List Im):Prop where
 ord:CS ds
 fst:(∀ d∈ds,cU d=true)\/(∀ d∈ds,fF d=true)
theorem CT.tup(o:CT ds):∀ d∈ds,∃ r,d=.tup r:=fun d hd=>by
 rcases o.fst with z | z
 ·have:=z d hd;unfold cU at this;split at this
  ·exact⟨_,rfl⟩
  ·cases this
 ·have:=z d hd;unfold fF at this;split at this
  ·exact⟨_,rfl⟩
  ·cases this
theorem aJ.CZ{h h':Heap}(k:∀ b o,h.get? b=some o->h'.get? b=some o){ds:List Im}{vs:List Value}(x:aJ h ds vs):aJ h' ds vs:=x.keep fun a o _ _ e _ _=>k a o e
theorem qh{h:Heap}{s:Shared}(o:CT ds)(h2:2<=f'.length)(iv:aJ s.heap ds f')(A:Around)(E:Value->Shared->Prop)(Q:SortKind->Shared->Prop)(hq:Q (tuples'<|decide (∀ d∈ds,cU d=true)) s):
  wpAny (model X.prog X.w) A (keyKind' f'.toArray) Q E s:=by
 obtain⟨fs,t1,t2,t3,t4⟩:=qg iv o.fst;have hl:=iv.length;by_cases hf:∀ d∈ds,cU d=true
 ·rw[Zq hf] at hq;refine kat_kind (T:=Value.type "int") t1 (by lia) (fun v hv=>?_) rfl ?_
  ·obtain⟨i,t,rfl⟩:=t3 hf v hv;exact Looks.of_pure rfl
  ·rw[show (Value.type "int" != Value.type "tuple")=true by decide];exact hq
 ·rw[Zs hf] at hq;have OJ:=o.fst.resolve_left hf;refine kat_kind (T:=Value.type "tuple") t1 (by lia) (fun v hv=>?_) rfl ?_
  ·obtain⟨a,ob,rfl,g1,g2⟩:=t4 OJ v hv;have:Looks (model X.prog X.w) s.heap (typeOf<|.ref a) ob.cls:=(Looks.ld g1).andThen .now;rw[g2] at this;exact this
  ·rw[show (Value.type "tuple" != Value.type "tuple")=false by decide];exact hq
theorem qi(hc:X.calm=true)(hu:X.A.units+20<cLine):aX X (.builtin "sorted") (fun xs H Q=>∃ (a:Addr) (ds:List Im) (ys:List V),xs=[.ref a]/\(BY X.K H a ys\/BG X.K H a ys)/\am H ds ys/\CT ds/\
  ∀ l zs,H l=none->am H (cS BE ds) zs->Q (.ref l) (upd H l<|.lst zs)):=by
 intro pins s σ H xs us Q I r h;obtain⟨a,ds,ys,rfl,hs,hi,o,q⟩:=h;obtain⟨u,rfl,ru⟩:=cy r;cases ru;have hz:ys.length<=1000:=by rw[<- hi.length];exact o.ord.Kl
 have go:∀ {T:String}{f':List Value}{n:Nat}{ob:Obj},(T = "list" \/ T = "tuple")->ay ys f'->s.heap.get? a=some ob->ob.cls=.type T->ob.data=.seq f'.toArray n->wpAny (model X.prog X.w) X.A (call (.builtin "sorted") [.ref a]) (EP X pins σ Q) X.xe s:=by
  intro T f' n ob hT rv e eC eD;have iv:=hi.Du I.l_ rv;have li:f'.length=ds.length:=iv.length.symm;refine ph hc (dY ds) (tuples'<|decide (∀ d∈ds,cU d=true)) I rv hT e eC eD hz (fun h2 h6 tk k A E Q hq=>qh (h:=h6) o h2 (iv.CZ k) A E Q hq) (fun h6 tk k=>?_) (by rw[li];exact lL o.ord) (.inl (by have:=o.ord.Kl;lia)) fun p l r1 r2 fl=>?_
  ·refine qf (s:={ s with heap:=h6,toks:=tk }) o.ord (iv.CZ k) o.tup (fun hb=>?_) (by show X.A.units+1+1+9<cLine;lia);exact Zf hb
  ·rw[li] at r1 r2;have e1:(p.toList.map fun i=>ds.getD i .j_)=cS BE ds:=qd o.ord (lu r1) (M7 o.ord r1 r2);refine q l _ fl ?_;rw[<- e1];exact hi.pick fun k hk=>Zp.mp (r1.mem_iff.mp hk)
 rcases hs with hs | hs
 ·obtain⟨f',rv,p,_⟩:=I.list hs;obtain⟨ob,e,eC,n,eD⟩:=p.isList;exact go (.inl rfl) rv e eC eD
 ·obtain⟨f',rv,p,_⟩:=I.tuple hs;obtain⟨ob,e,eC,n,eD⟩:=p;exact go (.inr rfl) rv e eC eD
end
section
variable{X:Cx}
theorem qj{H:Hp}:∀ {kvs:List (List Im×V)}{es:List (List Im×Addr×Value)},Paired (fun (p:List Im×V) (q:List Im×Addr×Value)=>p.1=q.1/\El H p.1 q.2.1/\av p.2 q.2.2) kvs es->
  am H (kvs.map fun p=>.tup p.1) (es.map fun x=>V.ref x.2.1)/\ay (es.map fun x=>V.ref x.2.1) (es.map fun x=>Value.ref x.2.1)
 | _,_,.nil=>⟨rfl,.nil⟩
 | _,_,.cons r t=>by
  obtain⟨h1,h2⟩:=qj t;exact⟨⟨_,_,rfl,r.2.1.2,h1⟩,.cons rfl h2⟩
theorem yp(hc:X.calm=true)(hu:X.A.units+20<cLine):aX X (.builtin "sorted") (fun xs H Q=>∃ (d:Addr) (kvs:List (List Im×V)),xs=[.ref d]/\H d=some (.dT kvs)/\CT (kvs.map fun p=>.tup p.1)/\
  ∀ l zs,H l=none->am H (cS BE<|kvs.map fun p=>.tup p.1) zs->Q (.ref l) (upd H l<|.lst zs)):=by
 intro pins s σ H xs us Q I r h;obtain⟨d,kvs,rfl,hd,so,q⟩:=h;obtain⟨u,rfl,ru⟩:=cy r;cases ru;obtain⟨z,lo,es,rel,o,OK,ep,e1,e2,e3,e4,nd⟩:=I.l_ d _ hd;obtain⟨hi,rv⟩:=qj rel;have M8:EU s.heap d (es.map fun x=>Value.ref x.2.1) ep:=⟨o,OK,e1,e2,e3,by rw[e4,YO];rfl⟩;generalize (es.map fun x=>Value.ref x.2.1)=f' at rv M8;generalize (es.map fun x=>V.ref x.2.1)=ys at hi rv;generalize Pr:(kvs.map fun p=>Im.tup p.1)=ds at hi so q;have iv:=hi.Du I.l_ rv;have li:f'.length=ds.length:=iv.length.symm;have Kl:=so.ord.Kl;have hl:ys.length=f'.length:=rv.length;have I_:f'.length<=sizeLine:=Zo (by lia) (show 1000<=sizeLine by decide);refine Calls.call_function_entry kind_sorted plain_sorted entry_sorted (args_sorted1 _) ?z
 case z=>
  unfold Builtin.«sorted»;refine Z8 (m:=checkCount "sorted" 1 1 _) (ZS<|Z8<|kdu_collect (A:=X.A.in1) (vO lo) (I.ok.hd hc) M8 I_ fun h' tk acc HD D6=>?_);have ea:acc.toList=f':=by
   apply List.ext_getElem
   ·rw[Zv];exact D6.1
   ·intro i h1 h2;have:=D6.2 i acc.toList[i] (by rw[<- Zt];exact ZL h1);have this:f'[i]?=some acc.toList[i]:=this;rw[ZL h2] at this;exact (Zw this).symm
  rw[ea];refine Z8 (wpAny_newList ?_ I_);have oB:(h'.push<|seqObj "list" f'.toArray 0).get? h'.objs.size=some (seqObj "list" f'.toArray 0):=ZF _ rfl;have kB:∀ b o,s.heap.get? b=some o->(h'.push<|seqObj "list" f'.toArray 0).get? b=some o:=fun b o e=>Z3 _ (HD b o e);have I1:Inv X pins σ H { s with heap:=h',toks:=tk }:=I.kept HD;have nB:∀ b o,s.heap.get? b=some o->b≠h'.objs.size:=fun b o e=>Zx (ZP<|HD b o e);refine Z8 (YA<|Y2 slot_list_sort ⟨_,oB,rfl⟩ entry_list_sort ?y<|args_list_sort _)
  case y=>
   refine pg (s:={ s with heap:=h'.push (seqObj "list" f'.toArray 0),toks:=tk }) (dY ds) (tuples'<|decide (∀ d∈ds,cU d=true)) oB
    (fun h2 h6 k6 Q hq=>qh (X:=X) (h:=h6) so h2 (iv.CZ fun b o eb=>k6 b o (nB b o eb)<|kB b o eb) _ _ Q hq)
    (fun h6 k6=>qf (s:={ s with heap:=h6,toks:=tk }) so.ord (iv.CZ fun b o eb=>k6 b o (nB b o eb)<|kB b o eb) so.tup (fun hb=>Zf hb) (by show X.A.units+1+1+9<cLine;lia))
    (by rw[li];exact lL so.ord) (.inl (by lia)) (by lia) fun p h2 r1 r2 k2 ⟨e9,Ly⟩=>⟨_,rfl,ZS ⟨_,rfl,?_⟩⟩;have fB:H h'.objs.size=none:=I1.l_.fresh (ZR _);have Lz:∀ b o,h'.get? b=some o->b≠h'.objs.size:=fun b o e=>Zx (ZP e);rw[li] at r1 r2;refine⟨.ref h'.objs.size,upd H h'.objs.size<|.lst<|p.toList.map fun i=>ys.getD i .j_,?_,rfl,q _ _ fB ?_⟩
   ·refine I1.laid (t':=tk) (fun b u e=>k2 b u (Lz b u e)<|Z3 _ e) (ZR _) ⟨?_,_,e9,?_,Ly⟩
    ·rw[ZY,Zv,r1.size];lia
    ·refine lv (by simp) fun i v u h1 h2=>?_;rw[Zr] at h1 h2;cases HE:p.toList[i]? with
     | none=>rw[HE] at h1;cases h1
     | some k=>
      rw[HE] at h1 h2;cases h1;cases h2;have hk:k<f'.length:=by rw[li];exact Zp.mp (r1.mem_iff.mp<|YM HE)
      obtain⟨u,h3,h4⟩:=rv.get (i:=k) (x:=ys[k]'(by lia)) (by simp[show k<ys.length by lia]);rw[ZL hk] at h3;have h3:=Zw h3;simp only[List.getD,ZL hk,ZL (show k<ys.length by lia),Xr];rw[h3];exact h4
   ·rw[<- qd so.ord (lu r1) (M7 so.ord r1 r2)];exact hi.pick fun k hk=>Zp.mp (r1.mem_iff.mp hk)
def lO(ds:List Im):Bool:=decide (ds.length<=1000) && ds.all (fun a=>ds.all fun b=>bT 6 a b) && decide ds.Nodup && (ds.all cU || ds.all fF)
theorem jI:lO ds=true↔CT ds:=by
 unfold lO;rw[ZV,ZV,ZV,Bool.or_eq_true,Yx,Yx,Zk,Zk,Zk];constructor
 ·rintro⟨⟨⟨h1,h2⟩,h3⟩,h4⟩;exact⟨⟨h1,fun a ha b hb=>Zk.mp (h2 a ha) b hb,h3⟩,h4⟩
 ·rintro⟨⟨h1,h2,h3⟩,h4⟩;exact⟨⟨⟨h1,fun a ha=>Zk.mpr fun b hb=>h2 a ha b hb⟩,h3⟩,h4⟩
def dt(ds:List Im):Option Vl:=if lO ds=true then some (.lst<|cS BE ds) else none
def BZ:OpN:=fun ds=>match ds with
 | [.lst x]=>match Dj x with
  | some ns=>vSorted [.lst x]
  | none=>dt x
 | [.im (.tup x)]=>dt x
 | [.dT kvs]=>dt (kvs.map fun p=>.tup p.1)
 | _=>none
theorem lP{d:Vl}(h:dt ds=some d):CT ds/\d=.lst (cS BE ds):=by
 unfold dt at h;split at h
 ·rename_i e;cases h;exact⟨jI.mp e,rfl⟩
 ·cases h
theorem qk{H:Hp}:∀ {kvs:List (List Im×Im)}{B7:List (List Im×V)},CC H kvs B7->(kvs.map fun p=>Im.tup p.1)=B7.map fun p=>Im.tup p.1
 | _,_,.nil=>rfl
 | _,_,.cons r t=>by rw[Zy,Zy,qk t,r.1]
theorem lQ(hc:X.calm=true)(hu:X.A.units+20<cLine):cF X (.builtin "sorted") BZ:=by
 intro pins s σ H xs us Q I r ⟨ds,d,rd,e,q⟩;unfold BZ at e;split at e
 ·rename_i x;split at e
  ·exact xh hc hu pins s σ H xs us Q I r ⟨_,d,rd,e,q⟩
  ·obtain⟨so,rfl⟩:=lP e;obtain⟨v,rfl,_,p,ys,rfl,h1,h2,_⟩:=bL rd;exact qi hc hu pins s σ H _ us Q I r ⟨p,x,ys,rfl,.inl<|BY.of h1,h2,so,fun l zs fl hz=>Out.l q fl hz⟩
 ·rename_i x;obtain⟨so,rfl⟩:=lP e;obtain⟨v,rfl,hv⟩:=bL rd;obtain⟨p,ys,rfl,h1,h2⟩:=hv.i;exact qi hc hu pins s σ H _ us Q I r ⟨p,x,ys,rfl,.inr<|BG.of h1,h2,so,fun l zs fl hz=>Out.l q fl hz⟩
 ·rename_i kvs;obtain⟨so,rfl⟩:=lP e;obtain⟨v,rfl,_,p,B7,rfl,h1,h2,_⟩:=bL rd;rw[qk h2] at so q;exact yp hc hu pins s σ H _ us Q I r ⟨p,B7,rfl,h1,so,fun l zs fl hz=>Out.l q fl hz⟩
 ·cases e
end
section
variable{X:Cx}{pins:List (Addr×Obj)}{σ:St}{H:Hp}{s:Shared}{P:List Im->Addr->Prop}
end
section
variable{X:Cx}
end
end L2
namespace L2
open PySem PySem.Spec PyProof.Rows
section
variable{X:Cx}
end
section
variable{X:Cx}
theorem yq{scope:Scope}{own:List Str}{caps:List Nat}(h:kH X.env.scope X.N scope caps=true):p_ X scope own caps:=di _ _ h rfl rfl
end
end L2
namespace HT
def ev{α:Type}:List α->List α
 | []=>[]
 | [a]=>[a]
 | a::_::r=>a::ev r
open PySem PySem.Spec PyProof.Rows
section
variable{prog:Program}{w:World}{A:Around}{E:Value->Shared->Prop}{s:Shared}
end
end HT
namespace L2
open PySem PySem.Spec PyProof.Rows
section
variable{X:Cx}
end
end L2
namespace PySem
open Sem (wp)
theorem yr:typeLookup (.type "list") "keys" = pure none:=by rw[typeLookup_type,builtinLookup_eq_fast];kernel_rfl
theorem yt{prog:Program}{w:World}{A:Around}{E:Value->Shared->Prop}{s:Shared}{a:Addr}{xs:Array Value}{k:Nat}{Q:Option Value->Shared->Prop}(hx:s.heap.get? a=some { cls:=.type "list",data:=.seq xs k })(hA:A.handled=none)(h:∀ h' tk,(∀ b o,s.heap.get? b=some o->h'.get? b=some o)->Q none { s with heap:=h',toks:=tk }):wpAny (model prog w) A (getAttr? (.ref a) "keys") Q E s:=by
 obtain⟨hp,g,d,tk,os⟩:=s;have hT:∀ M9,(⟨hp,g,d,M9,os⟩:Shared).TypeIs (.ref a) "list" := fun _=>⟨_,hx,rfl⟩;have f1:=sub_AttributeError;have f3:=X1.lookup;have f4:=X1.bind (.ref a);have f5:=am_list_getattr_none;unfold getAttr? getAttrBy? getAttrBy;repeat (any_goals (first | assumption | exact hT _ | ((with_reducible show wpAny _ _ (call (Value.builtin "list.__getattribute__") _ _) _ _ _);refine Xu X1 (hT _) am_entry_list_getattribute (F.args_list_getattribute_2 _ _) (meets_getattribute_miss_list a xs k _ "keys" _ yr (by decide +kernel) (by decide)) ⟨hx,hA,fun h' M9 e Ek=>?_⟩) | wp_step))
 obtain⟨t',u',he⟩:=Ek.there;show wpAny _ _ (getattributeRaised _ _ _ _ _ _ _) _ _ _;unfold getattributeRaised;have hE:∀ LQ,(⟨h',g,d,LQ,os⟩:Shared).TypeIs (.ref e) "AttributeError" := fun _=>⟨_,he,rfl⟩;repeat (any_goals (first | assumption | exact hE _ | wp_step))
 exact h h' _ Ek.keeps
end PySem
namespace PySem
namespace F
theorem DE:entryFor table "dict.update.loop" = some Builtin.«dict.update.loop»:=entryFor_of_tree (by kernel_rfl)
theorem Ce:plainId "dict.update.loop" = true:=by decide +kernel
end F
end PySem
namespace L2
open PySem PySem.Spec PyProof.Rows PySem.W
variable{pos:Pos}{v k:Expr}
theorem lR{α β:Type}{F:α->β->Prop}:∀ {l₁:List α}{l₂:List β},Paired F l₁ l₂->∀ (i:Nat),i<l₁.length->∃ a b,l₁[i]?=some a/\l₂[i]?=some b/\F a b
 | _,_,.nil,i,h=>by simp at h
 | _,_,.cons r t,0,h=>⟨_,_,rfl,rfl,r⟩
 | _,_,.cons r t,i+1,h=>by
  obtain⟨a,b,x,y,z⟩:=lR t i (by simpa using h);exact⟨a,b,by simpa using x,by simpa using y,z⟩
def Ew:List Im->Option (List<|List Im×Im)
 | []=>some []
 | .tup [.tup k,d]::r=>(Ew r).map fun s=>(k,d)::s
 | _=>none
theorem yu:∀ {x:List Im}{ps:List (List Im×Im)},Ew x=some ps->x=ps.map fun p=>.tup [.tup p.1,p.2]:=by
 intro x;induction x with
 | nil=>intro ps h;cases h;rfl
 | cons a x ih=>
  intro ps h;unfold Ew at h;split at h
  ·cases h;rename_i e;cases e
  ·rename_i k d r e;cases e;obtain⟨s,e1,e2⟩:=Z5.mp h;cases e2;rw[Zy,<- ih e1]
  ·cases h
def gn(ps:List (List Im×Im)):List (List Im×Im):=ps.foldl (fun a p=>dr a p.1 p.2) []
def lS(H:Hp)(v:V)(p:List Im×Im):Prop:=∃ t a y,v=.ref t/\H t=some (.tup [.ref a,y])/\El H p.1 a/\BI H p.2 y
theorem ql{H:Hp}:∀ {ps:List (List Im×Im)}{ys:List V},(∀ p∈ps,Im.keys 7 p.1=true)->am H (ps.map fun p=>.tup [.tup p.1,p.2]) ys->Paired (lS H) ys ps
 | [],ys,_,h=>by rw[show ys=[] from h];exact .nil
 | p::ps,ys,hk,h=>by
  obtain⟨v,r,rfl,⟨t,zs,rfl,h1,v1,r1,rfl,h2,v2,r2,rfl,h3,h4⟩,h5⟩:=h;cases (show r2=[] from h4);obtain⟨a,ws,rfl,g1,g2⟩:=h2;exact .cons ⟨t,a,v2,rfl,h1,⟨hk p<|.head _,a,ws,rfl,g1,g2⟩,h3⟩ (ql (fun q hq=>hk q<|.tail _ hq) h5)
section
variable{X:Cx}{pins:List (Addr×Obj)}{σ:L2.St}{H:Hp}{s0:Shared}
theorem KT.is{kvs:List (List Im×V)}{xs:List (List Im×Addr×Value)}(r:KT H kvs xs):∀ x∈xs,El H x.1 x.2.1:=by
 intro x hx;obtain⟨i,hi,rfl⟩:=Xi.mp hx;obtain⟨p,q,h1,h2,h3,h4,_⟩:=lR r i (by rw[Yq r];exact hi);rw[ZL hi] at h2;have h2:=Zw h2;subst h2;rw[<- h3];exact h4
theorem lT(I0:Inv X pins σ H s0){D:Addr}{h h':Heap}{kvs:List (List Im×V)}{xs:List (List Im×Addr×Value)}(dd:h.DictOfH (cx X.prog X.w) D xs)(kt:KT H kvs xs)(kp:∀ b o,s0.heap.get? b=some o->h'.get? b=some o)(kD:∀ o,h.get? D=some o->h'.get? D=some o):h'.DictOfH (cx X.prog X.w) D xs:=by
 obtain⟨o,es,ep,h1,h2,h3,h4,_,h5⟩:=dd;have I1:Inv X pins σ H { s0 with heap:=h' }:=I0.kept (t':=s0.toks) kp;exact⟨o,es,ep,kD o h1,h2,h3,h4,fun x hx=>d8 (h:=h') I1.l_<|kt.is x hx,h5⟩
theorem yw(I0:Inv X pins σ H s0){A:Around}(hu:A.units+20<cLine){D It l:Addr}{vs:List Value}{ys:List V}{ps:List (List Im×Im)}{St:Nat->Heap->Prop}{R:Result->Shared->Prop}(rv:ay ys vs)(hP:Paired (lS H) ys ps)(hz:ps.length<=1000)(W:Walks X.prog X.w A.in1 It [It,l] [It] vs.length (fun i v=>vs[i]?=some v) St)(nD:s0.heap.get? D=none)(nI:s0.heap.get? It=none)(DI:D≠It)(Dl:D≠l)(fin:∀ (s:Shared) (xs:List (List Im×Addr×Value)) (kvs:List (List Im×V)),(∀ b o,s0.heap.get? b=some o->s.heap.get? b=some o)->s.heap.DictOfH (cx X.prog X.w) D xs->KT H kvs xs->CC H (gn ps) kvs->kvs.length<=1000->
   s.gens=s0.gens->s.drawn=s0.drawn->s.os=s0.os->R (.ok<|.ret .none) s):
  ∀ (m i:Nat) (t:Tok) (s:Shared) (xs:List (List Im×Addr×Value)) (kvs:List (List Im×V)),vs.length - i=m->i<=vs.length->St i s.heap->(∀ b o,s0.heap.get? b=some o->s.heap.get? b=some o)->
   s.heap.DictOfH (cx X.prog X.w) D xs->KT H kvs xs->CC H (gn<|ps.take i) kvs->kvs.length<=i->s.gens=s0.gens->s.drawn=s0.drawn->s.os=s0.os->
   codeAny (model X.prog X.w) A (.builtin "dict.update.loop" ⟨[.ref D,.ref It,.int i t,.none],[]⟩) R s:=by
 have ly:vs.length=ps.length:=by rw[<- rv.length,Yq hP]
 intro m;induction m with
 | zero=>
  intro i t s xs kvs hm hi st kp dd kt hk hl g1 g2 g3;have ei:i=vs.length:=by lia
  refine Wu F.DE ?_;rw[Around.under_plainId F.Ce _];refine Z8 (m:=pyNext (.ref It)) (W.done s _ _ (ei ▸ st) fun h' tk keep=>?_);refine Z8 (m:=Builtin.Dict.addKeywords D []) (ZS<|ZS ?_);have kD:∀ b o,b≠It->s.heap.get? b=some o->h'.get? b=some o:=fun b o hb e=>keep b o (by simpa using hb) e;refine fin _ xs kvs (fun b o e=>kD b o (fun z=>by rw[z,nI] at e;cases e)<|kp b o e) ?_ kt (by rw[XH (by lia)] at hk;exact hk) (by lia) g1 g2 g3;exact lT I0 dd kt (fun b o e=>kD b o (fun z=>by rw[z,nI] at e;cases e)<|kp b o e) fun o e=>kD D o DI e
 | succ m ih=>
  intro i t s xs kvs hm hi st kp dd kt hk hl g1 g2 g3;have lt:i<vs.length:=by lia
  refine Wu F.DE ?_;rw[Around.under_plainId F.Ce _];refine Z8 (m:=pyNext (.ref It)) (W.item i s _ _ lt st fun v h' tk hv o_ keep=>?_);have kD:∀ b o,b≠It->s.heap.get? b=some o->h'.get? b=some o:=fun b o hb e=>keep b o (by simpa using hb) e;obtain⟨y,c,e1,e2,p,a,yv,rfl,hp,ha,hy⟩:=lR hP i (by rw[rv.length];exact lt);obtain⟨u,e3,e4⟩:=rv.get e1;rw[hv] at e3;cases e3;cases e4;have LR:∀ b o,s0.heap.get? b=some o->h'.get? b=some o:=fun b o e=>kD b o (fun z=>by rw[z,nI] at e;cases e) (kp b o e);have I2:Inv X pins σ H { s0 with heap:=h' }:=I0.kept (t':=s0.toks) LR;have GA:=lT I0 dd kt LR fun o e=>kD D o DI e;obtain⟨_,f',OL,o,ho,JR,n,OM⟩:=I2.l_ _ _ hp;obtain⟨w1,w2,rfl,r1,r2⟩:=kn OL;cases r1;show wpAny (model X.prog X.w) A.in1 (holding [.ref p] _ >>= fun _=>again _) _ _ _;refine Z8 (YA<|Z8<|wpAny_tryCatch ?_);unfold Builtin.Dict.pairItems;refine Z8 (wpAny_typeOf (s:={ s with heap:=h',toks:=tk }) (⟨o,ho,JR⟩:Shared.TypeIs { s with heap:=h',toks:=tk } (.ref p) "tuple") ?_);rw[Z0 (by decide)];refine Z8 (YU (s:={ s with heap:=h',toks:=tk }) ho OM<|ZS ?_);show wpAny (model X.prog X.w) A.in1 (holding [.ref a,w2]<|dictSet D (.ref a) w2) _ _ _;refine YA (wpAny_dictSet_heap (s:={ s with heap:=h',toks:=tk }) (k:=c.1) (knd:=cx X.prog X.w) (gL hu) (d8 (h:=h') I2.l_ ha) GA (fun h3 ON sb=>?_) (by
   have:=Yq kt;exact Zo (show xs.length<=1000 by lia) (by decide)))
  have M':∀ b o,b≠D->h'.get? b=some o->h3.get? b=some o:=fun b o hb e=>(sb.2 b hb).trans e;have OO:=kt.put c.1 (b:=a) (y:=yv) (u:=w2) ha r2;have OP:ps.take (i+1)=ps.take i++[c]:=by
   have EV:=(ZA.mp e2);rw[List.take_succ_eq_append_getElem EV.1,EV.2]
  have EW:CC H (gn<|ps.take<|i+1) (bY kvs c.1 yv):=by
   rw[OP];unfold gn;rw[List.foldl_append];exact CC.put hy hk
  refine ZS ⟨plainId_quiet F.Ce _,ih (i+1) 0 _ _ _ (by lia) lt (W.frame _ _ _ o_ fun b hb o e=>M' b o (fun z=>by
    subst z;rcases ZO.mp hb with z | hb
    ·exact DI z
    ·exact Dl (ZW.mp hb)) e) (fun b o e=>M' b o (fun z=>by rw[z,nD] at e;cases e)<|LR b o e) ON OO EW ?_ g1 g2 g3⟩
  unfold bY;split
  ·rw[ZY];lia
  ·simp;lia
theorem yx(hc:X.calm=true)(hu:X.A.units+30<cLine):aX X (.type "dict") (fun xs H Q=>∃ (l:Addr) (ys:List V) (ps:List (List Im×Im)),xs=[.ref l]/\H l=some (.lst ys)/\Paired (lS H) ys ps/\ps.length<=1000/\
  ∀ (d:Addr) (kvs:List (List Im×V)),H d=none->CC H (gn ps) kvs->Q (.ref d) (upd H d<|.dT kvs)):=by
 intro pins s σ H xs us Q I r h;obtain⟨l,ys,ps,rfl,hl,hP,hz,q⟩:=h;obtain⟨u,rfl,ru⟩:=cy r;cases ru;obtain⟨z,f',n,rv,e⟩:=I.l_ l _ hl;have ll:l<s.heap.objs.size:=ZP e;refine callType_codes (Q₁:=fun obj s₁=>obj=.ref s.heap.objs.size/\s₁={ s with heap:=s.heap.push { cls:=.type "dict",data:=.dict #[] } }) PySem.F.kt_called_dict (PySem.F.kt_typeCall_dict_1 _) PySem.F.entry_dict_init (kt_code_dict_new _ ⟨rfl,rfl⟩) ?_;rintro obj s₁ ⟨rfl,rfl⟩;have LS:(s.heap.push { cls:=.type "dict",data:=.dict #[] }).DictOfH (cx X.prog X.w) s.heap.objs.size []:=Heap.DictOfH.new s.heap;have hT:Shared.TypeIs { s with heap:=s.heap.push { cls:=.type "dict",data:=.dict #[] } } (.ref s.heap.objs.size) "dict" := ⟨_,ZF _ rfl,rfl⟩;have el:(s.heap.push { cls:=.type "dict",data:=.dict #[] }).get? l=some { cls:=.type "list",data:=.seq f'.toArray n }:=Z3 _ e;refine⟨hT,PySem.F.args_dict_init_2 _ _,?_⟩;unfold Builtin.«dict.__init__»;refine Z8 ?_;unfold Builtin.Dict.selfAndRest;refine Z8 (wpAny_notOrdered_dict hT ?_);show wpAny _ _ (pure (s.heap.objs.size,[Value.ref l])) _ _ _;refine ZS ?_;show wpAny _ _ (Builtin.Dict.updateFrom "dict.__init__" s.heap.objs.size (.ref l) [] .none) _ _ _;unfold Builtin.Dict.updateFrom;refine Z8 (wpAny_typeOf (⟨_,el,rfl⟩:Shared.TypeIs { s with heap:=s.heap.push { cls:=.type "dict",data:=.dict #[] } } (.ref l) "list") ?_);rw[Z0 (by decide)];refine Z8 (yt (s:={ s with heap:=s.heap.push { cls:=.type "dict",data:=.dict #[] } }) el (I.ok.hd hc) fun h1 tk k1=>?_);rw[Z0 (show (none:Option Value).isNone=true from rfl)];refine Z8 (m:=rule _) (YE ?_);have GK:h1.IsList l f'.toArray:=⟨_,k1 _ _ el,rfl,n,rfl⟩;refine Z8 (XB (s:={ s with heap:=h1,toks:=tk }) GK ?_);have sD:s.heap.objs.size<h1.objs.size:=ZP (k1 _ _<|ZF _ rfl);have kp:∀ b o,s.heap.get? b=some o->(h1.push { cls:=.type "list_iterator",data:=.fields #[.ref l,.int 0 0] }).get? b=some o:=fun b o eb=>Z3 _ (k1 b o<|Z3 _ eb);refine ZS ⟨plainId_quiet PySem.F.Ce _,?_⟩;have OQ:(h1.push { cls:=.type "list_iterator",data:=.fields #[.ref l,.int 0 0] }).DictOfH (cx X.prog X.w) s.heap.objs.size []:=lT I (kvs:=[]) LS .nil kp fun o eo=>Z3 _ (k1 _ _ eo);have lI:l≠h1.objs.size:=Zx (Nat.lt_trans ll sD);refine yw I (A:=X.A.in1) (by show X.A.units+1+20<cLine;lia) (D:=s.heap.objs.size) (It:=h1.objs.size) (l:=l) (St:=fun i h=>h.IsListIter h1.objs.size l i/\h.IsList l f'.toArray) rv hP hz ?_ (Xk<|ZR _) (Xk<|WB sD) (Zx sD) (W7 ll)
  (fun s' xs kvs OR FM OS hk hlen g1 g2 g3=>?_) f'.length 0 0 _ [] [] rfl (Ys _) ?_ kp OQ .nil .nil (ZR _) rfl rfl rfl
 ·have W:=Walks.list (prog:=X.prog) (w:=X.w) (A:=X.A.in1.in1) (I.ok.hd hc) h1.objs.size l lI f'.toArray;have e1:(fun (i:Nat) (v:Value)=>f'.toArray[i]?=some v)=fun i v=>f'[i]?=some v:=by
   funext i v;rw[List.getElem?_toArray]
  rw[e1,ZU] at W;exact W
 ·obtain⟨h',g',d',t',Iu⟩:=s';have g1:g'=s.gens:=g1;have g2:d'=s.drawn:=g2;have g3:Iu=s.os:=g3;subst g1 g2 g3;have fD:H s.heap.objs.size=none:=I.l_.fresh (ZR _);obtain⟨o,es,ep,OT,Hy,OU,OV,_,OW⟩:=FM;refine⟨rfl,.ref s.heap.objs.size,_,I.laid (o:=.dT kvs) (h':=h') (t':=t') OR (ZR _) ⟨Zo (show kvs.length<=1000 by lia) (by decide),Xa.mpr<|Yw<|Zx I.big,xs,OS.keeps fun b ys eb=>oa eb fD,o,es,ep,OT,Hy,OU,OV,OW⟩,rfl,q _ kvs fD hk⟩
 ·exact⟨⟨_,ZF _ rfl,rfl,rfl⟩,GK.push _⟩
@[simp] def vDict:OpN:=fun ds=>match ds with
 | [.lst x]=>(Ew x).bind fun ps=>if (ps.all fun p=>Im.keys 7 p.1)=true/\ps.length<=1000 then some (.dT<|gn ps) else none
 | _=>none
theorem yy(hc:X.calm=true)(hu:X.A.units+30<cLine):cF X (.type "dict") vDict:=by
 refine (yx hc hu).imp fun xs H Q ⟨ds,d,rd,e,q⟩=>?_;unfold vDict at e;split at e
 ·rename_i x;obtain⟨ps,e1,e2⟩:=Z9.mp e;split at e2
  ·rename_i hp;cases e2;obtain⟨v,rfl,_,p,ys,rfl,h1,h2,_⟩:=bL rd;rw[yu e1] at h2;refine⟨p,ys,ps,rfl,h1,ql (fun q hq=>Zk.mp hp.1 q hq) h2,hp.2,fun d kvs hd hk=>?_⟩;have s:aF H (upd H d<|.dT kvs):=(aF.refl H).upd hd;exact q _ _ [d] s ⟨d,kvs,rfl,bo,hk.mono s.tupS.tup,rfl⟩ (ZB _ _) fun a ha=>by rw[ZW.mp ha];exact hd
  ·cases e2
 ·cases e
end
section
variable{X:Cx}
def yz(tk tv:TE):TE:=fun σ H Q=>∀ p,H p=none->tk σ (upd H p<|.dT []) fun x H1=>tv σ H1 fun y H2=>∃ b k,x=.ref b/\El H2 k b/\H2 p=some (.dT [])/\Q (.ref p) (upd H2 p<|.dT [(k,y)])
theorem yA{tk tv:TE}(hu:X.A.units+20<cLine)(hk:PE X k tk)(hv:PE X v tv):PE X (.Dict [some k] [v] pos) (yz tk tv):=by
 intro pins s σ H Q I q;have hn:=I.l_.fresh (ZR s.heap.objs.size);have I1:=I.laid (a:=s.heap.objs.size) (o:=.dT []) (h':=s.heap.push { cls:=.type "dict",data:=.dict #[] }) (t':=s.toks) (fun _ _ q=>Z3 _ q) (ZR _) (nL s.heap I.big);refine wpAny_Dict_any rfl rfl (by simp) (by simp) ?_;refine pairTrees_cons_walk (A_ (hk pins _ σ _ _ I1<|q _ hn) fun u s1 ⟨x,H1,I2,rx,q1⟩=>A_ (hv pins s1 σ H1 _ I2 q1) fun w2 s2 ⟨y,H2,I3,ry,b,c,ex,hb,hp,q2⟩=>pairTrees_nil_walk ?_);subst ex;cases rx;obtain⟨z,LU,xs,kt,dd⟩:=nJ I3.l_ hp;cases kt;unfold storeAll;rw[Xe];refine Z8 (Z8 (wpAny_dictSet_heap (k:=c) (knd:=cx X.prog X.w) (show X.A.units+10<cLine by lia) (d8 I3.l_ hb) dd (fun h' FM sb=>ZS ?_)<|Ys _));refine ZS ⟨.ref s.heap.objs.size,_,?_,rfl,q2⟩;obtain⟨q',es,ep,hq,h2,h3,h4,_,h5⟩:=FM;refine kC (s:=s2) I3 (by rw[hp];exact True.intro) sb ⟨q',hq⟩ ⟨(show 1<=sizeLine by decide),LU,_,KT.keeps (KT.put (kvs:=[]) (xs:=[]) .nil c (b:=b) hb ry) fun cc ys ec=>?_,q',es,ep,hq,h2,h3,h4,h5⟩;rw[aE (mS ec hp<|fun z=>nomatch z)];exact ec
@[simp] def qm(gk gv:M Vl):M Vl:=fun D=>(gk D).bind fun p=>(gv p.2).bind fun q=>match p.1,q.1 with
 | .im (.tup k),.im d=>if Im.keys 7 k=true then some (.dT [(k,d)],q.2) else none
 | _,_=>none
theorem yB{gk gv:M Vl}(hu:X.A.units+20<cLine)(hk:VE X k gk)(hv:VE X v gv):VE X (.Dict [some k] [v] pos) (qm gk gv):=by
 refine aQ (yA hu hk hv) fun σ H Q ⟨D,F,r,D',st,nd,Di,q⟩ p hp=>?_;obtain⟨⟨d1,D1⟩,h1,h2⟩:=Z9.mp Di;obtain⟨⟨d2,D2⟩,h3,h4⟩:=Z9.mp h2;have s:aF H (L2.upd H p<|.dT []):=(aF.refl H).upd hp;have hF:p∉F:=fun z=>by obtain⟨o,e,_⟩:=st.chg p z;rw[hp] at e;cases e
 refine⟨D,F,d1,D1,st.mono s.tupS fun a _ o e=>s a o e,nd,h1,fun x H1 F1 R1 s_ o1 s1=>?_⟩;have Kb:=ZM.mp s1.nd;refine⟨D1,F1,d2,D2,s_,Kb.1,h3,fun y H2 F2 R2 o_ o2 s2=>?_⟩;dsimp only at h4;split at h4
 ·rename_i kk dd;split at h4
  ·rename_i OX;cases h4;obtain⟨w1,rfl⟩:=o1;obtain⟨w2,rfl⟩:=o2;rw[ZZ] at s1 s2;have Km:=s1.seq s2;have IO:H1 p=some (.dT []):=s1.keep p _ bo hF;have M_:p∉F1:=fun z=>by
    rcases s1.sub p z with h | h
    ·exact hF h
    ·rw[bo] at h;cases h
   have ET:H2 p=some (.dT []):=s2.keep p _ IO M_;have Na:p∉F2:=fun z=>by
    rcases s2.sub p z with h | h
    ·exact M_ h
    ·rw[IO] at h;cases h
   obtain⟨b,xs,rfl,k1,k2⟩:=(show BI H2 (.tup kk) x from w1.mono s2.tup.tup);refine⟨b,kk,rfl,⟨OX,b,xs,rfl,k1,k2⟩,ET,?_⟩;have Cs:BD H2 (L2.upd H2 p<|.dT [(kk,y)]):=BD.of (fun a xs e=>by
    have:a≠p:=fun z=>by subst z;rw[ET] at e;cases e
    rw[aE this];exact e) fun a o u e=>by
    have:a≠p:=fun z=>by subst z;rw[ET] at e;cases e
    rw[aE this];exact e
   refine q _ _ F2 [p] (o_.mono Cs fun a ha o e=>by
    have ne:a≠p:=fun z=>by subst z;exact Na ha
    rw[aE ne];exact e) ⟨p,[(kk,y)],rfl,bo,.cons ⟨rfl,w2.mono Cs.tup⟩ .nil,rfl⟩ ?_
   refine⟨fun a o e ha=>?_,fun a ha=>?_,?_,?_,fun a o e=>?_⟩
   ·have:a≠p:=fun z=>by subst z;rw[hp] at e;cases e
    rw[aE this];exact Km.keep a o (by rw[aE this];exact e) ha
   ·rcases ZE.mp ha with h | h
    ·rcases Km.sub a h with h' | h'
     ·exact .inl h'
     ·by_cases e:a=p
      ·exact .inr (e ▸ hp)
      ·rw[aE e] at h';exact .inr h'
    ·exact .inr (by rw[ZW.mp h];exact hp)
   ·exact ZM.mpr ⟨s2.nd,ZB _ _,fun a ha b hb e=>Na (by rw[ZW.mp hb] at e;rw[<- e];exact ha)⟩
   ·exact (s.tupS.trans Km.tup).trans Cs
   ·by_cases z:a=p
    ·exact⟨_,by rw[z];exact bo⟩
    ·obtain⟨o',e'⟩:=Km.grow a o (by rw[aE z];exact e);exact⟨o',by rw[aE z];exact e'⟩
  ·cases h4
 ·cases h4
end
section
variable{prog:Program}{w:World}{A:Around}{E:Value->Shared->Prop}{s:Shared}
end
section
variable{prog:Program}{w:World}{A:Around}{E:Value->Shared->Prop}{s:Shared}
end
section
open PySem.SeqAt
open PySem.AutoSeq1 (wpAny_loadPart')
open PySem.MeetsSeq PySem.MeetsSeq2 PySem.MeetsSeq3
end
section
variable{X:Cx}
end
section
variable{prog:Program}{w:World}{A:Around}{E:Value->Shared->Prop}{s:Shared}
end
section
variable{prog:Program}{w:World}{A:Around}{E:Value->Shared->Prop}{s:Shared}
end
section
variable{X:Cx}
end
section
variable{X:Cx}
end
mutual
def Kn:Im->PyData
 | .int i=>.int i
 | .bl b=>.bool b
 | .str x=>.str x
 | .tup ds=>.tuple (ie ds)
 | _=>.none
def ie:List Im->List PyData
 | []=>[]
 | d::r=>Kn d::ie r
end
mutual
theorem yC{h:Heap}:∀ {n:Nat}{d:Im}{u:Value},Im.pl n d=true->Ci h d u->Reads h u (Kn d) []
 | _,.j_,u,_,e=>by cases (show u=.none from e);exact .none
 | _,.bl b,u,_,e=>by cases (show u=.bool b from e);exact .bool b
 | _,.int i,u,_,e=>by obtain⟨t,rfl⟩:=e;exact .int i t
 | _,.str x,u,_,e=>by obtain⟨t,rfl⟩:=e;exact .str x t
 | n+1,.tup ds,u,k,e=>by
  obtain⟨a,o,items,m,rfl,h1,h2,h3,h4⟩:=e;exact .tuple h1 h2 h3 (qo (n:=n) k h4)
 | 0,.tup ds,u,k,e=>by cases k
 | n,.fn a,u,k,e=>by cases n<;>cases k
 | n,.fl a,u,k,e=>by cases n<;>cases k
 | n,.fd,u,k,e=>by cases n<;>cases k
theorem qo{h:Heap}:∀ {n:Nat}{ds:List Im}{us:List Value},Im.pls n ds=true->aJ h ds us->ReadsAll h us (ie ds) []
 | _,[],us,_,e=>by rw[show us=[] from e];exact .nil
 | n,d::ds,us,k,e=>by
  obtain⟨v,r,rfl,h1,h2⟩:=e;rw[Im.pls,ZV] at k;exact .cons (yC k.1 h1) (qo k.2 h2)
end
mutual
theorem yD:∀ d:Im,PyData.hasDict (Kn d)=false
 | .j_=>rfl
 | .bl _=>rfl
 | .int _=>rfl
 | .str _=>rfl
 | .fn _=>rfl
 | .fl _=>rfl
 | .fd=>rfl
 | .tup ds=>qp ds
theorem qp:∀ ds:List Im,PyData.hasDictAll (ie ds)=false
 | []=>rfl
 | d::r=>by
  show (PyData.hasDict (Kn d) || PyData.hasDictAll (ie r))=false;rw[yD d,qp r];rfl
end
section
variable{X:Cx}
end
section
variable{prog:Program}{w:World}{A:Around}{E:Value->Shared->Prop}{s:Shared}
end
section
variable{X:Cx}
end
def eO:List Im->Im->Option Nat
 | [],_=>none
 | x::r,d=>if az x d=true then some 0 else (eO r d).map (·+1)
theorem qq{h:Heap}{d:Im}:∀ {ds:List Im}{vs:List Value}{j:Nat},Im.pls 8 ds=true->aJ h ds vs->eO ds d=some j->
  ∃ v,vs[j]?=some v/\c9 h d v=true/\∀ m u,m<j->vs[m]?=some u->c9 h d u=false
 | [],vs,j,_,_,e=>by cases e
 | x::ds,vs,j,k,iv,e=>by
  obtain⟨v,r,rfl,h1,h2⟩:=iv;rw[Im.pls,ZV] at k;unfold eO at e;split at e
  ·rename_i z;cases e;exact⟨v,rfl,by rw[dJ k.1 h1];exact z,fun m u hm=>absurd hm<|Nat.not_lt_zero m⟩
  ·rename_i z;obtain⟨i,e1,rfl⟩:=Z5.mp e;obtain⟨w,g1,g2,g3⟩:=qq k.2 h2 e1;refine⟨w,g1,g2,fun m u hm hu=>?_⟩;cases m with
   | zero=>
    cases hu;rw[dJ k.1 h1];exact Bool.eq_false_iff.mpr z
   | succ m=>exact g3 m u (by lia) hu
section
variable{X:Cx}
theorem yE(hu:X.A.units+20<cLine):Iw X "list.index" (fun x vs H Q=>∃ (d:Im) (ds:List Im) (y:V) (j:Nat),vs=[y]/\BI H d y/\Dz H (.lst ds) x/\Im.pl 8 d=true/\Im.pls 8 ds=true/\eO ds d=some j/\j<100000/\Q (.int j) H):=by
 intro pins s σ H x vs v us Q I rx rv h;obtain⟨d,ds,y,j,rfl,hy,r2,k1,k2,e,hj,q⟩:=h;obtain⟨u,rfl,ru⟩:=rv.one;obtain⟨_,a,xs,rfl,h1,h2,_⟩:=r2;cases rx;obtain⟨z,f',n,rr,e1⟩:=I.l_ a _ h1;have iv:=h2.Du I.l_ rr;obtain⟨w,g1,g2,g3⟩:=qq k2 iv e;obtain⟨hl,hw⟩:=ZA.mp g1;refine Xu F.slot_list_index ⟨_,e1,rfl⟩ F.entry_list_index (F.args_list_index_2 _ _) (SeqAt.list_indexAt a f'.toArray n _ _ u (c9 s.heap d) j (by simpa using hl) (by lia) (by simpa [hw] using g2) (fun m hm OY=>g3 m _ OY (by simp))) ⟨e1,fun w hw=>?_,?_⟩
 ·obtain⟨z,z1,z2⟩:=fA k2 iv (by simpa using hw);rw[dJ z1 z2];exact cw 8 z1 k1 (by show X.A.units+1+8+1<cLine;lia) z2 (hy.Du I.l_ ru)
 ·exact⟨.int j,H,I.kept (t':=s.toks+1) fun b o e=>e,⟨_,rfl⟩,q⟩
@[simp] def lU:Op2:=fun a b=>match a,b with
 | .lst ds,.im d=>if (Im.pl 8 d && Im.pls 8 ds)=true/\ds.length<=100000 then (eO ds d).map fun (j:Nat)=>Vl.im (.int (j:Int)) else none
 | _,_=>none
theorem qr:∀ {ds:List Im}{d:Im}{j:Nat},eO ds d=some j->j<ds.length
 | [],d,j,e=>by cases e
 | x::ds,d,j,e=>by
  unfold eO at e;split at e
  ·cases e;exact Nat.succ_pos _
  ·obtain⟨i,e1,rfl⟩:=Z5.mp e;exact Nat.succ_lt_succ (qr e1)
theorem yF{a b d:Vl}(h:lU a b=some d):∃ ds dd j,a=.lst ds/\b=.im dd/\Im.pl 8 dd=true/\Im.pls 8 ds=true/\eO ds dd=some j/\j<100000/\d=.im (.int (j:Nat)):=by
 unfold lU at h;split at h
 ·rename_i ds dd;split at h
  ·rename_i hp;obtain⟨j,e1,e2⟩:=Z5.mp h;rw[ZV] at hp;exact⟨ds,dd,j,rfl,rfl,hp.1.1,hp.1.2,e1,Zz (qr e1) hp.2,e2.symm⟩
  ·cases h
 ·cases h
@[simp] def qt:Vl->Bool
 | .lst _=>true
 | _=>false
@[simp] def lV(go ga:M Opd):M Vl:=fun D=>(go D).bind fun p=>(rsl p.2 p.1).bind fun l=>if qt l=true then (ga p.2).bind fun q=>(rsl q.2 p.1).bind fun d1=>(rsl q.2 q.1).bind fun d2=>(lU d1 d2).map fun d=>(d,q.2) else none
theorem yG{o e:Expr}{go ga:M Opd}{apos w_:Pos}(hu:X.A.units+20<cLine)(ho:VO X o go)(ha:VO X e ga)(B8:attributeBase o "index" X.env (eval o X.env)=eval o X.env:=by rfl)(Eo:((backTo w_<|starEach [e] X.env).all (fun x=>!x.1) && (backToKw w_<|keywordEach [] X.env).all (fun x=>x.1.isSome)
   && decide ([e].length+([]:List Keyword).length+(if ([]:List Keyword).isEmpty then 0 else 1)<30))=true:=by rfl)(B9:(apos.endLine == w_.line)=true:=by rfl)(hs:starEach [e] X.env=(false,eval e X.env)::starEach [] X.env:=by rfl)(Cm:(backTo w_<|starEach [] X.env).any (·.1)=false:=by rfl):
  VE X (.Call (.Attribute o "index" apos) [e] [] w_) (lV go ga):=by
 refine aQ (kw F.plainAttrs_list F.slot_list_index F.type_list_index (yE hu) ho (ah ha fm hs) B8 Eo B9 hs Cm) fun σ H Q ⟨D,F,r,D',st,nd,hg,q⟩=>?_;unfold lV at hg;obtain⟨⟨x,D1⟩,ha,hg⟩:=Z9.mp hg;obtain⟨l,hl,hg⟩:=Z9.mp hg;split at hg
 ·rename_i il;obtain⟨⟨y,D2⟩,hb,hg⟩:=Z9.mp hg;obtain⟨d1,h1,hg⟩:=Z9.mp hg;obtain⟨d2,h2,hg⟩:=Z9.mp hg;obtain⟨d,h3,hg⟩:=Z5.mp hg;cases hg;refine⟨D,F,x,D1,st,nd,ha,fun v H1 F1 R1 s_ o1 s1=>⟨?_,D1,F1,[y],_,s_,(ZM.mp s1.nd).1,by unfold aa;rw[hb];rfl,fun vs H2 F2 R2 o_ o2 s2=>?_⟩⟩
  ·have rd:=o1.read s_ hl;obtain⟨R,ow⟩:=rd;refine fy H1 l v R ow ?_;cases l<;>first | rfl | cases il
  ·obtain⟨u,r',S1,S2,rfl,o2,⟨rfl,rfl⟩,rfl⟩:=o2;have LV:=o1.mono s2.tup fun a ha o e=>s2.keep a o e fun h=>(ZM.mp s1.nd).2.2 a h a ha rfl;have r1:=LV.read o_ h1;have r2:=o2.read o_ h2;obtain⟨ds,dd,j,rfl,rfl,p1,p2,e1,e2,rfl⟩:=yF h3;refine⟨dd,ds,u,j,rfl,r2.i,r1,p1,p2,e1,e2,?_⟩;refine q (.int j) H2 F2 [] o_ ⟨rfl,rfl⟩ ?_;have s3:=s1.trans s2 o1.chg;exact s3.less (C:=S1++R1) (by simp)
 ·cases hg
end
section
variable{X:Cx}{kt:List (Addr×List Im)}{kd:List (Addr×List (List Im×Addr))}
end
variable{K:PySem.W.Frag}{P:Program}{w:World}
end L2
namespace L2
open PySem PySem.Spec PyProof.Rows PySem.W
def OZ(D:SD)(i:Nat)(ds:List Im):Bool:=match D[i]? with
 | some (some<|.lst y)=>decide (y=ds)
 | _=>false
section
variable{X:Cx}
end
def uzV:Vl->Vl
 | .im (.fl x)=>.fz x
 | d=>d
@[simp] theorem Bk(x:List Im):uzV (.im<|.fl x)=.fz x:=rfl
@[simp] theorem Bl(x:List Im):uzV (.im<|.tup x)=.im (.tup x):=rfl
section
variable{X:Cx}
end
def Ex(ds:List Im)(d:Im):Nat:=ds.countP fun x=>az x d
theorem qu{h:Heap}{d:Im}:∀ {ds:List Im}{vs:List Value},Im.pls 8 ds=true->aJ h ds vs->vs.countP (c9 h d)=Ex ds d
 | [],vs,_,iv=>by cases (show vs=[] from iv);rfl
 | x::ds,vs,k,iv=>by
  obtain⟨v,r,rfl,h1,h2⟩:=iv;rw[Im.pls,ZV] at k;unfold Ex;rw[Xo,Xo,dJ k.1 h1,qu k.2 h2];rfl
section
variable{X:Cx}
theorem yH(hu:X.A.units+20<cLine):Iw X "list.count" (fun x vs H Q=>∃ (d:Im) (ds:List Im) (y:V),vs=[y]/\BI H d y/\Dz H (.lst ds) x/\Im.pl 8 d=true/\Im.pls 8 ds=true/\Q (.int<|Ex ds d) H):=by
 intro pins s σ H x vs v us Q I rx rv h;obtain⟨d,ds,y,rfl,hy,r2,k1,k2,q⟩:=h;obtain⟨u,rfl,ru⟩:=rv.one;obtain⟨_,a,xs,rfl,h1,h2,_⟩:=r2;cases rx;obtain⟨z,f',n,rr,e1⟩:=I.l_ a _ h1;have iv:=h2.Du I.l_ rr;refine Xu F.slot_list_count ⟨_,e1,rfl⟩ F.entry_list_count (F.args_list_count_2 _ _) (SeqAt.list_countAt a f'.toArray n _ _ u<|c9 s.heap d) ⟨e1,fun w hw=>?_,?_⟩
 ·obtain⟨z,z1,z2⟩:=fA k2 iv (by simpa using hw);rw[dJ z1 z2];exact cw 8 z1 k1 (by show X.A.units+1+8+1<cLine;lia) z2 (hy.Du I.l_ ru)
 ·refine⟨.int<|Ex ds d,H,I.kept (t':=s.toks+1) fun b o e=>e,⟨_,by rw[<- qu k2 iv]⟩,q⟩
@[simp] def lW:Op2:=fun a b=>match a,b with
 | .lst ds,.im d=>if (Im.pl 8 d && Im.pls 8 ds)=true then some (.im<|.int (Ex ds d:Nat)) else none
 | _,_=>none
theorem yI{a b d:Vl}(h:lW a b=some d):∃ ds dd,a=.lst ds/\b=.im dd/\Im.pl 8 dd=true/\Im.pls 8 ds=true/\d=.im (.int (Ex ds dd:Nat)):=by
 unfold lW at h;split at h
 ·rename_i ds dd;split at h
  ·rename_i hp;cases h;rw[ZV] at hp;exact⟨ds,dd,rfl,rfl,hp.1,hp.2,rfl⟩
  ·cases h
 ·cases h
@[simp] def lX(go ga:M Opd):M Vl:=fun D=>(go D).bind fun p=>(rsl p.2 p.1).bind fun l=>if qt l=true then (ga p.2).bind fun q=>(rsl q.2 p.1).bind fun d1=>(rsl q.2 q.1).bind fun d2=>(lW d1 d2).map fun d=>(d,q.2) else none
theorem yJ{o e:Expr}{go ga:M Opd}{apos w_:Pos}(hu:X.A.units+20<cLine)(ho:VO X o go)(ha:VO X e ga)(B8:attributeBase o "count" X.env (eval o X.env)=eval o X.env:=by rfl)(Eo:((backTo w_<|starEach [e] X.env).all (fun x=>!x.1) && (backToKw w_<|keywordEach [] X.env).all (fun x=>x.1.isSome)
   && decide ([e].length+([]:List Keyword).length+(if ([]:List Keyword).isEmpty then 0 else 1)<30))=true:=by rfl)(B9:(apos.endLine == w_.line)=true:=by rfl)(hs:starEach [e] X.env=(false,eval e X.env)::starEach [] X.env:=by rfl)(Cm:(backTo w_<|starEach [] X.env).any (·.1)=false:=by rfl):
  VE X (.Call (.Attribute o "count" apos) [e] [] w_) (lX go ga):=by
 refine aQ (kw F.plainAttrs_list F.slot_list_count F.type_list_count (yH hu) ho (ah ha fm hs) B8 Eo B9 hs Cm) fun σ H Q ⟨D,F,r,D',st,nd,hg,q⟩=>?_;unfold lX at hg;obtain⟨⟨x,D1⟩,ha,hg⟩:=Z9.mp hg;obtain⟨l,hl,hg⟩:=Z9.mp hg;split at hg
 ·rename_i il;obtain⟨⟨y,D2⟩,hb,hg⟩:=Z9.mp hg;obtain⟨d1,h1,hg⟩:=Z9.mp hg;obtain⟨d2,h2,hg⟩:=Z9.mp hg;obtain⟨d,h3,hg⟩:=Z5.mp hg;cases hg;refine⟨D,F,x,D1,st,nd,ha,fun v H1 F1 R1 s_ o1 s1=>⟨?_,D1,F1,[y],_,s_,(ZM.mp s1.nd).1,by unfold aa;rw[hb];rfl,fun vs H2 F2 R2 o_ o2 s2=>?_⟩⟩
  ·have rd:=o1.read s_ hl;obtain⟨R,ow⟩:=rd;refine fy H1 l v R ow ?_;cases l<;>first | rfl | cases il
  ·obtain⟨u,r',S1,S2,rfl,o2,⟨rfl,rfl⟩,rfl⟩:=o2;have LV:=o1.mono s2.tup fun a ha o e=>s2.keep a o e fun h=>(ZM.mp s1.nd).2.2 a h a ha rfl;have r1:=LV.read o_ h1;have r2:=o2.read o_ h2;obtain⟨ds,dd,rfl,rfl,p1,p2,rfl⟩:=yI h3;refine⟨dd,ds,u,rfl,r2.i,r1,p1,p2,?_⟩;refine q (.int (Ex ds dd:Nat)) H2 F2 [] o_ ⟨rfl,rfl⟩ ?_;have s3:=s1.trans s2 o1.chg;exact s3.less (C:=S1++R1) (by simp)
 ·cases hg
end
end L2
namespace G
open PySem L2
noncomputable def qv:MS:=(ak (aw 2<|eC<|.int 0)<|ak (sIf (kB<|ae vLt (oSl 1)<|oV<|aA vLen<|aa (oSl 0) aNil) (aw 2<|ae vIx (oSl 0)<|oSl 1) sNil)<|ak (aw 3<|ae vMul (oV<|ae vMul (oV<|ae vPow (oV<|eC<|.int 10)<|oV<|eC<|.int 60)<|oV<|ae vPow (oV<|eC<|.int 10)<|oV<|eC<|.int 60)<|oV<|ae vPow (oV<|eC<|.int 10)<|oV<|eC<|.int 60)<|ak (aw 4<|ae vMul (oV<|ae vMod (oSl 2)<|oSl 3)<|oV<|aA vInt<|aa (oV<|ae vGe (oSl 2)<|oV<|ae vPow (oV<|eC<|.int 10)<|oV<|eC<|.int 18) aNil)<|aO<|aY<|aa (oSl 4)<|aa (oV<|ae vAdd (oV<|ae vAdd (oV<|ae vMod (oSl 2)<|oV<|eC<|.int 2305843009213693951)<|oV<|ae vMul (oV<|eC<|.int 7919)<|oSl 1)<|oV<|eC<|.int 3)<|aa (oV<|eC<|.int 0) aNil)
noncomputable def ig:Fn:=aS 2 5 [0,1] qv
noncomputable def qw:MS:=(ak (sIf (kB<|ae vGt (oV<|ae vIx (oSl 0)<|oV<|eC<|.int 0)<|oV<|eC<|.int 0) (ak (aw 2<|ae vMod (oV<|ae vIx (oSl 0)<|oV<|eC<|.int 0)<|oSl 1)<|ak (cG (ae vDiv (oV<|ae vIx (oSl 0)<|oV<|eC<|.int 0)<|oSl 1)<|gIx 0 (eC<|.int 0) putV)<|aO<|bK 2) sNil)<|ak (cG (ae vAdd (oV<|ae vIx (oSl 0)<|oV<|eC<|.int 2)<|oV<|eC<|.int 1)<|gIx 0 (eC<|.int 2) putV)<|ak (aw 3<|ae vIx (oSl 0)<|oV<|eC<|.int 2)<|ak (aw 4<|ae vMod (oV<|ae vMul (oV<|ae vIx (oSl 0)<|oV<|eC<|.int 1)<|oV<|ae vAdd (oV<|ae vAdd (oV<|eC<|.int 48271)<|oV<|ae vMul (oV<|ae vMul (oV<|eC<|.int 2)<|oSl 3)<|oSl 3)<|oV<|ae vMul (oV<|eC<|.int 65537)<|oSl 3)<|oV<|eC<|.int 2305843009213693921)<|ak (aw 5<|ae vAdd (oV<|ae vAdd (oV<|ae vMod (oSl 4)<|oV<|eC<|.int 1000003)<|oV<|ae vMul (oSl 3)<|oV<|eC<|.int 99991)<|oV<|eC<|.int 11)<|ak (aw 4<|ae vMod (oV<|ae vMul (oSl 4)<|oSl 5)<|oV<|eC<|.int 2305843009213693907)<|aO<|ae vMod (oV<|ae vAdd (oV<|ae vDiv (oSl 4)<|oV<|eC<|.int 97)<|oV<|ae vDiv (oSl 4)<|oV<|eC<|.int 1000033)<|oSl 1)
noncomputable def br:Fn:=aS 2 6 [0,1] qw
noncomputable def lY:MS:=(aO<|ae vIx (oSl 1)<|oV<|ar 2 G.br<|aa (oSl 0)<|aa (oV<|aA vLen<|aa (oSl 1) aNil) aNil)
noncomputable def ce:Fn:=aS 2 2 [0,1] lY
noncomputable def jJ(rec:Fn):M Vl:=(ar 2 rec<|aa (oSl 0)<|aa (oSl 1) aNil)
noncomputable def jK(rec:Fn):MS:=(ak (sIf (cb<|oV<|eF "tuple"<|oSl 1) (ak (sIf (kOr (dk<|cb<|oV<|eF "tuple"<|oSl 0)<|kB<|ae vNe (oV<|aA vLen<|aa (oSl 0) aNil)<|oV<|aA vLen<|aa (oSl 1) aNil) (aO<|eC<|.bl false) sNil)<|aO<|aA vAll<|aa (oV<|aZ 2 [] (iZ<|aa (oSl 0)<|aa (oSl 1) aNil) (gT 2<|cq (gN 0)<|cq (gN 1) gNil') kYes<|G.jJ rec) aNil) sNil)<|ak (sIf (kB<|ae (oIs false) (oSl 1)<|oV<|eC .j_) (aO<|ae (oIs false) (oSl 0)<|oV<|eC .j_) sNil)<|ak (sIf (cb<|oV<|eF "str"<|oSl 1) (aO<|eB<|dm (kB<|eF "str"<|oSl 0)<|kB<|ae vEq (oSl 0)<|oSl 1) sNil)<|aO<|eB<|dm (kB<|eF "int"<|oSl 0)<|dm (kB<|eB<|dk<|kB<|eF "bool"<|oSl 0)<|kB<|ae vEq (oSl 0)<|oSl 1)
noncomputable def cV:Nat->Fn
 | 0=>fun _=>none
 | k+1=>aS 2 2 [0,1] (jK<|cV k)
noncomputable def jL:MS:=(ak (aw 10<|aY<|aa (oV<|ae vEq (oV<|ar 2 G.br<|aa (oSl 0)<|aa (oV<|eC<|.int 2) aNil)<|oV<|eC<|.int 0)<|aa (oV<|ae vGt (oV<|ar 2 G.br<|aa (oSl 0)<|aa (oV<|eC<|.int 6) aNil)<|oV<|eC<|.int 0)<|aa (oV<|eC<|.bl true) aNil)<|ak (er<|c7 fw 10 mAppend<|aa (oV<|eB<|kOr (kB<|ae vEq (oV<|ae vMod (oSl 8)<|oV<|eC<|.int 2)<|oV<|eC<|.int 0)<|kB<|ae vEq (oSl 9)<|oV<|ae vMod (oV<|ae vDiv (oSl 8)<|oV<|eC<|.int 2)<|oSl 3) aNil)<|ak (aw 10<|ae vAdd (oSl 10)<|oV<|aY<|aa (oV<|eB<|kOr (kB<|ae vIn (oSl 8)<|oV<|aG<|aa (oV<|eC<|.int 0)<|aa (oV<|ae vSub (oSl 2)<|oV<|eC<|.int 1) aNil)<|kB<|ae vIn (oSl 9)<|oV<|aG<|aa (oV<|eC<|.int 0)<|aa (oV<|ae vSub (oSl 3)<|oV<|eC<|.int 1) aNil)<|aa (oV<|eC<|.bl false) aNil)<|sIf (cb<|oV<|ae vIx (oSl 10)<|oSl 6) (cG (eC<|.bl true)<|gIx 7 (aG<|aa (oV<|ae vAdd (oSl 8)<|oSl 4)<|aa (oV<|ae vAdd (oSl 9)<|oSl 5) aNil) putA) sNil)
noncomputable def jM:MS:=(b8 (iR1<|aa (oSl 3) aNil) (gN 9) G.jL)
noncomputable def ii:MS:=(ak (cG (eC<|.bl true)<|gIx 7 (aG<|aa (oV<|ae vAdd (oSl 8)<|oSl 4)<|aa (oV<|ae vAdd (oSl 9)<|oSl 5) aNil) putA)<|ak (cG (ar 2 G.ce<|aa (oSl 0)<|aa (oV<|aY<|aa (oV<|aG<|aa (oV<|eC<|.int 1)<|aa (oV<|eC<|.int 0) aNil)<|aa (oV<|aG<|aa (oV<|eC<|.int 0)<|aa (oV<|eC<|.int 1) aNil)<|aa (oV<|aG<|aa (oV<|eC<|.int 0)<|aa (oV<|eC<|.int 1) aNil)<|aa (oV<|aG<|aa (oV<|lc<|eC<|.int 1)<|aa (oV<|eC<|.int 0) aNil)<|aa (oV<|aG<|aa (oV<|eC<|.int 0)<|aa (oV<|lc<|eC<|.int 1) aNil)<|aa (oV<|aG<|aa (oV<|eC<|.int 1)<|aa (oV<|eC<|.int 0) aNil) aNil) aNil)<|gT 2<|cq (gN 12)<|cq (gN 13) gNil')<|ak (aw 8<|aA vMin2<|aa (oV<|ae vSub (oSl 2)<|oV<|eC<|.int 1)<|aa (oV<|aA vMax2<|aa (oV<|eC<|.int 0)<|aa (oV<|ae vAdd (oSl 8)<|oSl 12) aNil) aNil)<|aw 9<|aA vMin2<|aa (oV<|ae vSub (oSl 3)<|oV<|eC<|.int 1)<|aa (oV<|aA vMax2<|aa (oV<|eC<|.int 0)<|aa (oV<|ae vAdd (oSl 9)<|oSl 13) aNil) aNil)
noncomputable def qx:MS:=(ak (aw 1<|eC<|.int 8)<|ak (sIf (kB<|ae vEq (oV<|ar 2 G.br<|aa (oSl 0)<|aa (oV<|eC<|.int 8) aNil)<|oV<|eC<|.int 0) (aw 1<|eC<|.int 12) sNil)<|ak (eu 2 3<|aa (oV<|ae vAdd (oV<|eC<|.int 1)<|oV<|ar 2 G.br<|aa (oSl 0)<|aa (oSl 1) aNil)<|aa (oV<|ae vAdd (oV<|eC<|.int 1)<|oV<|ar 2 G.br<|aa (oSl 0)<|aa (oSl 1) aNil) aNil)<|ak (eu 4 5<|aa (oV<|ar 2 G.ce<|aa (oSl 0)<|aa (oV<|aY<|aa (oV<|eC<|.int 0)<|aa (oV<|eC<|.int 0)<|aa (oV<|eC<|.int 1)<|aa (oV<|ae vSub (oV<|eC<|.int 31)<|oSl 2) aNil) aNil)<|aa (oV<|ar 2 G.ce<|aa (oSl 0)<|aa (oV<|aY<|aa (oV<|eC<|.int 0)<|aa (oV<|eC<|.int 0)<|aa (oV<|eC<|.int 2)<|aa (oV<|ae vSub (oV<|eC<|.int 31)<|oSl 3) aNil) aNil) aNil)<|ak (aw 6<|ar 2 G.br<|aa (oSl 0)<|aa (oV<|eC<|.int 6) aNil)<|ak (aw 7 eDict0T)<|ak (b8 (iR1<|aa (oSl 2) aNil) (gN 8) G.jM)<|ak (cG (aG<|aa (oV<|eC<|.int 0)<|aa (oV<|eC<|.int 0) aNil)<|gT 2<|cq (gN 8)<|cq (gN 9) gNil')<|ak (b8 (iR1<|aa (oV<|ae vMul (oV<|eC<|.int 40)<|oV<|aA vInt<|aa (oV<|ae vEq (oSl 6)<|oV<|eC<|.int 5) aNil) aNil) (gN 11) G.ii)<|aO<|aA vTuple<|aa (oV<|aA BZ<|aa (oSl 7) aNil) aNil)
noncomputable def ij:Fn:=aS 1 14 [0] qx
noncomputable def ik:MS:=(cG (eC<|.bl true)<|gIx 1 (bK 2) putA)
noncomputable def lZ:MS:=(ak (aw 1 eDict0T)<|ak (b8 (bi<|oSl 0) (gN 2) G.ik)<|aO<|bK 1)
noncomputable def eQ:Fn:=aS 1 3 [0] lZ
noncomputable def yK:MS:=(ak (aw 1<|ae vIx (oSl 0)<|oV<|eC<|.int 0)<|ak (aw 2<|ae vIx (oSl 0)<|oV<|eC<|.int 1)<|aO<|aY<|aa (oV<|aG<|aa (oV<|ae vSub (oSl 1)<|oV<|eC<|.int 1)<|aa (oSl 2) aNil)<|aa (oV<|aG<|aa (oSl 1)<|aa (oV<|ae vSub (oSl 2)<|oV<|eC<|.int 1) aNil)<|aa (oV<|aG<|aa (oSl 1)<|aa (oV<|ae vAdd (oSl 2)<|oV<|eC<|.int 1) aNil)<|aa (oV<|aG<|aa (oV<|ae vAdd (oSl 1)<|oV<|eC<|.int 1)<|aa (oSl 2) aNil) aNil)
noncomputable def jN:Fn:=aS 1 3 [0] yK
noncomputable def yL:M Vl:=(aG<|aa (oV<|ae vAdd (oV<|ae vIx (oSl 1)<|oV<|eC<|.int 0)<|oV<|ae vDiv (oSl 0)<|oSl 2)<|aa (oV<|ae vAdd (oV<|ae vIx (oSl 1)<|oV<|eC<|.int 1)<|oV<|ae vMod (oSl 0)<|oSl 2) aNil)
noncomputable def qy:MS:=(aO<|aZ 1 [0,1] (iR1<|aa (oV<|ae vMul (oSl 1)<|oSl 1) aNil) (gN 0) kYes G.yL)
noncomputable def gp:Fn:=aS 2 2 [0,1] qy
noncomputable def qz:M Vl:=(ae vIn (oSl 0)<|oSl 1)
noncomputable def qA:M Vl:=(bK 0)
noncomputable def l5:M Bool:=(cb<|oV<|aA vAll<|aa (oV<|aZ 1 [2] (bi<|oV<|ar 2 G.gp<|aa (oSl 0)<|aa (oSl 1) aNil) (gN 0) kYes G.qz) aNil)
noncomputable def qB:MS:=(ak (aw 2<|ar 1 G.eQ<|aa (oSl 0) aNil)<|aO<|ar 1 G.eQ<|aa (oV<|aZ 1 [1,2] (bi<|oSl 0) (gN 0) G.l5 G.qA) aNil)
noncomputable def eR:Fn:=aS 2 3 [0,1] qB
noncomputable def qC:MS:=(aO<|ae vEq (oV<|ae vAdd (oV<|aA vAbs<|aa (oV<|ae vSub (oV<|ae vIx (oSl 0)<|oV<|eC<|.int 0)<|oV<|ae vIx (oSl 1)<|oV<|eC<|.int 0) aNil)<|oV<|aA vAbs<|aa (oV<|ae vSub (oV<|ae vIx (oSl 0)<|oV<|eC<|.int 1)<|oV<|ae vIx (oSl 1)<|oV<|eC<|.int 1) aNil)<|oV<|eC<|.int 1)
noncomputable def io:Fn:=aS 2 2 [0,1] qC
noncomputable def qD:M Vl:=(bK 0)
noncomputable def qE:M Bool:=(kB<|ae vNe (oSl 0)<|oSl 1)
noncomputable def l6:M Vl:=(ar 2 G.io<|aa (oSl 1)<|aa (oSl 0) aNil)
noncomputable def ip:MS:=(sIf (cb<|oV<|aA vAny<|aa (oV<|aZ 1 [6] (bi<|oSl 3) (gN 0) kYes G.l6) aNil) (er<|c7 fw 5 mAppend<|aa (oSl 6) aNil) sNil)
noncomputable def qF:M Vl:=(bK 0)
noncomputable def qG:M Bool:=(kB<|ae vNotIn (oSl 0)<|oSl 1)
noncomputable def l7:M Bool:=(kB<|ae vNe (oSl 3)<|oV<|aY aNil)
noncomputable def jO:MS:=(ak (aw 5<|aY aNil)<|ak (b8 (bi<|oSl 4) (gN 6) G.ip)<|ak (aw 2<|ae vAdd (oSl 2)<|oSl 5)<|ak (aw 4<|aZ 1 [5] (bi<|oSl 4) (gN 0) G.qG G.qF)<|aw 3<|bK 5)
noncomputable def qH:MS:=(ak (eu 2 3<|aa (oV<|aY<|aa (oSl 1) aNil)<|aa (oV<|aY<|aa (oSl 1) aNil) aNil)<|ak (aw 4<|aZ 1 [1] (bi<|oSl 0) (gN 0) G.qE G.qD)<|ak (dB G.l7 G.jO 1000000)<|aO<|aA vTuple<|aa (oV<|aA BZ<|aa (oSl 2) aNil) aNil)
noncomputable def iq:Fn:=aS 2 7 [0,1] qH
noncomputable def qI:M Vl:=(aG<|aa (oV<|ae vAdd (oV<|ae vIx (oSl 1)<|oV<|eC<|.int 0)<|oSl 2)<|aa (oV<|ae vAdd (oV<|ae vIx (oSl 1)<|oV<|eC<|.int 1)<|oSl 0) aNil)
noncomputable def l8:MS:=(er<|c7 fw 2 mExtend<|aa (oV<|aZ 1 [0,3] (iR1<|aa (oSl 1) aNil) (gN 0) kYes G.qI) aNil)
noncomputable def qJ:MS:=(ak (aw 2<|aY aNil)<|ak (b8 (iR1<|aa (oSl 1) aNil) (gN 3) G.l8)<|aO<|bK 2)
noncomputable def gq:Fn:=aS 2 4 [0,1] qJ
noncomputable def qK:M Vl:=(ae vIn (oSl 0)<|oSl 1)
noncomputable def qL:MS:=(aO<|aA vAll<|aa (oV<|aZ 1 [0] (bi<|oV<|ar 2 G.gq<|aa (oSl 2)<|aa (oSl 1) aNil) (gN 0) kYes G.qK) aNil)
noncomputable def ir:Fn:=aS 3 3 [0,1,2] qL
noncomputable def qM:M Vl:=(aG<|aa (oSl 0)<|aa (oV<|eC<|.bl true) aNil)
noncomputable def qN:M Vl:=(bK 0)
noncomputable def qO:M Bool:=(cb<|oV<|ar 3 G.ir<|aa (oSl 1)<|aa (oSl 2)<|aa (oSl 0) aNil)
noncomputable def qP:MS:=(ak (aw 2<|aA vDict<|aa (oV<|aZ 1 [] (bi<|oSl 0) (gN 0) kYes G.qM) aNil)<|aO<|aA vTuple<|aa (oV<|aZ 1 [2,1] (bi<|oSl 0) (gN 0) G.qO G.qN) aNil)
noncomputable def eS:Fn:=aS 2 3 [0,1] qP
noncomputable def qQ:MS:=(ak (aw 2<|ar 2 G.ce<|aa (oSl 0)<|aa (oV<|aY<|aa (oV<|eC<|.int 1)<|aa (oV<|eC<|.int 2)<|aa (oV<|eC<|.int 1)<|aa (oV<|eC<|.int 2)<|aa (oV<|eC<|.int 3)<|aa (oV<|eC<|.int 4)<|aa (oV<|eC<|.int 5)<|aa (oV<|eC<|.int 6) aNil) aNil)<|ak (aw 3<|ar 2 G.eS<|aa (oSl 1)<|aa (oSl 2) aNil)<|ak (sIf (kB<|ae vEq (oSl 3)<|oV<|aG aNil) (aO<|aG<|aa (oSl 2)<|aa (oV<|ar 2 G.ce<|aa (oSl 0)<|aa (oV<|ae vAdd (oV<|aA vList<|aa (oSl 1) aNil)<|oV<|aY<|aa (oV<|aG<|aa (oV<|eC<|.int 0)<|aa (oV<|eC<|.int 0) aNil)<|aa (oV<|aG<|aa (oV<|eC<|.int 30)<|aa (oV<|eC<|.int 30) aNil)<|aa (oV<|aG<|aa (oV<|eC<|.int 15)<|aa (oV<|eC<|.int 2) aNil) aNil) aNil) aNil) sNil)<|aO<|aG<|aa (oSl 2)<|aa (oV<|ar 2 G.ce<|aa (oSl 0)<|aa (oSl 3) aNil) aNil)
noncomputable def iw:Fn:=aS 2 4 [0,1] qQ
noncomputable def ix:MS:=(sIf (dm (kB<|ae vIn (oSl 4)<|oSl 0)<|kB<|ae vNotIn (oSl 4)<|oSl 2) (ak (cG (eC<|.bl true)<|gIx 2 (bK 4) putA)<|er<|c7 fw 3 mAppend<|aa (oSl 4) aNil) sNil)
noncomputable def qR:M Bool:=(cb<|oSl 3)
noncomputable def jP:MS:=(b8 (bi<|oV<|ar 1 G.jN<|aa (oV<|c7 fw 3 mPop aNil) aNil) (gN 4) G.ix)
noncomputable def qS:MS:=(ak (aw 2<|qm (bK 1)<|eC<|.bl true)<|ak (aw 3<|aY<|aa (oSl 1) aNil)<|ak (dB G.qR G.jP 1000000)<|aO<|aA vTuple<|aa (oV<|aA BZ<|aa (oSl 2) aNil) aNil)
noncomputable def gr:Fn:=aS 2 5 [0,1] qS
def jQ:SD->Option SD:=fun D=>if 4<D.length then some ((D.set 3<|some<|.im<|.tup [.str "NoFit",.j_]).set 4 none) else none
noncomputable def iy:MS:=(ak (aw 3<|ar 2 G.eR<|aa (oSl 0)<|aa (oSl 1) aNil)<|ak (sIf (kB<|ae vNotIn (oSl 2)<|oSl 3) Fv sNil)<|aO<|ar 2 G.gr<|aa (oSl 3)<|aa (oSl 2) aNil)
noncomputable def bQ:Fn:=aS 3 4 [0,1,2] iy
noncomputable def fG:RS:=(jz (aw 3<|ar 2 G.eR<|aa (oSl 0)<|aa (oSl 1) aNil)<|Kj (kB<|ae vNotIn (oSl 2)<|oSl 3) some)
noncomputable def qT(e:Addr):MS:=(ak (aw 1<|aY<|aa (oV<|c8 e false<|oSl 0)<|aa (oV<|c8 e true<|oSl 0)<|aa (oV<|c8 e false<|oSl 0) aNil)<|ak (aw 1<|ae vAdd (oSl 1)<|oV<|aY<|aa (oV<|c8 e false<|oSl 0) aNil)<|ak (aw 1<|ae vAdd (oSl 1)<|oV<|aY<|aa (oV<|c8 e false<|oSl 0)<|aa (oV<|c8 e false<|oSl 0)<|aa (oV<|c8 e false<|oSl 0) aNil)<|ak (aw 1<|ae vAdd (oSl 1)<|oV<|aY<|aa (oV<|c8 e false<|oSl 0) aNil)<|ak (aw 2<|aY<|aa (oV<|eC<|.str "NoText")<|aa (oV<|eC<|.str "NoFit")<|aa (oV<|eC<|.str "TooMany")<|aa (oV<|eC<|.str "Near")<|aa (oV<|eC<|.str "NoBlocks")<|aa (oV<|eC<|.str "NoBlock")<|aa (oV<|eC<|.str "Here")<|aa (oV<|eC<|.str "NoField") aNil)<|ak (sIf (kOr (kB<|ae vNe (oV<|lX (oSl 1)<|oV<|eC<|.bl true)<|oV<|eC<|.int 1)<|dk<|cb<|oV<|hX e<|oSl 0) (aO<|eC<|.str "?") sNil)<|aO<|ae vIx (oSl 2)<|oV<|lV (oSl 1)<|oV<|eC<|.bl true)
noncomputable def iz(e:Addr):Fn:=aS 1 3 [0] (qT e)
noncomputable def l9:RS:=(M4 (oV<|eC<|.str "")<|pN 3 (Gn 3 4 G.fG)<|aa (oSl 0)<|aa (oSl 1)<|aa (oSl 2) aNil)
noncomputable def ma:Addr->MS:=fun e=>(aw 3<|aG<|aa (oV<|ar 1 (G.iz e)<|aa (oSl 4) aNil)<|aa (oV<|eC .j_) aNil)
noncomputable def md:MS:=(ak (aw 3<|aG<|aa (oV<|eC<|.str "?")<|aa (oV<|eC .j_) aNil)<|ak (f9 (aw 3<|aG<|aa (oV<|eC<|.str "")<|aa (oV<|ar 3 G.bQ<|aa (oSl 0)<|aa (oSl 1)<|aa (oSl 2) aNil) aNil)<|jB G.l9 G.jQ)<|aO<|bK 3)
noncomputable def dZ:Fn:=aS 3 5 [0,1,2] md
noncomputable def iA:MS:=(ak (aw 9<|aG<|aa (oV<|eC<|.str "NoFit")<|aa (oV<|eC .j_) aNil)<|ak (sIf (kB<|ae vIn (oSl 8)<|oSl 6) (aw 9<|aG<|aa (oV<|eC<|.str "")<|aa (oV<|ar 2 G.iq<|aa (oSl 6)<|aa (oSl 8) aNil) aNil) sNil)<|sIf (dk<|cb<|oV<|ar 2 (G.cV 6)<|aa (oV<|ar 3 G.dZ<|aa (oSl 3)<|aa (oSl 4)<|aa (oSl 8) aNil)<|aa (oSl 9) aNil) (aO<|eC<|.bl false) sNil)
noncomputable def jR:MS:=(ak (aw 2<|ar 2 G.ig<|aa (oSl 0)<|aa (oSl 1) aNil)<|ak (aw 3<|ar 1 G.ij<|aa (oSl 2) aNil)<|ak (cG (ar 2 G.iw<|aa (oSl 2)<|aa (oSl 3) aNil)<|gT 2<|cq (gN 4)<|cq (gN 5) gNil')<|ak (aw 6<|ar 2 G.eS<|aa (oSl 3)<|aa (oSl 4) aNil)<|ak (aw 7<|aG<|aa (oV<|ar 2 G.br<|aa (oSl 2)<|aa (oV<|eC<|.int 31) aNil)<|aa (oV<|ar 2 G.br<|aa (oSl 2)<|aa (oV<|eC<|.int 31) aNil) aNil)<|b8 (bi<|oV<|aY<|aa (oSl 5)<|aa (oSl 7)<|aa (oSl 5)<|aa (oV<|aG<|aa (oV<|eC<|.int 0)<|aa (oV<|eC<|.int 0) aNil) aNil) (gN 8) G.iA)
noncomputable def me:MS:=(ak (b8 (iR1<|aa (oV<|aA vMax2<|aa (oV<|eC<|.int 1)<|aa (oV<|aA vMin2<|aa (oV<|eC<|.int 12)<|aa (oV<|aA vLen<|aa (oSl 0) aNil) aNil) aNil) aNil) (gN 1) G.jR)<|aO<|eC<|.bl true)
noncomputable def iB:Fn:=aS 1 10 [0] me
end G
namespace L2
open PySem
variable{a h g b:MS}{e:M Vl}{own m n:Nat}{ds:List Vl}{fix:List Nat}{o:Option (Nat×Vl)}{xs:List Im}{d:Vl}{D1 D:SD}{c:M Bool}{tg:MG}{α:Type}{j i:Int}
@[simp] theorem Bm(d:Im)(D:SD):eC d D=some (.im d,D):=rfl
@[simp] theorem yM(D:SD):aNil D=some ([],D):=rfl
@[simp] theorem Bn(D:SD):sNil D=some (.nx,D):=rfl
@[simp] theorem Bo(D:SD):wS D=some (none,D):=rfl
@[simp] theorem Bp(D:SD):kYes D=some (true,D):=rfl
@[simp] theorem Bq(d:Im):(Vl.im d).cp=true:=rfl
@[simp] theorem Br(d:List Im):(Vl.fz d).cp=true:=rfl
@[simp] theorem Bs(d:List Im):(Vl.lst d).cp=false:=rfl
@[simp] theorem Bt(d:List (List Im×Im)):(Vl.dT d).cp=false:=rfl
@[simp] theorem Bu(d:List (Key×Im)):(Vl.dK d).cp=false:=rfl
@[simp] theorem yN(D:SD)(d:Vl):rsl D (.vl d)=some d:=rfl
@[simp] theorem Bv(D:SD)(i:Nat):rsl D (.sl i)=(D[i]?).getD none:=rfl
@[simp] theorem yO(D:SD):cY D []=some []:=rfl
@[simp] theorem yP(D:SD)(o:Opd)(os:List Opd):cY D (o::os)=(rsl D o).bind fun d=>(cY D os).map fun ds=>d::ds:=rfl
@[simp] theorem Bw(D:SD):bb [] D=some ([],D):=rfl
@[simp] theorem Bx(d:Vl)(os:List Opd)(D:SD):bb (.vl d::os) D=(bb os D).map fun p=>(d::p.1,p.2):=rfl
@[simp] theorem By(i:Nat)(os:List Opd)(D:SD):bb (.sl i::os) D=(bK i D).bind fun p=>(bb os p.2).map fun q=>(p.1::q.1,q.2):=rfl
@[simp] theorem Bz:ims []=some []:=rfl
@[simp] theorem BA(d:Im)(ds:List Vl):ims (.im d::ds)=(ims ds).map fun r=>d::r:=rfl
@[simp] theorem BB(b:Bool):asB (.im<|.bl b)=some b:=rfl
theorem mf(h1 : -(2 ^ 64)<j)(h2:j<2 ^ 64):dq i j=true:=by
 have:Builtin.Int.intBits j<=64:=intBits_le_64 h1 h2;have h':¬ (Builtin.Int.intBits j > shortFactorBits):=Nat.not_lt.mpr this;unfold dq;rw[Zs h'];simp
theorem fH(h1 : -(2 ^ 64)<i)(h2:i<2 ^ 64):dq i j=true:=by
 have:Builtin.Int.intBits i<=64:=intBits_le_64 h1 h2;have h':¬ (Builtin.Int.intBits i > shortFactorBits):=Nat.not_lt.mpr this;unfold dq;rw[Zs h'];simp
theorem mh{xs:List α}{d:α}(h0:0<=i)(h:xs[i.toNat]?=some d):DK xs i=some d:=by
 unfold DK GB;have hi:i.toNat<xs.length:=(ZA.mp h).1;rw[Z0 h0,Z0 (by lia)];exact h
theorem yQ(I:Nat->SD->Prop)(R:Vl->SD->Prop):∀ {xs:List Im}{D:SD},I 0 D->
  (∀ (i:Nat) (x:Im) (D:SD),xs[i]?=some x->I i D->∃ D1 fl D2,tg (.im x) D=some D1/\b D1=some (fl,D2)/\(((fl=.nx\/fl=.ct)/\I (i+1) D2)\/∃ d,fl=.rt d/\R d D2))->
  (∃ D',bn tg b xs D=some (.nx,D')/\I xs.length D')\/∃ d D',bn tg b xs D=some (.rt d,D')/\R d D':=by
 intro xs;induction xs generalizing I with
 | nil=>intro D h0 _;exact .inl ⟨D,rfl,h0⟩
 | cons x r ih=>
  intro D h0 h;obtain⟨D1,fl,D2,h1,h2,h3⟩:=h 0 x D rfl h0;rcases h3 with ⟨hf,hI⟩ | ⟨d,rfl,hR⟩
  ·have:=ih (fun i=>I<|i+1) (D:=D2) hI fun i y D' hy LW=>h (i+1) y D' (by simpa using hy) LW;have e:bn tg b (x::r) D=bn tg b r D2:=by
    rw[bn];dsimp only;rw[h1];show (b D1).bind _=_;rw[h2];rcases hf with rfl | rfl<;>rfl
   rw[e];exact this
  ·refine .inr ⟨d,D2,?_,hR⟩;rw[bn];dsimp only;rw[h1];show (b D1).bind _=_;rw[h2];rfl
theorem iC(I:Nat->SD->Prop){xs:List Im}{D:SD}(h0:I 0 D)(h:∀ (i:Nat) (x:Im) (D:SD),xs[i]?=some x->I i D->∃ D1 fl D2,tg (.im x) D=some D1/\b D1=some (fl,D2)/\(fl=.nx\/fl=.ct)/\I (i+1) D2):
  ∃ D',bn tg b xs D=some (.nx,D')/\I xs.length D':=by
 rcases yQ I (fun _ _=>False) h0 (fun i x D hx hI=>by
  obtain⟨D1,fl,D2,h1,h2,h3,h4⟩:=h i x D hx hI;exact⟨D1,fl,D2,h1,h2,.inl ⟨h3,h4⟩⟩) with h | ⟨_,_,_,h⟩
 ·exact h
 ·exact h.elim
theorem qU(I:Nat->SD->Prop)(Ji:SD->Prop)(step:∀ m D,I m D->∃ t D1,c D=some (t,D1)/\(t=true->∃ fl D2,b D1=some (fl,D2)/\(fl=.nx\/fl=.ct)/\∃ m',m'<m/\I m' D2)/\(t=false->Ji D1)):
  ∀ (n m:Nat) (D:SD),I m D->m<n->∃ D',dB c b n D=some (.nx,D')/\Ji D':=by
 intro n;induction n with
 | zero=>intro m D _ h;lia
 | succ n ih=>
  intro m D hI hm;obtain⟨t,D1,h1,h2,h3⟩:=step m D hI;rw[dB];dsimp only;rw[h1];cases t with
  | false=>exact⟨D1,rfl,h3 rfl⟩
  | true=>
   obtain⟨fl,D2,h4,hf,m',LC,LW⟩:=h2 rfl;obtain⟨D',h5,h6⟩:=ih m' D2 LW (by lia);refine⟨D',?_,h6⟩;simp only[bind_some,Wz,h4];rcases hf with rfl | rfl<;>exact h5
theorem yR(xs:List α):xs.filter (fun _=>true)=xs:=List.filter_eq_self.mpr fun _ _=>rfl
theorem qV(e:g D=some (.nx,D1)):ak g h D=h D1:=by unfold ak;rw[e];rfl
theorem mo(e:g D=some (.rt d,D1)):ak g h D=some (.rt d,D1):=by unfold ak;rw[e];rfl
theorem yS{g:MI}{D2:SD}{fl:Fl}(e:g D=some ((xs,o),D1))(h:bn tg b xs D1=some (fl,D2)):b8 g tg b D=some (fl,rst o D2):=by
 unfold b8;rw[e];show (bn tg b xs D1).map _=_;rw[h];rfl
theorem yT{r:Vl}(hl:ds.length=n)(e:g (ds.map some++replicate (m - n) none)=some (.rt r,D)):aS n m fix g ds=some (r,cQ fix ds D 0):=by
 unfold aS;rw[Z0 hl,e]
theorem qW{caps:List Nat}{gi:MI}{C':SD}{ds:List Im}(h1:gi D=some ((xs,o),D1))(h2:b9 own tg c e xs [] (dD caps D1)=some (ds,C')):aZ own caps gi tg c e D=some (.lst ds,rst o<|cP caps C' D1):=by
 unfold aZ;rw[h1];show (b9 own tg c e xs []<|dD caps D1).map _=_;rw[h2];rfl
theorem bE{g:M Vl}(e:g D=some (d,D1)):aO g D=some (.rt d,D1):=by unfold aO;rw[e];rfl
theorem yU{i:Nat}{g:M Vl}(e:g D=some (d,D1))(h:i<D1.length):aw i g D=some (.nx,D1.set i<|some d):=by unfold aw;rw[e];show (if i<D1.length then _ else _)=_;rw[Z0 h]
theorem qX(e:c D=some (true,D1)):sIf c a b D=a D1:=by unfold sIf;rw[e];rfl
theorem qY(e:c D=some (false,D1)):sIf c a b D=b D1:=by unfold sIf;rw[e];rfl
theorem qZ(D:SD){r:Vl}{outs:List Vl}(hl:ds.length=n)(e:g (ds.map some++replicate (m - n) none)=some (.rt r,D))(ho:cQ fix ds D 0=outs):aS n m fix g ds=some (r,outs):=by
 rw[yT hl e,ho]
theorem fI{α:Type}{own:Nat}{tg:MG}{c:M Bool}{e:M Vl}{C:SD}(φ:α->Im)(p:α->Bool)(f:α->Im):∀ (xs:List α) (acc:List Im),(∀ x∈xs,∃ D1 D2,tg (.im<|φ x) (replicate own none++C)=some D1/\c D1=some (p x,D2)/\(p x=false->D2.drop own=C)/\(p x=true->∃ D3,e D2=some (.im<|f x,D3)/\D3.drop own=C))->
  acc.length+xs.length<=100000->b9 own tg c e (xs.map φ) acc C=some (acc++(xs.filter p).map f,C)
 | [],acc,_,_=>by simp[b9]
 | x::r,acc,h,hl=>by
  obtain⟨D1,D2,h1,h2,h3,h4⟩:=h x (.head _);rw[ZC] at hl;rw[Zy,b9,h1];show (c D1).bind _=_;rw[h2];show (if p x=true then _ else _)=_;cases hp:p x with
  | false=>
   rw[ZX ZJ];show b9 own tg c e (r.map φ) acc (D2.drop own)=_;rw[h3 hp,fI φ p f r acc (fun y hy=>h y<|.tail _ hy) (by lia),WD,hp];rfl
  | true=>
   obtain⟨D3,h5,h6⟩:=h4 hp;rw[Z0 rfl];show (e D2).bind _=_;rw[h5];show (if acc.length<100000 then b9 own tg c e (r.map φ) (acc++[f x]) (D3.drop own) else none)=_;rw[Z0 (by lia),h6,fI φ p f r (acc++[f x]) (fun y hy=>h y<|.tail _ hy) (by rw[ZG,Zb];lia),WD,hp];simp
theorem fJ{C:SD}(φ:α->Im)(f:α->Im)(xs:List α)(h:∀ x∈xs,∃ D1 D2 D3,tg (.im<|φ x) (replicate own none++C)=some D1/\c D1=some (true,D2)/\e D2=some (.im<|f x,D3)/\D3.drop own=C)(hl:xs.length<=100000):b9 own tg c e (xs.map φ) [] C=some (xs.map f,C):=by
 have:=fI (own:=own) (tg:=tg) (c:=c) (e:=e) (C:=C) φ (fun _=>true) f xs [] (fun x hx=>by
  obtain⟨D1,D2,D3,h1,h2,h3,h4⟩:=h x hx;exact⟨D1,D2,h1,h2,(fun z=>by cases z),(fun _=>⟨D3,h3,h4⟩)⟩) (by rw[Yu];lia)
 rw[yR] at this;exact this
end L2
namespace G
open PySem L2
variable{ks:List (Int×Int)}{b a:Int×Int}
abbrev iI(i:Int):Vl:=.im (.int i)
def cM(p:Int×Int):Im:=.tup [.int p.1,.int p.2]
abbrev cT(ps:List (Int×Int)):Vl:=.im (.tup<|ps.map cM)
abbrev cL(ps:List (Int×Int)):Vl:=.lst (ps.map cM)
abbrev lf(d s t:Int):Vl:=.lst [.int d,.int s,.int t]
def kM(p:Int×Int):List Im:=[.int p.1,.int p.2]
theorem ra(p:Int×Int):cM p=.tup (kM p):=rfl
theorem rb(h:kM a=kM b):a=b:=by
 unfold kM at h;simp at h;exact Prod.ext h.1 h.2
theorem yV(h:cM a=cM b):a=b:=by
 rw[ra,ra] at h;exact rb (by injection h)
def uC:Im->Int×Int
 | .tup [.int a,.int b]=>(a,b)
 | _=>(0,0)
theorem rc(p:Int×Int):uC (cM p)=p:=rfl
theorem iD(p:Int×Int):Im.pl 8 (cM p)=true:=rfl
theorem jS:∀ ps:List (Int×Int),Im.pls 8 (ps.map cM)=true
 | []=>rfl
 | p::r=>by rw[Zy,Im.pls,iD,jS r];rfl
theorem mq(a b:Int×Int):az (cM a) (cM b)=decide (a=b):=by
 show ((a.1 == b.1) && ((a.2 == b.2) && true))=_;obtain⟨a1,a2⟩:=a;obtain⟨b1,b2⟩:=b;by_cases h1:a1=b1<;>by_cases h2:a2=b2<;>simp[h1,h2]
theorem re(ps:List (Int×Int))(c:Int×Int):((ps.map cM).any fun x=>az x<|cM c)=decide (c∈ps):=by
 rw[Wo,XY,Xn,Yx];constructor
 ·rintro⟨x,hx,e⟩;have:decide (x=c)=true:=by rw[<- mq];exact e
  rw[<- Zf this];exact hx
 ·intro h;refine⟨c,h,?_⟩;show az (cM c) (cM c)=true;rw[mq];exact Zq rfl
theorem rf:∀ (l:List Im) (ks:List (Int×Int)),(∀ x∈l,x∈ks.map cM)->l=(l.map uC).map cM
 | [],_,_=>rfl
 | x::l,ks,h=>by
  obtain⟨p,_,e⟩:=YT.mp (h x<|.head _);rw[Zy,Zy,<- rf l ks fun y hy=>h y<|.tail _ hy,<- e,rc]
theorem yW{l:List Im}(h:l.Perm (ks.map cM)):∃ ms:List (Int×Int),ms.Perm ks/\l=ms.map cM:=by
 refine⟨l.map uC,?_,rf l ks fun x hx=>h.mem_iff.mp hx⟩;have:=List.Perm.map uC h;rw[YO] at this;have e:(uC ∘ cM:Int×Int->Int×Int)=id:=funext rc;rw[e,List.map_id] at this;exact this
theorem jT(nd:ks.Nodup)(hl:ks.length<=1000):CT (ks.map cM):=by
 refine⟨⟨by rw[ZY];exact hl,fun a ha b hb=>?_,?_⟩,.inl fun d hd=>?_⟩
 ·obtain⟨x,_,rfl⟩:=YT.mp ha;obtain⟨y,_,rfl⟩:=YT.mp hb;rfl
 ·exact List.Pairwise.map cM (fun a b n e=>n<|yV e) nd
 ·obtain⟨x,_,rfl⟩:=YT.mp hd;rfl
theorem yX{kvs:List (List Im×Im)}{k:List Im}:(bw kvs k).isSome=kvs.any fun p=>decide (p.1=k):=by
 unfold bw;rw[XN,List.isSome_find?]
def mt(ks:List (Int×Int)):List (List Im×Im):=ks.map fun c=>(kM c,.bl true)
theorem mv(ks:List (Int×Int))(c:Int×Int):((mt ks).any fun p=>decide (p.1=kM c))=decide (c∈ks):=by
 unfold mt;rw[Wo,XY,Xn,Yx];constructor
 ·rintro⟨x,hx,e⟩;have:kM x=kM c:=Zf e;rw[<- rb this];exact hx
 ·intro h;exact⟨c,h,Zq rfl⟩
theorem yY(ks:List (Int×Int))(c:Int×Int):(bw (mt ks)<|kM c).isSome=decide (c∈ks):=by rw[yX,mv]
theorem yZ{c:Int×Int}(h:c∉ks):dr (mt ks) (kM c) (.bl true)=mt (ks++[c]):=by
 unfold dr;rw[ZX (by rw[mv];simpa using h)];unfold mt;rw[Y5];rfl
theorem y3(ks:List (Int×Int)):((mt ks).map fun p=>Im.tup p.1)=ks.map cM:=by
 unfold mt;rw[YO];rfl
end G
namespace L2
open PySem
section
variable{D D1 D2:SD}
variable{d:Vl}
theorem v_{g:M Vl}(h:g D=some (d,D1)):oV g D=some (.vl d,D1):=by unfold oV;rw[h];rfl
variable{x:Opd}
theorem a_{g:M Opd}{h:M (List Opd)}{xs:List Opd}(e1:g D=some (x,D1))(e2:h D1=some (xs,D2)):aa g h D=some (x::xs,D2):=by unfold aa;rw[e1];show (h D1).map _=_;rw[e2];rfl
variable{d1 d2:Vl}
theorem b_{op:Vl->Vl->Option Vl}{ga gb:M Opd}{y:Opd}(e1:ga D=some (x,D1))(e2:gb D1=some (y,D2))(e3:rsl D2 x=some d1)(e4:rsl D2 y=some d2)(e5:op d1 d2=some d):ae op ga gb D=some (d,D2):=by
 unfold ae;rw[e1];show (gb D1).bind _=_;rw[e2];show (rsl D2 x).bind _=_;rw[e3];show (rsl D2 y).bind _=_;rw[e4];show (op d1 d2).map _=_;rw[e5];rfl
variable{g:M (List Opd)}{n:Nat}{os:List Opd}{ds outs:List Vl}
theorem c_{G:Fn}{r:Vl}(e1:g D=some (os,D1))(e0:os.length=n)(e2:bb os D1=some (ds,D2))(e3:G ds=some (r,outs)):ar n G g D=some (r,wb os outs D2):=by
 unfold ar;rw[e1];show (if os.length=n then _ else _)=_;rw[Z0 e0];show (bb os D1).bind _=_;rw[e2];show (G ds).map _=_;rw[e3];rfl
theorem CU{op:List Vl->Option Vl}(e1:g D=some (os,D1))(e2:cY D1 os=some ds)(e3:op ds=some d):aA op g D=some (d,D1):=by
 unfold aA;rw[e1];show (cY D1 os).bind _=_;rw[e2];show (op ds).map _=_;rw[e3];rfl
variable{b:Bool}
theorem Eh{g:M Vl}(e:g D=some (.im<|.bl b,D1)):kB g D=some (b,D1):=by unfold kB;rw[e];rfl
theorem O0{g:M Bool}(e:g D=some (b,D1)):dk g D=some (!b,D1):=by unfold dk;rw[e];rfl
theorem Go{g:M Opd}(e:g D=some (x,D1))(e2:rsl D1 x=some d)(e3:g9 d=some b):cb g D=some (b,D1):=by
 unfold cb;rw[e];show (rsl D1 x).bind _=_;rw[e2];show (g9 d).map _=_;rw[e3];rfl
theorem HI{g:M Vl}{h:MG}(e:g D=some (d,D1))(e2:h d D1=some D2):cG g h D=some (.nx,D2):=by unfold cG;rw[e];show (h d D1).map _=_;rw[e2];rfl
theorem Ko{g:M Vl}(e:g D=some (d,D1)):er g D=some (.nx,D1):=by unfold er;rw[e];rfl
variable{D3:SD}
theorem Jj{ty:Vl->Bool}{i:Nat}{mt:Vl->List Vl->Option (Vl×Vl)}{c0 c r c':Vl}(e0:D[i]?=some (some c0))(e1:ty c0=true)(e2:g D=some (os,D1))(e3:bb os D1=some (ds,D2))(e4:D2[i]?=some (some c))(e5:mt c ds=some (r,c'))(k:D2.set i (some c')=D3):c7 ty i mt g D=some (r,D3):=by
 subst k;unfold c7;rw[e0];show (if ty c0=true then _ else _)=_;rw[Z0 e1,e2];show (bb os D1).bind _=_;rw[e3];show (match D2[i]? with | some (some c)=>_ | _=>none)=_;rw[e4];show (mt c ds).map _=_;rw[e5];rfl
theorem E8(e1:g D=some (os,D1))(e2:bb os D1=some (ds,D2))(e3:ds.length<=100000)(k:mkT ds=d):aG g D=some (d,D2):=by
 unfold aG;rw[e1];show (bb os D1).bind _=_;rw[e2];show (if _ then _ else _)=_;rw[Z0 e3,k]
theorem GT(e1:g D=some (os,D1))(e2:bb os D1=some (ds,D2))(e3:ds.length<=100000)(k:mkL ds=d):aY g D=some (d,D2):=by
 unfold aY;rw[e1];show (bb os D1).bind _=_;rw[e2];show (if _ then _ else _)=_;rw[Z0 e3,k]
theorem LX{x:List Im}{d:Im}(h:x.length<100000):mAppend (.lst x) [.im d]=some (.im .j_,.lst<|x++[d]):=Z0 h
theorem gu(i j:Int):vEq (.im<|.int i) (.im<|.int j)=some (.im<|.bl<|decide (i=j)):=by
 show some (Vl.im<|.bl<|i == j)=_;by_cases h:i=j<;>simp[h]
variable{i j:Int}
theorem da(h:dq i j=true):vMul (.im<|.int i) (.im<|.int j)=some (.im<|.int<|i * j):=Z0 h
theorem dL(h:0<j):vMod (.im<|.int i) (.im<|.int j)=some (.im<|.int<|i % j):=Z0 (Zq h)
theorem iE(h:0<j)(h2:j<1073741824):vDiv (.im<|.int i) (.im<|.int j)=some (.im<|.int<|i / j):=Z0 (Zq (⟨h,h2⟩:0<j/\j<1073741824))
theorem rg(h:decide (0<=j/\j<=1000000/\i.natAbs<2 ^ 64)=true):vPow (.im<|.int i) (.im<|.int j)=some (.im<|.int<|i ^ j.toNat):=Z0 h
variable{r:Option (Fl×SD)}{b:MS}{c:M Bool}
theorem d0{a:MS}(e:c D=some (true,D1))(h:a D1=r):sIf c a b D=r:=(qX e).trans h
theorem db{a:MS}(e:c D=some (false,D1))(h:b D1=r):sIf c a b D=r:=(qY e).trans h
theorem u_{g h:MS}(e:g D=some (.nx,D1))(k:h D1=r):ak g h D=r:=(qV e).trans k
variable{i:Nat}
theorem aT{g:M Vl}(e:g D=some (d,D1))(h:i<D1.length)(k:D1.set i (some d)=D2):aw i g D=some (.nx,D2):=(yU e h).trans (by rw[k])
variable{xs:List Im}{tg:MG}{o:Option (Nat×Vl)}
theorem dM{g:MI}{fl:Fl}(e:g D=some ((xs,o),D1))(h:bn tg b xs D1=some (fl,D2))(k:rst o D2=D3):b8 g tg b D=some (fl,D3):=(yS e h).trans (by rw[k])
theorem FV{own:Nat}{caps:List Nat}{gi:MI}{e:M Vl}{C':SD}{ds:List Im}(h1:gi D=some ((xs,o),D1))(h2:b9 own tg c e xs [] (dD caps D1)=some (ds,C'))(k:rst o (cP caps C' D1)=D3):aZ own caps gi tg c e D=some (.lst ds,D3):=(qW h1 h2).trans (by rw[k])
variable{b a:M Bool}
theorem rh(e:a D=some (true,D1)):kOr a b D=some (true,D1):=by unfold kOr;rw[e];rfl
variable{r:Option (Bool×SD)}
theorem mw(e:a D=some (false,D1))(h:b D1=r):kOr a b D=r:=by unfold kOr;rw[e];exact h
theorem rj(e:a D=some (true,D1))(h:b D1=r):dm a b D=r:=by unfold dm;rw[e];exact h
theorem y4(e:a D=some (false,D1)):dm a b D=some (false,D1):=by unfold dm;rw[e];rfl
theorem rk{j:Nat}(e1:g D=some (os,D1))(e2:bb os D1=some ([d1,d2],D2))(hi:i<D2.length)(hj:j<D2.length)(k:(D2.set i<|some d1).set j (some d2)=D3):eu i j g D=some (.nx,D3):=by
 unfold eu;rw[e1];show (bb os D1).bind _=_;rw[e2];show (if i<D2.length/\j<D2.length then _ else _)=_;rw[Z0 ⟨hi,hj⟩,k]
theorem Kp{g:M Bool}{b:Bool}(e:g D=some (b,D1)):eB g D=some (.im<|.bl b,D1):=by unfold eB;rw[e];rfl
variable{r:Vl}
theorem d_{G:Fn}(e1:g D=some (os,D1))(e0:os.length=n)(e2:bb os D1=some (ds,D2))(e3:G ds=some (r,outs))(k:wb os outs D2=D3):ar n G g D=some (r,D3):=by rw[<- k];exact c_ e1 e0 e2 e3
theorem Nb{g:M Bool}(e:g D=some (true,D1)):dk g D=some (false,D1):=O0 e
theorem HJ(e1:g D=some (os,D1))(e2:cY D1 os=some [.im (.int j)])(h:jh j):iR1 g D=some ((bC 0 j.toNat,none),D1):=by
 unfold iR1;rw[e1];show (cY D1 os).bind _=_;rw[e2];show (if jh j then _ else _)=_;rw[Z0 h]
theorem bt{m:Nat}{fix:List Nat}{g:MS}(hl:ds.length=n)(e:g (ds.map some++replicate (m - n) none)=some (.rt r,D))(ho:cQ fix ds D 0=outs):aS n m fix g ds=some (r,outs):=qZ D hl e ho
end
end L2
namespace G
open PySem L2
variable{o6 o5 o4 o0 o8 o9 o13 o12 o11 o10 o1:Option Vl}{α:Type}{w way r sd tp wd hg k m:Int}{e:Addr}{x:Opd}{g:M Opd}{D1 D:SD}{ks:List (Int×Int)}{xs:List Im}{ns:List Int}{h:Vl}{n:Nat}
def iF(s u:Int):Int:=s * (48271+2 * u * u+65537 * u) % 2305843009213693921
def rl(s u:Int):Int:=iF s u * (iF s u % 1000003+u * 99991+11) % 2305843009213693907 / 97+iF s u * (iF s u % 1000003+u * 99991+11) % 2305843009213693907 / 1000033
abbrev hd(d s t:Int):Vl:=.lst [.int d,.int s,.int t]
abbrev iJ(i:Int):Vl:=.im (.int i)
theorem y6{d s t:Int}(Nc:0<=d)(Ps:0<=s)(Pt:s<2 ^ 63)(Pu:0<=t)(Pv:t<2 ^ 60)(HK:0<m)(LY:m<1073741824):
  ∃ v d' t',br [hd d s t,.im<|.int m]=some (.im<|.int v,[hd d' s t',.im<|.int m])/\0<=v/\v<m/\0<=d'/\t<=t'/\t'<=t+1:=by
 have i0:∀ d t:Int,vIx (hd d s t) (iJ 0)=some (iJ d):=fun _ _=>rfl;have i1:∀ d t:Int,vIx (hd d s t) (iJ 1)=some (iJ s):=fun _ _=>rfl;have i2:∀ d t:Int,vIx (hd d s t) (iJ 2)=some (iJ t):=fun _ _=>rfl;have k1:kB (ae vGt (oV<|ae vIx (oSl 0)<|oV<|eC<|.int 0)<|oV<|eC<|.int 0) [some (hd d s t),some<|iJ m,none,none,none,none]=some (decide (0<d),[some (hd d s t),some<|iJ m,none,none,none,none]):=Eh (b_ (v_<|b_ rfl rfl rfl rfl<|i0 d t) rfl rfl rfl rfl);unfold br qw;by_cases h:0<d
 ·refine⟨d % m,d / m,t,?_,Ya _ (by lia),Yd _ HK,Int.ediv_nonneg Nc (by lia),by lia,by lia⟩;rw[Zq h] at k1;refine bt (D:=[some (hd (d / m) s t),some<|iJ m,some<|iJ<|d % m,none,none,none]) rfl (mo (d0 k1 (u_ (D1:=[some (hd d s t),some<|iJ m,some<|iJ<|d % m,none,none,none]) (aT (b_ (v_<|b_ rfl rfl rfl rfl<|i0 d t) rfl rfl rfl<|dL HK) (by exact ZQ rfl) rfl)<|u_ (HI (b_ (v_<|b_ rfl rfl rfl rfl<|i0 d t) rfl rfl rfl<|iE HK LY) rfl) rfl))) rfl
 ·have e2:dq (2 * (t+1)) (t+1)=true:=mf (by lia) (by lia);refine⟨rl s (t+1) % m,d,t+1,?_,Ya _ (by lia),Yd _ HK,Nc,by lia,by lia⟩;rw[Zs h] at k1;unfold rl;generalize hx:iF s (t+1)=x;have x0:0<=x:=by rw[<- hx];exact Ya _ (by decide)
  have x1:x<2305843009213693921:=by rw[<- hx];exact Yd _ (by decide)
  refine bt (D:=[some (hd d s<|t+1),some<|iJ m,none,some<|iJ<|t+1,some<|iJ<|x * (x % 1000003+(t+1) * 99991+11) % 2305843009213693907,some<|iJ<|x % 1000003+(t+1) * 99991+11]) rfl (u_ (db k1 rfl) (u_ (D1:=[some (hd d s<|t+1),some<|iJ m,none,none,none,none]) (HI (b_ (v_<|b_ rfl rfl rfl rfl<|i2 d t) rfl rfl rfl rfl) rfl) (u_ (D1:=[some (hd d s<|t+1),some<|iJ m,none,some<|iJ<|t+1,none,none]) (aT (b_ rfl rfl rfl rfl<|i2 d<|t+1) (by exact ZQ rfl) rfl)<|u_ (D1:=[some (hd d s<|t+1),some<|iJ m,none,some<|iJ<|t+1,some<|iJ x,none]) ?_<|u_ (D1:=[some (hd d s<|t+1),some<|iJ m,none,some<|iJ<|t+1,some<|iJ x,some<|iJ<|x % 1000003+(t+1) * 99991+11]) ?_<|u_ (D1:=[some (hd d s<|t+1),some<|iJ m,none,some<|iJ<|t+1,some<|iJ<|x * (x % 1000003+(t+1) * 99991+11) % 2305843009213693907,some<|iJ<|x % 1000003+(t+1) * 99991+11]) ?_<|bE ?_))) rfl
  ·rw[<- hx];exact aT (b_ (v_ (b_ (v_<|b_ rfl rfl rfl rfl<|i1 d<|t+1) (v_ (b_ (v_ (b_ rfl (v_ (b_ (v_ (b_ rfl rfl rfl rfl (da (fH (by decide) (by decide))))) rfl rfl rfl<|da e2)) rfl rfl rfl)) (v_ (b_ rfl rfl rfl rfl (da (fH (by decide) (by decide))))) rfl rfl rfl)) rfl rfl (da (fH (by lia) (by lia))))) rfl rfl rfl (dL (by decide))) (by exact ZQ rfl) rfl
  ·exact aT (b_ (v_ (b_ (v_ (b_ rfl rfl rfl rfl (dL (by decide)))) (v_ (b_ rfl rfl rfl rfl (da (mf (by decide) (by decide))))) rfl rfl rfl)) rfl rfl rfl rfl) (by exact ZQ rfl) rfl
  ·exact aT (b_ (v_ (b_ rfl rfl rfl rfl (da (fH (by lia) (by lia))))) rfl rfl rfl (dL (by decide))) (by exact ZQ rfl) rfl
  ·exact b_ (v_ (b_ (v_ (b_ rfl rfl rfl rfl (iE (by decide) (by decide)))) (v_ (b_ rfl rfl rfl rfl (iE (by decide) (by decide)))) rfl rfl rfl)) rfl rfl rfl (dL HK)
def ba(n:Nat)(h:Vl):Prop:=∃ d s t,h=hd d s t/\0<=d/\0<=s/\s<2 ^ 63/\0<=t/\t+n<2 ^ 60
theorem ba.mono{m:Nat}(x:ba n h)(e:m<=n):ba m h:=by
 obtain⟨d,s,t,rfl,h1,h2,h3,h4,h5⟩:=x;exact⟨d,s,t,rfl,h1,h2,h3,h4,by omega⟩
theorem dN(x:ba (n+1) h)(HK:0<m)(LY:m<1073741824):∃ v h',br [h,.im<|.int m]=some (.im<|.int v,[h',.im<|.int m])/\0<=v/\v<m/\ba n h':=by
 obtain⟨d,s,t,rfl,h1,h2,h3,h4,h5⟩:=x;obtain⟨v,d',t',e,e1,e2,e3,e4,e5⟩:=y6 (m:=m) h1 h2 h3 h4 (by omega) HK LY;exact⟨v,hd d' s t',e,e1,e2,d',s,t',rfl,e3,h2,h3,by omega,by omega⟩
theorem bh(x:ba n h):∃ ds,h=.lst ds:=by
 obtain⟨d,s,t,rfl,_⟩:=x;exact⟨_,rfl⟩
theorem y7(hk:0<=k)(EJ:k<1000):∃ h,ig [.fz (ns.map .int),.im<|.int k]=some (h,[.fz (ns.map .int),.im<|.int k])/\ba 1000000 h:=by
 have key:∀ c:Int,ba 1000000 (hd (c % (10 ^ 60 * 10 ^ 60 * 10 ^ 60) * (if decide (10 ^ 18<=c) then 1 else 0)) (c % 2305843009213693951+7919 * k+3) 0):=fun c=>by
  have h1:=Ya c (show (10 ^ 60 * 10 ^ 60 * 10 ^ 60:Int)≠0 by decide);have h2:=Ya c (show (2305843009213693951:Int)≠0 by decide);have h3:=Yd c (show (0:Int)<2305843009213693951 by decide);refine⟨_,_,_,rfl,?_,by lia,by lia,XT 0,by decide⟩;split
  ·rw[Int.mul_one];exact h1
  ·rw[Int.mul_zero];exact XT 0
 have p0:vPow (iJ 10) (iJ 60)=some (iJ<|10 ^ 60):=rg (by decide);have p9:vPow (iJ 10) (iJ 18)=some (iJ<|10 ^ 18):=rg (by decide);have p1:dq (10 ^ 60) (10 ^ 60)=true:=by decide +kernel
 have p2:dq (10 ^ 60 * 10 ^ 60) (10 ^ 60)=true:=by decide +kernel
 have p3:∀ (x:Int) (b:Bool),dq x (if b then 1 else 0)=true:=fun x b=>mf (by cases b<;>decide) (by cases b<;>decide);have q1:(0:Int)<10 ^ 60 * 10 ^ 60 * 10 ^ 60:=by decide
 obtain⟨c,ec⟩:∃ c:Int,sIf (kB<|ae vLt (oSl 1)<|oV<|aA vLen<|aa (oSl 0) aNil) (aw 2<|ae vIx (oSl 0)<|oSl 1) sNil [some (.fz<|ns.map .int),some<|iJ k,some<|iJ 0,none,none]=some (.nx,[some (.fz<|ns.map .int),some<|iJ k,some<|iJ c,none,none]):=by
  have kk:kB (ae vLt (oSl 1)<|oV<|aA vLen<|aa (oSl 0) aNil) [some (.fz<|ns.map .int),some<|iJ k,some<|iJ 0,none,none]=some (decide (k<((ns.map Im.int).length:Int)),[some (.fz<|ns.map .int),some<|iJ k,some<|iJ 0,none,none]):=Eh (b_ rfl (v_<|CU (a_ rfl rfl) rfl rfl) rfl rfl rfl);rw[ZY] at kk;by_cases hl:k<(ns.length:Int)
  ·rw[Zq hl] at kk;have hj:k.toNat<ns.length:=by lia
   have Jk:DK (ns.map Im.int) k=some (.int ns[k.toNat]):=mh hk (by rw[Zr,ZL hj];rfl);have hv:vIx (.fz<|ns.map .int) (iJ k)=some (iJ ns[k.toNat]):=by
    show (DK (ns.map Im.int) k).map Vl.im=_;rw[Jk];rfl
   exact⟨ns[k.toNat],d0 kk<|aT (b_ rfl rfl rfl rfl hv) (ZQ rfl) rfl⟩
  ·rw[Zs hl] at kk;exact⟨0,db kk rfl⟩
 refine⟨_,?_,key c⟩;unfold ig qv;generalize ns.map Im.int=L at *;refine bt (D:=[some (.fz L),some<|iJ k,some<|iJ c,some<|iJ<|10 ^ 60 * 10 ^ 60 * 10 ^ 60,some<|iJ<|c % (10 ^ 60 * 10 ^ 60 * 10 ^ 60) * (if decide (10 ^ 18<=c) then 1 else 0)]) rfl (u_ (D1:=[some (.fz L),some<|iJ k,some<|iJ 0,none,none]) rfl (u_ ec (u_ (D1:=[some (.fz L),some<|iJ k,some<|iJ c,some<|iJ<|10 ^ 60 * 10 ^ 60 * 10 ^ 60,none]) (aT (b_ (v_<|b_ (v_<|b_ rfl rfl rfl rfl p0) (v_<|b_ rfl rfl rfl rfl p0) rfl rfl<|da p1) (v_<|b_ rfl rfl rfl rfl p0) rfl rfl<|da p2) (ZQ rfl) rfl) (u_ (aT (b_ (v_<|b_ rfl rfl rfl rfl<|dL q1) (v_<|CU (a_ (v_<|b_ rfl (v_<|b_ rfl rfl rfl rfl p9) rfl rfl rfl) rfl) rfl rfl) rfl rfl<|da<|p3 _ _) (ZQ rfl) rfl) (bE (GT (a_ rfl (a_ (v_ (b_ (v_ (b_ (v_ (b_ rfl rfl rfl rfl (dL (by decide)))) (v_ (b_ rfl rfl rfl rfl (da (fH (by decide) (by decide))))) rfl rfl rfl)) rfl rfl rfl rfl))<|a_ rfl rfl)) rfl (ZQ rfl) rfl)))))) rfl
theorem iG(x:ba (n+1) h)(h0:xs≠[])(h1:xs.length<1073741824):∃ d h',ce [h,.lst xs]=some (.im d,[h',.lst xs])/\d∈xs/\ba n h':=by
 have hl:0<xs.length:=W9.mpr h0;obtain⟨v,h',e,e1,e2,e3⟩:=dN (m:=xs.length) x (by omega) (by omega);obtain⟨d,hd⟩:∃ d,xs[v.toNat]?=some d:=⟨xs[v.toNat]'(by omega),by simp⟩;have Jk:DK xs v=some d:=mh e1 hd;obtain⟨q,rfl⟩:=bh x;obtain⟨q',rfl⟩:=bh e3;refine⟨d,.lst q',?_,YM hd,e3⟩;have hv:vIx (.lst xs) (iJ v)=some (.im d):=by
  show (DK xs v).map Vl.im=_;rw[Jk];rfl
 unfold ce lY;exact bt (D:=[some (.lst q'),some<|.lst xs]) rfl (bE<|b_ rfl (v_<|d_ (os:=[.sl 0,.vl<|iJ xs.length]) (a_ rfl<|a_ (v_<|CU (a_ rfl rfl) rfl rfl) rfl) rfl rfl e rfl) rfl rfl hv) rfl
theorem CD{m:Nat}(h:Nat.ble (n+1) m=true):n<m:=ZQ h
abbrev bV(b:Bool):Vl:=.im (.bl b)
def bu(ks:List (Int×Int))(c:Int×Int):List (Int×Int):=if c∈ks then ks else ks++[c]
theorem jU(ks:List (Int×Int))(c:Int×Int):dr (mt ks) (kM c) (.bl true)=mt (bu ks c):=by
 unfold bu;by_cases h:c∈ks
 ·rw[Z0 h];unfold dr;rw[Z0 (by rw[mv];simpa using h)];unfold mt;rw[YO];refine X3 fun x _=>?_;show (if kM x=kM c then (kM x,Im.bl true) else (kM x,Im.bl true))=_;split<;>rfl
 ·rw[ZX h];exact yZ h
structure Ey(hg wd tp sd:Int)(ks:List (Int×Int)):Prop where
 nd:ks.Nodup
 Ic:∀ c∈ks,tp<=c.1/\c.1<tp+hg/\sd<=c.2/\c.2<sd+wd
theorem Ey.add(R:Ey hg wd tp sd ks){r c:Int}(r0:0<=r)(r1:r<hg)(c0:0<=c)(c1:c<wd):Ey hg wd tp sd (bu ks (r+tp,c+sd)):=by
 unfold bu;split
 ·exact R
 ·next h=>
  refine⟨ZM.mpr ⟨R.nd,ZB _ _,fun a ha b hb e=>h (by rw[<- ZW.mp hb,<- e];exact ha)⟩,fun x hx=>?_⟩;rcases ZE.mp hx with hx | hx
  ·exact R.Ic x hx
  ·rw[ZW.mp hx];dsimp only;lia
theorem Ey.len(R:Ey hg wd tp sd ks)(h1:hg<=12)(h2:wd<=12):ks.length<=144:=by
 have n1:(ks.map fun c=>((c.1 - tp) * 12+(c.2 - sd)).toNat).Nodup:=by
  refine List.pairwise_map.mpr (List.Pairwise.imp_of_mem (fun {a b} ha hb ne e=>ne ?_) R.nd);have i1:=R.Ic a ha;have i2:=R.Ic b hb;have:a.1=b.1/\a.2=b.2:=by lia
  exact Prod.ext this.1 this.2
 have q:=pO (m:=range 144) n1 fun x hx=>by
  obtain⟨c,hc,rfl⟩:=YT.mp hx;have i1:=R.Ic c hc;rw[Zp];lia
 rwa [ZY,Y9] at q
theorem rm{c:Int}(h4:D[4]?=some (some<|iI tp))(h5:D[5]?=some (some<|iI sd))(h7:D[7]?=some (some<|.dT<|mt ks))(h8:D[8]?=some (some<|iI r))(h9:D[9]?=some (some<|iI c))(hl:ks.length<100000):
  cG (eC<|.bl true) (gIx 7 (aG<|aa (oV<|ae vAdd (oSl 8)<|oSl 4)<|aa (oV<|ae vAdd (oSl 9)<|oSl 5) aNil) putA) D=some (.nx,D.set 7<|some<|.dT<|mt<|bu ks (r+tp,c+sd)):=by
 have hp:putA (.dT<|mt ks) (.im<|.tup<|kM (r+tp,c+sd)) (bV true)=some (.dT<|mt<|bu ks (r+tp,c+sd)):=by
  rw[<- jU];exact Z0 ⟨rfl,by unfold mt;rw[ZY];exact hl⟩
 have s4:oSl 4 D=some (.sl 4,D):=by unfold oSl;rw[h4]
 have s5:oSl 5 D=some (.sl 5,D):=by unfold oSl;rw[h5]
 have s8:oSl 8 D=some (.sl 8,D):=by unfold oSl;rw[h8]
 have s9:oSl 9 D=some (.sl 9,D):=by unfold oSl;rw[h9]
 have r4:rsl D (.sl 4)=some (iI tp):=by show (D[4]?).getD none=_;rw[h4];rfl
 have r5:rsl D (.sl 5)=some (iI sd):=by show (D[5]?).getD none=_;rw[h5];rfl
 have r8:rsl D (.sl 8)=some (iI r):=by show (D[8]?).getD none=_;rw[h8];rfl
 have r9:rsl D (.sl 9)=some (iI c):=by show (D[9]?).getD none=_;rw[h9];rfl
 have t:aG (aa (oV<|ae vAdd (oSl 8)<|oSl 4)<|aa (oV<|ae vAdd (oSl 9)<|oSl 5) aNil) D=some (.im<|.tup<|kM (r+tp,c+sd),D):=
  E8 (a_ (v_<|b_ s8 s4 r8 r4 rfl)<|a_ (v_<|b_ s9 s5 r9 r5 rfl) rfl) rfl (ZQ rfl) rfl;refine HI rfl ?_;unfold gIx;rw[h7];show (aG _ D).bind _=_;rw[t];show (match D[7]? with | some (some c)=>_ | _=>none)=_;rw[h7];show (putA _ _ _).map _=_;rw[hp];rfl
theorem y8{c:Int}(H:ba (n+2) h)(w0:0<=way)(w1:way<6)(hw:0<wd)(hl:ks.length<100000):
  ∃ h' CF CG,jL [some h,o1,some<|iI hg,some<|iI wd,some<|iI tp,some<|iI sd,some<|iI way,some<|.dT<|mt ks,some<|iI r,some<|iI c,o10,o11,o12,o13]=some (.nx,[some h',o1,some<|iI hg,some<|iI wd,some<|iI tp,some<|iI sd,some<|iI way,some<|.dT<|mt CG,some<|iI r,some<|iI c,CF,o11,o12,o13])/\ba n h'/\(CG=ks\/CG=bu ks (r+tp,c+sd)):=by
 obtain⟨v1,h1,e1,_,_,H1⟩:=dN (n:=n+1) (m:=2) H (by decide) (by decide);obtain⟨v2,h2,e2,_,_,H2⟩:=dN (n:=n) (m:=6) H1 (by decide) (by decide);obtain⟨q,rfl⟩:=bh H;obtain⟨q1,rfl⟩:=bh H1;obtain⟨q2,rfl⟩:=bh H2;obtain⟨b3,O1⟩:∃ b3:Bool,eB (kOr (kB<|ae vEq (oV<|ae vMod (oSl 8)<|oV<|eC<|.int 2)<|oV<|eC<|.int 0)<|kB<|ae vEq (oSl 9)<|oV<|ae vMod (oV<|ae vDiv (oSl 8)<|oV<|eC<|.int 2)<|oSl 3) [some (.lst q2),o1,some<|iI hg,some<|iI wd,some<|iI tp,some<|iI sd,some<|iI way,some<|.dT<|mt ks,some<|iI r,some<|iI c,some<|.lst [.bl (decide (v1=0)),.bl<|decide (0<v2),.bl true],o11,o12,o13]=some (bV b3,[some (.lst q2),o1,some<|iI hg,some<|iI wd,some<|iI tp,some<|iI sd,some<|iI way,some<|.dT<|mt ks,some<|iI r,some<|iI c,some<|.lst [.bl (decide (v1=0)),.bl<|decide (0<v2),.bl true],o11,o12,o13]):=by
  have z1:kB (ae vEq (oV<|ae vMod (oSl 8)<|oV<|eC<|.int 2)<|oV<|eC<|.int 0) [some (.lst q2),o1,some<|iI hg,some<|iI wd,some<|iI tp,some<|iI sd,some<|iI way,some<|.dT<|mt ks,some<|iI r,some<|iI c,some<|.lst [.bl (decide (v1=0)),.bl<|decide (0<v2),.bl true],o11,o12,o13]=some (decide (r % 2=0),_):=Eh (b_ (v_ (b_ rfl rfl rfl rfl (dL (by decide)))) rfl rfl rfl<|gu _ _);cases hb:decide (r % 2=0) with
  | true=>rw[hb] at z1;exact⟨true,Kp<|rh z1⟩
  | false=>rw[hb] at z1;exact⟨_,Kp (mw z1 (Eh (b_ rfl (v_ (b_ (v_ (b_ rfl rfl rfl rfl (iE (by decide) (by decide)))) rfl rfl rfl<|dL hw)) rfl rfl<|gu _ _)))⟩
 obtain⟨b4,O2⟩:∃ b4:Bool,eB (kOr (kB<|ae vIn (oSl 8)<|oV<|aG<|aa (oV<|eC<|.int 0)<|aa (oV<|ae vSub (oSl 2)<|oV<|eC<|.int 1) aNil)<|kB<|ae vIn (oSl 9)<|oV<|aG<|aa (oV<|eC<|.int 0)<|aa (oV<|ae vSub (oSl 3)<|oV<|eC<|.int 1) aNil) [some (.lst q2),o1,some<|iI hg,some<|iI wd,some<|iI tp,some<|iI sd,some<|iI way,some<|.dT<|mt ks,some<|iI r,some<|iI c,some<|.lst [.bl (decide (v1=0)),.bl<|decide (0<v2),.bl true,.bl b3],o11,o12,o13]=some (bV b4,[some (.lst q2),o1,some<|iI hg,some<|iI wd,some<|iI tp,some<|iI sd,some<|iI way,some<|.dT<|mt ks,some<|iI r,some<|iI c,some<|.lst [.bl (decide (v1=0)),.bl<|decide (0<v2),.bl true,.bl b3],o11,o12,o13]):=by
  obtain⟨x,hx⟩:∃ x:Bool,vIn (iI r) (.im<|.tup [.int 0,.int<|hg - 1])=some (bV x):=⟨_,rfl⟩;obtain⟨y,hy⟩:∃ y:Bool,vIn (iI c) (.im<|.tup [.int 0,.int<|wd - 1])=some (bV y):=⟨_,rfl⟩;cases x with
  | true=>exact⟨true,Kp<|rh<|Eh<|b_ rfl (v_<|E8 (a_ rfl<|a_ (v_<|b_ rfl rfl rfl rfl rfl) rfl) rfl (ZQ rfl) rfl) rfl rfl hx⟩
  | false=>exact⟨y,Kp<|mw (Eh<|b_ rfl (v_<|E8 (a_ rfl<|a_ (v_<|b_ rfl rfl rfl rfl rfl) rfl) rfl (ZQ rfl) rfl) rfl rfl hx)<|Eh<|b_ rfl (v_<|E8 (a_ rfl<|a_ (v_<|b_ rfl rfl rfl rfl rfl) rfl) rfl (ZQ rfl) rfl) rfl rfl hy⟩
 obtain⟨b,hb⟩:∃ b:Bool,DK [Im.bl (decide (v1=0)),.bl<|decide (0<v2),.bl true,.bl b3,.bl b4,.bl false] way=some (.bl b):=by
  have:way=0\/way=1\/way=2\/way=3\/way=4\/way=5:=by lia
  rcases this with rfl | rfl | rfl | rfl | rfl | rfl<;>exact⟨_,rfl⟩
 have g2:vGt (iI v2) (iI 0)=some (bV<|decide (0<v2)):=rfl;have vi:vIx (.lst [.bl (decide (v1=0)),.bl<|decide (0<v2),.bl true,.bl b3,.bl b4,.bl false]) (iI way)=some (bV b):=congrArg (Option.map Vl.im) hb;unfold jL;have s1:aw 10 (aY<|aa (oV<|ae vEq (oV<|ar 2 G.br<|aa (oSl 0)<|aa (oV<|eC<|.int 2) aNil)<|oV<|eC<|.int 0)<|aa (oV<|ae vGt (oV<|ar 2 G.br<|aa (oSl 0)<|aa (oV<|eC<|.int 6) aNil)<|oV<|eC<|.int 0)<|aa (oV<|eC<|.bl true) aNil) [some (.lst q),o1,some<|iI hg,some<|iI wd,some<|iI tp,some<|iI sd,some<|iI way,some<|.dT<|mt ks,some<|iI r,some<|iI c,o10,o11,o12,o13]=some (.nx,[some (.lst q2),o1,some<|iI hg,some<|iI wd,some<|iI tp,some<|iI sd,some<|iI way,some<|.dT<|mt ks,some<|iI r,some<|iI c,some<|.lst [.bl (decide (v1=0)),.bl<|decide (0<v2),.bl true],o11,o12,o13]):=
  aT (GT (a_ (v_<|b_ (v_<|d_ (a_ rfl<|a_ rfl rfl) rfl rfl e1 rfl) rfl rfl rfl<|gu _ _)<|a_ (v_<|b_ (v_<|d_ (a_ rfl<|a_ rfl rfl) rfl rfl e2 rfl) rfl rfl rfl g2) rfl) rfl (ZQ rfl) rfl) (CD rfl) rfl;have s2:er (c7 fw 10 mAppend<|aa (oV<|eB<|kOr (kB<|ae vEq (oV<|ae vMod (oSl 8)<|oV<|eC<|.int 2)<|oV<|eC<|.int 0)<|kB<|ae vEq (oSl 9)<|oV<|ae vMod (oV<|ae vDiv (oSl 8)<|oV<|eC<|.int 2)<|oSl 3) aNil) [some (.lst q2),o1,some<|iI hg,some<|iI wd,some<|iI tp,some<|iI sd,some<|iI way,some<|.dT<|mt ks,some<|iI r,some<|iI c,some<|.lst [.bl (decide (v1=0)),.bl<|decide (0<v2),.bl true],o11,o12,o13]=some (.nx,[some (.lst q2),o1,some<|iI hg,some<|iI wd,some<|iI tp,some<|iI sd,some<|iI way,some<|.dT<|mt ks,some<|iI r,some<|iI c,some<|.lst [.bl (decide (v1=0)),.bl<|decide (0<v2),.bl true,.bl b3],o11,o12,o13]):=
  Ko (Jj rfl rfl (a_ (v_ O1) rfl) rfl rfl (LX (by show 3<100000;decide)) rfl);have s3:aw 10 (ae vAdd (oSl 10)<|oV<|aY<|aa (oV<|eB<|kOr (kB<|ae vIn (oSl 8)<|oV<|aG<|aa (oV<|eC<|.int 0)<|aa (oV<|ae vSub (oSl 2)<|oV<|eC<|.int 1) aNil)<|kB<|ae vIn (oSl 9)<|oV<|aG<|aa (oV<|eC<|.int 0)<|aa (oV<|ae vSub (oSl 3)<|oV<|eC<|.int 1) aNil)<|aa (oV<|eC<|.bl false) aNil) [some (.lst q2),o1,some<|iI hg,some<|iI wd,some<|iI tp,some<|iI sd,some<|iI way,some<|.dT<|mt ks,some<|iI r,some<|iI c,some<|.lst [.bl (decide (v1=0)),.bl<|decide (0<v2),.bl true,.bl b3],o11,o12,o13]=some (.nx,[some (.lst q2),o1,some<|iI hg,some<|iI wd,some<|iI tp,some<|iI sd,some<|iI way,some<|.dT<|mt ks,some<|iI r,some<|iI c,some<|.lst [.bl (decide (v1=0)),.bl<|decide (0<v2),.bl true,.bl b3,.bl b4,.bl false],o11,o12,o13]):=
  aT (b_ rfl (v_<|GT (a_ (v_ O2) rfl) rfl (ZQ rfl) rfl) rfl rfl rfl) (CD rfl) rfl;cases b with
 | true=>exact⟨.lst q2,_,bu ks (r+tp,c+sd),u_ s1<|u_ s2<|u_ s3<|d0 (Go (v_<|b_ rfl rfl rfl rfl vi) rfl rfl)<|(rm rfl rfl rfl rfl rfl hl).trans rfl,H2,.inr rfl⟩
 | false=>exact⟨.lst q2,_,ks,u_ s1<|u_ s2<|u_ s3<|db (Go (v_<|b_ rfl rfl rfl rfl vi) rfl rfl) rfl,H2,.inl rfl⟩
theorem eT{b:Bool}(h1:g D=some (x,D1))(h2:rsl D1 x=some (.im<|.fn e)):c8 e b g D=some (.im<|.bl b,D1):=by
 unfold c8;rw[h1];show (rsl D1 x).bind _=_;rw[h2];exact Z0 (Zq rfl)
theorem y9(h1:g D=some (x,D1))(h2:rsl D1 x=some (.im<|.fn e)):hX e g D=some (.im<|.bl true,D1):=by
 unfold hX;rw[h1];show (rsl D1 x).bind _=_;rw[h2];exact Z0 (Zq rfl)
theorem zc(e:Addr):iz e [.im (.fn e)]=some (.im<|.str "NoFit",[.im (.fn e)]):=by
 unfold iz qT;refine bt (D:=[some (.im<|.fn e),some<|.lst [.bl false,.bl true,.bl false,.bl false,.bl false,.bl false,.bl false,.bl false],some<|.lst [.str "NoText",.str "NoFit",.str "TooMany",.str "Near",.str "NoBlocks",.str "NoBlock",.str "Here",.str "NoField"]]) rfl ?_ rfl;refine u_ (D1:=[some (.im<|.fn e),some<|.lst [.bl false,.bl true,.bl false],none]) (aT (GT (a_ (v_<|eT rfl rfl)<|a_ (v_<|eT rfl rfl)<|a_ (v_<|eT rfl rfl) rfl) rfl (ZQ rfl) rfl) (CD rfl) rfl) ?_;refine u_ (D1:=[some (.im<|.fn e),some<|.lst [.bl false,.bl true,.bl false,.bl false],none]) (aT (b_ rfl (v_<|GT (a_ (v_<|eT rfl rfl) rfl) rfl (ZQ rfl) rfl) rfl rfl rfl) (CD rfl) rfl) ?_;refine u_ (D1:=[some (.im<|.fn e),some<|.lst [.bl false,.bl true,.bl false,.bl false,.bl false,.bl false,.bl false],none]) (aT (b_ rfl (v_<|GT (a_ (v_<|eT rfl rfl)<|a_ (v_<|eT rfl rfl)<|a_ (v_<|eT rfl rfl) rfl) rfl (ZQ rfl) rfl) rfl rfl rfl) (CD rfl) rfl) ?_;refine u_ (D1:=[some (.im<|.fn e),some<|.lst [.bl false,.bl true,.bl false,.bl false,.bl false,.bl false,.bl false,.bl false],none]) (aT (b_ rfl (v_<|GT (a_ (v_<|eT rfl rfl) rfl) rfl (ZQ rfl) rfl) rfl rfl rfl) (CD rfl) rfl) ?_;refine u_ (D1:=[some (.im<|.fn e),some<|.lst [.bl false,.bl true,.bl false,.bl false,.bl false,.bl false,.bl false,.bl false],some<|.lst [.str "NoText",.str "NoFit",.str "TooMany",.str "Near",.str "NoBlocks",.str "NoBlock",.str "Here",.str "NoField"]]) rfl ?_;refine u_ (db (mw rfl<|Nb<|Go (v_<|y9 rfl rfl) rfl rfl) rfl) (bE rfl)
theorem zd(D' D3:SD)(h:jQ D'=some D3):4<D'.length/\∀ e,∃ D4,ma e (D'.set 4<|some<|.im<|.fn e)=some (.nx,D4)/\D4.set 4 none=D3:=by
 unfold jQ at h;split at h
 ·rename_i hl;cases h;refine⟨hl,fun e=>?_⟩;have hg:(D'.set 4<|some<|.im<|.fn e)[4]?=some (some<|.im<|.fn e):=by rw[XD,Z0 rfl,Z0 hl]
  refine⟨(D'.set 4<|some<|.im<|.fn e).set 3<|some<|.im<|.tup [.str "NoFit",.j_],?_,?_⟩
  ·simp[ma,hg,zc];omega
  ·rw[WP _ _ (by decide:(4:Nat)≠3),Wy]
 ·cases h
theorem iH{i:Nat}{x:Im}(h:(bC 0 n)[i]?=some x):i<n/\x=.int (0+(i:Int)):=by
 have hi:i<n:=by
  have:=(ZA.mp h).1
  rwa [bC,ZY,Y9] at this
 rw[bC,Zr,List.getElem?_range hi] at h;exact⟨hi,(Zw h).symm⟩
theorem jV(lo:Int)(n:Nat):(bC lo n).length=n:=by rw[bC,ZY,Y9]
theorem rn(n:Nat):bC 0 n=((range n).map fun (k:Nat)=>(k:Int)).map Im.int:=by
 rw[bC,YO];refine X3 fun k _=>?_;show Im.int (0+(k:Int))=Im.int (k:Int);rw[Int.zero_add]
abbrev fD(h:Vl)(o1:Option Vl)(hg wd tp sd way:Int)(ks:List (Int×Int))(o8 o9 o10 o11 o12 o13:Option Vl):SD:=[some h,o1,some<|iI hg,some<|iI wd,some<|iI tp,some<|iI sd,some<|iI way,some<|.dT<|mt ks,o8,o9,o10,o11,o12,o13]
structure Jl(hg wd way:Int):Prop where
 h0:0<hg
 h1:hg<=12
 w0:0<wd
 w1:wd<=12
 y0:0<=way
 y1:way<6
theorem ze{M:Nat}(H:ba (M+24) h)(d:Jl hg wd way)(R:Ey hg wd tp sd ks)(r0:0<=r)(r1:r<hg):
  ∃ h' CG Ez CF,jM (fD h o1 hg wd tp sd way ks (some<|iI r) o9 o10 o11 o12 o13)=some (.nx,fD h' o1 hg wd tp sd way CG (some<|iI r) Ez CF o11 o12 o13)/\ba M h'/\Ey hg wd tp sd CG:=by
 have:=d.w0;have:=d.w1;obtain⟨D',l1,h',CG,Ez,CF,rfl,l2,l3⟩:=iC (tg:=gN 9) (b:=jL) (xs:=bC 0 wd.toNat) (fun i D=>∃ h ks o9 o10,D=fD h o1 hg wd tp sd way ks (some<|iI r) o9 o10 o11 o12 o13/\ba (M+24 - 2 * i) h/\Ey hg wd tp sd ks) (D:=fD h o1 hg wd tp sd way ks (some<|iI r) o9 o10 o11 o12 o13)
  ⟨h,ks,o9,o10,rfl,H,R⟩ (fun i x D hx hI=>by
   obtain⟨h,ks,o9,o10,rfl,H,R⟩:=hI;obtain⟨hi,rfl⟩:=iH hx;have hl:=R.len d.h1 d.w1;obtain⟨h',CF,CG,e,H',k⟩:=y8 (n:=M+24 - 2 * (i+1)) (hg:=hg) (tp:=tp) (sd:=sd) (r:=r) (c:=0+(i:Int)) (ks:=ks) (o1:=o1) (o10:=o10) (o11:=o11) (o12:=o12) (o13:=o13) (H.mono (by lia)) d.y0 d.y1 d.w0 (by lia);refine⟨_,_,_,rfl,e,.inl rfl,h',CG,_,CF,rfl,H',?_⟩;rcases k with rfl | rfl
   ·exact R
   ·exact R.add r0 r1 (by lia) (by lia))
 rw[jV] at l2;refine⟨h',CG,Ez,CF,dM (o:=none) (HJ (a_ rfl rfl) rfl ⟨by lia,by lia⟩) l1 rfl,l2.mono (by lia),l3⟩
theorem zf{M:Nat}(H:ba (M+300) h)(d:Jl hg wd way):
  ∃ h' CG Gp Ez CF,b8 (iR1<|aa (oSl 2) aNil) (gN 8) G.jM (fD h o1 hg wd tp sd way [] o8 o9 o10 o11 o12 o13)=some (.nx,fD h' o1 hg wd tp sd way CG Gp Ez CF o11 o12 o13)/\ba M h'/\Ey hg wd tp sd CG:=by
 have:=d.h0;have:=d.h1;obtain⟨D',l1,h',CG,Gp,Ez,CF,rfl,l2,l3⟩:=iC (tg:=gN 8) (b:=jM) (xs:=bC 0 hg.toNat) (fun i D=>∃ h ks o8 o9 o10,D=fD h o1 hg wd tp sd way ks o8 o9 o10 o11 o12 o13/\ba (M+300 - 24 * i) h/\Ey hg wd tp sd ks) (D:=fD h o1 hg wd tp sd way [] o8 o9 o10 o11 o12 o13)
  ⟨h,[],o8,o9,o10,rfl,H,XM,fun _ h=>(Xq h).elim⟩ (fun i x D hx hI=>by
   obtain⟨h,ks,o8,o9,o10,rfl,H,R⟩:=hI;obtain⟨hi,rfl⟩:=iH hx;obtain⟨h',CG,Ez,CF,e,H',R'⟩:=ze (M:=M+300 - 24 * (i+1)) (r:=0+(i:Int)) (o1:=o1) (o9:=o9) (o10:=o10) (o11:=o11) (o12:=o12) (o13:=o13) (H.mono (by lia)) d R (by lia) (by lia);exact⟨_,_,_,rfl,e,.inl rfl,h',CG,_,Ez,CF,rfl,H',R'⟩)
 rw[jV] at l2;exact⟨h',CG,Gp,Ez,CF,dM (o:=none) (HJ (a_ rfl rfl) rfl ⟨by lia,by lia⟩) l1 rfl,l2.mono (by lia),l3⟩
theorem Nd{x:Int}(h:0<m):0<=(if (if x > 0 then x else 0)<m - 1 then (if x > 0 then x else 0) else m - 1)/\(if (if x > 0 then x else 0)<m - 1 then (if x > 0 then x else 0) else m - 1)<m:=by
 split<;>split<;>lia
theorem zg{M:Nat}{c:Int}(H:ba (M+1) h)(d:Jl hg wd way)(R:Ey hg wd tp sd ks)(r0:0<=r)(r1:r<hg)(c0:0<=c)(c1:c<wd):
  ∃ h' CG r' c' Dm Do,ii (fD h o1 hg wd tp sd way ks (some<|iI r) (some<|iI c) o10 o11 o12 o13)=some (.nx,fD h' o1 hg wd tp sd way CG (some<|iI r') (some<|iI c') o10 o11 Dm Do)/\ba M h'/\Ey hg wd tp sd CG/\0<=r'/\r'<hg/\0<=c'/\c'<wd:=by
 obtain⟨x,h',e,hx,H'⟩:=iG (n:=M) (xs:=[cM (1,0),cM (0,1),cM (0,1),cM (-1,0),cM (0,-1),cM (1,0)]) H (by simp) (by decide);obtain⟨dn,rt,rfl⟩:∃ dn rt:Int,x=cM (dn,rt):=by
  simp at hx;rcases hx with rfl | rfl | rfl | rfl | rfl<;>exact⟨_,_,rfl⟩
 obtain⟨q,rfl⟩:=bh H;obtain⟨q1,rfl⟩:=bh H';have hl:=R.len d.h1 d.w1;obtain⟨a1,a2⟩:=Nd (x:=r+dn) d.h0;obtain⟨b1,b2⟩:=Nd (x:=c+rt) d.w0;refine⟨.lst q1,bu ks (r+tp,c+sd),_,_,some<|iI dn,some<|iI rt,?_,H',R.add r0 r1 c0 c1,a1,a2,b1,b2⟩;unfold ii;refine u_ ((rm rfl rfl rfl rfl rfl (by lia)).trans rfl) (u_ (D1:=fD (.lst q1) o1 hg wd tp sd way (bu ks (r+tp,c+sd)) (some<|iI r) (some<|iI c) o10 o11 (some<|iI dn) (some<|iI rt)) (HI (d:=.im (cM (dn,rt))) (d_ (os:=[.sl 0,.vl<|.lst [cM (1,0),cM (0,1),cM (0,1),cM (-1,0),cM (0,-1),cM (1,0)]]) (D1:=fD (.lst q) o1 hg wd tp sd way (bu ks (r+tp,c+sd)) (some<|iI r) (some<|iI c) o10 o11 o12 o13) rfl rfl rfl e rfl) rfl)<|u_ (aT (CU (a_ (v_<|b_ rfl rfl rfl rfl rfl)<|a_ (v_<|CU (a_ rfl<|a_ (v_<|b_ rfl rfl rfl rfl rfl) rfl) rfl rfl) rfl) rfl rfl) (CD rfl) rfl)<|aT (CU (a_ (v_<|b_ rfl rfl rfl rfl rfl)<|a_ (v_<|CU (a_ rfl<|a_ (v_<|b_ rfl rfl rfl rfl rfl) rfl) rfl rfl) rfl) rfl rfl) (CD rfl) rfl)
theorem zh{M:Nat}(H:ba (M+40) h)(d:Jl hg wd way)(R:Ey hg wd tp sd ks):
  ∃ h' CG Gp Ez EA Dm Do,b8 (iR1<|aa (oV<|ae vMul (oV<|eC<|.int 40)<|oV<|aA vInt<|aa (oV<|ae vEq (oSl 6)<|oV<|eC<|.int 5) aNil) aNil) (gN 11) G.ii (fD h o1 hg wd tp sd way ks (some<|iI 0) (some<|iI 0) o10 o11 o12 o13)=some (.nx,fD h' o1 hg wd tp sd way CG Gp Ez o10 EA Dm Do)/\ba M h'/\Ey hg wd tp sd CG:=by
 obtain⟨k,hk,EJ⟩:∃ k:Int,ae vMul (oV<|eC<|.int 40) (oV<|aA vInt<|aa (oV<|ae vEq (oSl 6)<|oV<|eC<|.int 5) aNil) (fD h o1 hg wd tp sd way ks (some<|iI 0) (some<|iI 0) o10 o11 o12 o13)=some (iI k,fD h o1 hg wd tp sd way ks (some<|iI 0) (some<|iI 0) o10 o11 o12 o13)/\0<=k/\k<=40:=by
  have z:aA vInt (aa (oV<|ae vEq (oSl 6)<|oV<|eC<|.int 5) aNil) (fD h o1 hg wd tp sd way ks (some<|iI 0) (some<|iI 0) o10 o11 o12 o13)=some (iI<|if decide (way=5) then 1 else 0,fD h o1 hg wd tp sd way ks (some<|iI 0) (some<|iI 0) o10 o11 o12 o13):=CU (a_ (v_<|b_ rfl rfl rfl rfl<|gu _ _) rfl) rfl rfl;refine⟨_,b_ rfl (v_ z) rfl rfl (da (fH (by decide) (by decide))),?_⟩;cases decide (way=5)<;>decide
 obtain⟨D',l1,h',CG,r',c',EA,Dm,Do,rfl,l2,l3,_⟩:=iC (tg:=gN 11) (b:=ii) (xs:=bC 0 k.toNat) (fun i D=>∃ h ks r c o11 o12 o13,D=fD h o1 hg wd tp sd way ks (some<|iI r) (some<|iI c) o10 o11 o12 o13/\ba (M+40 - i) h/\Ey hg wd tp sd ks/\0<=r/\r<hg/\0<=c/\c<wd) (D:=fD h o1 hg wd tp sd way ks (some<|iI 0) (some<|iI 0) o10 o11 o12 o13)
  ⟨h,ks,0,0,o11,o12,o13,rfl,H,R,XT _,d.h0,XT _,d.w0⟩ (fun i x D hx hI=>by
   obtain⟨h,ks,r,c,o11,o12,o13,rfl,H,R,q1,q2,q3,q4⟩:=hI;obtain⟨hi,rfl⟩:=iH hx;obtain⟨h',CG,r',c',Dm,Do,e,H',R',z⟩:=zg (M:=M+40 - (i+1)) (o1:=o1) (o10:=o10) (o11:=some (iI<|0+(i:Int))) (o12:=o12) (o13:=o13) (H.mono (by lia)) d R q1 q2 q3 q4;exact⟨_,_,_,rfl,e,.inl rfl,h',CG,r',c',_,Dm,Do,rfl,H',R',z⟩)
 rw[jV] at l2;exact⟨h',CG,_,_,EA,Dm,Do,dM (o:=none) (HJ (a_ (v_ hk) rfl) rfl ⟨by lia,by lia⟩) l1 rfl,l2.mono (by lia),l3⟩
def Up(cs:List (Int×Int)):Prop:=cs.Pairwise fun a b=>BE (cM a) (cM b)=true
theorem mx(nd:ks.Nodup)(hl:ks.length<=1000):∃ cs:List (Int×Int),cS BE (ks.map cM)=cs.map cM/\cs.Perm ks/\Up cs:=by
 have o:=jT nd hl;obtain⟨cs,h1,h2⟩:=yW (gm<|ks.map cM);refine⟨cs,h2,h1,?_⟩;have:=lN o.ord.nd o.ord.Ea;rw[h2] at this;exact List.pairwise_map.mp this
structure Jm(cs:List (Int×Int)):Prop where
 up:Up cs
 Ic:∀ c∈cs,0<=c.1/\c.1<=30/\0<=c.2/\c.2<=30
 len:cs.length<=144
theorem zi{M:Nat}(H:ba (M+400) h):∃ cs h',ij [h]=some (cT cs,[h'])/\Jm cs/\ba M h':=by
 obtain⟨v0,h0,e0,_,_,H0⟩:=dN (n:=M+399) (m:=8) H (by decide) (by decide);obtain⟨ms,O3,Nf,Pw⟩:∃ ms:Int,(if decide (v0=0) then 12 else 8)=ms/\0<ms/\ms<=12:=by
  cases decide (v0=0)
  ·exact⟨8,rfl,by decide,by decide⟩
  ·exact⟨12,rfl,by decide,by decide⟩
 obtain⟨v1,h1,e1,a1,b1,H1⟩:=dN (n:=M+398) (m:=ms) H0 Nf (by lia);obtain⟨v2,h2,e2,a2,b2,H2⟩:=dN (n:=M+397) (m:=ms) H1 Nf (by lia);obtain⟨x3,h3,e3,i3,H3⟩:=iG (n:=M+396) (xs:=[.int 0,.int 0,.int 1,.int<|31 - (1+v1)]) H2 (by simp) (by simp);obtain⟨x4,h4,e4,i4,H4⟩:=iG (n:=M+395) (xs:=[.int 0,.int 0,.int 2,.int<|31 - (1+v2)]) H3 (by simp) (by simp);obtain⟨v5,h5,e5,a5,b5,H5⟩:=dN (n:=M+340) (m:=6) (H4.mono (by lia)) (by decide) (by decide);obtain⟨tp,rfl,t0,t1⟩:∃ tp:Int,x3=.int tp/\0<=tp/\tp+(1+v1)<=31:=by
  simp at i3;rcases i3 with rfl | rfl | rfl<;>exact⟨_,rfl,by lia,by lia⟩
 obtain⟨sd,rfl,s0,s1⟩:∃ sd:Int,x4=.int sd/\0<=sd/\sd+(1+v2)<=31:=by
  simp at i4;rcases i4 with rfl | rfl | rfl<;>exact⟨_,rfl,by lia,by lia⟩
 obtain⟨q,rfl⟩:=bh H;obtain⟨q0,rfl⟩:=bh H0;obtain⟨q1,rfl⟩:=bh H1;obtain⟨q2,rfl⟩:=bh H2;obtain⟨q3,rfl⟩:=bh H3;obtain⟨q4,rfl⟩:=bh H4;obtain⟨q5,rfl⟩:=bh H5;have d:Jl (1+v1) (1+v2) v5:=⟨by lia,by lia,by lia,by lia,a5,b5⟩;obtain⟨h6,Ng,o8,o9,o10,e6,H6,R6⟩:=zf (M:=M+40) (tp:=tp) (sd:=sd) (o1:=some (iI ms)) (o8:=none) (o9:=none) (o10:=none) (o11:=none) (o12:=none) (o13:=none) (H5.mono (by lia)) d;obtain⟨h7,Jn,Gp,Ez,EA,Dm,Do,e7,H7,R7⟩:=zh (M:=M) (o1:=some (iI ms)) (o10:=o10) (o11:=none) (o12:=none) (o13:=none) H6 d R6;have hl:=R7.len d.h1 d.w1;obtain⟨cs,c1,c2,c3⟩:=mx R7.nd (by lia);obtain⟨q6,rfl⟩:=bh H6;obtain⟨q7,rfl⟩:=bh H7;refine⟨cs,.lst q7,?_,⟨c3,fun c hc=>?_,by rw[c2.length_eq];exact hl⟩,H7⟩
 ·have hs:BZ [.dT (mt Jn)]=some (cL cs):=by
   show dt ((mt Jn).map fun p=>Im.tup p.1)=_;rw[y3];unfold dt;rw[Z0 (jI.mpr (jT R7.nd (by lia))),c1]
  unfold ij qx;have z0:kB (ae vEq (oV<|ar 2 G.br<|aa (oSl 0)<|aa (oV<|eC<|.int 8) aNil)<|oV<|eC<|.int 0) [some (.lst q),some<|iI 8,none,none,none,none,none,none,none,none,none,none,none,none]=some (decide (v0=0),[some (.lst q0),some<|iI 8,none,none,none,none,none,none,none,none,none,none,none,none]):=Eh (b_ (v_<|d_ (a_ rfl<|a_ rfl rfl) rfl rfl e0 rfl) rfl rfl rfl<|gu _ _);have z1:sIf (kB<|ae vEq (oV<|ar 2 G.br<|aa (oSl 0)<|aa (oV<|eC<|.int 8) aNil)<|oV<|eC<|.int 0) (aw 1<|eC<|.int 12) sNil [some (.lst q),some<|iI 8,none,none,none,none,none,none,none,none,none,none,none,none]=some (.nx,[some (.lst q0),some<|iI ms,none,none,none,none,none,none,none,none,none,none,none,none]):=by
   rw[<- O3];cases hb:decide (v0=0) with
   | true=>rw[hb] at z0;exact d0 z0 rfl
   | false=>rw[hb] at z0;exact db z0 rfl
  have z2:eu 2 3 (aa (oV<|ae vAdd (oV<|eC<|.int 1)<|oV<|ar 2 G.br<|aa (oSl 0)<|aa (oSl 1) aNil)<|aa (oV<|ae vAdd (oV<|eC<|.int 1)<|oV<|ar 2 G.br<|aa (oSl 0)<|aa (oSl 1) aNil) aNil) [some (.lst q0),some<|iI ms,none,none,none,none,none,none,none,none,none,none,none,none]=some (.nx,[some (.lst q2),some<|iI ms,some<|iI<|1+v1,some<|iI<|1+v2,none,none,none,none,none,none,none,none,none,none]):=
   rk (a_ (v_<|b_ rfl (v_<|d_ (os:=[.sl 0,.sl 1]) rfl rfl rfl e1 rfl) rfl rfl rfl)<|a_ (v_<|b_ rfl (v_<|d_ (os:=[.sl 0,.sl 1]) rfl rfl rfl e2 rfl) rfl rfl rfl) rfl) rfl (CD rfl) (CD rfl) rfl;have z3:eu 4 5 (aa (oV<|ar 2 G.ce<|aa (oSl 0)<|aa (oV<|aY<|aa (oV<|eC<|.int 0)<|aa (oV<|eC<|.int 0)<|aa (oV<|eC<|.int 1)<|aa (oV<|ae vSub (oV<|eC<|.int 31)<|oSl 2) aNil) aNil)<|aa (oV<|ar 2 G.ce<|aa (oSl 0)<|aa (oV<|aY<|aa (oV<|eC<|.int 0)<|aa (oV<|eC<|.int 0)<|aa (oV<|eC<|.int 2)<|aa (oV<|ae vSub (oV<|eC<|.int 31)<|oSl 3) aNil) aNil) aNil) [some (.lst q2),some<|iI ms,some<|iI<|1+v1,some<|iI<|1+v2,none,none,none,none,none,none,none,none,none,none]=some (.nx,[some (.lst q4),some<|iI ms,some<|iI<|1+v1,some<|iI<|1+v2,some<|iI tp,some<|iI sd,none,none,none,none,none,none,none,none]):=
   rk (a_ (v_<|d_ (os:=[.sl 0,.vl<|.lst [.int 0,.int 0,.int 1,.int<|31 - (1+v1)]]) (D1:=[some (.lst q2),some<|iI ms,some<|iI<|1+v1,some<|iI<|1+v2,none,none,none,none,none,none,none,none,none,none]) rfl rfl rfl e3 rfl)<|a_ (v_<|d_ (os:=[.sl 0,.vl<|.lst [.int 0,.int 0,.int 2,.int<|31 - (1+v2)]]) (D1:=[some (.lst q3),some<|iI ms,some<|iI<|1+v1,some<|iI<|1+v2,none,none,none,none,none,none,none,none,none,none]) rfl rfl rfl e4 rfl) rfl) rfl (CD rfl) (CD rfl) rfl;have z4:aw 6 (ar 2 G.br<|aa (oSl 0)<|aa (oV<|eC<|.int 6) aNil) [some (.lst q4),some<|iI ms,some<|iI<|1+v1,some<|iI<|1+v2,some<|iI tp,some<|iI sd,none,none,none,none,none,none,none,none]=some (.nx,[some (.lst q5),some<|iI ms,some<|iI<|1+v1,some<|iI<|1+v2,some<|iI tp,some<|iI sd,some<|iI v5,none,none,none,none,none,none,none]):=
   aT (d_ (os:=[.sl 0,.vl<|iI 6]) rfl rfl rfl e5 rfl) (CD rfl) rfl;have z5:aw 7 eDict0T [some (.lst q5),some<|iI ms,some<|iI<|1+v1,some<|iI<|1+v2,some<|iI tp,some<|iI sd,some<|iI v5,none,none,none,none,none,none,none]=some (.nx,fD (.lst q5) (some<|iI ms) (1+v1) (1+v2) tp sd v5 [] none none none none none none):=rfl;have z6:cG (aG<|aa (oV<|eC<|.int 0)<|aa (oV<|eC<|.int 0) aNil) (gT 2<|cq (gN 8)<|cq (gN 9) gNil') (fD (.lst q6) (some<|iI ms) (1+v1) (1+v2) tp sd v5 Ng o8 o9 o10 none none none)=some (.nx,fD (.lst q6) (some<|iI ms) (1+v1) (1+v2) tp sd v5 Ng (some<|iI 0) (some<|iI 0) o10 none none none):=rfl;have z7:aO (aA vTuple<|aa (oV<|aA BZ<|aa (oSl 7) aNil) aNil) (fD (.lst q7) (some<|iI ms) (1+v1) (1+v2) tp sd v5 Jn Gp Ez o10 EA Dm Do)=some (.rt<|cT cs,fD (.lst q7) (some<|iI ms) (1+v1) (1+v2) tp sd v5 Jn Gp Ez o10 EA Dm Do):=bE (CU (a_ (v_<|CU (a_ rfl rfl) rfl hs) rfl) rfl rfl);refine bt (D:=fD (.lst q7) (some<|iI ms) (1+v1) (1+v2) tp sd v5 Jn Gp Ez o10 EA Dm Do) rfl ?_ rfl;refine u_ (D1:=[some (.lst q),some<|iI 8,none,none,none,none,none,none,none,none,none,none,none,none]) rfl ?_;exact u_ z1 (u_ z2<|u_ z3<|u_ z4<|u_ z5<|u_ e6<|u_ z6<|u_ e7 z7)
 ·have:=R7.Ic c (c2.mem_iff.mp hc);lia
abbrev m_:=Int×Int
variable{f left f_ part cs:List m_}{p:List m_×List m_}{s c:m_}
theorem my(o0:Option Vl):∀ (cs ks:List m_) (o2:Option Vl),ks.length+cs.length<100000->∃ LZ,bn (gN 2) ik (cs.map cM) [o0,some<|.dT<|mt ks,o2]=some (.nx,[o0,some<|.dT<|mt<|cs.foldl bu ks,LZ])
 | [],ks,o2,_=>⟨o2,rfl⟩
 | c::cs,ks,o2,hl=>by
  have hp:putA (.dT<|mt ks) (.im<|.tup<|kM c) (bV true)=some (.dT<|mt<|bu ks c):=by
   rw[<- jU];exact Z0 ⟨rfl,by unfold mt;rw[ZY];rw[ZC] at hl;lia⟩
  have la:(bu ks c).length<=ks.length+1:=by
   unfold bu;split
   ·lia
   ·rw[ZG];exact ZR _
  obtain⟨LZ,ih⟩:=my o0 cs (bu ks c) (some<|.im<|cM c) (by rw[ZC] at hl;lia);refine⟨LZ,?_⟩;have e:ik [o0,some<|.dT<|mt ks,some<|.im<|cM c]=some (.nx,[o0,some<|.dT<|mt<|bu ks c,some<|.im<|cM c]):=by
   unfold ik;refine HI rfl ?_;show (putA (.dT<|mt ks) (.im<|.tup<|kM c)<|bV true).map _=_;rw[hp];rfl
  rw[Zy,bn];show (ik [o0,some<|.dT<|mt ks,some<|.im<|cM c]).bind _=_;rw[e];exact ih
theorem jW:∀ (cs ks:List m_),(ks++cs).Nodup->cs.foldl bu ks=ks++cs
 | [],ks,_=>by rw[ZZ];rfl
 | c::cs,ks,nd=>by
  have hc:c∉ks:=fun h=>by
   have:=(ZM.mp nd).2.2 c h c (.head _);exact this rfl
  rw[Yt,bu,ZX hc,jW cs (ks++[c]) (by rw[Z7];exact nd),Z7];rfl
theorem zj(nd:cs.Nodup)(hl:cs.length<10000):eQ [cT cs]=some (.dT<|mt cs,[cT cs]):=by
 obtain⟨o,lp⟩:=my (some<|cT cs) cs [] none (by show 0+_ < _;lia);rw[jW cs [] nd] at lp;unfold eQ lZ;refine bt (D:=[some (cT cs),some .jk,o]) rfl (u_ (D1:=[some (cT cs),some<|.dT [],none]) rfl<|u_ (dM (o:=none) rfl lp rfl) rfl) rfl
theorem zk(nd:cs.Nodup)(hl:cs.length<10000):eQ [cL cs]=some (.dT<|mt cs,[cL cs]):=by
 obtain⟨o,lp⟩:=my (some .jk) cs [] none (by show 0+_ < _;lia);rw[jW cs [] nd] at lp;unfold eQ lZ;refine bt (D:=[some (cL cs),some .jk,o]) rfl (u_ (D1:=[some (cL cs),some<|.dT [],none]) rfl<|u_ (dM (o:=some (0,cL cs)) (D1:=[some .jk,some<|.dT [],none]) rfl lp rfl) rfl) rfl
def EX(c:m_):List m_:=[(c.1 - 1,c.2),(c.1,c.2 - 1),(c.1,c.2+1),(c.1+1,c.2)]
theorem zl(c:m_):jN [.im (cM c)]=some (cL<|EX c,[.im (cM c)]):=rfl
def FW(c:m_)(w:Int):List m_:=(range (w * w).toNat).map fun (k:Nat)=>(c.1+(k:Int) / w,c.2+(k:Int) % w)
def Ei(w:Int):Prop:=1<=w/\w<=6
theorem zm(c:m_){w:Int}(h:Ei w):gp [.im (cM c),iI w]=some (cL<|FW c w,[.im (cM c),iI w]):=by
 have w1:=h.1;have w2:=h.2;have sq:w * w<=36:=by
  have:w=1\/w=2\/w=3\/w=4\/w=5\/w=6:=by lia
  rcases this with rfl | rfl | rfl | rfl | rfl | rfl<;>decide
 have Px:0<=w * w:=Wr (by lia) (by lia);have e:bC 0 (w * w).toNat=(range (w * w).toNat).map fun (k:Nat)=>.int (k:Int):=by rw[rn,YO];rfl
 unfold gp qy;refine bt (D:=[some (.im<|cM c),some<|iI w]) rfl (bE ?_) rfl;refine (FV (xs:=(range (w * w).toNat).map fun (k:Nat)=>.int (k:Int)) (o:=none) (D1:=[some (.im<|cM c),some<|iI w]) ?_ (fJ (fun (k:Nat)=>.int (k:Int)) (fun (k:Nat)=>cM (c.1+(k:Int) / w,c.2+(k:Int) % w)) _ (fun k hk=>?_) ?_) rfl).trans ?_
 ·rw[<- e];exact HJ (a_ (v_ (b_ rfl rfl rfl rfl (da (fH (by lia) (by lia))))) rfl) rfl ⟨by lia,by lia⟩
 ·refine⟨[some (iI k),some<|.im<|cM c,some<|iI w],_,[some (iI k),some<|.im<|cM c,some<|iI w],rfl,rfl,?_,rfl⟩;exact E8 (a_ (v_ (b_ (v_<|b_ (d:=iI c.1) rfl rfl rfl rfl rfl) (v_ (b_ rfl rfl rfl rfl (iE (by lia) (by lia)))) rfl rfl rfl)) (a_ (v_ (b_ (v_<|b_ (d:=iI c.2) rfl rfl rfl rfl rfl) (v_ (b_ rfl rfl rfl rfl (dL (by lia)))) rfl rfl rfl)) rfl)) rfl (ZQ rfl) rfl
 ·rw[Y9];lia
 ·unfold FW cL;rw[YO];rfl
def DA(c:m_)(w:Int)(n:Nat):List m_:=(range n).flatMap fun (d:Nat)=>(range w.toNat).map fun (r:Nat)=>(c.1+(d:Int),c.2+(r:Int))
theorem mz(c:m_)(w:Int):∀ n,(DA c w n).length=n * w.toNat
 | 0=>by rw[Nat.zero_mul];rfl
 | n+1=>by
  unfold DA;rw[List.range_succ,List.flatMap_append,ZG];show (DA c w n).length+_=_;rw[mz c w n,List.flatMap_cons,List.flatMap_nil,ZZ,ZY,Y9,Nat.add_mul,Nat.one_mul]
theorem zn(c:m_){w:Int}(h:Ei w):gq [.im (cM c),iI w]=some (cL<|DA c w w.toNat,[.im (cM c),iI w]):=by
 have w1:=h.1;have w2:=h.2;obtain⟨D',l1,o3,rfl⟩:=iC (tg:=gN 3) (b:=l8) (xs:=bC 0 w.toNat) (fun i D=>∃ o3,D=[some (.im<|cM c),some<|iI w,some<|cL<|DA c w i,o3]) (D:=[some (.im<|cM c),some<|iI w,some<|.lst [],none]) ⟨none,rfl⟩ (fun i x D hx hI=>by
  obtain⟨o3,rfl⟩:=hI;obtain⟨hi,rfl⟩:=iH hx;refine⟨[some (.im<|cM c),some<|iI w,some<|cL<|DA c w i,some<|iI<|0+(i:Int)],_,_,rfl,?_,.inl rfl,some<|iI<|0+(i:Int),rfl⟩;have e:bC 0 w.toNat=(range w.toNat).map fun (k:Nat)=>.int (k:Int):=by rw[rn,YO];rfl
  have ec:aZ 1 [0,3] (iR1<|aa (oSl 1) aNil) (gN 0) kYes G.qI [some (.im<|cM c),some<|iI w,some<|cL<|DA c w i,some<|iI<|0+(i:Int)]=some (cL<|(range w.toNat).map fun (r:Nat)=>(c.1+(i:Int),c.2+(r:Int)),[some (.im<|cM c),some<|iI w,some<|cL<|DA c w i,some<|iI<|0+(i:Int)]):=by
   refine (FV (xs:=(range w.toNat).map fun (k:Nat)=>.int (k:Int)) (o:=none) (D1:=[some (.im<|cM c),some<|iI w,some<|cL<|DA c w i,some<|iI<|0+(i:Int)]) ?_ (fJ (fun (k:Nat)=>.int (k:Int)) (fun (k:Nat)=>cM (c.1+(i:Int),c.2+(k:Int))) _ (fun k hk=>?_) ?_) rfl).trans ?_
   ·rw[<- e];exact HJ (a_ rfl rfl) rfl ⟨by lia,by lia⟩
   ·refine⟨[some (iI k),some<|.im<|cM c,some<|iI<|0+(i:Int)],_,[some (iI k),some<|.im<|cM c,some<|iI<|0+(i:Int)],rfl,rfl,?_,rfl⟩;rw[show (0:Int)+(i:Int)=(i:Int) from Int.zero_add _];exact E8 (a_ (v_<|b_ (v_<|b_ (d:=iI c.1) rfl rfl rfl rfl rfl) rfl rfl rfl rfl)<|a_ (v_<|b_ (v_<|b_ (d:=iI c.2) rfl rfl rfl rfl rfl) rfl rfl rfl rfl) rfl) rfl (ZQ rfl) rfl
   ·rw[Y9];lia
   ·unfold cL;rw[YO];rfl
  have hx:mExtend (cL<|DA c w i) [cL ((range w.toNat).map fun (r:Nat)=>(c.1+(i:Int),c.2+(r:Int)))]=some (.im .j_,cL<|DA c w<|i+1):=by
   have hl:=mz c w i;have Py:i * w.toNat<=36:=Zo (Nat.mul_le_mul (show i<=6 by lia) (show w.toNat<=6 by lia)) (by decide);have e2:DA c w (i+1)=DA c w i++(range w.toNat).map fun (r:Nat)=>(c.1+(i:Int),c.2+(r:Int)):=by
    unfold DA;rw[List.range_succ,List.flatMap_append,List.flatMap_cons,List.flatMap_nil,ZZ]
   show (if ((DA c w i).map cM).length+(((range w.toNat).map fun (r:Nat)=>(c.1+(i:Int),c.2+(r:Int))).map cM).length<=100000 then some (Vl.im .j_,Vl.lst<|_++_) else none)=_;rw[Z0 (by rw[ZY,ZY,hl,ZY,Y9];lia),e2,<- Y5]
  unfold l8;exact Ko (Jj rfl rfl (a_ (v_ ec) rfl) rfl rfl hx rfl))
 rw[jV] at *;unfold gq qJ;exact bt (D:=[some (.im<|cM c),some<|iI w,some .jk,o3]) rfl (u_ (D1:=[some (.im<|cM c),some<|iI w,some<|.lst [],none]) rfl (u_ (dM (o:=none) (HJ (a_ rfl rfl) rfl ⟨by lia,by lia⟩) l1 rfl) rfl)) rfl
def Kq(c:m_)(w:Int)(x:m_):Prop:=c.1<=x.1/\x.1<c.1+w/\c.2<=x.2/\x.2<c.2+w
theorem rp(h:Ei w){x:m_}:x∈FW c w↔Kq c w x:=by
 have w1:=h.1;unfold FW Kq;rw[YT];constructor
 ·rintro⟨k,hk,rfl⟩;have Fq:(k:Int)<w * w:=by have:=Zp.mp hk;lia
  have d1:=Int.emod_add_mul_ediv (k:Int) w;have d2:=Ya (k:Int) (show w≠0 by lia);have d3:=Yd (k:Int) (show 0<w by lia);have d4:(k:Int) / w<w:=Int.ediv_lt_of_lt_mul (by lia) Fq;have d5:0<=(k:Int) / w:=Int.ediv_nonneg (by lia) (by lia);dsimp only;lia
 ·rintro⟨a,b,d,e⟩;refine⟨((x.1 - c.1) * w+(x.2 - c.2)).toNat,?_,?_⟩
  ·rw[Zp];have:(x.1 - c.1) * w+(x.2 - c.2)<w * w:=by
    have:(x.1 - c.1+1) * w<=w * w:=Int.mul_le_mul_of_nonneg_right (by lia) (by lia);rw[Int.add_mul,Int.one_mul] at this;lia
   have:0<=(x.1 - c.1) * w:=Wr (by lia) (by lia);lia
  ·have p0:0<=(x.1 - c.1) * w:=Wr (by lia) (by lia);have e0:((((x.1 - c.1) * w+(x.2 - c.2)).toNat:Nat):Int)=(x.2 - c.2)+(x.1 - c.1) * w:=by lia
   rw[e0,Int.add_mul_ediv_right _ _ (by lia),Int.add_mul_emod_self_right,Int.ediv_eq_zero_of_lt (by lia) (by lia),Int.emod_eq_of_lt (by lia) (by lia)];refine Prod.ext ?_ ?_
   ·show c.1+(0+(x.1 - c.1))=x.1;lia
   ·show c.2+(x.2 - c.2)=x.2;lia
theorem rq(h:Ei w){x:m_}:x∈DA c w w.toNat↔Kq c w x:=by
 have w1:=h.1;unfold DA Kq;rw[List.mem_flatMap];constructor
 ·rintro⟨d,hd,hx⟩;obtain⟨r,hr,rfl⟩:=YT.mp hx;have:=Zp.mp hd;have:=Zp.mp hr;dsimp only;lia
 ·rintro⟨a,b,d,e⟩;refine⟨(x.1 - c.1).toNat,Zp.mpr (by lia),YT.mpr ⟨(x.2 - c.2).toNat,Zp.mpr (by lia),Prod.ext ?_ ?_⟩⟩
  ·show c.1+(((x.1 - c.1).toNat:Nat):Int)=x.1;lia
  ·show c.2+(((x.2 - c.2).toNat:Nat):Int)=x.2;lia
def aU(cs:List m_)(w:Int)(c:m_):Bool:=(FW c w).all fun x=>decide (x∈cs)
theorem zo(h:Ei w)(c:m_):((DA c w w.toNat).all fun x=>decide (x∈cs))=aU cs w c:=by
 unfold aU;rw[XY,Zk,Zk];constructor
 ·intro z x hx;exact z x ((rq h).mpr<|(rp h).mp hx)
 ·intro z x hx;exact z x ((rp h).mpr<|(rq h).mp hx)
theorem jX(ks:List m_)(c:m_):vIn (.im<|cM c) (.dT<|mt ks)=some (bV<|decide (c∈ks)):=by
 rw[<- yY];rfl
theorem L1{α:Type}(f:α->Bool):∀ xs:List α,bls (xs.map fun r=>.bl<|f r)=some (xs.map f)
 | []=>rfl
 | x::r=>by rw[Zy,bls,L1 f r];rfl
theorem rz(f:α->Bool)(xs:List α):vAll [.lst (xs.map fun r=>.bl<|f r)]=some (bV<|xs.all f):=by
 show (bls _).map _=_;rw[L1,Wt,W8];rfl
theorem zp(f:α->Bool)(xs:List α):vAny [.lst (xs.map fun r=>.bl<|f r)]=some (bV<|xs.any f):=by
 show (bls _).map _=_;rw[L1,Wt,Wo];rfl
theorem rA(a b:Int×Int):bT 6 (cM a) (cM b)=true:=rfl
def OZ:Im->Bool
 | .int i=>decide (0<=i) && decide (i<31)
 | _=>false
theorem zq{a b c:Int×Int}(h1:BE (cM a) (cM b)=true)(h2:BE (cM b) (cM c)=true):BE (cM a) (cM c)=true:=jG (rA a b) (rA b c) h1 h2
theorem jY{cs:List (Int×Int)}(h:Up cs):cs.Nodup:=h.imp fun {a b} e z=>by rw[z,jF] at e;cases e
theorem Kr{g:M Vl}{d:Vl}(e:g D=some (d,D1))(k:dC d=some xs):bi (oV g) D=some ((xs,none),D1):=by
 unfold bi;rw[v_ e];show (dC d).map _=_;rw[k];rfl
theorem zr{o:Option Vl}(h:Ei w)(e:D=[some (.im<|cM c),some<|iI w,some<|.dT<|mt cs]):l5 D=some (aU cs w c,D):=by
 subst e;have O4:(FW c w).length<=100:=by
  unfold FW;rw[ZY,Y9];have:w=1\/w=2\/w=3\/w=4\/w=5\/w=6:=by have:=h.1;have:=h.2;lia
  rcases this with rfl | rfl | rfl | rfl | rfl | rfl<;>decide
 have c1:aZ 1 [2] (bi<|oV<|ar 2 G.gp<|aa (oSl 0)<|aa (oSl 1) aNil) (gN 0) kYes G.qz [some (.im<|cM c),some<|iI w,some<|.dT<|mt cs]=some (.lst<|(FW c w).map fun x=>.bl<|decide (x∈cs),[some (.im<|cM c),some<|iI w,some<|.dT<|mt cs]):=by
  refine FV (xs:=(FW c w).map cM) (o:=none) (D1:=[some (.im<|cM c),some<|iI w,some<|.dT<|mt cs]) ?_ (fJ cM (fun x=>.bl<|decide (x∈cs)) _ (fun x hx=>?_) (by lia)) rfl
  ·exact Kr (d_ (a_ rfl<|a_ rfl rfl) rfl rfl (zm c h) rfl) rfl
  ·exact⟨[some (.im<|cM x),some<|.dT<|mt cs],_,[some (.im<|cM x),some<|.dT<|mt cs],rfl,rfl,b_ rfl rfl rfl rfl<|jX cs x,rfl⟩
 exact Go (v_<|CU (a_ (v_ c1) rfl) rfl<|rz (fun x=>decide (x∈cs))<|FW c w) rfl rfl
theorem zt(nd:cs.Nodup)(hl:cs.length<10000)(h:Ei w):eR [cT cs,iI w]=some (.dT<|mt<|cs.filter<|aU cs w,[cT cs,iI w]):=by
 have c1:aZ 1 [1,2] (bi<|oSl 0) (gN 0) G.l5 G.qA [some (cT cs),some<|iI w,some<|.dT<|mt cs]=some (cL<|cs.filter<|aU cs w,[some (cT cs),some<|iI w,some<|.dT<|mt cs]):=by
  refine FV (xs:=cs.map cM) (o:=none) (D1:=[some (cT cs),some<|iI w,some<|.dT<|mt cs]) rfl (fI cM (aU cs w) cM _ [] (fun x hx=>?_) (by rw[Yu];lia)) rfl;refine⟨[some (.im<|cM x),some<|iI w,some<|.dT<|mt cs],_,rfl,zr (o:=none) h rfl,fun _=>rfl,fun _=>⟨_,rfl,rfl⟩⟩
 have FQ:=nd.filter (aU cs w);have FL:(cs.filter<|aU cs w).length<10000:=WX (Za _ _) hl;unfold eR qB;refine bt (D:=[some (cT cs),some<|iI w,some<|.dT<|mt cs]) rfl (u_ (D1:=[some (cT cs),some<|iI w,some<|.dT<|mt cs]) (aT (d_ (a_ rfl rfl) rfl rfl (zj nd hl) rfl) (CD rfl) rfl) ?_) rfl;exact bE (d_ (a_ (v_ c1) rfl) rfl rfl (zk FQ FL) rfl)
theorem zu(h:Ei w):ir [.dT (mt cs),iI w,.im<|cM c]=some (bV<|aU cs w c,[.dT (mt cs),iI w,.im<|cM c]):=by
 have O4:(DA c w w.toNat).length<=100:=by
  rw[mz];have w2:=h.2;exact Zo (Nat.mul_le_mul (show w.toNat<=6 by lia) (show w.toNat<=6 by lia)) (by decide)
 have c1:aZ 1 [0] (bi<|oV<|ar 2 G.gq<|aa (oSl 2)<|aa (oSl 1) aNil) (gN 0) kYes G.qK [some (.dT<|mt cs),some<|iI w,some<|.im<|cM c]=some (.lst<|(DA c w w.toNat).map fun x=>.bl<|decide (x∈cs),[some (.dT<|mt cs),some<|iI w,some<|.im<|cM c]):=by
  refine FV (xs:=(DA c w w.toNat).map cM) (o:=none) (D1:=[some (.dT<|mt cs),some<|iI w,some<|.im<|cM c]) ?_ (fJ cM (fun x=>.bl<|decide (x∈cs)) _ (fun x hx=>?_) (by lia)) rfl
  ·exact Kr (d_ (a_ rfl<|a_ rfl rfl) rfl rfl (zn c h) rfl) rfl
  ·exact⟨[some (.im<|cM x),some<|.dT<|mt cs],_,[some (.im<|cM x),some<|.dT<|mt cs],rfl,rfl,b_ rfl rfl rfl rfl<|jX cs x,rfl⟩
 unfold ir qL;refine bt (D:=[some (.dT<|mt cs),some<|iI w,some<|.im<|cM c]) rfl (bE ?_) rfl;rw[<- zo h];exact CU (a_ (v_ c1) rfl) rfl (rz (fun x=>decide (x∈cs)) _)
theorem rB:∀ cs:List m_,Ew (cs.map fun c=>.tup [cM c,.bl true])=some (cs.map fun c=>(kM c,.bl true))
 | []=>rfl
 | c::r=>by
  rw[Zy];show (Ew _).map _=_;rw[rB r];rfl
theorem rC:∀ (cs ks:List m_),(cs.map fun c=>(kM c,Im.bl true)).foldl (fun a p=>dr a p.1 p.2) (mt ks)=mt (cs.foldl bu ks)
 | [],ks=>rfl
 | c::cs,ks=>by
  rw[Zy,Yt,Yt,jU,rC]
theorem zv(nd:cs.Nodup)(hl:cs.length<=1000):vDict [.lst (cs.map fun c=>.tup [cM c,.bl true])]=some (.dT<|mt cs):=by
 show (Ew _).bind _=_;rw[rB];refine (Z0 ⟨?_,by rw[ZY];exact hl⟩).trans ?_
 rotate_left
 ·rw[W8];exact Zk.mpr fun c _=>rfl
 ·show some (Vl.dT<|(cs.map fun c=>(kM c,Im.bl true)).foldl (fun a p=>dr a p.1 p.2)<|mt [])=_;rw[rC,jW cs [] nd];rfl
theorem rE(nd:cs.Nodup)(hl:cs.length<=1000)(h:Ei w):eS [cT cs,iI w]=some (cT<|cs.filter<|aU cs w,[cT cs,iI w]):=by
 have c0:aZ 1 [] (bi<|oSl 0) (gN 0) kYes G.qM [some (cT cs),some<|iI w,none]=some (.lst<|cs.map fun c=>.tup [cM c,.bl true],[some (cT cs),some<|iI w,none]):=by
  refine FV (xs:=cs.map cM) (o:=none) (D1:=[some (cT cs),some<|iI w,none]) rfl (fJ cM (fun c=>.tup [cM c,.bl true]) _ (fun x hx=>?_) (by lia)) rfl;exact⟨[some (.im<|cM x)],_,[some (.im<|cM x)],rfl,rfl,E8 (a_ rfl<|a_ rfl rfl) rfl (ZQ rfl) rfl,rfl⟩
 have c1:aZ 1 [2,1] (bi<|oSl 0) (gN 0) G.qO G.qN [some (cT cs),some<|iI w,some<|.dT<|mt cs]=some (cL<|cs.filter<|aU cs w,[some (cT cs),some<|iI w,some<|.dT<|mt cs]):=by
  refine FV (xs:=cs.map cM) (o:=none) (D1:=[some (cT cs),some<|iI w,some<|.dT<|mt cs]) rfl (fI cM (aU cs w) cM _ [] (fun x hx=>?_) (by rw[Yu];lia)) rfl;refine⟨[some (.im<|cM x),some<|.dT<|mt cs,some<|iI w],[some (.im<|cM x),some<|.dT<|mt cs,some<|iI w],rfl,?_,fun _=>rfl,fun _=>⟨[some (.im<|cM x),some<|.dT<|mt cs,some<|iI w],rfl,rfl⟩⟩;exact Go (v_<|d_ (D3:=[some (.im<|cM x),some<|.dT<|mt cs,some<|iI w]) (a_ rfl<|a_ rfl<|a_ rfl rfl) rfl rfl (zu h) rfl) rfl rfl
 unfold eS qP;refine bt (D:=[some (cT cs),some<|iI w,some<|.dT<|mt cs]) rfl (u_ (D1:=[some (cT cs),some<|iI w,some<|.dT<|mt cs]) (aT (CU (a_ (v_ c0) rfl) rfl<|zv nd hl) (CD rfl) rfl) ?_) rfl;exact bE (CU (a_ (v_ c1) rfl) rfl rfl)
def cJ(a b:m_):Bool:=decide ((if a.1 - b.1<0 then -(a.1 - b.1) else a.1 - b.1)+(if a.2 - b.2<0 then -(a.2 - b.2) else a.2 - b.2)=1)
theorem zw(a b:m_):io [.im (cM a),.im<|cM b]=some (bV<|cJ a b,[.im (cM a),.im<|cM b]):=by
 unfold io qC;refine bt (D:=[some (.im<|cM a),some<|.im<|cM b]) rfl (bE ?_) rfl;exact b_ (v_<|b_ (v_<|CU (a_ (v_<|b_ (v_<|b_ (d:=iI a.1) rfl rfl rfl rfl rfl) (v_<|b_ (d:=iI b.1) rfl rfl rfl rfl rfl) rfl rfl rfl) rfl) rfl rfl) (v_<|CU (a_ (v_<|b_ (v_<|b_ (d:=iI a.2) rfl rfl rfl rfl rfl) (v_<|b_ (d:=iI b.2) rfl rfl rfl rfl rfl) rfl rfl rfl) rfl) rfl rfl) rfl rfl rfl) rfl rfl rfl (gu _ _)
theorem rF{a b:m_}:cJ a b=true↔b∈EX a:=by
 obtain⟨a1,a2⟩:=a;obtain⟨b1,b2⟩:=b;unfold cJ EX;rw[Yx];simp only[ZO,Xq,Ws,Prod.mk.injEq];lia
theorem zx(ps:List m_)(c:m_):inB (cM c) (cL ps)=some (decide (c∈ps)):=by
 rw[yj,iD,jS,re];rfl
theorem zy(ps:List m_)(c:m_):inB (cM c) (cT ps)=some (decide (c∈ps)):=by
 rw[yi,iD,jS,re];rfl
theorem zz(l:List m_)(c:m_):vNotIn (.im<|cM c) (cL l)=some (bV<|!decide (c∈l)):=by
 show (inB (cM c)<|cL l).map (fun r=>Vl.im<|.bl<|!r)=_;rw[zx];rfl
theorem zA(l:List m_)(c:m_):vIn (.im<|cM c) (cT l)=some (bV<|decide (c∈l)):=by
 show (inB (cM c)<|cT l).map (fun r=>Vl.im<|.bl r)=_;rw[zy];rfl
theorem zB(a b:m_):vNe (.im<|cM a) (.im<|cM b)=some (bV<|!decide (a=b)):=by
 show (if (Im.pl 8 (cM a) && Im.pl 8 (cM b))=true then some (Vl.im<|.bl<|!az (cM a) (cM b)) else none)=_;rw[iD,iD,Z0<|show (true && true)=true from rfl,mq]
theorem zC(bs:List m_):vNe (cL bs) (.lst [])=some (bV<|!decide (bs=[])):=by
 show (if (Im.pls 8 (bs.map cM) && Im.pls 8 [])=true then some (Vl.im<|.bl<|!bx (bs.map cM) []) else none)=_;rw[jS,Z0<|show (true && Im.pls 8 [])=true from rfl];cases bs with
 | nil=>rfl
 | cons a r=>rfl
theorem zD(a b:m_):cJ a b=cJ b a:=by
 unfold cJ;rw[decide_eq_decide];split<;>split<;>split<;>split<;>omega
inductive Cn (cs:List m_) (s:m_):m_->Prop
 | self:Cn cs s s
 | step {a b:m_}:Cn cs s a->b∈cs->cJ a b=true->Cn cs s b
def B2(es:List m_)(c:m_):Bool:=es.any fun e=>cJ e c
abbrev pD(o0 o1:Option Vl)(part f_:List m_)(o4:Option Vl)(near:List m_)(o6:Option Vl):SD:=[o0,o1,some<|cL part,some<|cL f_,o4,some<|cL near,o6]
theorem zE{near:List m_}(hl:near.length<10000)(he:f_.length<=10000):ip (pD o0 o1 part f_ o4 near<|some<|.im<|cM c)=some (.nx,pD o0 o1 part f_ o4 (if B2 f_ c then near++[c] else near)<|some<|.im<|cM c):=by
 have c1:aZ 1 [6] (bi<|oSl 3) (gN 0) kYes G.l6 (pD o0 o1 part f_ o4 near<|some<|.im<|cM c)=some (.lst<|f_.map fun x=>.bl<|cJ x c,pD o0 o1 part f_ o4 near<|some<|.im<|cM c):=by
  refine FV (xs:=f_.map cM) (o:=some (3,cL f_)) (D1:=[o0,o1,some<|cL part,some .jk,o4,some<|cL near,some<|.im<|cM c]) rfl (fJ cM (fun x=>.bl<|cJ x c) _ (fun x hx=>?_) (by lia)) rfl;exact⟨[some (.im<|cM x),some<|.im<|cM c],_,[some (.im<|cM x),some<|.im<|cM c],rfl,rfl,d_ (a_ rfl<|a_ rfl rfl) rfl rfl ((zw c x).trans (by rw[zD])) rfl,rfl⟩
 have k:cb (oV<|aA vAny<|aa (oV<|aZ 1 [6] (bi<|oSl 3) (gN 0) kYes G.l6) aNil) (pD o0 o1 part f_ o4 near<|some<|.im<|cM c)=some (B2 f_ c,pD o0 o1 part f_ o4 near<|some<|.im<|cM c):=Go (v_<|CU (a_ (v_ c1) rfl) rfl<|zp (fun x=>cJ x c) f_) rfl rfl;unfold ip;cases hb:B2 f_ c with
 | false=>rw[hb] at k;exact db k rfl
 | true=>
  rw[hb] at k;refine d0 k (Ko (Jj rfl rfl (a_ rfl rfl) rfl rfl (LX (by rw[ZY];lia)) ?_));rw[Z0 rfl];show _=[o0,o1,some<|cL part,some<|cL f_,o4,some<|cL<|near++[c],some<|.im<|cM c];unfold cL;rw[Y5];rfl
theorem rG{o0 o1 o4:Option Vl}{part f_:List m_}(he:f_.length<=10000):∀ (cs near:List m_) (o6:Option Vl),near.length+cs.length<10000->∃ E9,bn (gN 6) ip (cs.map cM) (pD o0 o1 part f_ o4 near o6)=some (.nx,pD o0 o1 part f_ o4 (near++cs.filter (B2 f_)) E9)
 | [],near,o6,_=>⟨o6,by rw[List.filter_nil,ZZ];rfl⟩
 | c::cs,near,o6,hl=>by
  rw[ZC] at hl;have e:=zE (o0:=o0) (o1:=o1) (o4:=o4) (part:=part) (near:=near) (c:=c) (by lia) he;obtain⟨E9,ih⟩:=rG he cs (if B2 f_ c then near++[c] else near) (some<|.im<|cM c) (by split<;>(try rw[ZG,Zb])<;>lia);refine⟨E9,?_⟩;rw[Zy,bn];show (ip<|pD o0 o1 part f_ o4 near<|some<|.im<|cM c).bind _=_;rw[e];refine ih.trans ?_;rw[WD];cases B2 f_ c with
  | true=>rw[Z0 rfl,Z0 rfl,Z7];rfl
  | false=>rw[ZX ZJ,ZX ZJ]
structure Gq(cs:List m_)(s:m_)(part f_ left:List m_):Prop where
 nd:(part++left).Nodup
 len:(part++left).length<=cs.length+1
 sub:∀ x∈left,x∈cs
 HL:s∈part
 con:∀ x∈part,Cn cs s x
 O5:∀ x∈f_,x∈part
 L3:f_.length<=cs.length+1
 all:∀ x∈cs,x∈part++left
 out:∀ a∈part,a∉f_->∀ b∈left,cJ a b=false
theorem Gq.next(P:Gq cs s part f_ left):Gq cs s (part++left.filter (B2 f_)) (left.filter<|B2 f_) (left.filter fun c=>!B2 f_ c):=by
 have pm:(part++left.filter (B2 f_)++left.filter fun c=>!B2 f_ c).Perm (part++left):=by
  rw[Z7];exact (WC (B2 f_) left).append_left part
 refine⟨pm.nodup_iff.mpr P.nd,by rw[pm.length_eq];exact P.len,fun x hx=>P.sub x (YS.mp hx).1,ZH _ P.HL,fun x hx=>?_,fun x hx=>ZN _ hx,?_,fun x hx=>pm.mem_iff.mpr<|P.all x hx,fun a ha na b hb=>?_⟩
 ·rcases ZE.mp hx with h | h
  ·exact P.con x h
  ·obtain⟨h1,h2⟩:=YS.mp h;obtain⟨e,he,hb⟩:=Xn.mp h2;exact .step (P.con e<|P.O5 e he) (P.sub x h1) hb
 ·have:=P.len;rw[ZG] at this;have:=Za (B2 f_) left;lia
 ·obtain⟨b1,b2⟩:=YS.mp hb;have ap:a∈part:=(ZE.mp ha).resolve_right na;cases hc:cJ a b with
  | false=>rfl
  | true=>
   by_cases Nh:a∈f_
   ·have:B2 f_ b=true:=Xn.mpr ⟨a,Nh,hc⟩;rw[this] at b2;cases b2
   ·rw[P.out a ap Nh b b1] at hc;cases hc
theorem Gq.done(P:Gq cs s part [] left)(x:m_):x∈part↔Cn cs s x:=by
 refine⟨P.con x,fun h=>?_⟩;induction h with
 | self=>exact P.HL
 | step _ hb e ih=>
  rcases ZE.mp (P.all _ hb) with h | h
  ·exact h
  ·rw[P.out _ ih (fun z=>by cases z) _ h] at e;cases e
theorem zF(P:Gq cs s part f_ left)(hl:cs.length<=1000):∃ Ni E9,jO [o0,o1,some<|cL part,some<|cL f_,some<|cL left,o5,o6]=some (.nx,[o0,o1,some<|cL<|part++left.filter (B2 f_),some<|cL<|left.filter<|B2 f_,some<|cL<|left.filter fun c=>!B2 f_ c,Ni,E9]):=by
 have l1:part.length+left.length<=1001:=by have:=P.len;rw[ZG] at this;lia
 have l2:f_.length<=10000:=by have:=P.L3;lia
 have l3:=Za (B2 f_) left;obtain⟨E9,lp⟩:=rG (o0:=o0) (o1:=o1) (o4:=some .jk) (part:=part) l2 left [] o6 (by show 0+_ < _;lia);have ne:∀ c∈left,(!decide (c∈left.filter (B2 f_)))=!B2 f_ c:=fun c hc=>by
  congr 1;rw[XY,Yx,YS];exact⟨fun h=>h.2,fun h=>⟨hc,h⟩⟩
 have c1:aZ 1 [5] (bi<|oSl 4) (gN 0) G.qG G.qF [o0,o1,some<|cL<|part++left.filter (B2 f_),some<|cL f_,some<|cL left,some<|cL<|left.filter<|B2 f_,E9]=some (cL<|left.filter fun c=>!B2 f_ c,[o0,o1,some<|cL<|part++left.filter (B2 f_),some<|cL f_,some<|cL left,some<|cL<|left.filter<|B2 f_,E9]):=by
  refine FV (xs:=left.map cM) (o:=some (4,cL left)) (D1:=[o0,o1,some<|cL<|part++left.filter (B2 f_),some<|cL f_,some .jk,some<|cL<|left.filter<|B2 f_,E9]) rfl (fI cM (fun c=>!B2 f_ c) cM _ [] (fun x hx=>?_) (by rw[Yu];lia)) rfl;refine⟨[some (.im<|cM x),some<|cL<|left.filter<|B2 f_],[some (.im<|cM x),some<|cL<|left.filter<|B2 f_],rfl,?_,fun _=>rfl,fun _=>⟨[some (.im<|cM x),some<|cL<|left.filter<|B2 f_],rfl,rfl⟩⟩;rw[<- ne x hx];exact Eh (b_ rfl rfl rfl rfl<|zz _ x)
 refine⟨some .jk,E9,?_⟩;unfold jO;refine u_ (D1:=pD o0 o1 part f_ (some<|cL left) [] o6) rfl ?_;refine u_ (dM (o:=some (4,cL left)) (D1:=pD o0 o1 part f_ (some .jk) [] o6) rfl lp rfl) ?_;refine u_ (D1:=[o0,o1,some<|cL<|part++left.filter (B2 f_),some<|cL f_,some<|cL left,some<|cL<|left.filter<|B2 f_,E9]) ?_ ?_
 ·refine aT (d:=cL (part++left.filter (B2 f_))) (b_ rfl rfl rfl rfl ?_) (CD rfl) rfl;show (if (part.map cM).length+((left.filter<|B2 f_).map cM).length<=100000 then some (Vl.lst<|part.map cM++(left.filter<|B2 f_).map cM) else none)=_;rw[Z0 (by rw[ZY,ZY];lia),<- Y5]
 refine u_ (aT c1 (CD rfl) rfl) ?_;rfl
theorem zG(nd:cs.Nodup)(hl:cs.length<=900):∃ pt,iq [cT cs,.im<|cM s]=some (cT pt,[cT cs,.im<|cM s])/\Up pt/\(∀ x,x∈pt↔Cn cs s x)/\pt.length<=cs.length+1:=by
 have hp:∀ x,(!decide (x=s))=true↔x≠s:=fun x=>by
  rw[XG,Yj]
 have c1:aZ 1 [1] (bi<|oSl 0) (gN 0) G.qE G.qD [some (cT cs),some<|.im<|cM s,some<|cL [s],some<|cL [s],none,none,none]=some (cL<|cs.filter fun c=>!decide (c=s),[some (cT cs),some<|.im<|cM s,some<|cL [s],some<|cL [s],none,none,none]):=by
  refine FV (xs:=cs.map cM) (o:=none) (D1:=[some (cT cs),some<|.im<|cM s,some<|cL [s],some<|cL [s],none,none,none]) rfl (fI cM (fun c=>!decide (c=s)) cM _ [] (fun x hx=>?_) (by rw[Yu];lia)) rfl;exact⟨[some (.im<|cM x),some<|.im<|cM s],[some (.im<|cM x),some<|.im<|cM s],rfl,Eh<|b_ rfl rfl rfl rfl<|zB x s,fun _=>rfl,fun _=>⟨[some (.im<|cM x),some<|.im<|cM s],rfl,rfl⟩⟩
 have P0:Gq cs s [s] [s] (cs.filter fun c=>!decide (c=s)):=by
  have lf:=Za (fun c=>!decide (c=s)) cs;refine⟨?_,by rw[ZG,Zb];lia,fun x hx=>(YS.mp hx).1,.head _,fun x hx=>?_,fun x hx=>hx,by show 1<=_;lia,fun x hx=>?_,fun a ha na=>absurd ha na⟩
  ·refine Y0.mpr ⟨fun h=>?_,nd.filter _⟩;exact (hp s).mp (YS.mp h).2 rfl
  ·rw[ZW.mp hx];exact .self
  ·by_cases h:x=s
   ·rw[h];exact .head _
   ·exact .tail _ (YS.mpr ⟨hx,(hp x).mpr h⟩)
 obtain⟨D',w1,part,left,o4,o5,o6,rfl,P⟩:=qU (c:=l7) (b:=jO) (fun m D=>∃ part f_ left o5 o6,D=[some (cT cs),some<|.im<|cM s,some<|cL part,some<|cL f_,some<|cL left,o5,o6]/\Gq cs s part f_ left/\m=left.length+(if f_=[] then 0 else 1)) (fun D=>∃ part left o4 o5 o6,D=[some (cT cs),some<|.im<|cM s,some<|cL part,o4,some<|cL left,o5,o6]/\Gq cs s part [] left) (fun m D ⟨part,f_,left,o5,o6,e,P,em⟩=>by
  subst e;have k:l7 [some (cT cs),some<|.im<|cM s,some<|cL part,some<|cL f_,some<|cL left,o5,o6]=some (!decide (f_=[]),[some (cT cs),some<|.im<|cM s,some<|cL part,some<|cL f_,some<|cL left,o5,o6]):=Eh (b_ rfl rfl rfl rfl<|zC f_);refine⟨_,_,k,fun ht=>?_,fun hf=>?_⟩
  ·have he:f_≠[]:=fun z=>by rw[z] at ht;cases ht
   obtain⟨Ni,E9,e⟩:=zF (o0:=some (cT cs)) (o1:=some (.im<|cM s)) (o5:=o5) (o6:=o6) P (by lia);refine⟨_,_,e,.inl rfl,_,?_,_,_,_,_,_,rfl,P.next,rfl⟩;rw[em,ZX he];have hs:=(WC (B2 f_) left).length_eq;rw[ZG] at hs;by_cases hn:left.filter (B2 f_)=[]
   ·rw[Z0 hn];rw[hn,Yu] at hs;lia
   ·rw[ZX hn];have:=W9.mpr hn;lia
  ·have he:f_=[]:=by
    by_cases z:f_=[]
    ·exact z
    ·rw[Zs z] at hf;cases hf
   subst he;exact⟨part,left,_,o5,o6,rfl,P⟩) 1000000 _ [some (cT cs),some<|.im<|cM s,some<|cL [s],some<|cL [s],some<|cL<|cs.filter fun c=>!decide (c=s),none,none] ⟨_,_,_,_,_,rfl,P0,rfl⟩ (by
    have lf:=Za (fun c=>!decide (c=s)) cs;split<;>lia)
 have Jo:part.Nodup:=(ZM.mp P.nd).1;have lp:part.length<=cs.length+1:=by have:=P.len;rw[ZG] at this;lia
 obtain⟨pt,s1,s2,s3⟩:=mx Jo (by lia);refine⟨pt,?_,s3,fun x=>s2.mem_iff.trans<|P.done x,by rw[s2.length_eq];exact lp⟩;have hs:BZ [cL part]=some (cL pt):=by
  have hi:Dj (part.map cM)=none:=by
   cases part with
   | nil=>cases P.HL
   | cons a r=>rfl
  show (match Dj (part.map cM) with | some ns=>vSorted [.lst (part.map cM)] | none=>dt<|part.map cM)=_;rw[hi];dsimp only;unfold dt;rw[Z0 (jI.mpr (jT Jo (by lia))),s1]
 unfold iq qH;refine bt (D:=[some (cT cs),some<|.im<|cM s,some<|cL part,o4,some<|cL left,o5,o6]) rfl ?_ rfl;refine u_ (D1:=[some (cT cs),some<|.im<|cM s,some<|cL [s],some<|cL [s],none,none,none]) rfl ?_;refine u_ (aT c1 (CD rfl) rfl) (u_ w1<|bE ?_);exact CU (a_ (v_<|CU (a_ rfl rfl) rfl hs) rfl) rfl rfl
theorem rH(ks:List m_)(c:m_):vNotIn (.im<|cM c) (.dT<|mt ks)=some (bV<|!decide (c∈ks)):=by
 have:=jX ks c;show (inB (cM c)<|.dT<|mt ks).map (fun r=>Vl.im<|.bl<|!r)=_;have h2:(inB (cM c)<|.dT<|mt ks).map (fun r=>Vl.im<|.bl r)=some (bV<|decide (c∈ks)):=this;obtain⟨r,e1,e2⟩:=Z5.mp h2;rw[e1];cases e2;rfl
theorem rJ{α:Type}[DecidableEq α]:∀ {l m:List α},l.Nodup->(∀ x∈l,x∈m)->l.length<=m.length
 | [],_,_,_=>Ys _
 | x::l,m,nd,h=>by
  have nx:=Y0.mp nd;have:=rJ (m:=m.erase x) nx.2 fun y hy=>(List.mem_erase_of_ne (fun e=>nx.1 (by rw[<- e];exact hy))).mpr (h y<|.tail _ hy);have e:=WM (h x<|.head _);have p:=Wx (h x<|.head _);rw[ZC];lia
def B4(cs:List m_)(p:List m_×List m_)(c:m_):List m_×List m_:=if c∈cs/\c∉p.1 then (p.1++[c],p.2++[c]) else p
abbrev rD(o1:Option Vl)(cs:List m_)(p:List m_×List m_)(o4:Option Vl):SD:=[some (.dT<|mt cs),o1,some<|.dT<|mt p.1,some<|cL p.2,o4]
theorem zH(h1:p.1.length<10000)(h2:p.2.length<10000):ix (rD o1 cs p<|some<|.im<|cM c)=some (.nx,rD o1 cs (B4 cs p c)<|some<|.im<|cM c):=by
 have k1:kB (ae vIn (oSl 4)<|oSl 0) (rD o1 cs p<|some<|.im<|cM c)=some (decide (c∈cs),rD o1 cs p<|some<|.im<|cM c):=Eh (b_ rfl rfl rfl rfl<|jX cs c);have k2:kB (ae vNotIn (oSl 4)<|oSl 2) (rD o1 cs p<|some<|.im<|cM c)=some (!decide (c∈p.1),rD o1 cs p<|some<|.im<|cM c):=Eh (b_ rfl rfl rfl rfl<|rH p.1 c);unfold ix B4;by_cases a:c∈cs
 ·rw[Zq a] at k1;by_cases b:c∈p.1
  ·rw[Zq b] at k2;rw[ZX fun z=>z.2 b];exact db (rj k1 k2) rfl
  ·rw[Zs b] at k2;rw[Z0 ⟨a,b⟩];have hp:putA (.dT<|mt p.1) (.im<|.tup<|kM c) (bV true)=some (.dT<|mt<|p.1++[c]):=by
    have e:bu p.1 c=p.1++[c]:=by unfold bu;rw[ZX b]
    rw[<- e,<- jU];exact Z0 ⟨rfl,by unfold mt;rw[ZY];lia⟩
   refine d0 (rj k1 k2) (u_ (D1:=[some (.dT<|mt cs),o1,some<|.dT<|mt<|p.1++[c],some<|cL p.2,some<|.im<|cM c]) ?_ ?_)
   ·refine HI rfl ?_;show (putA (.dT<|mt p.1) (.im<|.tup<|kM c)<|bV true).map _=_;rw[hp];rfl
   ·refine Ko (Jj rfl rfl (a_ rfl rfl) rfl rfl (LX (by rw[ZY];lia)) ?_);show _=[some (.dT<|mt cs),o1,some<|.dT<|mt<|p.1++[c],some<|cL<|p.2++[c],some<|.im<|cM c];unfold cL;rw[Y5];rfl
 ·rw[Zs a] at k1;rw[ZX fun z=>a z.1];exact db (y4 k1) rfl
theorem zI(cs:List m_)(p:List m_×List m_)(c:m_):(B4 cs p c).1.length<=p.1.length+1/\(B4 cs p c).2.length<=p.2.length+1:=by
 unfold B4;split
 ·rw[ZG,ZG];exact⟨ZR _,ZR _⟩
 ·exact⟨by lia,by lia⟩
theorem rK{o1:Option Vl}{cs:List m_}:∀ (xs:List m_) (p:List m_×List m_) (o4:Option Vl),p.1.length+xs.length<10000->p.2.length+xs.length<10000->∃ Gr,bn (gN 4) ix (xs.map cM) (rD o1 cs p o4)=some (.nx,rD o1 cs (xs.foldl (B4 cs) p) Gr)
 | [],p,o4,_,_=>⟨o4,rfl⟩
 | c::xs,p,o4,h1,h2=>by
  rw[ZC] at h1 h2;have l:=zI cs p c;obtain⟨Gr,ih⟩:=rK (o1:=o1) xs (B4 cs p c) (some<|.im<|cM c) (by lia) (by lia);refine⟨Gr,?_⟩;rw[Zy,bn];show (ix<|rD o1 cs p<|some<|.im<|cM c).bind _=_;rw[zH (by lia) (by lia)];exact ih
structure GU(cs:List m_)(s:m_)(p:List m_×List m_):Prop where
 nd:p.1.Nodup
 HL:s∈p.1
 con:∀ x∈p.1,Cn cs s x
 sub:∀ x∈p.1,x=s\/x∈cs
 wt:∀ x∈p.2,x∈p.1
theorem GU.step{x:m_}(P:GU cs s p)(hx:x∈p.1){c:m_}(hc:c∈EX x):GU cs s (B4 cs p c):=by
 unfold B4;split
 ·rename_i h;refine⟨?_,ZH _ P.HL,fun y hy=>?_,fun y hy=>?_,fun y hy=>?_⟩
  ·rw[ZM];exact⟨P.nd,ZB _ _,fun a ha b hb e=>h.2 (by rw[<- ZW.mp hb,<- e];exact ha)⟩
  ·rcases ZE.mp hy with z | z
   ·exact P.con y z
   ·rw[ZW.mp z];exact .step (P.con x hx) h.1 (rF.mpr hc)
  ·rcases ZE.mp hy with z | z
   ·exact P.sub y z
   ·rw[ZW.mp z];exact .inr h.1
  ·rcases ZE.mp hy with z | z
   ·exact ZH _ (P.wt y z)
   ·exact ZN _ z
 ·exact P
theorem zJ{y:m_}:(y∈p.1->y∈(B4 cs p c).1)/\(y∈p.2->y∈(B4 cs p c).2)/\(y∈(B4 cs p c).1->y∈p.1\/y∈(B4 cs p c).2)/\(c∈cs->c∈(B4 cs p c).1):=by
 unfold B4;split
 ·rename_i h;refine⟨fun z=>ZH _ z,fun z=>ZH _ z,fun z=>?_,fun _=>ZN _<|.head _⟩;rcases ZE.mp z with z | z
  ·exact .inl z
  ·exact .inr (ZN _ z)
 ·rename_i h;refine⟨fun z=>z,fun z=>z,.inl,fun z=>?_⟩;by_cases q:c∈p.1
  ·exact q
  ·exact absurd ⟨z,q⟩ h
theorem rL{cs:List m_}{s x:m_}:∀ (xs:List m_) (p:List m_×List m_),(∀ c∈xs,c∈EX x)->x∈p.1->GU cs s p->GU cs s (xs.foldl (B4 cs) p)/\(∀ y,y∈p.1->y∈(xs.foldl (B4 cs) p).1)/\(∀ y,y∈p.2->y∈(xs.foldl (B4 cs) p).2)/\(∀ y,y∈(xs.foldl (B4 cs) p).1->y∈p.1\/y∈(xs.foldl (B4 cs) p).2)/\(∀ c∈xs,c∈cs->c∈(xs.foldl (B4 cs) p).1)/\(xs.foldl (B4 cs) p).1.length+p.2.length=(xs.foldl (B4 cs) p).2.length+p.1.length
 | [],p,_,_,P=>⟨P,fun _ h=>h,fun _ h=>h,fun _ h=>.inl h,fun c h=>(by cases h),Wp _ _⟩
 | c::xs,p,ha,hx,P=>by
  have m:=fun y=>zJ (cs:=cs) (p:=p) (c:=c) (y:=y);obtain⟨i1,i2,i3,i4,i5,i6⟩:=rL xs (B4 cs p c) (fun d hd=>ha d<|.tail _ hd) ((m x).1 hx) (P.step hx<|ha c<|.head _);refine⟨i1,fun y h=>i2 y<|(m y).1 h,fun y h=>i3 y<|(m y).2.1 h,fun y h=>?_,fun d hd h=>?_,?_⟩
  ·rcases i4 y h with z | z
   ·rcases (m y).2.2.1 z with w | w
    ·exact .inl w
    ·exact .inr (i3 y w)
   ·exact .inr z
  ·rcases ZO.mp hd with rfl | hd
   ·exact i2 d ((m d).2.2.2 h)
   ·exact i5 d hd h
  ·have e:(B4 cs p c).1.length+p.2.length=(B4 cs p c).2.length+p.1.length:=by
    unfold B4;split
    ·rw[ZG,ZG,Zb];lia
    ·exact Wp _ _
   show (xs.foldl (B4 cs)<|B4 cs p c).1.length+p.2.length=(xs.foldl (B4 cs)<|B4 cs p c).2.length+p.1.length;lia
structure GV(cs:List m_)(s:m_)(p:List m_×List m_):Prop where
 i:GU cs s p
 done:∀ a∈p.1,a∉p.2->∀ b∈cs,cJ a b=true->b∈p.1
theorem GU.len(P:GU cs s p):p.1.length<=cs.length+1:=
 rJ (m:=s::cs) P.nd fun x hx=>by
  rcases P.sub x hx with h | h
  ·rw[h];exact .head _
  ·exact .tail _ h
theorem GV.next{x:m_}{w:List m_}(P:GV cs s (f,w++[x])):GV cs s ((EX x).foldl (B4 cs) (f,w))/\((EX x).foldl (B4 cs) (f,w)).1.length+w.length=((EX x).foldl (B4 cs) (f,w)).2.length+f.length:=by
 have hx:x∈f:=P.i.wt x (ZN _<|.head _);obtain⟨i1,i2,i3,i4,i5,i6⟩:=rL (cs:=cs) (s:=s) (EX x) (f,w) (fun _ h=>h) hx ⟨P.i.nd,P.i.HL,P.i.con,P.i.sub,fun y hy=>P.i.wt y<|ZH _ hy⟩;refine⟨⟨i1,fun a ha na b hb e=>?_⟩,i6⟩;have af:a∈f:=(i4 a ha).resolve_right na;by_cases ax:a=x
 ·subst ax;exact i5 b (rF.mp e) hb
 ·refine i2 b (P.done a af (fun z=>?_) b hb e);rcases ZE.mp z with z | z
  ·exact na (i3 a z)
  ·exact ax (ZW.mp z)
theorem GV.fin(P:GV cs s (f,[]))(x:m_):x∈f↔Cn cs s x:=by
 refine⟨P.i.con x,fun h=>?_⟩;induction h with
 | self=>exact P.i.HL
 | step _ hb e ih=>exact P.done _ ih (fun z=>by cases z) _ hb e
theorem zK{s x:m_}{w:List m_}(h1:f.length<5000)(h2:w.length<5000):∃ Gr,jP (rD o1 cs (f,w++[x]) o4)=some (.nx,rD o1 cs ((EX x).foldl (B4 cs) (f,w)) Gr):=by
 obtain⟨Gr,lp⟩:=rK (o1:=o1) (cs:=cs) (EX x) (f,w) o4 (by show _+4 < _;lia) (by show _+4 < _;lia);refine⟨Gr,?_⟩;unfold jP;refine dM (o:=none) (D1:=rD o1 cs (f,w) o4) (Kr (d:=cL (EX x)) (d_ (a_ (v_<|Jj (c:=cL (w++[x])) (c':=cL w) rfl rfl rfl rfl rfl ?_ rfl) rfl) rfl rfl (zl x) rfl) rfl) lp rfl;show (((w++[x]).map cM).getLast?).map (fun d=>(Vl.im d,Vl.lst ((w++[x]).map cM).dropLast))=some (.im<|cM x,cL w);rw[Y5,List.map_singleton,List.getLast?_concat,List.dropLast_concat];rfl
theorem zL(hl:cs.length<=900):∃ pt,gr [.dT (mt cs),.im<|cM s]=some (cT pt,[.dT (mt cs),.im<|cM s])/\Up pt/\(∀ x,x∈pt↔Cn cs s x):=by
 have P0:GV cs s ([s],[s]):=⟨⟨ZB _ _,.head _,fun x hx=>by rw[ZW.mp hx];exact .self,fun x hx=>.inl<|ZW.mp hx,fun x hx=>hx⟩,fun a ha na=>absurd ha na⟩;obtain⟨D',w1,f,o4,rfl,P⟩:=qU (c:=qR) (b:=jP) (fun m D=>∃ f w o4,D=rD (some<|.im<|cM s) cs (f,w) o4/\GV cs s (f,w)/\w.length<=f.length/\m+f.length=cs.length+1+w.length) (fun D=>∃ f o4,D=rD (some<|.im<|cM s) cs (f,[]) o4/\GV cs s (f,[])) (fun m D ⟨f,w,o4,e,P,lw,em⟩=>by
  subst e;have fl:=P.i.len;rcases List.eq_nil_or_concat w with rfl | ⟨w,x,rfl⟩
  ·exact⟨false,_,Go rfl rfl rfl,fun h=>(by cases h),fun _=>⟨f,o4,rfl,P⟩⟩
  ·rw[List.concat_eq_append] at *;refine⟨true,_,Go (d:=cL (w++[x])) rfl rfl ?_,fun _=>?_,fun h=>by cases h⟩
   ·show some (!((w++[x]).map cM).isEmpty)=some true;rw[Y5,List.isEmpty_eq_false_iff.mpr (by simp)];rfl
   ·rw[ZG,Zb] at lw em;obtain⟨Gr,e0⟩:=zK (cs:=cs) (s:=s) (x:=x) (f:=f) (w:=w) (o1:=some (.im<|cM s)) (o4:=o4) (by show _ < _;dsimp only at fl;lia) (by dsimp only at fl;lia);obtain⟨N,nl⟩:=P.next;have l2:=N.i.len;generalize (EX x).foldl (B4 cs) (f,w)=p at e0 N nl l2;obtain⟨p1,p2⟩:=p;dsimp only at fl l2 nl;exact⟨.nx,_,e0,.inl rfl,m - 1,by omega,p1,p2,Gr,rfl,N,by omega,by omega⟩) 1000000 (cs.length+1) (rD (some<|.im<|cM s) cs ([s],[s]) none) ⟨[s],[s],none,rfl,P0,ZR _,by show _=cs.length+1+1;rfl⟩ (by lia)
 have Jo:=P.i.nd;have lp:=P.i.len;obtain⟨pt,s1,s2,s3⟩:=mx Jo (by dsimp only at lp ⊢;lia);refine⟨pt,?_,s3,fun x=>s2.mem_iff.trans<|P.fin x⟩;have hs:BZ [.dT (mt f)]=some (cL pt):=by
  show dt ((mt f).map fun p=>.tup p.1)=_;have e:((mt f).map fun p=>Im.tup p.1)=f.map cM:=by unfold mt;rw[YO];rfl
  rw[e];unfold dt;rw[Z0 (jI.mpr (jT Jo (by dsimp only at lp ⊢;lia))),s1]
 unfold gr qS;refine bt (D:=rD (some<|.im<|cM s) cs (f,[]) o4) rfl (u_ (D1:=[some (.dT<|mt cs),some<|.im<|cM s,some<|.dT<|mt [s],none,none]) rfl<|u_ (D1:=rD (some<|.im<|cM s) cs ([s],[s]) none) rfl<|u_ w1 ?_) rfl;exact (bE<|CU (a_ (v_<|CU (a_ rfl rfl) rfl hs) rfl) rfl rfl)
theorem zM{x y:List Im}(h:x.length+y.length<=100000):vAdd (.lst x) (.lst y)=some (.lst<|x++y):=Z0 h
theorem zN(x:ba (n+1) h)(h0:xs≠[])(h1:xs.length<1073741824):∃ d h',ce [h,.im<|.tup xs]=some (.im d,[h',.im<|.tup xs])/\d∈xs/\ba n h':=by
 have hl:0<xs.length:=W9.mpr h0;obtain⟨v,h',e,e1,e2,e3⟩:=dN (m:=xs.length) x (by lia) (by lia);obtain⟨d,hd⟩:∃ d,xs[v.toNat]?=some d:=⟨xs[v.toNat]'(by lia),by simp⟩;have Jk:DK xs v=some d:=mh e1 hd;obtain⟨q,rfl⟩:=bh x;obtain⟨q',rfl⟩:=bh e3;refine⟨d,.lst q',?_,YM hd,e3⟩;have hv:vIx (.im<|.tup xs) (iI v)=some (.im d):=by
  show (DK xs v).map Vl.im=_;rw[Jk];rfl
 unfold ce lY;exact bt (D:=[some (.lst q'),some<|.im<|.tup xs]) rfl (bE<|b_ rfl (v_<|d_ (os:=[.sl 0,.vl<|iI xs.length]) (a_ rfl<|a_ (v_<|CU (a_ rfl rfl) rfl rfl) rfl) rfl rfl e rfl) rfl rfl hv) rfl
theorem rM:∀ bs:List m_,Im.pls 7 (bs.map cM)=true
 | []=>rfl
 | b::bs=>by
  rw[Zy,Im.pls,rM bs];rfl
theorem zO(bs:List m_):vEq (cT bs) (.im<|.tup [])=some (bV<|decide (bs=[])):=by
 show (if (Im.pls 7 (bs.map cM) && true)=true then some (Vl.im<|.bl<|az (.tup<|bs.map cM)<|.tup []) else none)=_;rw[rM,Z0<|show (true && true)=true from rfl];cases bs with
 | nil=>rfl
 | cons a r=>rfl
theorem zP{M:Nat}(H:ba (M+2) h)(F:Jm cs):∃ (w:Int) (s:m_) (h':Vl),iw [h,cT cs]=some (.im<|.tup [.int w,cM s],[h',cT cs])/\Ei w/\ba M h':=by
 have nd:=jY F.up;have hl:=F.len;obtain⟨x,h1,e1,i1,H1⟩:=iG (n:=M+1) (xs:=[.int 1,.int 2,.int 1,.int 2,.int 3,.int 4,.int 5,.int 6]) H (by simp) (by simp);obtain⟨w,rfl,hw⟩:∃ w:Int,x=.int w/\Ei w:=by
  simp at i1;rcases i1 with rfl | rfl | rfl | rfl | rfl | rfl | rfl | rfl<;>exact⟨_,rfl,by decide,by decide⟩
 have ea:=rE nd (by lia) hw;obtain⟨fs,Kc⟩:∃ fs,fs=cs.filter (aU cs w):=⟨_,rfl⟩;rw[<- Kc] at ea;have fl:fs.length<=144:=by rw[Kc];exact Zo (Za _ _) hl
 obtain⟨q,rfl⟩:=bh H;obtain⟨q1,rfl⟩:=bh H1;have k:kB (ae vEq (oSl 3)<|oV<|aG aNil) [some (.lst q1),some<|cT cs,some<|iI w,some<|cT fs]=some (decide (fs=[]),[some (.lst q1),some<|cT cs,some<|iI w,some<|cT fs]):=Eh (b_ rfl rfl rfl rfl<|zO fs);have go:∀ {g:MS}{r:Option (Fl×SD)},g [some (.lst q1),some<|cT cs,some<|iI w,some<|cT fs]=r->ak (aw 2<|ar 2 G.ce<|aa (oSl 0)<|aa (oV<|aY<|aa (oV<|eC<|.int 1)<|aa (oV<|eC<|.int 2)<|aa (oV<|eC<|.int 1)<|aa (oV<|eC<|.int 2)<|aa (oV<|eC<|.int 3)<|aa (oV<|eC<|.int 4)<|aa (oV<|eC<|.int 5)<|aa (oV<|eC<|.int 6) aNil) aNil) (ak (aw 3<|ar 2 G.eS<|aa (oSl 1)<|aa (oSl 2) aNil) g) [some (.lst q),some<|cT cs,none,none]=r:=fun e=>
  u_ (D1:=[some (.lst q1),some<|cT cs,some<|iI w,none]) (aT (d_ (os:=[.sl 0,.vl<|.lst [.int 1,.int 2,.int 1,.int 2,.int 3,.int 4,.int 5,.int 6]]) rfl rfl rfl e1 rfl) (CD rfl) rfl) (u_ (aT (d_ (os:=[.sl 1,.sl 2]) rfl rfl rfl ea rfl) (CD rfl) rfl) e);unfold iw qQ;cases hn:decide (fs=[]) with
 | true=>
  rw[hn] at k;obtain⟨y,h2,e2,i2,H2⟩:=iG (n:=M) (xs:=cs.map cM++[cM (0,0),cM (30,30),cM (15,2)]) H1 (by simp) (by rw[ZG,ZY];show _+3 < _;lia);obtain⟨s,rfl⟩:∃ s:m_,y=cM s:=by
   rcases ZE.mp i2 with z | z
   ·obtain⟨c,_,rfl⟩:=YT.mp z;exact⟨c,rfl⟩
   ·simp at z;rcases z with rfl | rfl | rfl<;>exact⟨_,rfl⟩
  obtain⟨q2,rfl⟩:=bh H2;refine⟨w,s,.lst q2,bt (D:=[some (.lst q2),some<|cT cs,some<|iI w,some<|cT fs]) rfl (go<|mo<|d0 k<|bE ?_) rfl,hw,H2⟩;refine E8 (a_ rfl (a_ (v_ (d_ (os:=[.sl 0,.vl<|.lst<|cs.map cM++[cM (0,0),cM (30,30),cM (15,2)]]) (D1:=[some (.lst q1),some<|cT cs,some<|iI w,some<|cT fs]) (a_ rfl (a_ (v_ (b_ (v_<|CU (a_ rfl rfl) rfl rfl) rfl rfl rfl (zM (y:=[cM (0,0),cM (30,30),cM (15,2)]) (by rw[ZY];show _+3<=_;lia)))) rfl)) rfl rfl e2 rfl)) rfl)) rfl (ZQ rfl) rfl
 | false=>
  rw[hn] at k;have Kt:fs.map cM≠[]:=fun z=>of_decide_eq_false hn (List.map_eq_nil_iff.mp z);obtain⟨y,h2,e2,i2,H2⟩:=zN (n:=M) (xs:=fs.map cM) H1 Kt (by rw[ZY];lia);obtain⟨s,_,rfl⟩:=YT.mp i2;obtain⟨q2,rfl⟩:=bh H2;refine⟨w,s,.lst q2,bt (D:=[some (.lst q2),some<|cT cs,some<|iI w,some<|cT fs]) rfl (go<|u_ (db k rfl)<|bE ?_) rfl,hw,H2⟩;exact E8 (a_ rfl<|a_ (v_<|d_ (os:=[.sl 0,.sl 3]) (D1:=[some (.lst q1),some<|cT cs,some<|iI w,some<|cT fs]) rfl rfl rfl e2 rfl) rfl) rfl (ZQ rfl) rfl
def Ej:Nat->Im->Bool
 | _,.int _=>true
 | _,.j_=>true
 | _,.str _=>true
 | n+1,.tup ds=>decide (ds.length<100000) && ds.all (Ej n)
 | _,_=>false
theorem zQ(ds:List Im):cH ds ds=ds.map fun d=>.tup [d,d]:=by
 induction ds with
 | nil=>rfl
 | cons d r ih=>rw[cH,ih];rfl
theorem rN:∀ ds:List Im,bls (ds.map fun _=>.bl true)=some (ds.map fun _=>true)
 | []=>rfl
 | d::r=>by rw[Zy,bls,rN r];rfl
theorem rO:∀ (k:Nat) (d:Im),Ej k d=true->cV (k+1) [.im d,.im d]=some (.im<|.bl true,[.im d,.im d])
 | k,.int i,_=>by simp -implicitDefEqProofs [cV,jK,Im.pl,az]
 | k,.j_,_=>by simp -implicitDefEqProofs [cV,jK,Im.pl,az]
 | k,.str i,_=>by simp -implicitDefEqProofs [cV,jK,Im.pl,az]
 | 0,.tup ds,h=>by simp[Ej] at h
 | 0,.bl b,h=>by simp[Ej] at h
 | 0,.fn b,h=>by simp[Ej] at h
 | 0,.fl b,h=>by simp[Ej] at h
 | 0,.fd,h=>by simp[Ej] at h
 | k+1,.bl b,h=>by simp[Ej] at h
 | k+1,.fn b,h=>by simp[Ej] at h
 | k+1,.fl b,h=>by simp[Ej] at h
 | k+1,.fd,h=>by simp[Ej] at h
 | k+1,.tup ds,h=>by
  rw[Ej,ZV,Zk] at h;have hl:=Zf h.1;have c1:aZ 2 [] (iZ<|aa (oSl 0)<|aa (oSl 1) aNil) (gT 2<|cq (gN 0)<|cq (gN 1) gNil') kYes (G.jJ<|cV<|k+1) [some (.im<|.tup ds),some<|.im<|.tup ds]=some (.lst<|ds.map fun _=>.bl true,[some (.im<|.tup ds),some<|.im<|.tup ds]):=by
   refine (qW (xs:=ds.map fun d=>.tup [d,d]) (o:=none) (D1:=[some (.im<|.tup ds),some<|.im<|.tup ds]) ?_<|fJ _ (fun _=>.bl true) _ (fun d hd=>?_) ?_).trans ?_
   ·simp -implicitDefEqProofs [zQ]
   ·have e:=rO k d (h.2 d hd);exact⟨[some (.im d),some<|.im d],_,[some (.im d),some<|.im d],by simp -implicitDefEqProofs,by simp -implicitDefEqProofs;rfl,by simp -implicitDefEqProofs [jJ,e],by simp⟩
   ·omega
   ·simp -implicitDefEqProofs
  have c2:aA vAll (aa (oV<|aZ 2 [] (iZ<|aa (oSl 0)<|aa (oSl 1) aNil) (gT 2<|cq (gN 0)<|cq (gN 1) gNil') kYes<|G.jJ<|cV<|k+1) aNil) [some (.im<|.tup ds),some<|.im<|.tup ds]=some (.im<|.bl true,[some (.im<|.tup ds),some<|.im<|.tup ds]):=by
   simp -implicitDefEqProofs only[oV,aA,aa,c1,yM,bind_some,Wt,yP,yN,yO,vAll,rN ds];rw[show (ds.map fun _=>true).all id=true by rw[W8];exact Zk.mpr fun _ _=>rfl]
  have hk:kOr (dk<|cb<|oV<|eF "tuple"<|oSl 0) (kB<|ae vNe (oV<|aA vLen<|aa (oSl 0) aNil)<|oV<|aA vLen<|aa (oSl 1) aNil) [some (.im<|.tup ds),some<|.im<|.tup ds]=some (false,[some (.im<|.tup ds),some<|.im<|.tup ds]):=by
   simp -implicitDefEqProofs [Im.pl,az]
  rw[cV];refine qZ [some (.im<|.tup ds),some<|.im<|.tup ds] rfl ?_ (by simp -implicitDefEqProofs);refine mo ((qX (D1:=[some (.im<|.tup ds),some<|.im<|.tup ds]) (by simp -implicitDefEqProofs)).trans<|(qV<|(qY hk).trans rfl).trans<|bE c2)
section
variable{cs:List m_}{w:Int}{s:m_}
theorem rP(nd:cs.Nodup)(hl:cs.length<=144)(hw:Ei w):aw 3 (ar 2 G.eR<|aa (oSl 0)<|aa (oSl 1) aNil) [some (cT cs),some<|iI w,some<|.im<|cM s,none]=some (.nx,[some (cT cs),some<|iI w,some<|.im<|cM s,some<|.dT<|mt<|cs.filter<|aU cs w]):=
 aT (d_ (os:=[.sl 0,.sl 1]) rfl rfl rfl (zt nd (by lia) hw) rfl) (CD rfl) rfl
theorem rQ(fs:List m_):kB (ae vNotIn (oSl 2)<|oSl 3) [some (cT cs),some<|iI w,some<|.im<|cM s,some<|.dT<|mt fs]=some (!decide (s∈fs),[some (cT cs),some<|iI w,some<|.im<|cM s,some<|.dT<|mt fs]):=Eh (b_ rfl rfl rfl rfl<|rH fs s)
theorem zR(nd:cs.Nodup)(hl:cs.length<=144)(hw:Ei w)(hs:s∈cs.filter (aU cs w)):∃ p,bQ [cT cs,iI w,.im<|cM s]=some (cT p,[cT cs,iI w,.im<|cM s])/\Up p/\∀ x,x∈p↔Cn (cs.filter<|aU cs w) s x:=by
 have f1:=rP (s:=s) nd hl hw;have lf:(cs.filter<|aU cs w).length<=144:=Zo (Za _ _) hl;generalize cs.filter (aU cs w)=fs at *;obtain⟨p,r1,u1,m1⟩:=zL (cs:=fs) (s:=s) (by lia);have t:=rQ (cs:=cs) (w:=w) (s:=s) fs;rw[Zq hs] at t;refine⟨p,?_,u1,m1⟩;unfold bQ iy;exact bt (D:=[some (cT cs),some<|iI w,some<|.im<|cM s,some<|.dT<|mt fs]) rfl (u_ f1<|u_ (db t rfl)<|bE<|d_ (os:=[.sl 3,.sl 2]) rfl rfl rfl r1 rfl) rfl
theorem zS(nd:cs.Nodup)(hl:cs.length<=144)(hw:Ei w)(hs:s∉cs.filter (aU cs w)):bQ [cT cs,iI w,.im<|cM s]=none/\Gn 3 4 fG [cT cs,iI w,.im<|cM s]=true:=by
 have f1:=rP (s:=s) nd hl hw;generalize cs.filter (aU cs w)=fs at *;have t:=rQ (cs:=cs) (w:=w) (s:=s) fs;rw[Zs hs] at t;have e1:iy [some (cT cs),some<|iI w,some<|.im<|cM s,none]=none:=by
  unfold iy;exact u_ f1 (by unfold ak;rw[d0 t rfl];rfl)
 constructor
 ·unfold bQ aS;rw[Z0 (show [cT cs,iI w,.im<|cM s].length=3 from rfl),show iy ([cT cs,iI w,.im<|cM s].map some++replicate (4 - 3) none)=none from e1]
 ·unfold Gn fG;show (jz _ _ [some (cT cs),some<|iI w,some<|.im<|cM s,none]).isSome=true;unfold jz;rw[f1];show (Kj _ _ _).isSome=true;unfold Kj;rw[show kB _ _=_ from t];rfl
abbrev aD(cs:List m_)(w:Int)(s:m_)(d:Im):SD:=[some (cT cs),some<|iI w,some<|.im<|cM s,some<|.im d,none]
theorem zU{p:List m_}(e:bQ [cT cs,iI w,.im<|cM s]=some (cT p,[cT cs,iI w,.im<|cM s])):dZ [cT cs,iI w,.im<|cM s]=some (.im<|.tup [.str "",.tup<|p.map cM],[cT cs,iI w,.im<|cM s]):=by
 unfold dZ md;have t:aw 3 (aG<|aa (oV<|eC<|.str "")<|aa (oV<|ar 3 G.bQ<|aa (oSl 0)<|aa (oSl 1)<|aa (oSl 2) aNil) aNil) (aD cs w s<|.tup [.str "?",.j_])=some (.nx,aD cs w s<|.tup [.str "",.tup<|p.map cM]):=aT (E8 (a_ rfl<|a_ (v_<|d_ (os:=[.sl 0,.sl 1,.sl 2]) rfl rfl rfl e rfl) rfl) rfl (ZQ rfl) rfl) (CD rfl) rfl;refine bt (D:=aD cs w s (.tup [.str "",.tup<|p.map cM])) rfl (u_ (D1:=aD cs w s (.tup [.str "?",.j_])) rfl<|u_ (D1:=aD cs w s (.tup [.str "",.tup<|p.map cM])) ?_<|bE rfl) rfl;unfold f9;rw[t]
theorem zV(e1:bQ [cT cs,iI w,.im<|cM s]=none)(e2:Gn 3 4 fG [cT cs,iI w,.im<|cM s]=true):dZ [cT cs,iI w,.im<|cM s]=some (.im<|.tup [.str "NoFit",.j_],[cT cs,iI w,.im<|cM s]):=by
 unfold dZ md;have t:aw 3 (aG<|aa (oV<|eC<|.str "")<|aa (oV<|ar 3 G.bQ<|aa (oSl 0)<|aa (oSl 1)<|aa (oSl 2) aNil) aNil) (aD cs w s<|.tup [.str "?",.j_])=none:=by
  have:ar 3 G.bQ (aa (oSl 0)<|aa (oSl 1)<|aa (oSl 2) aNil) (aD cs w s<|.tup [.str "?",.j_])=none:=by
   show ((bQ [cT cs,iI w,.im<|cM s]).map _)=none;rw[e1];rfl
  have a1:aa (oV<|ar 3 G.bQ<|aa (oSl 0)<|aa (oSl 1)<|aa (oSl 2) aNil) aNil (aD cs w s<|.tup [.str "?",.j_])=none:=by
   show ((ar 3 G.bQ (aa (oSl 0)<|aa (oSl 1)<|aa (oSl 2) aNil)<|aD cs w s<|.tup [.str "?",.j_]).map _).bind _=none;rw[this];rfl
  have a2:aa (oV<|eC<|.str "") (aa (oV<|ar 3 G.bQ<|aa (oSl 0)<|aa (oSl 1)<|aa (oSl 2) aNil) aNil) (aD cs w s<|.tup [.str "?",.j_])=none:=by
   show (aa (oV<|ar 3 G.bQ<|aa (oSl 0)<|aa (oSl 1)<|aa (oSl 2) aNil) aNil<|aD cs w s<|.tup [.str "?",.j_]).map _=none;rw[a1];rfl
  show ((aa (oV<|eC<|.str "") (aa (oV<|ar 3 G.bQ<|aa (oSl 0)<|aa (oSl 1)<|aa (oSl 2) aNil) aNil)<|aD cs w s<|.tup [.str "?",.j_]).bind _).bind _=none;rw[a2];rfl
 refine bt (D:=aD cs w s (.tup [.str "NoFit",.j_])) rfl (u_ (D1:=aD cs w s (.tup [.str "?",.j_])) rfl<|u_ (D1:=aD cs w s (.tup [.str "NoFit",.j_])) ?_<|bE rfl) rfl;unfold f9;rw[t];have u:l9 (aD cs w s<|.tup [.str "?",.j_])=some (aD cs w s<|.tup [.str "?",.j_]):=by
  show (if Gn 3 4 fG [cT cs,iI w,.im<|cM s]=true then some _ else none)=_;rw[Z0 e2]
 show jB _ _ _=_;unfold jB;rw[u];rfl
end
theorem zW(p:List m_)(hl:p.length<100000):Ej 5 (.tup [.str "",.tup<|p.map cM])=true:=by
 show (true && (true && ((decide ((p.map cM).length<100000) && (p.map cM).all (Ej 3)) && true)))=true;rw[ZY,Zq hl,W8];rw[show (p.all<|Ej 3 ∘ cM)=true from Zk.mpr fun x _=>rfl];rfl
abbrev vD(o0 o1 o2 o3 o4 o5 o6 o7 o8 o9:Option Vl):SD:=[o0,o1,o2,o3,o4,o5,o6,o7,o8,o9]
section
variable{cs:List m_}{w:Int}{s:m_}{o0 o1 o2 o5 o7 o8 o9:Option Vl}
theorem rR{fs:List m_}{d:Im}(e1:dZ [cT cs,iI w,.im<|cM s]=some (.im d,[cT cs,iI w,.im<|cM s]))(e2:Ej 5 d=true):
  sIf (dk<|cb<|oV<|ar 2 (G.cV 6)<|aa (oV<|ar 3 G.dZ<|aa (oSl 3)<|aa (oSl 4)<|aa (oSl 8) aNil)<|aa (oSl 9) aNil) (aO<|eC<|.bl false) sNil (vD o0 o1 o2 (some<|cT cs) (some<|iI w) o5 (some<|cT fs) o7 (some<|.im<|cM s)<|some<|.im d)=some (.nx,vD o0 o1 o2 (some<|cT cs) (some<|iI w) o5 (some<|cT fs) o7 (some<|.im<|cM s)<|some<|.im d):=
 db (Nb<|Go (v_<|d_ (os:=[.vl (.im d),.sl 9]) (a_ (v_<|d_ (os:=[.sl 3,.sl 4,.sl 8]) rfl rfl rfl e1 rfl)<|a_ rfl rfl) rfl rfl (rO 5 d e2) rfl) rfl rfl) rfl
theorem O6(nd:cs.Nodup)(hl:cs.length<=144)(hw:Ei w):∃ p9,iA (vD o0 o1 o2 (some<|cT cs) (some<|iI w) o5 (some<|cT<|cs.filter<|aU cs w) o7 (some<|.im<|cM s) o9)=some (.nx,vD o0 o1 o2 (some<|cT cs) (some<|iI w) o5 (some<|cT<|cs.filter<|aU cs w) o7 (some<|.im<|cM s) p9):=by
 have nf:=nd.filter (aU cs w);have lf:(cs.filter<|aU cs w).length<=144:=Zo (Za _ _) hl;have key:∀ fs:List m_,kB (ae vIn (oSl 8)<|oSl 6) (vD o0 o1 o2 (some<|cT cs) (some<|iI w) o5 (some<|cT fs) o7 (some<|.im<|cM s)<|some<|.im<|.tup [.str "NoFit",.j_])=some (decide (s∈fs),vD o0 o1 o2 (some<|cT cs) (some<|iI w) o5 (some<|cT fs) o7 (some<|.im<|cM s)<|some<|.im<|.tup [.str "NoFit",.j_]):=fun fs=>by
  exact Eh (b_ rfl rfl rfl rfl<|zA fs s)
 unfold iA;by_cases hs:s∈cs.filter (aU cs w)
 ·obtain⟨p,e1,u1,m1⟩:=zR nd hl hw hs;have e1:=zU e1;generalize cs.filter (aU cs w)=fs at *;obtain⟨p2,e2,u2,m2,l2⟩:=zG (cs:=fs) (s:=s) nf (by lia);have pm:p.Perm p2:=(List.perm_ext_iff_of_nodup (jY u1)<|jY u2).mpr fun x=>(m1 x).trans (m2 x).symm;have pe:p=p2:=List.Perm.eq_of_pairwise (le:=fun a b=>BE (cM a) (cM b)=true) (fun a b _ _ x y=>by have:=zq x y;rw[jF] at this;cases this) u1 u2 pm;cases pe;have t:=key fs;rw[Zq hs] at t;exact⟨_,u_ rfl (u_ (d0 t<|aT (E8 (a_ rfl<|a_ (v_<|d_ (os:=[.sl 6,.sl 8]) rfl rfl rfl e2 rfl) rfl) rfl (ZQ rfl) rfl) (CD rfl) rfl) (rR e1 (zW p (by lia))))⟩
 ·obtain⟨a,b⟩:=zS nd hl hw hs;have e1:=zV a b;have t:=key (cs.filter<|aU cs w);rw[Zs hs] at t;exact⟨_,u_ rfl<|u_ (db t rfl)<|rR e1 rfl⟩
theorem Nj(nd:cs.Nodup)(hl:cs.length<=144)(hw:Ei w):∀ (ss:List m_) (o8 o9:Option Vl),∃ p8 p9,bn (gN 8) iA (ss.map cM) (vD o0 o1 o2 (some<|cT cs) (some<|iI w) o5 (some<|cT<|cs.filter<|aU cs w) o7 o8 o9)=some (.nx,vD o0 o1 o2 (some<|cT cs) (some<|iI w) o5 (some<|cT<|cs.filter<|aU cs w) o7 p8 p9)
 | [],o8,o9=>⟨o8,o9,rfl⟩
 | s::ss,o8,o9=>by
  obtain⟨p9,e⟩:=O6 (s:=s) (o0:=o0) (o1:=o1) (o2:=o2) (o5:=o5) (o7:=o7) (o9:=o9) nd hl hw;obtain⟨a,b,ih⟩:=Nj nd hl hw ss (some<|.im<|cM s) p9;refine⟨a,b,?_⟩;rw[Zy,bn];show (iA<|vD o0 o1 o2 (some<|cT cs) (some<|iI w) o5 (some<|cT<|cs.filter<|aU cs w) o7 (some<|.im<|cM s) o9).bind _=_;rw[e];exact ih
end
theorem zX{o2 o3 o7:Option Vl}(hk:0<=k)(EJ:k<1000):
  ∃ D2,jR (vD (some<|.fz<|ns.map .int) (some<|iI k) o2 o3 o4 o5 o6 o7 o8 o9)=some (.nx,D2)/\∃ p2 p3 p4 p5 p6 p7 p8 p9,D2=vD (some<|.fz<|ns.map .int) (some<|iI k) p2 p3 p4 p5 p6 p7 p8 p9:=by
 obtain⟨h,e1,H⟩:=y7 (ns:=ns) hk EJ;obtain⟨cs,h',e2,F,H'⟩:=zi (M:=999600) H;obtain⟨w,s,h1,e3,hw,H1⟩:=zP (M:=999598) H' F;have hl:=F.len;have nd:=jY F.up;have e4:=rE nd (by lia) hw;obtain⟨a,h2,e5,a0,a1,H2⟩:=dN (n:=999597) (m:=31) H1 (by decide) (by decide);obtain⟨b,h3,e6,b0,b1,H3⟩:=dN (n:=999596) (m:=31) H2 (by decide) (by decide);obtain⟨q,rfl⟩:=bh H;obtain⟨q',rfl⟩:=bh H';obtain⟨q1,rfl⟩:=bh H1;obtain⟨q2,rfl⟩:=bh H2;obtain⟨q3,rfl⟩:=bh H3;unfold jR;obtain⟨p8,p9,lp⟩:=Nj (o0:=some (.fz<|ns.map .int)) (o1:=some (iI k)) (o2:=some (.lst q3)) (o5:=some (.im<|cM s)) (o7:=some (.im<|cM (a,b))) nd hl hw [s,(a,b),s,(0,0)] o8 o9;generalize cs.filter (aU cs w)=fs at *;refine⟨_,u_ (D1:=vD (some<|.fz<|ns.map .int) (some<|iI k) (some<|.lst q) o3 o4 o5 o6 o7 o8 o9) (aT (d_ (os:=[.sl 0,.sl 1]) rfl rfl rfl e1 rfl) (CD rfl) rfl)<|u_ (D1:=vD (some<|.fz<|ns.map .int) (some<|iI k) (some<|.lst q') (some<|cT cs) o4 o5 o6 o7 o8 o9) (aT (d_ (os:=[.sl 2]) rfl rfl rfl e2 rfl) (CD rfl) rfl) (u_ (D1:=vD (some<|.fz<|ns.map .int) (some<|iI k) (some<|.lst q1) (some<|cT cs) (some<|iI w) (some<|.im<|cM s) o6 o7 o8 o9) (HI (d_ (os:=[.sl 2,.sl 3]) rfl rfl rfl e3 rfl) rfl)
  (u_ (D1:=vD (some<|.fz<|ns.map .int) (some<|iI k) (some<|.lst q1) (some<|cT cs) (some<|iI w) (some<|.im<|cM s) (some<|cT fs) o7 o8 o9) (aT (d_ (os:=[.sl 3,.sl 4]) rfl rfl rfl e4 rfl) (CD rfl) rfl) (u_ (D1:=vD (some<|.fz<|ns.map .int) (some<|iI k) (some<|.lst q3) (some<|cT cs) (some<|iI w) (some<|.im<|cM s) (some<|cT fs) (some<|.im<|cM (a,b)) o8 o9) (aT (E8 (a_ (v_<|d_ (os:=[.sl 2,.vl<|iI 31]) rfl rfl rfl e5 rfl)<|a_ (v_<|d_ (os:=[.sl 2,.vl<|iI 31]) rfl rfl rfl e6 rfl) rfl) rfl (ZQ rfl) rfl) (CD rfl) rfl)
   (dM (o:=none) (Kr (GT (a_ rfl<|a_ rfl<|a_ rfl<|a_ rfl rfl) rfl (ZQ rfl) rfl) rfl) lp rfl)))),_,_,_,_,_,_,_,_,rfl⟩
theorem zY(ns:List Int)(KW:ns.length<100000):∃ outs,iB [.fz (ns.map .int)]=some (.im<|.bl true,outs):=by
 obtain⟨n,hn,n0,n1⟩:∃ n:Int,aA vMax2 (aa (oV<|eC<|.int 1)<|aa (oV<|aA vMin2<|aa (oV<|eC<|.int 12)<|aa (oV<|aA vLen<|aa (oSl 0) aNil) aNil) aNil) (vD (some<|.fz<|ns.map .int) none none none none none none none none none)=some (iI n,vD (some<|.fz<|ns.map .int) none none none none none none none none none)/\0<=n/\n<=12:=by
  refine⟨_,CU (a_ rfl<|a_ (v_<|CU (a_ rfl<|a_ (v_<|CU (a_ rfl rfl) rfl rfl) rfl) rfl rfl) rfl) rfl rfl,?_,?_⟩
  ·split<;>split<;>lia
  ·split<;>split<;>lia
 obtain⟨D',l1,k',o2,o3,o4,o5,o6,o7,o8,o9,rfl⟩:=iC (tg:=gN 1) (b:=jR) (xs:=bC 0 n.toNat) (fun i D=>∃ o1 o2 o3 o4 o5 o6 o7 o8 o9,D=vD (some<|.fz<|ns.map .int) o1 o2 o3 o4 o5 o6 o7 o8 o9) (D:=vD (some<|.fz<|ns.map .int) none none none none none none none none none)
  ⟨_,_,_,_,_,_,_,_,_,rfl⟩ (fun i x D hx hI=>by
   obtain⟨o1,o2,o3,o4,o5,o6,o7,o8,o9,rfl⟩:=hI;obtain⟨hi,rfl⟩:=iH hx;obtain⟨D2,e,p2,p3,p4,p5,p6,p7,p8,p9,rfl⟩:=zX (ns:=ns) (k:=0+(i:Int)) (o2:=o2) (o3:=o3) (o4:=o4) (o5:=o5) (o6:=o6) (o7:=o7) (o8:=o8) (o9:=o9) (by lia) (by lia);exact⟨_,_,_,rfl,e,.inl rfl,_,p2,p3,p4,p5,p6,p7,p8,p9,rfl⟩)
 refine⟨_,bt (D:=vD (some<|.fz<|ns.map .int) k' o2 o3 o4 o5 o6 o7 o8 o9) rfl ?_ rfl⟩;show me (vD (some<|.fz<|ns.map .int) none none none none none none none none none)=_;unfold me;exact u_ (dM (o:=none) (HJ (a_ (v_ hn) rfl) rfl ⟨by lia,by lia⟩) l1 rfl) (bE rfl)
end G
namespace L2
open PySem
end L2
set_option maxHeartbeats 4000000
namespace K07
open PySem L2 PyProof.Rows
variable{l:PySem.W.OpenLaw}{f:Addr}{k:Nat}{A:Around}
def top(i:Nat):Stmt:=PySem.Challenge.pw_mowfloor_k07_places.main.body.getD i (.Pass ⟨0,0,0,0⟩)
structure Txt(mg:Str->Option Value):Prop where
 DS:mg "ValueError" = none
 GW:mg "abs" = none
 Fz:mg "all" = none
 Jp:mg "any" = none
 HM:mg "bool" = none
 HN:mg "dict" = none
 FA:mg "int" = none
 h_:mg "isinstance" = none
 Eb:mg "len" = none
 HP:mg "list" = none
 FB:mg "max" = none
 FC:mg "min" = none
 B1:mg "range" = none
 Dp:mg "sorted" = none
 GX:mg "str" = none
 Cf:mg "tuple" = none
 Jq:mg "zip" = none
theorem zZ:bootBuiltins "ValueError" = some (.type "ValueError"):=by decide +kernel
theorem rS:bootBuiltins "abs" = some (.builtin "abs"):=by decide +kernel
theorem mC:bootBuiltins "all" = some (.builtin "all"):=by decide +kernel
theorem z9:bootBuiltins "any" = some (.builtin "any"):=by decide +kernel
theorem Aa:bootBuiltins "bool" = some (.type "bool"):=by decide +kernel
theorem Ab:bootBuiltins "dict" = some (.type "dict"):=by decide +kernel
theorem mD:bootBuiltins "int" = some (.type "int"):=by decide +kernel
theorem cu:bootBuiltins "isinstance" = some (.builtin "isinstance"):=by decide +kernel
theorem iK:bootBuiltins "len" = some (.builtin "len"):=by decide +kernel
theorem Ac:bootBuiltins "list" = some (.type "list"):=by decide +kernel
theorem mE:bootBuiltins "max" = some (.builtin "max"):=by decide +kernel
theorem mF:bootBuiltins "min" = some (.builtin "min"):=by decide +kernel
theorem mG:bootBuiltins "sorted" = some (.builtin "sorted"):=by decide +kernel
theorem rT:bootBuiltins "str" = some (.type "str"):=by decide +kernel
theorem gw:bootBuiltins "tuple" = some (.type "tuple"):=by decide +kernel
theorem aK(hr:z_ k A):A.units+20<cLine:=by have:=hr.un;omega
theorem Ad(hr:z_ k A):A.units+30<cLine:=by have:=hr.un;omega
abbrev iL:Stmt:=top 1
abbrev Ae:List Str:=["things","found","thing"]
abbrev iM:Stmt:=top 2
abbrev Af:List Str:=["cell","row","column"]
abbrev gx:Stmt:=top 3
abbrev Ag:List Str:=["free","start","found","waiting","cell"]
abbrev gy:Stmt:=top 15
abbrev rV:List Str:=["place","width"]
abbrev fK:Stmt:=top 16
abbrev rW:List Str:=["floor","width","free"]
abbrev eU:Stmt:=top 17
abbrev Ah:List Str:=["floor","width","start","fits"]
abbrev iN:Stmt:=top 19
abbrev Ai:List Str:=["_law_script","_law_k","_law_cell","_law_bound","_law_digits"]
abbrev fL:Stmt:=top 20
abbrev Aj:List Str:=["_law_hand_here","_law_many","_law_digit","_law_turn","_law_mixed","_law_odd"]
abbrev gz:Stmt:=top 21
abbrev Ak:List Str:=["_law_hand_here","_law_some"]
abbrev iO:Stmt:=top 22
abbrev Al:List Str:=["_law_hand_here","_law_most","_law_high","_law_wide","_law_top","_law_side","_law_way","_law_cells","_law_row","_law_column","_law_free","_law_turn","_law_down","_law_right"]
abbrev iP:Stmt:=top 23
abbrev Am:List Str:=["_law_one","_law_other"]
abbrev eV:Stmt:=top 24
abbrev jZ:List Str:=["_law_floor_here","_law_cell","_law_part_here","_law_last","_law_rest","_law_more","_law_one"]
abbrev gC:Stmt:=top 25
abbrev rX:List Str:=["_law_place","_law_width","_law_cells","_law_down"]
abbrev gD:Stmt:=top 26
abbrev rY:List Str:=["_law_known","_law_width","_law_place"]
abbrev eZ:Stmt:=top 27
abbrev mH:List Str:=["_law_floor_here","_law_width","_law_known"]
abbrev iQ:Stmt:=top 28
abbrev An:List Str:=["_law_hand_here","_law_floor_here","_law_width","_law_stands_here"]
abbrev gE:Stmt:=top 29
abbrev rZ:List Str:=["_law_told","_law_due"]
abbrev iR:Stmt:=top 30
abbrev Ao:List Str:=["_law_e","_law_marks","_law_words"]
abbrev iS:Stmt:=top 31
abbrev Ap:List Str:=["_law_floor_here","_law_width","_law_start","_law_told","_law_e"]
abbrev j6:Stmt:=top 32
abbrev Aq:List Str:=["_law_script","_law_k","_law_hand_here","_law_floor_here","_law_width","_law_first","_law_stands_here","_law_far","_law_start","_law_due"]
section
variable{P:Program}{w:World}{K:PySem.W.Frag}{mg:Str->Option Value}{base:Heap}
theorem Ar:k_ Ae ["things"] (au iL):=⟨rfl,rfl,rfl,by decide +kernel,rfl,by decide +kernel,by decide +kernel⟩
theorem As(F:CQ K mg "lookup" iL f ["things"])(T:Txt mg):
  BK P w K mg base 1 "lookup" iL f ["things"] 1 G.eQ:=by
 refine bP F Ar rfl (by decide) fun nd q_ A outer s H E hr=>?_;exact (ao (aC (i:=1) nd rfl (Or.inl rfl) pH (by decide)) (ao (dU (fx:=[0]) Y3 rfl (cZ<|vv 0) (bg (i:=2) nd rfl (Or.inl rfl) (by decide)) (aB<|dS cN<|fX (pv 1) (cX<|pv 2)<|jv<|aK hr) (by decide) (oK (by decide)))<|aB<|bf<|cX<|pv 1))
theorem At:k_ Af ["cell"] (au iM):=⟨rfl,rfl,rfl,by decide +kernel,rfl,by decide +kernel,by decide +kernel⟩
theorem Au(F:CQ K mg "around" iM f ["cell"])(T:Txt mg):
  BK P w K mg base 1 "around" iM f ["cell"] 1 G.jN:=by
 refine bP F At rfl (by decide) fun nd q_ A outer s H E hr=>?_;exact (ao (aC (i:=1) nd rfl (Or.inl rfl) (bM hr (vv 0) ai) (by decide)) (ao (aC (i:=2) nd rfl (Or.inl rfl) (bM hr (vv 0) ai) (by decide)) (aB (bf (bv (by exact (ah (ad (aR (by exact (ah (ad<|aq dF (vv 1) ai) (by exact (ag<|vv 2)))))) (by exact (ah (ad (aR (by exact (ah (vv 1) (by exact (ag<|ad<|aq dF (vv 2) ai)))))) (by exact (ah (ad (aR (by exact (ah (vv 1) (by exact (ag<|ad<|aq a9 (vv 2) ai)))))) (by exact (ag (ad (aR (by exact (ah (ad<|aq a9 (vv 1) ai) (by exact (ag<|vv 2)))))))))))))))))))
theorem Av:k_ Ag ["free","start"] (au gx):=⟨rfl,rfl,rfl,by decide +kernel,rfl,by decide +kernel,by decide +kernel⟩
theorem Aw(F:CQ K mg "reached" gx f ["free","start"])(T:Txt mg){FD:Addr}(C1:BK P w K mg base 1 "around" iM FD ["cell"] 1 G.jN):
  BK P w K mg base 2 "reached" gx f ["free","start"] 2 G.gr:=by
 refine bP F Av rfl (by decide) fun nd q_ A outer s H E hr=>?_;exact (ao (aC (i:=2) nd rfl (Or.inl rfl) (yB (aK hr) (cX<|pv 1) cN) (by decide)) (ao (aC (i:=3) nd rfl (Or.inl rfl) (bv (by exact (ag<|vv 1))) (by decide)) (ao (oH 1000000 Y3 (dH<|vv 3) (aB (dU (fx:=[0,1]) Y3 rfl (cZ<|ad<|aN C1 hr rfl<|ag<|ad<|wY fy YF PySem.F.slot_list_pop PySem.F.type_list_pop wZ<|pv 3) (bg (i:=4) nd rfl (Or.inl rfl) (by decide)) (aB<|cn (VW.vt<|wv (cj (gg<|aK hr) (vv 4) (vv 0) rfl)<|wu<|cj (jD<|aK hr) (vv 4) (vv 2) rfl) (ao (dS cN<|fX (pv 2) (cX<|pv 4)<|jv<|aK hr)<|aB<|je<|js fy YF X0 XZ ls (pv 3)<|ag<|vv 4) ck) (by decide) oJ))) (aB (bf (en jq rfl T.Cf gw (ag (ad (bA (lQ rfl<|aK hr) (by rfl) T.Dp mG<|ag<|vv 2)))))))))
theorem Ax:k_ rV ["place","width"] (au gy):=⟨rfl,rfl,rfl,by decide +kernel,rfl,by decide +kernel,by decide +kernel⟩
theorem Ay(F:CQ K mg "under" gy f ["place","width"])(T:Txt mg):
  BK P w K mg base 1 "under" gy f ["place","width"] 2 G.gp:=by
 refine bP F Ax rfl (by decide) fun nd q_ A outer s H E hr=>?_;exact (aB (bf (dW (own:=["step"]) (caps:=[0,1]) rfl (di (au gy) rV (by decide +kernel)) (by decide) (ft rfl T.B1<|ag<|ad<|aq c6 (vv 1)<|vv 1) (fun Y=>(bg (i:=0) (show (["step","place","width"]:List Str).Nodup by decide +kernel) rfl (Or.inl rfl) (by decide))) (fun Y=>fu) (fun Y=>(aR (by exact (ah (ad<|aq a9 (ad<|bM hr (vv 1) ai)<|ad<|aq g7 (vv 0)<|vv 2) (by exact (ag<|ad<|aq a9 (ad<|bM hr (vv 1) ai)<|ad<|aq dG (vv 0)<|vv 2)))))))))
theorem Az:k_ rW ["floor","width"] (au fK):=⟨rfl,rfl,rfl,by decide +kernel,rfl,by decide +kernel,by decide +kernel⟩
theorem AA(F:CQ K mg "fitting" fK f ["floor","width"])(T:Txt mg){FE:Addr}(C0:BK P w K mg base 1 "lookup" iL FE ["things"] 1 G.eQ){Gs:Addr}(C3:BK P w K mg base 1 "under" gy Gs ["place","width"] 2 G.gp):
  BK P w K mg base 2 "fitting" fK f ["floor","width"] 2 G.eR:=by
 refine bP F Az rfl (by decide) fun nd q_ A outer s H E hr=>?_;exact (ao (aC (i:=2) nd rfl (Or.inr rfl) (aN C0 hr rfl<|ag<|vv 0) (by decide)) (aB (bf (aN C0 hr rfl (ag (ad (dW (own:=["place"]) (caps:=[1,2]) rfl (di (au fK) rW (by decide +kernel)) (by decide) (cZ<|vv 0) (fun Y=>(bg (i:=0) (show (["place","width","free"]:List Str).Nodup by decide +kernel) rfl (Or.inl rfl) (by decide))) (fun Y=>(ji (dH (ad (bA (lm rfl) (by rfl) T.Fz mC (ag (ad (dW (own:=["cell"]) (caps:=[2]) rfl (yq (by with_unfolding_all rfl)) (by decide) (cZ (ad (aN C3 hr rfl (ah (vv 0) (by exact (ag<|vv 1)))))) (fun Y=>(bg (i:=0) (show (["cell","free"]:List Str).Nodup by decide +kernel) rfl (Or.inl rfl) (by decide))) (fun Y=>fu)<|fun Y=>(cE (gg<|aK hr) (vv 0) (vv 1) rfl)))))))))<|fun Y=>(cX<|pv 0))))))))
theorem r6:k_ Ah ["floor","width","start"] (au eU):=⟨rfl,rfl,rfl,by decide +kernel,rfl,by decide +kernel,by decide +kernel⟩
theorem AB(F:CQ K mg "places" eU f ["floor","width","start"])(T:Txt mg){CH:Addr}(C4:BK P w K mg base 2 "fitting" fK CH ["floor","width"] 2 G.eR){CI:Addr}(C2:BK P w K mg base 2 "reached" gx CI ["free","start"] 2 G.gr):
  BK P w K mg base 3 "places" eU f ["floor","width","start"] 3 G.bQ:=by
 refine bP F r6 rfl (by decide) fun nd q_ A outer s H E hr=>?_;exact (ao (aC (i:=3) nd rfl (Or.inl rfl) (aN C4 hr rfl (ah (vv 0) (by exact (ag<|vv 1)))) (by decide)) (ao (cn (cj (jD<|aK hr) (vv 2) (vv 3) rfl) (aB wA) ck) (aB (bf (aN C2 hr rfl (ah (vv 3) (by exact (ag<|vv 2))))))))
theorem AC(F:CQ K mg "places" eU f ["floor","width","start"])(T:Txt mg){CH:Addr}(C4:BK P w K mg base 2 "fitting" fK CH ["floor","width"] 2 G.eR){CI:Addr}(C2:BK P w K mg base 2 "reached" gx CI ["free","start"] 2 G.gr){g_:Addr}(BJ:Kk K mg "NoFit" g_):
  jA P w K mg base 3 "places" eU f ["floor","width","start"] 3 (Gn 3 4 G.fG) g_:=by
 refine xV (fix:=[]) F r6 rfl fun nd q_ A outer s H E hr=>?_;exact (xR (aC (i:=3) nd rfl (Or.inl rfl) (aN C4 hr rfl (ah (vv 0) (by exact (ag<|vv 1)))) (by decide))<|xS (cj (jD<|aK hr) (vv 2) (vv 3) rfl)<|xT rfl rfl BJ.1 BJ.2<|fun D σ H z=>xF D σ H z)
theorem AD:k_ Ai ["_law_script","_law_k"] (au iN):=⟨rfl,rfl,rfl,by decide +kernel,rfl,by decide +kernel,by decide +kernel⟩
theorem AE(F:CQ K mg "_law_hand" iN f ["_law_script","_law_k"])(T:Txt mg):
  BK P w K mg base 1 "_law_hand" iN f ["_law_script","_law_k"] 2 G.ig:=by
 refine bP F AD rfl (by decide) fun nd q_ A outer s H E hr=>?_;exact (ao (aC (i:=2) nd rfl (Or.inl rfl) ef (by decide)) (ao (cn (cj wK (vv 1) (ad (bA g8 (by rfl) T.Eb iK<|ag<|vv 0))<|bF _) (aB (aC (i:=2) nd rfl (Or.inl rfl) (bM hr (vv 0)<|vv 1) (by decide))) ck) (ao (aC (i:=3) nd rfl (Or.inl rfl) (aq c6 (ad<|aq c6 (ad<|aq jo ai ai)<|ad<|aq jo ai ai)<|ad<|aq jo ai ai) (by decide)) (ao (aC (i:=4) nd rfl (Or.inl rfl) (aq c6 (ad<|aq dG (vv 2)<|vv 3)<|ad<|en oZ rfl T.FA mD<|ag<|ad<|cE wL (vv 2) (ad<|aq jo ai ai)<|bF _) (by decide)) (aB (bf (bv (by exact (ah (vv 4) (by exact (ah (ad<|aq a9 (ad<|aq a9 (ad<|aq dG (vv 2) ai)<|ad<|aq c6 ai<|vv 1) ai) (by exact (ag ai)))))))))))))
theorem AF:k_ Aj ["_law_hand_here","_law_many"] (au fL):=⟨rfl,rfl,rfl,by decide +kernel,rfl,by decide +kernel,by decide +kernel⟩
theorem AG(F:CQ K mg "_law_take" fL f ["_law_hand_here","_law_many"])(T:Txt mg):
  BK P w K mg base 1 "_law_take" fL f ["_law_hand_here","_law_many"] 2 G.br:=by
 refine bP F AF rfl (by decide) fun nd q_ A outer s H E hr=>?_;exact (ao (cn (cj oS (ad<|bM hr (vv 0) ai) ai<|bF _) (ao (aC (i:=2) nd rfl (Or.inl rfl) (aq dG (ad<|bM hr (vv 0) ai)<|vv 1) (by decide))<|ao (dS (aq g7 (ad<|bM hr (vv 0) ai)<|vv 1)<|fX (pv 0) ef<|pF<|aK hr)<|aB<|bf<|cX<|pv 2) ck) (ao (dS (aq a9 (ad<|bM hr (vv 0) ai) ai)<|fX (pv 0) ef<|pF<|aK hr) (ao (aC (i:=3) nd rfl (Or.inl rfl) (bM hr (vv 0) ai) (by decide)) (ao (aC (i:=4) nd rfl (Or.inl rfl) (aq dG (ad<|aq c6 (ad<|bM hr (vv 0) ai)<|ad<|aq a9 (ad<|aq a9 ai<|ad<|aq c6 (ad<|aq c6 ai<|vv 3)<|vv 3)<|ad<|aq c6 ai<|vv 3) ai) (by decide)) (ao (aC (i:=5) nd rfl (Or.inl rfl) (aq a9 (ad<|aq a9 (ad<|aq dG (vv 4) ai)<|ad<|aq c6 (vv 3) ai) ai) (by decide)) (ao (aC (i:=4) nd rfl (Or.inl rfl) (aq dG (ad<|aq c6 (vv 4)<|vv 5) ai) (by decide))<|aB<|bf<|aq dG (ad<|aq a9 (ad<|aq g7 (vv 4) ai)<|ad<|aq g7 (vv 4) ai)<|vv 1))))))
theorem AH:k_ Ak ["_law_hand_here","_law_some"] (au gz):=⟨rfl,rfl,rfl,by decide +kernel,rfl,by decide +kernel,by decide +kernel⟩
theorem AI(F:CQ K mg "_law_of" gz f ["_law_hand_here","_law_some"])(T:Txt mg){Ca:Addr}(C7:BK P w K mg base 1 "_law_take" fL Ca ["_law_hand_here","_law_many"] 2 G.br):
  BK P w K mg base 2 "_law_of" gz f ["_law_hand_here","_law_some"] 2 G.ce:=by
 refine bP F AH rfl (by decide) fun nd q_ A outer s H E hr=>?_;exact (aB (bf (bM hr (vv 1) (ad (aN C7 hr rfl (ah (vv 0) (by exact (ag (ad (bA g8 (by rfl) T.Eb iK<|ag<|vv 1))))))))))
theorem AJ:k_ Al ["_law_hand_here"] (au iO):=⟨rfl,rfl,rfl,by decide +kernel,rfl,by decide +kernel,by decide +kernel⟩
theorem AK(F:CQ K mg "_law_floor" iO f ["_law_hand_here"])(T:Txt mg){Ca:Addr}(C7:BK P w K mg base 1 "_law_take" fL Ca ["_law_hand_here","_law_many"] 2 G.br){EB:Addr}(C8:BK P w K mg base 2 "_law_of" gz EB ["_law_hand_here","_law_some"] 2 G.ce):
  BK P w K mg base 3 "_law_floor" iO f ["_law_hand_here"] 1 G.ij:=by
 refine bP F AJ rfl (by decide) fun nd q_ A outer s H E hr=>?_;exact (ao (aC (i:=1) nd rfl (Or.inl rfl) ef (by decide)) (ao (cn (cj (dX<|aK hr) (ad (aN C7 hr rfl (ah (vv 0) (by exact (ag ai))))) ai<|bF _) (aB (aC (i:=1) nd rfl (Or.inl rfl) ef (by decide))) ck) (ao (kX (i:=2) (j:=3) rfl nd rfl rfl (by decide) rfl rfl (ah (ad (aq a9 ai (ad (aN C7 hr rfl (ah (vv 0) (by exact (ag<|vv 1))))))) (by exact (ag (ad (aq a9 ai (ad (aN C7 hr rfl (ah (vv 0) (by exact (ag<|vv 1)))))))))) (by decide) (by decide) rfl) (ao (kX (i:=4) (j:=5) rfl nd rfl rfl (by decide) rfl rfl (ah (ad (aN C8 hr rfl (ah (vv 0) (by exact (ag (ad (bv (by exact (ah ai (by exact (ah ai (by exact (ah ai (by exact (ag<|ad<|aq dF ai<|vv 2))))))))))))))) (by exact (ag (ad (aN C8 hr rfl (ah (vv 0) (by exact (ag (ad (bv (by exact (ah ai (by exact (ah ai (by exact (ah ai (by exact (ag<|ad<|aq dF ai<|vv 3)))))))))))))))))) (by decide) (by decide) rfl) (ao (aC (i:=6) nd rfl (Or.inl rfl) (aN C7 hr rfl (ah (vv 0) (by exact (ag ai)))) (by decide)) (ao (aC (i:=7) nd rfl (Or.inl rfl) pH (by decide)) (ao (dU (fx:=[0]) Y3 rfl (ft rfl T.B1<|ag<|vv 2) (bg (i:=8) nd rfl (Or.inl rfl) (by decide)) (aB (dU (fx:=[0]) Y3 rfl (ft rfl T.B1<|ag<|vv 3) (bg (i:=9) nd rfl (Or.inl rfl) (by decide)) (ao (aC (i:=10) nd rfl (Or.inl rfl) (bv (by exact (ah (ad (cE (dX<|aK hr) (ad (aN C7 hr rfl (ah (vv 0) (by exact (ag ai))))) ai<|bF _)) (by exact (ah (ad (cE oS (ad (aN C7 hr rfl (ah (vv 0) (by exact (ag ai))))) ai<|bF _)) (by exact (ag<|ad cN))))))) (by decide)) (ao (je<|js fy YF X0 XZ ls (pv 10)<|ag<|ad<|ou (dw<|cE (dX<|aK hr) (ad<|aq dG (vv 8) ai) ai<|bF _)<|dw<|jc<|cE (dX<|aK hr) (vv 9) (ad<|aq dG (ad<|aq g7 (vv 8) ai)<|vv 3)<|bF _) (ao (aC (i:=10) nd rfl (Or.inl rfl) (aq a9 (vv 10) (ad (bv (by exact (ah (ad (ou (dw (cE (gg<|aK hr) (vv 8) (ad (aR (by exact (ah ai (by exact (ag<|ad<|aq dF (vv 2) ai)))))) rfl)) (dw (jc (cE (gg<|aK hr) (vv 9) (ad (aR (by exact (ah ai (by exact (ag<|ad<|aq dF (vv 3) ai)))))) rfl))))) (by exact (ag<|ad cN))))))) (by decide)) (aB (cn (dH<|ad<|bM hr (vv 10)<|vv 6) (aB (dS cN (fX (pv 7) (aR (by exact (ah (ad<|aq a9 (vv 8)<|vv 4) (by exact (ag<|ad<|aq a9 (vv 9)<|vv 5)))))<|jv<|aK hr))) ck))))) (by decide) gZ)) (by decide) gZ) (ao (dS (aR (by exact (ah ai (by exact (ag ai))))) (jg rfl (et (bg (i:=8) nd rfl (Or.inl rfl) (by decide)) (et (bg (i:=9) nd rfl (Or.inl rfl) (by decide)) jf)))) (ao (dU (fx:=[0]) Y3 rfl (ft rfl T.B1<|ag<|ad<|aq c6 ai<|ad<|en oZ rfl T.FA mD<|ag<|ad<|cE (dX<|aK hr) (vv 6) ai<|bF _) (bg (i:=11) nd rfl (Or.inl rfl) (by decide)) (ao (dS cN (fX (pv 7) (aR (by exact (ah (ad<|aq a9 (vv 8)<|vv 4) (by exact (ag<|ad<|aq a9 (vv 9)<|vv 5)))))<|jv<|aK hr)) (ao (dS (aN C8 hr rfl (ah (vv 0) (by exact (ag (ad (bv (by exact (ah (ad (aR (by exact (ah ai (by exact (ag ai)))))) (by exact (ah (ad (aR (by exact (ah ai (by exact (ag ai)))))) (by exact (ah (ad (aR (by exact (ah ai (by exact (ag ai)))))) (by exact (ah (ad (aR (by exact (ah (ad<|oX ef) (by exact (ag ai)))))) (by exact (ah (ad (aR (by exact (ah ai (by exact (ag<|ad<|oX ef)))))) (by exact (ag (ad (aR (by exact (ah ai (by exact (ag ai)))))))))))))))))))))))) (jg rfl (et (bg (i:=12) nd rfl (Or.inl rfl) (by decide)) (et (bg (i:=13) nd rfl (Or.inl rfl) (by decide)) jf)))) (ao (aC (i:=8) nd rfl (Or.inl rfl) (bA (lh rfl) (by rfl) T.FC mF (ah (ad<|aq dF (vv 2) ai) (by exact (ag (ad (bA (lg rfl) (by rfl) T.FB mE (ah ai (by exact (ag<|ad<|aq a9 (vv 8)<|vv 12))))))))) (by decide)) (aB (aC (i:=9) nd rfl (Or.inl rfl) (bA (lh rfl) (by rfl) T.FC mF (ah (ad<|aq dF (vv 3) ai) (by exact (ag (ad (bA (lg rfl) (by rfl) T.FB mE (ah ai (by exact (ag<|ad<|aq a9 (vv 9)<|vv 13))))))))) (by decide)))))) (by decide) gZ) (aB (bf (en jq rfl T.Cf gw (ag (ad (bA (lQ rfl<|aK hr) (by rfl) T.Dp mG<|ag<|vv 7)))))))))))))))
theorem AL:k_ Am ["_law_one","_law_other"] (au iP):=⟨rfl,rfl,rfl,by decide +kernel,rfl,by decide +kernel,by decide +kernel⟩
theorem AM(F:CQ K mg "_law_are_beside" iP f ["_law_one","_law_other"])(T:Txt mg):
  BK P w K mg base 1 "_law_are_beside" iP f ["_law_one","_law_other"] 2 G.io:=by
 refine bP F AL rfl (by decide) fun nd q_ A outer s H E hr=>?_;exact (aB (bf (cE (dX<|aK hr) (ad (aq a9 (ad (bA pc (by rfl) T.GW rS<|ag<|ad<|aq dF (ad<|bM hr (vv 0) ai)<|ad<|bM hr (vv 1) ai)) (ad (bA pc (by rfl) T.GW rS<|ag<|ad<|aq dF (ad<|bM hr (vv 0) ai)<|ad<|bM hr (vv 1) ai)))) ai<|bF _)))
theorem AN:k_ jZ ["_law_floor_here","_law_cell"] (au eV):=⟨rfl,rfl,rfl,by decide +kernel,rfl,by decide +kernel,by decide +kernel⟩
theorem AO(F:CQ K mg "_law_part" eV f ["_law_floor_here","_law_cell"])(T:Txt mg){Dq:Addr}(O7:BK P w K mg base 1 "_law_are_beside" iP Dq ["_law_one","_law_other"] 2 G.io):
  BK P w K mg base 2 "_law_part" eV f ["_law_floor_here","_law_cell"] 2 G.iq:=by
 refine bP F AN rfl (by decide) fun nd q_ A outer s H E hr=>?_;exact (ao (kX (i:=2) (j:=3) rfl nd rfl rfl (by decide) rfl rfl (ah (ad (bv (by exact (ag<|vv 1)))) (by exact (ag (ad (bv (by exact (ag<|vv 1))))))) (by decide) (by decide) rfl) (ao (pJ (i:=4) (own:=["_law_one"]) (caps:=[1]) nd rfl (Or.inl rfl) rfl (di (au eV) jZ (by decide +kernel)) (by decide) (cZ<|vv 0) (fun Y=>(bg (i:=0) (show (["_law_one","_law_cell"]:List Str).Nodup by decide +kernel) rfl (Or.inl rfl) (by decide))) (fun Y=>(ji<|cj (jp<|aK hr) (vv 0) (vv 1)<|bF _)) (fun Y=>(cX<|pv 0)) (by decide)) (ao (oH 1000000 Y3 (cj (jp<|aK hr) (vv 3) (ad (bv (by exact fm)))<|bF _) (ao (aC (i:=5) nd rfl (Or.inr rfl) (bv (by exact fm)) (by decide)) (ao (dU (fx:=[4,0,1]) Y3 rfl (cZ<|vv 4) (bg (i:=6) nd rfl (Or.inr rfl) (by decide)) (aB (cn (dH (ad (bA (wV rfl) (by rfl) T.Jp z9 (ag (ad (dW (own:=["_law_other"]) (caps:=[6]) rfl (di (au eV) jZ (by decide +kernel)) (by decide) (cZ<|vv 3) (fun Y=>(bg (i:=0) (show (["_law_other","_law_one"]:List Str).Nodup by decide +kernel) rfl (Or.inl rfl) (by decide))) (fun Y=>fu) (fun Y=>(aN O7 hr rfl (ah (vv 1) (by exact (ag<|vv 0))))))))))) (aB<|je<|js fy YF X0 XZ ls (pv 5)<|ag<|vv 6) ck)) (by decide) (oK (by decide))) (ao (aC (i:=2) nd rfl (Or.inl rfl) (aq a9 (vv 2)<|vv 5) (by decide)) (ao (pJ (i:=4) (own:=["_law_one"]) (caps:=[5]) nd rfl (Or.inl rfl) rfl (di (au eV) jZ (by decide +kernel)) (by decide) (cZ<|vv 4) (fun Y=>(bg (i:=0) (show (["_law_one","_law_more"]:List Str).Nodup by decide +kernel) rfl (Or.inl rfl) (by decide))) (fun Y=>(ji<|cj (jD<|aK hr) (vv 0) (vv 1) rfl)) (fun Y=>(cX<|pv 0)) (by decide)) (aB (aC (i:=3) nd rfl (Or.inl rfl) (cX<|pv 5) (by decide)))))))) (aB (bf (en jq rfl T.Cf gw (ag (ad (bA (lQ rfl<|aK hr) (by rfl) T.Dp mG<|ag<|vv 2)))))))))
theorem AQ:k_ rX ["_law_place","_law_width"] (au gC):=⟨rfl,rfl,rfl,by decide +kernel,rfl,by decide +kernel,by decide +kernel⟩
theorem AR(F:CQ K mg "_law_under" gC f ["_law_place","_law_width"])(T:Txt mg):
  BK P w K mg base 1 "_law_under" gC f ["_law_place","_law_width"] 2 G.gq:=by
 refine bP F AQ rfl (by decide) fun nd q_ A outer s H E hr=>?_;exact (ao (aC (i:=2) nd rfl (Or.inl rfl) (bv (by exact fm)) (by decide)) (ao (dU (fx:=[0,1]) Y3 rfl (ft rfl T.B1<|ag<|vv 1) (bg (i:=3) nd rfl (Or.inr rfl) (by decide)) (aB (je (js fy YF PySem.F.slot_list_extend PySem.F.type_list_extend w9 (pv 2) (ag (ad (dW (own:=["_law_right"]) (caps:=[0,3]) rfl (di (au gC) rX (by decide +kernel)) (by decide) (ft rfl T.B1<|ag<|vv 1) (fun Y=>(bg (i:=0) (show (["_law_right","_law_place","_law_down"]:List Str).Nodup by decide +kernel) rfl (Or.inl rfl) (by decide))) (fun Y=>fu) (fun Y=>(aR (by exact (ah (ad<|aq a9 (ad<|bM hr (vv 1) ai)<|vv 2) (by exact (ag<|ad<|aq a9 (ad<|bM hr (vv 1) ai)<|vv 0)))))))))))) (by decide) gZ)<|aB<|bf<|cX<|pv 2))
theorem AS:k_ rY ["_law_known","_law_width","_law_place"] (au gD):=⟨rfl,rfl,rfl,by decide +kernel,rfl,by decide +kernel,by decide +kernel⟩
theorem AT(F:CQ K mg "_law_stands" gD f ["_law_known","_law_width","_law_place"])(T:Txt mg){EY:Addr}(O8:BK P w K mg base 1 "_law_under" gC EY ["_law_place","_law_width"] 2 G.gq):
  BK P w K mg base 2 "_law_stands" gD f ["_law_known","_law_width","_law_place"] 3 G.ir:=by
 refine bP F AS rfl (by decide) fun nd q_ A outer s H E hr=>?_;exact (aB (bf (bA (lm rfl) (by rfl) T.Fz mC (ag (ad (dW (own:=["_law_cell"]) (caps:=[0]) rfl (di (au gD) rY (by decide +kernel)) (by decide) (cZ (ad (aN O8 hr rfl (ah (vv 2) (by exact (ag<|vv 1)))))) (fun Y=>(bg (i:=0) (show (["_law_cell","_law_known"]:List Str).Nodup by decide +kernel) rfl (Or.inl rfl) (by decide))) (fun Y=>fu)<|fun Y=>(cE (gg<|aK hr) (vv 0) (vv 1) rfl)))))))
theorem AU:k_ mH ["_law_floor_here","_law_width"] (au eZ):=⟨rfl,rfl,rfl,by decide +kernel,rfl,by decide +kernel,by decide +kernel⟩
theorem AV(F:CQ K mg "_law_all_stands" eZ f ["_law_floor_here","_law_width"])(T:Txt mg){EC:Addr}(O9:BK P w K mg base 2 "_law_stands" gD EC ["_law_known","_law_width","_law_place"] 3 G.ir):
  BK P w K mg base 3 "_law_all_stands" eZ f ["_law_floor_here","_law_width"] 2 G.eS:=by
 refine bP F AU rfl (by decide) fun nd q_ A outer s H E hr=>?_;exact (ao (aC (i:=2) nd rfl (Or.inr rfl) (en (yy rfl<|Ad hr) rfl T.HN Ab (ag (ad (dW (own:=["_law_cell"]) (caps:=[]) rfl (di (au eZ) mH (by decide +kernel)) (by decide) (cZ<|vv 0) (fun Y=>(bg (i:=0) (show (["_law_cell"]:List Str).Nodup by decide +kernel) rfl (Or.inl rfl) (by decide))) (fun Y=>fu) (fun Y=>(aR (by exact (ah (vv 0) (by exact (ag<|ad cN)))))))))) (by decide)) (aB (bf (en jq rfl T.Cf gw (ag (ad (dW (own:=["_law_cell"]) (caps:=[2,1]) rfl (di (au eZ) mH (by decide +kernel)) (by decide) (cZ<|vv 0) (fun Y=>(bg (i:=0) (show (["_law_cell","_law_known","_law_width"]:List Str).Nodup by decide +kernel) rfl (Or.inl rfl) (by decide))) (fun Y=>(ji (dH (ad (aN O9 hr rfl (ah (vv 1) (by exact (ah (vv 2) (by exact (ag<|vv 0))))))))))<|fun Y=>(cX<|pv 0))))))))
theorem AW:k_ An ["_law_hand_here","_law_floor_here"] (au iQ):=⟨rfl,rfl,rfl,by decide +kernel,rfl,by decide +kernel,by decide +kernel⟩
theorem AX(F:CQ K mg "_law_mower" iQ f ["_law_hand_here","_law_floor_here"])(T:Txt mg){EB:Addr}(C8:BK P w K mg base 2 "_law_of" gz EB ["_law_hand_here","_law_some"] 2 G.ce){BM:Addr}(L4:BK P w K mg base 3 "_law_all_stands" eZ BM ["_law_floor_here","_law_width"] 2 G.eS):
  BK P w K mg base 4 "_law_mower" iQ f ["_law_hand_here","_law_floor_here"] 2 G.iw:=by
 refine bP F AW rfl (by decide) fun nd q_ A outer s H E hr=>?_;exact (ao (aC (i:=2) nd rfl (Or.inl rfl) (aN C8 hr rfl (ah (vv 0) (by exact (ag (ad (bv (by exact (ah ai (by exact (ah ai (by exact (ah ai (by exact (ah ai (by exact (ah ai (by exact (ah ai (by exact (ah ai (by exact (ag ai)))))))))))))))))))))) (by decide)) (ao (aC (i:=3) nd rfl (Or.inl rfl) (aN L4 hr rfl (ah (vv 1) (by exact (ag<|vv 2)))) (by decide)) (ao (cn (cj (dX<|aK hr) (vv 3) (ad (aR (by exact fm)))<|bF _) (aB (bf (aR (by exact (ah (vv 2) (by exact (ag (ad (aN C8 hr rfl (ah (vv 0) (by exact (ag (ad (aq a9 (ad<|en wT rfl T.HP Ac<|ag<|vv 1) (ad (bv (by exact (ah (ad (aR (by exact (ah ai (by exact (ag ai)))))) (by exact (ah (ad (aR (by exact (ah ai (by exact (ag ai)))))) (by exact (ag (ad (aR (by exact (ah ai (by exact (ag ai)))))))))))))))))))))))))))) ck) (aB (bf (aR (by exact (ah (vv 2) (by exact (ag (ad (aN C8 hr rfl (ah (vv 0) (by exact (ag<|vv 3)))))))))))))))
theorem se:k_ rZ ["_law_told","_law_due"] (au gE):=⟨rfl,rfl,rfl,by decide +kernel,rfl,by decide +kernel,by decide +kernel⟩
theorem AY{Cb:Addr}{CJ:FuncData}(Ec:Dx K "_law_same" "_law_same" gE Cb CJ)(T:Txt mg)(FF:cf K CJ ["_law_told","_law_due"] [])(FG:mg "_law_same" = some (.ref Cb)):
  ∀ k,B6 P w K mg base DL (1+k) Cb CJ ["_law_told","_law_due"] (EK 2<|G.cV k):=by
 intro k;induction k with
 | zero=>exact⟨fun vs H Q E h=>h.1,fun A outer s H args us vs Q E hr he hb hv h=>absurd h.2 (by rintro⟨_,_,_,_,_,_,e,_⟩;cases e)⟩
 | succ k L5=>
  have nd:=se.nd;refine MV (k:=1+k) Ec se rfl (by decide) (fun q_ A outer s H E hr=>?_);exact (ao (cn (dH<|ad<|fW rfl T.h_ cu rfl T.Cf gw<|vv 1) (ao (cn (VW.vt (ot (kR<|dH<|ad<|fW rfl T.h_ cu rfl T.Cf gw<|vv 0) (oq (cj (jp<|aK hr) (ad (bA g8 (by rfl) T.Eb iK<|ag<|vv 0)) (ad (bA g8 (by rfl) T.Eb iK<|ag<|vv 1))<|bF _)))) (aB<|bf cN) ck) (aB (bf (bA (lm rfl) (by rfl) T.Fz mC (ag (ad (dW (own:=["_law_one","_law_other"]) (caps:=[]) rfl (di (au gE) rZ (by decide +kernel)) (by decide) (xf rfl T.Jq (ah (vv 0) (by exact (ag<|vv 1)))) (fun Y=>(jg rfl (et (bg (i:=0) (show (["_law_one","_law_other"]:List Str).Nodup by decide +kernel) rfl (Or.inl rfl) (by decide)) (et (bg (i:=1) (show (["_law_one","_law_other"]:List Str).Nodup by decide +kernel) rfl (Or.inl rfl) (by decide)) jf)))) (fun Y=>fu) (fun Y=>(oE L5 (hr.mono<|ZR _) rfl FG Ec.kp FF (ah (vv 0) (by exact (ag<|vv 1)))))))))))) ck)<|ao (cn (cj oU (vv 1) (ad gW)<|bF _) (aB<|bf<|cE oU (vv 0) (ad gW)<|bF _) ck)<|ao (cn (dH<|ad<|fW rfl T.h_ cu rfl T.GX rT<|vv 1) (aB<|bf<|kT (dw<|fW rfl T.h_ cu rfl T.GX rT<|vv 0)<|dw<|jc<|cE (dX<|aK hr) (vv 0) (vv 1)<|bF _) ck)<|aB<|bf<|kT (dw<|fW rfl T.h_ cu rfl T.FA mD<|vv 0)<|kT (dw<|ww<|dw<|fW rfl T.h_ cu rfl T.HM Aa<|vv 0)<|dw<|jc<|cE (dX<|aK hr) (vv 0) (vv 1)<|bF _)
theorem AZ:k_ Ao ["_law_e"] (au iR):=⟨rfl,rfl,rfl,by decide +kernel,rfl,by decide +kernel,by decide +kernel⟩
theorem A3(F:CQ K mg "_law_word" iR f ["_law_e"])(T:Txt mg){g_:Addr}(BJ:Kk K mg "NoFit" g_)(EK_NoFit:FS K g_){Dr:Addr}(ED:mg "Here" = some (.ref Dr)){Ds:Addr}(EF:mg "Near" = some (.ref Ds)){BU:Addr}(CK:mg "NoBlock" = some (.ref BU)){BN:Addr}(Cq:mg "NoBlocks" = some (.ref BN)){BV:Addr}(CL:mg "NoField" = some (.ref BV)){Cc:Addr}(Dt:mg "NoText" = some (.ref Cc)){BW:Addr}(CO:mg "TooMany" = some (.ref BW))(KF_Here:PySem.W.kitOne K (.ref g_) (.ref Dr)=some false)(KF_Near:PySem.W.kitOne K (.ref g_) (.ref Ds)=some false)(KF_NoBlock:PySem.W.kitOne K (.ref g_) (.ref BU)=some false)(KF_NoBlocks:PySem.W.kitOne K (.ref g_) (.ref BN)=some false)(KF_NoField:PySem.W.kitOne K (.ref g_) (.ref BV)=some false)(KF_NoText:PySem.W.kitOne K (.ref g_) (.ref Cc)=some false)(KF_TooMany:PySem.W.kitOne K (.ref g_) (.ref BW)=some false)(V_ValueError:PySem.W.kitOne K (.ref g_) (.type "ValueError")=some true):
  jC P w K mg base 1 "_law_word" iR f ["_law_e"] 1 G.iz g_:=by
 refine yd F AZ rfl fun nd e oe hc q_ A outer s H hr=>?_;exact (ao (aC (i:=1) nd rfl (Or.inl rfl) (bv (by exact (ah (ad<|eJ EK_NoFit (List.Mem.head _) hc KF_NoText rfl T.h_ cu rfl Dt<|vv 0) (by exact (ah (ad<|eJ EK_NoFit (List.Mem.head _) hc xY rfl T.h_ cu rfl BJ.1<|vv 0) (by exact (ag<|ad<|eJ EK_NoFit (List.Mem.head _) hc KF_TooMany rfl T.h_ cu rfl CO<|vv 0))))))) (by decide)) (ao (aC (i:=1) nd rfl (Or.inl rfl) (aq a9 (vv 1) (ad (bv (by exact (ag<|ad<|eJ EK_NoFit (List.Mem.head _) hc KF_Near rfl T.h_ cu rfl EF<|vv 0))))) (by decide)) (ao (aC (i:=1) nd rfl (Or.inl rfl) (aq a9 (vv 1) (ad (bv (by exact (ah (ad<|eJ EK_NoFit (List.Mem.head _) hc KF_NoBlocks rfl T.h_ cu rfl Cq<|vv 0) (by exact (ah (ad<|eJ EK_NoFit (List.Mem.head _) hc KF_NoBlock rfl T.h_ cu rfl CK<|vv 0) (by exact (ag<|ad<|eJ EK_NoFit (List.Mem.head _) hc KF_Here rfl T.h_ cu rfl ED<|vv 0))))))))) (by decide)) (ao (aC (i:=1) nd rfl (Or.inl rfl) (aq a9 (vv 1) (ad (bv (by exact (ag<|ad<|eJ EK_NoFit (List.Mem.head _) hc KF_NoField rfl T.h_ cu rfl CL<|vv 0))))) (by decide)) (ao (aC (i:=2) nd rfl (Or.inl rfl) (bv (by exact (ah (ad cD) (by exact (ah (ad cD) (by exact (ah (ad cD) (by exact (ah (ad cD) (by exact (ah (ad cD) (by exact (ah (ad cD) (by exact (ah (ad cD) (by exact (ag<|ad cD))))))))))))))))) (by decide))<|ao (cn (VW.vt<|ot (cj (jp (have z:=aK hr;z)) (ad<|yJ (have z:=aK hr;z) (vv 1)<|ad cN) ai<|bF _)<|oq<|kR<|dH<|ad<|xP (List.Mem.head _) hc V_ValueError rfl T.h_ cu rfl T.DS zZ<|vv 0) (aB<|bf cD) ck)<|aB<|bf<|og (oW (have z:=aK hr;z)) (vv 2) (ad<|yG (have z:=aK hr;z) (vv 1)<|ad cN)<|fun _ _=>rfl)))))
theorem A4:k_ Ap ["_law_floor_here","_law_width","_law_start"] (au iS):=⟨rfl,rfl,rfl,by decide +kernel,rfl,by decide +kernel,by decide +kernel⟩
theorem A5(F:CQ K mg "_law_asked" iS f ["_law_floor_here","_law_width","_law_start"])(T:Txt mg){Ed:Addr}(C5:BK P w K mg base 3 "places" eU Ed ["floor","width","start"] 3 G.bQ){g_:Addr}(BJ:Kk K mg "NoFit" g_)(EZ:jA P w K mg base 3 "places" eU Ed ["floor","width","start"] 3 (Gn 3 4 G.fG) g_){FH:Addr}(E1:jC P w K mg base 1 "_law_word" iR FH ["_law_e"] 1 G.iz g_){BO:Addr}(Cr:mg "MowError" = some (.ref BO))(Q_MowError:PySem.W.exmOne K (.ref g_) (.ref BO)=some true):
  BK P w K mg base 4 "_law_asked" iS f ["_law_floor_here","_law_width","_law_start"] 3 G.dZ:=by
 refine bP F A4 rfl (by decide) fun nd q_ A outer s H E hr=>?_;exact (ao (aC (i:=3) nd rfl (Or.inl rfl) (aR (by exact (ah (ad cD) (by exact (ag<|ad gW))))) (by decide)) (ao (xX (i:=4) (r:=G.l9) (g:=G.ma) (gs:=G.jQ) rfl rfl rfl rfl Cr Q_MowError nd rfl rfl (by decide) (fun E p=>(aB (aC (i:=3) nd rfl (Or.inl rfl) (aR (by exact (ah (ad cD) (by exact (ag (ad (aN C5 hr rfl (ah (vv 0) (by exact (ah (vv 1) (by exact (ag<|vv 2)))))))))))) (by decide)))) (fun E p Z hz=>(xU (i:=3) nd rfl (Or.inl rfl) (yh (yg (ad cD) (yf (xW EZ hr rfl rfl hz (ah (vv 0) (by exact (ah (vv 1) (by exact (ag<|vv 2))))))))))) (fun p e oe hc hp=>(aB (aC (i:=3) nd rfl (Or.inl rfl) (aR (by exact (ah (ad<|ye E1 hc hp (hr.FT _) rfl rfl<|ag<|vv 4) (by exact (ag<|ad gW))))) (by decide)))) G.zd)<|aB<|bf<|cX<|pv 3))
theorem A6:k_ Aq ["_law_script"] (au j6):=⟨rfl,rfl,rfl,by decide +kernel,rfl,by decide +kernel,by decide +kernel⟩
theorem A7(F:CQ K mg "law" j6 f ["_law_script"])(T:Txt mg){FI:Addr}(C6:BK P w K mg base 1 "_law_hand" iN FI ["_law_script","_law_k"] 2 G.ig){E2:Addr}(C9:BK P w K mg base 3 "_law_floor" iO E2 ["_law_hand_here"] 1 G.ij){E3:Addr}(O':BK P w K mg base 4 "_law_mower" iQ E3 ["_law_hand_here","_law_floor_here"] 2 G.iw){BM:Addr}(L4:BK P w K mg base 3 "_law_all_stands" eZ BM ["_law_floor_here","_law_width"] 2 G.eS){Ca:Addr}(C7:BK P w K mg base 1 "_law_take" fL Ca ["_law_hand_here","_law_many"] 2 G.br){FJ:Addr}(O_:BK P w K mg base 2 "_law_part" eV FJ ["_law_floor_here","_law_cell"] 2 G.iq){Cb:Addr}(Pa:BK P w K mg base 7 "_law_same" gE Cb ["_law_told","_law_due"] 2 (G.cV 6)){E4:Addr}(Pb:BK P w K mg base 4 "_law_asked" iS E4 ["_law_floor_here","_law_width","_law_start"] 3 G.dZ):
  BK P w K mg base 8 "law" j6 f ["_law_script"] 1 G.iB:=by
 refine bP F A6 rfl (by decide) fun nd q_ A outer s H E hr=>?_;exact (ao (dU (fx:=[0]) Y3 rfl (ft rfl T.B1 (ag (ad (bA (lg rfl) (by rfl) T.FB mE (ah ai (by exact (ag (ad (bA (lh rfl) (by rfl) T.FC mF (ah ai (by exact (ag (ad (bA g8 (by rfl) T.Eb iK<|ag<|vv 0)))))))))))))) (bg (i:=1) nd rfl (Or.inl rfl) (by decide)) (ao (aC (i:=2) nd rfl (Or.inl rfl) (aN C6 hr rfl (ah (vv 0) (by exact (ag<|vv 1)))) (by decide)) (ao (aC (i:=3) nd rfl (Or.inl rfl) (aN C9 hr rfl<|ag<|vv 2) (by decide)) (ao (dS (aN O' hr rfl (ah (vv 2) (by exact (ag<|vv 3)))) (jg rfl (et (bg (i:=4) nd rfl (Or.inl rfl) (by decide)) (et (bg (i:=5) nd rfl (Or.inl rfl) (by decide)) jf)))) (ao (aC (i:=6) nd rfl (Or.inl rfl) (aN L4 hr rfl (ah (vv 3) (by exact (ag<|vv 4)))) (by decide)) (ao (aC (i:=7) nd rfl (Or.inl rfl) (aR (by exact (ah (ad (aN C7 hr rfl (ah (vv 2) (by exact (ag ai))))) (by exact (ag (ad (aN C7 hr rfl (ah (vv 2) (by exact (ag ai)))))))))) (by decide)) (aB (dU (fx:=[0]) Y3 rfl (cZ (ad (bv (by exact (ah (vv 5) (by exact (ah (vv 7) (by exact (ah (vv 5) (by exact (ag (ad (aR (by exact (ah ai (by exact (ag ai))))))))))))))))) (bg (i:=8) nd rfl (Or.inl rfl) (by decide)) (ao (aC (i:=9) nd rfl (Or.inl rfl) (aR (by exact (ah (ad cD) (by exact (ag<|ad gW))))) (by decide)) (ao (cn (cj (gg<|aK hr) (vv 8) (vv 6) rfl) (aB (aC (i:=9) nd rfl (Or.inl rfl) (aR (by exact (ah (ad cD) (by exact (ag (ad (aN O_ hr rfl (ah (vv 6) (by exact (ag<|vv 8)))))))))) (by decide))) ck) (aB (cn (kR (dH (ad (aN Pa hr rfl (ah (ad (aN Pb hr rfl (ah (vv 3) (by exact (ah (vv 4) (by exact (ag<|vv 8))))))) (by exact (ag<|vv 9))))))) (aB<|bf cN) ck)))) (by decide) oJ))))))) (by decide) gZ)<|aB<|bf cN)
end
theorem all_mk{w:World}{K:PySem.W.Frag}{h:Heap}{mg:Str->Option Value}{fa L6 L7 L8 L9 L' L_ Ma Mb Mc Md Jr Js Jt Ju Jv Jw GY Jx Jy Jz:Addr}(X:K.In h)(Gg:h.Ns mainGlobals mg)(LG:mg "law" = some (.ref fa))(r_w0:Raw K "lookup" iL L6)(r_w1:Raw K "around" iM L7)(r_w2:Raw K "reached" gx L8)(r_w3:Raw K "under" gy L9)(r_w4:Raw K "fitting" fK L')(r_w5:Raw K "places" eU L_)(r_w6:Raw K "_law_hand" iN Ma)(r_w7:Raw K "_law_take" fL Mb)(r_w8:Raw K "_law_of" gz Mc)(r_w9:Raw K "_law_floor" iO Md)(r_w10:Raw K "_law_are_beside" iP Jr)(r_w11:Raw K "_law_part" eV Js)(r_w12:Raw K "_law_under" gC Jt)(r_w13:Raw K "_law_stands" gD Ju)(r_w14:Raw K "_law_all_stands" eZ Jv)(r_w15:Raw K "_law_mower" iQ Jw)(r_w16:Raw K "_law_same" gE GY)(r_w17:Raw K "_law_word" iR Jx)(r_w18:Raw K "_law_asked" iS Jy)(r_law:Raw K "law" j6 Jz){g_:Addr}(g_NoFit:PySem.W.nsIn K mainGlobals "NoFit" = some (some<|.ref g_))(x_NoFit:PySem.W.excIn K g_ [.type "ValueError",.type "Exception",.type "BaseException",.type "object"] "ValueError.__new__" = true){Dr:Addr}(g_Here:PySem.W.nsIn K mainGlobals "Here" = some (some<|.ref Dr)){BO:Addr}(g_MowError:PySem.W.nsIn K mainGlobals "MowError" = some (some<|.ref BO)){Ds:Addr}(g_Near:PySem.W.nsIn K mainGlobals "Near" = some (some<|.ref Ds)){BU:Addr}(g_NoBlock:PySem.W.nsIn K mainGlobals "NoBlock" = some (some<|.ref BU)){BN:Addr}(g_NoBlocks:PySem.W.nsIn K mainGlobals "NoBlocks" = some (some<|.ref BN)){BV:Addr}(g_NoField:PySem.W.nsIn K mainGlobals "NoField" = some (some<|.ref BV)){Cc:Addr}(g_NoText:PySem.W.nsIn K mainGlobals "NoText" = some (some<|.ref Cc)){BW:Addr}(g_TooMany:PySem.W.nsIn K mainGlobals "TooMany" = some (some<|.ref BW))(Q_MowError:PySem.W.exmOne K (.ref g_) (.ref BO)=some true)(EK_NoFit:FS K g_)(KF_Here:PySem.W.kitOne K (.ref g_) (.ref Dr)=some false)(KF_Near:PySem.W.kitOne K (.ref g_) (.ref Ds)=some false)(KF_NoBlock:PySem.W.kitOne K (.ref g_) (.ref BU)=some false)(KF_NoBlocks:PySem.W.kitOne K (.ref g_) (.ref BN)=some false)(KF_NoField:PySem.W.kitOne K (.ref g_) (.ref BV)=some false)(KF_NoText:PySem.W.kitOne K (.ref g_) (.ref Cc)=some false)(KF_TooMany:PySem.W.kitOne K (.ref g_) (.ref BW)=some false)(V_ValueError:PySem.W.kitOne K (.ref g_) (.type "ValueError")=some true)(z_ValueError:PySem.W.nsIn K mainGlobals "ValueError" = some none)(z_abs:PySem.W.nsIn K mainGlobals "abs" = some none)(z_all:PySem.W.nsIn K mainGlobals "all" = some none)(z_any:PySem.W.nsIn K mainGlobals "any" = some none)(z_bool:PySem.W.nsIn K mainGlobals "bool" = some none)(z_dict:PySem.W.nsIn K mainGlobals "dict" = some none)(z_int:PySem.W.nsIn K mainGlobals "int" = some none)(z_isinstance:PySem.W.nsIn K mainGlobals "isinstance" = some none)(z_len:PySem.W.nsIn K mainGlobals "len" = some none)(z_list:PySem.W.nsIn K mainGlobals "list" = some none)(z_max:PySem.W.nsIn K mainGlobals "max" = some none)(z_min:PySem.W.nsIn K mainGlobals "min" = some none)(z_range:PySem.W.nsIn K mainGlobals "range" = some none)(z_sorted:PySem.W.nsIn K mainGlobals "sorted" = some none)(z_str:PySem.W.nsIn K mainGlobals "str" = some none)(z_tuple:PySem.W.nsIn K mainGlobals "tuple" = some none)(z_zip:PySem.W.nsIn K mainGlobals "zip" = some none):
  ∃ fd:FuncData,(∀ (s:Shared) (v:Value),BindsTo s fd ⟨[v],[]⟩ [("_law_script",v)])/\∀ base:Heap,K.In base->base.Ns mainGlobals mg->B6 l.prog w K mg base DL 8 fa fd ["_law_script"] (EK 1 G.iB):=by
 have T:Txt mg:=⟨Zu X Gg z_ValueError,Zu X Gg z_abs,Zu X Gg z_all,Zu X Gg z_any,Zu X Gg z_bool,Zu X Gg z_dict,Zu X Gg z_int,Zu X Gg z_isinstance,Zu X Gg z_len,Zu X Gg z_list,Zu X Gg z_max,Zu X Gg z_min,Zu X Gg z_range,Zu X Gg z_sorted,Zu X Gg z_str,Zu X Gg z_tuple,Zu X Gg z_zip⟩;have h_w0:=r_w0.b1 (ps:=["things"]) X Gg fun _ _ _ _ _ _ _=>rfl;have h_w1:=r_w1.b1 (ps:=["cell"]) X Gg fun _ _ _ _ _ _ _=>rfl;have h_w2:=r_w2.b2 (ps:=["free","start"]) X Gg fun _ _ _ _ _ _ _ _=>rfl;have h_w3:=r_w3.b2 (ps:=["place","width"]) X Gg fun _ _ _ _ _ _ _ _=>rfl;have h_w4:=r_w4.b2 (ps:=["floor","width"]) X Gg fun _ _ _ _ _ _ _ _=>rfl;have h_w5:=r_w5.b3 (ps:=["floor","width","start"]) X Gg fun _ _ _ _ _ _ _ _ _=>rfl;have h_w6:=r_w6.b2 (ps:=["_law_script","_law_k"]) X Gg fun _ _ _ _ _ _ _ _=>rfl;have h_w7:=r_w7.b2 (ps:=["_law_hand_here","_law_many"]) X Gg fun _ _ _ _ _ _ _ _=>rfl;have h_w8:=r_w8.b2 (ps:=["_law_hand_here","_law_some"]) X Gg fun _ _ _ _ _ _ _ _=>rfl;have h_w9:=r_w9.b1 (ps:=["_law_hand_here"]) X Gg fun _ _ _ _ _ _ _=>rfl;have h_w10:=r_w10.b2 (ps:=["_law_one","_law_other"]) X Gg fun _ _ _ _ _ _ _ _=>rfl;have h_w11:=r_w11.b2 (ps:=["_law_floor_here","_law_cell"]) X Gg fun _ _ _ _ _ _ _ _=>rfl;have h_w12:=r_w12.b2 (ps:=["_law_place","_law_width"]) X Gg fun _ _ _ _ _ _ _ _=>rfl;have h_w13:=r_w13.b3 (ps:=["_law_known","_law_width","_law_place"]) X Gg fun _ _ _ _ _ _ _ _ _=>rfl;have h_w14:=r_w14.b2 (ps:=["_law_floor_here","_law_width"]) X Gg fun _ _ _ _ _ _ _ _=>rfl;have h_w15:=r_w15.b2 (ps:=["_law_hand_here","_law_floor_here"]) X Gg fun _ _ _ _ _ _ _ _=>rfl;have h_w16:=r_w16.b2 (ps:=["_law_told","_law_due"]) X Gg fun _ _ _ _ _ _ _ _=>rfl;have h_w17:=r_w17.b1 (ps:=["_law_e"]) X Gg fun _ _ _ _ _ _ _=>rfl;have h_w18:=r_w18.b3 (ps:=["_law_floor_here","_law_width","_law_start"]) X Gg fun _ _ _ _ _ _ _ _ _=>rfl;have h_law:=r_law.b1 (ps:=["_law_script"]) X Gg fun _ _ _ _ _ _ _=>rfl;have BJ:Kk K mg "NoFit" g_:=⟨Y4 X Gg g_NoFit,x_NoFit⟩;have ED:=Y4 X Gg g_Here;have Cr:=Y4 X Gg g_MowError;have EF:=Y4 X Gg g_Near;have CK:=Y4 X Gg g_NoBlock;have Cq:=Y4 X Gg g_NoBlocks;have CL:=Y4 X Gg g_NoField;have Dt:=Y4 X Gg g_NoText;have CO:=Y4 X Gg g_TooMany;refine xq r_law X Gg LG (fun _ _ _ _ _ _ _ _=>.of_eq rfl) fun base=>?_;have Me:=As (P:=l.prog) (w:=w) (base:=base) h_w0 T;have Mf:=Au (P:=l.prog) (w:=w) (base:=base) h_w1 T;have JA:=Aw (P:=l.prog) (w:=w) (base:=base) h_w2 T Mf;have Mg:=Ay (P:=l.prog) (w:=w) (base:=base) h_w3 T;have JB:=AA (P:=l.prog) (w:=w) (base:=base) h_w4 T Me Mg;have JC:=AC (P:=l.prog) (w:=w) (base:=base) h_w5 T JB JA BJ;have Mh:=AB (P:=l.prog) (w:=w) (base:=base) h_w5 T JB JA;have Mi:=AE (P:=l.prog) (w:=w) (base:=base) h_w6 T;have HQ:=AG (P:=l.prog) (w:=w) (base:=base) h_w7 T;have JD:=AI (P:=l.prog) (w:=w) (base:=base) h_w8 T HQ;have Mj:=AK (P:=l.prog) (w:=w) (base:=base) h_w9 T HQ JD;have JE:=AM (P:=l.prog) (w:=w) (base:=base) h_w10 T;have JF:=AO (P:=l.prog) (w:=w) (base:=base) h_w11 T JE;have JG:=AR (P:=l.prog) (w:=w) (base:=base) h_w12 T;have JH:=AT (P:=l.prog) (w:=w) (base:=base) h_w13 T JG;have GZ:=AV (P:=l.prog) (w:=w) (base:=base) h_w14 T JH;have JI:=AX (P:=l.prog) (w:=w) (base:=base) h_w15 T JD GZ;have JJ:BK l.prog w K mg base 7 "_law_same" gE GY ["_law_told","_law_due"] 2 (G.cV 6):=have ⟨_,U,b,m⟩:=h_w16;⟨_,U,b,m,AY U T b m 6⟩;have HR:=A3 (P:=l.prog) (w:=w) (base:=base) h_w17 T  BJ EK_NoFit ED EF CK Cq CL Dt CO KF_Here KF_Near KF_NoBlock KF_NoBlocks KF_NoField KF_NoText KF_TooMany V_ValueError;have JK:=A5 (P:=l.prog) (w:=w) (base:=base) h_w18 T Mh BJ JC HR Cr Q_MowError;exact A7 h_law T Mi Mj JI GZ HQ JF JJ JK
theorem walk{q:Program}{loose:List Str}{XP:(Str->Option Value)->Heap->Prop}{YP:World->Heap->Prop}{d:DefRec}{K:Params->PySem.W.Frag}(hn:l.most=some 63)(Iz:d.params.defaults=[])(hY:∀ (w:World) (h:Heap),YP w h->(K w.params).In h)(hK:∀ p,hU (K p)=true)(F:∀ (w:World) (mg:Str->Option Value) (fa:Addr) (h:Heap),(K w.params).In h->h.Ns mainGlobals mg->mg d.name=some (.ref fa)->
   ∃ fd:FuncData,(∀ (s:Shared) (u:Value),BindsTo s fd ⟨[u],[]⟩ [("_law_script",u)])/\∀ base:Heap,(K w.params).In base->base.Ns mainGlobals mg->B6 l.prog w (K w.params) mg base DL 8 fa fd ["_law_script"] (EK 1 G.iB)):
  PySem.W.WalkO q loose XP YP l.row.toRowW d [] (fun f vs=>PySem.call f vs):=
 L2.vx (n:=63) (k:=8) (x := "_law_script") (CX:=fun _=>DL) (sp:=fun w=>EK 1 G.iB) hn (by decide) Iz ⟨rfl,by decide,by decide,rfl⟩ hY F (fun w H a ns hl hO hS=>xl (hK w.params) H a ns hO hS (G.zY ns (WX hl (by decide)))) fun _ _ _ _ _ z=>z
end K07
def PySem.W.Fast.tw9448680155179020529:=0
def PySem.W.Fast.tw1691556151312394497:=0
def PySem.W.Fast.tw1646486375308650977:=0
def PySem.W.Fast.tw8139056301329137826:=0
def PySem.W.Fast.tw2561490503929405730:=0
def PySem.W.Fast.tw13989588304845796866:=0
def PySem.W.Fast.tw1547232939940496771:=0
def PySem.W.Fast.tw4636184029667774115:=0
def PySem.W.Fast.tw11658964185488270821:=0
def PySem.W.Fast.tw8624258597679832581:=0
def PySem.W.Fast.tw9733808266458523654:=0
def PySem.W.Fast.tw998397464014521638:=0
def PySem.W.Fast.tw12980277436271779718:=0
def PySem.W.Fast.tw7006443036449025511:=0
def PySem.W.Fast.tw652374959833975751:=0
def PySem.W.Fast.tw14862249929059148360:=0
def PySem.W.Fast.tw4560397704509417737:=0
def PySem.W.Fast.tw11235649123305119401:=0
def PySem.W.Fast.tw7284080519397761386:=0
def PySem.W.Fast.tw12555250183449897739:=0
def PySem.W.Fast.tw10884327354316012684:=0
def PySem.W.Fast.tw12701177162238758220:=0
def PySem.W.Fast.tw2575740255985541548:=0
def PySem.W.Fast.tw15283886776130787852:=0
def PySem.W.Fast.tw16213692745584508813:=0
def PySem.W.Fast.tw14060178665427101294:=0
def PySem.W.Fast.tw17333609266086169550:=0
def PySem.W.Fast.tw254946787022315538:=0
def PySem.W.Fast.tw3889322554298106002:=0
def PySem.W.Fast.tw15657022638870171954:=0
def PySem.W.Fast.tw16430576669162369363:=0
def PySem.W.Fast.tw13481695719365844180:=0
def PySem.W.Fast.tw12939844086557783126:=0
def PySem.W.Fast.tw8065295170558711126:=0
def PySem.W.Fast.tw10197111341213256919:=0
def PySem.W.Fast.tw12192060931539962231:=0
def PySem.W.Fast.tw6694580474761614424:=0
def PySem.W.Fast.tw16349109911017744632:=0
def PySem.W.Fast.tw12568533332192542456:=0
def PySem.W.Fast.tw14720889362599828248:=0
def PySem.W.Fast.tw14848725731904478105:=0
def PySem.W.Fast.tw2825658300868549978:=0
def PySem.W.Fast.tw17531794467854334011:=0
def PySem.W.Fast.tw7091418415672042043:=0
def PySem.W.Fast.tw16486117697069529051:=0
def PySem.W.Fast.tw17787202897355655420:=0
def PySem.W.Fast.tw17396342790671578716:=0
def PySem.W.Fast.tw7747377589132960157:=0
def PySem.W.Fast.tw9417544405444908893:=0
def PySem.W.Fast.tw3460689415356450653:=0
def PySem.W.Fast.tw6662557936963148638:=0
def PySem.W.Fast.tw11004451472677682239:=0
def PySem.W.Fast.tw16228821090240872735:=0
open PySem PySem.W PyProof.Rows
set_option maxRecDepth 100000 in
set_option maxHeartbeats 0 in
theorem PySem.Challenge.cw_mowfloor_k07_places_holds : PySem.Challenge.rw_mowfloor_k07_places.Holds := by
  w_on; o_law; k_head; (case hw => w_witness2)
  k_fill
  refine K07.walk (l := PySem.Challenge.rw_mowfloor_k07_places) rfl rfl (fun w h Y => PySem.W.kIn_of Y) ?hK ?F
  case hK => intro p; rfl
  case F =>
    intro w mg fa h KX G hmg
    refine' K07.all_mk KX G hmg ?r_w0 ?r_w1 ?r_w2 ?r_w3 ?r_w4 ?r_w5 ?r_w6 ?r_w7 ?r_w8 ?r_w9 ?r_w10 ?r_w11 ?r_w12 ?r_w13 ?r_w14 ?r_w15 ?r_w16 ?r_w17 ?r_w18 ?r_law ?g_NoFit ?x_NoFit ?g_Here ?g_MowError ?g_Near ?g_NoBlock ?g_NoBlocks ?g_NoField ?g_NoText ?g_TooMany ?Q_MowError ?EK_NoFit ?KF_Here ?KF_Near ?KF_NoBlock ?KF_NoBlocks ?KF_NoField ?KF_NoText ?KF_TooMany ?V_ValueError ?z_ValueError ?z_abs ?z_all ?z_any ?z_bool ?z_dict ?z_int ?z_isinstance ?z_len ?z_list ?z_max ?z_min ?z_range ?z_sorted ?z_str ?z_tuple ?z_zip
    case r_w0 | r_w1 | r_w2 | r_w3 | r_w4 | r_w5 | r_w6 | r_w7 | r_w8 | r_w9 | r_w10 | r_w11 | r_w12 | r_w13 | r_w14 | r_w15 | r_w16 | r_w17 | r_w18 | r_law => refine' L2.xp ?a ?l ?c ?k; (case a => k_is); (case l => k_is); (case c => k_is); (case k => k_is)
    case g_NoFit | g_Here | g_MowError | g_Near | g_NoBlock | g_NoBlocks | g_NoField | g_NoText | g_TooMany | z_ValueError | z_abs | z_all | z_any | z_bool | z_dict | z_int | z_isinstance | z_len | z_list | z_max | z_min | z_range | z_sorted | z_str | z_tuple | z_zip => k_is
    case x_NoFit => k_exc
    case Q_MowError => kts_exm
    case V_ValueError | KF_Here | KF_Near | KF_NoBlock | KF_NoBlocks | KF_NoField | KF_NoText | KF_TooMany => kit_is
    case EK_NoFit => refine' ⟨?_, ?_, ?_, ?_, ?_, ?_, ?_, ?_⟩ <;> k_is
