import PyProof.Rows.All
import Wide.All
import OpenK.AllK
import Wide.FinOn
import Lean
import PyProof.EqAt
import PyProof.EqKinds
import PyProof.TupleCall
import PyProof.IsiNone
import PyProof.NeKinds
import PyProof.MaxThree
import PyProof.Rows.SetFrom
import PyProof.WalksMore
import PyProof.CallStr
import PySem.Challenge.RW_mowfloor_k02_fields_of_anything
set_option maxHeartbeats 4000000
set_option Elab.async false
set_option linter.all false
set_option maxRecDepth 100000
open Bool (and_eq_true false_eq_true not_eq_true' or_eq_true)
open List (all_eq_true any_cons any_eq_true any_map any_toArray append_nil cons_append drop_drop drop_eq_getElem_cons drop_of_length_le drop_sublist drop_take drop_zero ext_getElem? filterMap_cons find?_cons foldl_cons forIn_cons getD_eq_getElem?_getD getElem?_append_left getElem?_append_right getElem?_drop getElem?_of_mem getElem?_set_ne getElem?_take getElem_drop getElem_mem getElem_take length_append length_cons length_drop length_map length_nil length_range length_set length_singleton length_take lookup_cons map_append map_cons map_drop map_id map_take mem_append mem_append_left mem_append_right mem_cons mem_cons_of_mem mem_cons_self mem_filterMap mem_iff_getElem mem_map mem_nil_iff mem_of_getElem? mem_of_mem_drop mem_of_mem_take mem_range mem_singleton nodup_append nodup_cons nodup_nil nodup_range not_mem_nil of_mem_zip pairwise_cons pairwise_iff_getElem pairwise_map pairwise_singleton perm_append_comm range range' set_comm set_set size_toArray take_append_drop take_length take_sublist take_take take_zero)
open Array (ext' forIn_toList getElem?_toList length_toList size_map toList_push)
open Nat (add_assoc add_comm beq le_add_right le_of_ble_eq_true le_of_lt le_of_lt_succ le_succ lt_irrefl lt_of_lt_of_le lt_or_ge lt_succ_self lt_trans min_eq_left mod_lt ne_of_gt ne_of_lt not_lt_zero succ_pos zero_le)
open Int (emod_lt_of_pos emod_nonneg toNat_natCast)
open Option (bind_eq_some_iff getD_none getD_some isSome_map map_eq_some_iff map_some)
namespace L2
open PySem PySem.Spec PyProof.Rows
variable{scope:Scope}{qual x:Str}{base h:Heap}{mg:Str->Option Value}{ps N:List Str}{op:CmpOp}{f:Value->Value->Sem Value}{fp ch:List Addr}{body:List Stmt}{j n k i t':Nat}{g:Int->Int->Int}{tg c e:Expr}{es:List Expr}{K:PySem.W.Frag}{pins:List (Addr×Obj)}{pos:Pos}{s s':Shared}{Q E:Value->Shared->Prop}{A:Around}{it b a:Addr}{d':Drawn}{g':Array GenState}{w:World}{P:Program}{u:Value}{us:List Value}
inductive Im where
 | j_ | bl (b:Bool) | int (i:Int) | str (x:Str) | tup (ds:List Im) | fn (a:Addr) | fl (ds:List Im) | fd
mutual
def Im.beq:Im->Im->Bool
 | .j_,.j_=>true
 | .bl a,.bl b=>a == b
 | .int i,.int j=>decide (i=j)
 | .str x,.str y=>decide (x=y)
 | .tup a,.tup b=>Im.Ez a b
 | .fn a,.fn b=>decide (a=b)
 | .fl a,.fl b=>Im.Ez a b
 | .fd,.fd=>true
 | _,_=>false
def Im.Ez:List Im->List Im->Bool
 | [],[]=>true
 | a::r,b::t=>Im.beq a b && Im.Ez r t
 | _,_=>false
end
mutual
theorem Im.beq_iff:∀ a b:Im,Im.beq a b=true↔a=b
 | .j_,b=>by cases b<;>simp[Im.beq]
 | .bl a,b=>by cases b<;>simp[Im.beq]
 | .int i,b=>by cases b<;>simp[Im.beq]
 | .str x,b=>by cases b<;>simp[Im.beq]
 | .tup x,b=>by
  cases b with
  | tup y=>rw[Im.beq,Im.DV x y];simp
  | _=>simp[Im.beq]
 | .fn a,b=>by cases b<;>simp[Im.beq]
 | .fl x,b=>by
  cases b with
  | fl y=>rw[Im.beq,Im.DV x y];simp
  | _=>simp[Im.beq]
 | .fd,b=>by cases b<;>simp[Im.beq]
theorem Im.DV:∀ a b:List Im,Im.Ez a b=true↔a=b
 | [],b=>by cases b<;>simp[Im.Ez]
 | x::r,b=>by
  cases b with
  | nil=>simp[Im.Ez]
  | cons y t=>rw[Im.Ez,and_eq_true,Im.beq_iff x y,Im.DV r t];simp
end
instance:DecidableEq Im:=fun a b=>decidable_of_iff (Im.beq a b=true) (Im.beq_iff a b)
mutual
def Dq(h:Heap):Im->Value->Prop
 | .j_,v=>v=.none
 | .bl b,v=>v=.bool b
 | .int i,v=>∃ t,v=.int i t
 | .str x,v=>∃ t,v=.str x t
 | .fn a,v=>v=.ref a
 | .fl _,v=>∃ a,v=.ref a
 | .fd,v=>∃ a,v=.ref a
 | .tup ds,v=>∃ a o items n,v=.ref a/\h.get? a=some o/\o.cls=.type "tuple" /\ o.data=.seq items n/\aG h ds items.toList
def aG(h:Heap):List Im->List Value->Prop
 | [],vs=>vs=[]
 | d::ds,vs=>∃ v r,vs=v::r/\Dq h d v/\aG h ds r
end
mutual
def Im.key:Nat->Im->Bool
 | _,.int _=>true
 | _,.str _=>true
 | n+1,.tup ds=>Im.keys n ds
 | _,_=>false
def Im.keys:Nat->List Im->Bool
 | _,[]=>true
 | n,d::ds=>Im.key n d && Im.keys n ds
end
mutual
def C_(w:World):Im->Int
 | .int i=>hashInt i
 | .str x=>hashStr w x
 | .tup ds=>reduceHash (Builtin.Tuple.tupleHashOf<|cg w ds)
 | _=>0
def cg(w:World):List Im->List Int
 | []=>[]
 | d::ds=>C_ w d::cg w ds
end
mutual
def KG:Im->Nat
 | .tup ds=>cX ds+1
 | _=>1
def cX:List Im->Nat
 | []=>0
 | d::ds=>KG d+cX ds
end
theorem kn(w:World):∀ a b:List Im,cg w (a++b)=cg w a++cg w b
 | [],b=>rfl
 | d::a,b=>by rw[cons_append,cg,cg,kn w a b,cons_append]
theorem ko:∀ a b:List Im,cX (a++b)=cX a+cX b
 | [],b=>by simp[cX]
 | d::a,b=>by rw[cons_append,cX,cX,ko a b];lia
theorem ni{n:Nat}:∀ {a b:List Im},Im.keys n (a++b)=true->Im.keys n b=true
 | [],b,h=>h
 | d::a,b,h=>by rw[cons_append,Im.keys,and_eq_true] at h;exact ni h.2
theorem aG.length{h:Heap}:∀ {ds:List Im}{vs:List Value},aG h ds vs->ds.length=vs.length
 | [],vs,e=>by rw[show vs=[] from e];rfl
 | d::ds,vs,e=>by
  obtain⟨v,r,rfl,_,e⟩:=e;rw[length_cons,length_cons,aG.length e]
def iU(h h':Heap):Prop:=∀ a o items n,h.get? a=some o->o.cls=.type "tuple" -> o.data=.seq items n->h'.get? a=some o
mutual
theorem Dq.keep{h h':Heap}(k:iU h h'):∀ {d:Im}{v:Value},Dq h d v->Dq h' d v
 | .j_,_,e=>e
 | .bl _,_,e=>e
 | .int _,_,e=>e
 | .str _,_,e=>e
 | .fn _,_,e=>e
 | .fl _,_,e=>e
 | .fd,_,e=>e
 | .tup ds,_,e=>by
  obtain⟨a,o,items,n,rfl,h1,h2,h3,h4⟩:=e;exact⟨a,o,items,n,rfl,k a o items n h1 h2 h3,h2,h3,aG.keep k h4⟩
theorem aG.keep{h h':Heap}(k:iU h h'):∀ {ds:List Im}{vs:List Value},aG h ds vs->aG h' ds vs
 | [],_,e=>e
 | d::ds,_,e=>by
  obtain⟨v,r,rfl,h1,h2⟩:=e;exact⟨v,r,rfl,Dq.keep k h1,aG.keep k h2⟩
end
theorem nj{h:Heap}:∀ (n:Nat) {x y:Im}{v:Value},Im.key n x=true->Im.key n y=true->Dq h x v->Dq h y v->x=y
 | n,.int i,y,v,_,ky,hx,hy=>by
  obtain⟨t,rfl⟩:=hx;cases y with
  | int j=>obtain⟨u,e⟩:=hy;injection e with e;rw[e]
  | str z=>obtain⟨u,e⟩:=hy;cases e
  | tup ds=>obtain⟨_,_,_,_,e,_⟩:=hy;cases e
  | _=>cases n<;>cases ky
 | n,.str z,y,v,_,ky,hx,hy=>by
  obtain⟨t,rfl⟩:=hx;cases y with
  | int j=>obtain⟨u,e⟩:=hy;cases e
  | str z=>obtain⟨u,e⟩:=hy;injection e with e;rw[e]
  | tup ds=>obtain⟨_,_,_,_,e,_⟩:=hy;cases e
  | _=>cases n<;>cases ky
 | n+1,.tup ds,y,v,kx,ky,hx,hy=>by
  obtain⟨a,o,items,m,rfl,h1,h2,h3,h4⟩:=hx;cases y with
  | int j=>obtain⟨u,e⟩:=hy;cases e
  | str z=>obtain⟨u,e⟩:=hy;cases e
  | tup es=>
   obtain⟨a',o',w_,m',e,g1,g2,g3,g4⟩:=hy;cases e;rw[h1] at g1;cases g1;rw[h3] at g3;injection g3 with g3 _;subst g3;have all:∀ (ds es:List Im) (vs:List Value),Im.keys n ds=true->Im.keys n es=true->aG h ds vs->aG h es vs->ds=es:=by
    intro ds;induction ds with
    | nil=>
     intro es vs _ _ a b;cases es with
     | nil=>rfl
     | cons e es=>obtain⟨_,_,q,_⟩:=b;rw[show vs=[] from a] at q;cases q
    | cons d ds ih=>
     intro es vs k1 k2 a b;obtain⟨v,r,rfl,a1,a2⟩:=a;cases es with
     | nil=>cases (show v::r=[] from b)
     | cons e es=>
      obtain⟨v',r',q,b1,b2⟩:=b;cases q;rw[Im.keys,and_eq_true] at k1 k2;rw[nj n k1.1 k2.1 a1 b1,ih es r k1.2 k2.2 a2 b2]
   rw[all ds es _ kx ky h4 g4]
  | _=>cases ky
 | _,.j_,_,_,k,_,_,_=>by cases ‹Nat›<;>cases k
 | _,.bl _,_,_,k,_,_,_=>by cases ‹Nat›<;>cases k
 | _,.fn _,_,_,k,_,_,_=>by cases ‹Nat›<;>cases k
 | _,.fl _,_,_,k,_,_,_=>by cases ‹Nat›<;>cases k
 | _,.fd,_,_,k,_,_,_=>by cases ‹Nat›<;>cases k
 | 0,.tup _,_,_,k,_,_,_=>by cases k
section
variable{prog:Program}{w:World}
theorem nk:∀ (n:Nat) {A:Around}{E:Value->Shared->Prop}{s:Shared}{d:Im}{v:Value}{Q:Int->Shared->Prop},Im.key n d=true->A.units+n<cLine->Dq s.heap d v->Q (C_ w d) { s with toks:=s.toks+KG d }->
  wpAny (model prog w) A (pyHash v) Q E s
 | n,A,E,s,.int i,v,Q,_,_,hv,h=>by
  obtain⟨t,rfl⟩:=hv;exact wpAny_pyHash_int h
 | n,A,E,s,.str i,v,Q,_,_,hv,h=>by
  obtain⟨t,rfl⟩:=hv;exact wpAny_pyHash_str h
 | n+1,A,E,s,.tup ds,v,Q,k,hu,hv,h=>by
  obtain⟨a,o,items,m,rfl,ho,hc,hd,hi⟩:=hv;have hT:s.TypeIs (.ref a) "tuple" := ⟨o,ho,hc⟩;unfold pyHash;first | unfold pyHashByItsType | skip
  first | refine wpAny_bind (wpAny_cRoomFor_or (.inr (by lia)) ?_) | skip
  refine wpAny_bind (wpAny_specialOf hT F.slot_tuple_hash.lookup ?_);show wpAny _ _ (if (some (Value.builtin "tuple.__hash__") == some Value.none)=true then _ else _) Q E s;rw[if_neg (by rw[beq_builtin_none];exact Bool.false_ne_true)];refine wpAny_bind (wpAny_specialOf hT F.slot_tuple_hash.lookup ?_);show wpAny _ _ (callSpecialIfBoundUnlessNone? (.ref a) "__hash__" _ >>= _) Q E s;refine wpAny_bind (wpAny_callSpecialIfBoundUnlessNone?_slot hT F.slot_tuple_hash<|wpAny_call_entry F.slot_tuple_hash hT F.entry_tuple_hash ?_<|F.args_tuple_hash_1 _);show wpAny _ _ (Builtin.Tuple.tupleItemsOf (.ref a) >>= _) _ _ s;refine wpAny_bind (wpAny_tupleItemsOf ho hd ?_);refine wpAny_bind ?_;rw[<- forIn_toList];refine wpAny_forIn_list _
   (fun rest (b:Array Int) s'=>∃ done left,ds=done++left/\aG s.heap left rest/\b.toList=cg w done/\s'={ s with toks:=s.toks+cX done })
   _ ?_ ?_ _ _ ⟨[],ds,rfl,hi,rfl,rfl⟩
  ·rintro x rest b s' ⟨done,left,rfl,hl,hb,rfl⟩;cases left with
   | nil=>cases (show x::rest=[] from hl)
   | cons d left=>
    obtain⟨v,r,e,h1,DW⟩:=hl;cases e;have k2:=ni (a:=done) (show Im.keys n (done++d::left)=true from k);rw[Im.keys,and_eq_true] at k2;refine wpAny_bind (nk n k2.1 (by show A.units+1+n<cLine;lia) h1 ?_);first
     | exact wpAny_pure ⟨done++[d],left,by simp,DW,by simp[hb,kn,cg],by simp[ko,cX,add_assoc]⟩
     | exact wpAny_bind (wpAny_pure (wpAny_pure ⟨done++[d],left,by simp,DW,by simp[hb,kn,cg],by simp[ko,cX,add_assoc]⟩))
  ·rintro b s' ⟨done,left,rfl,hl,hb,rfl⟩;cases left with
   | cons d left=>obtain⟨_,_,e,_⟩:=hl;cases e
   | nil=>
   rw[append_nil] at h;show wpAny _ _ (retInt<|Builtin.Tuple.tupleHashOf b.toList) _ _ _;rw[hb];refine wpAny_ret_mkInt ?_;show wpAny _ _ (if (decide (-(2:Int) ^ 63<=Builtin.Tuple.tupleHashOf (cg w done)) && decide (Builtin.Tuple.tupleHashOf (cg w done)<2 ^ 63))=true then _ else _) Q E _;rw[C_,KG] at h;unfold reduceHash at h;by_cases hr:(decide (-(2:Int) ^ 63<=Builtin.Tuple.tupleHashOf (cg w done)) && decide (Builtin.Tuple.tupleHashOf (cg w done)<2 ^ 63))=true
   ·rw[if_pos hr];rw[if_pos hr] at h;exact wpAny_pure (by simpa [add_assoc] using h)
   ·rw[if_neg hr];rw[if_neg hr] at h;exact wpAny_bind (wpAny_rule (wpAny_pure (by simpa [add_assoc] using h)))
 | _,_,_,_,.j_,_,_,k,_,_,_=>by cases ‹Nat›<;>cases k
 | _,_,_,_,.bl _,_,_,k,_,_,_=>by cases ‹Nat›<;>cases k
 | _,_,_,_,.fn _,_,_,k,_,_,_=>by cases ‹Nat›<;>cases k
 | _,_,_,_,.fl _,_,_,k,_,_,_=>by cases ‹Nat›<;>cases k
 | _,_,_,_,.fd,_,_,k,_,_,_=>by cases ‹Nat›<;>cases k
 | 0,_,_,_,.tup _,_,_,k,_,_,_=>by cases k
mutual
def av:Im->Im->Bool
 | .j_,.j_=>true
 | .bl a,.bl b=>a == b
 | .bl a,.int j=>(if a then 1 else 0) == j
 | .int i,.bl b=>i == (if b then 1 else 0)
 | .int i,.int j=>i == j
 | .str x,.str y=>x == y
 | .tup a,.tup b=>bj a b
 | _,_=>false
def bj:List Im->List Im->Bool
 | [],[]=>true
 | a::r,b::t=>av a b && bj r t
 | _,_=>false
end
mutual
def Im.pl:Nat->Im->Bool
 | _,.j_=>true
 | _,.bl _=>true
 | _,.int _=>true
 | _,.str _=>true
 | n+1,.tup ds=>Im.pls n ds
 | _,_=>false
def Im.pls:Nat->List Im->Bool
 | _,[]=>true
 | n,d::ds=>Im.pl n d && Im.pls n ds
end
theorem cY{n:Nat}:∀ {ds:List Im}{j:Nat}{d:Im},Im.pls n ds=true->ds[j]?=some d->Im.pl n d=true
 | [],j,d,_,h=>by simp at h
 | e::ds,0,d,k,h=>by
  rw[Im.pls,and_eq_true] at k;simp at h;subst h;exact k.1
 | e::ds,j+1,d,k,h=>by
  rw[Im.pls,and_eq_true] at k;exact cY k.2 (by simpa using h)
theorem aG.get{h:Heap}:∀ {ds:List Im}{vs:List Value}{j:Nat}{v:Value},aG h ds vs->vs[j]?=some v->∃ d,ds[j]?=some d/\Dq h d v
 | [],vs,j,v,a,e=>by rw[show vs=[] from a] at e;simp at e
 | d::ds,vs,0,v,a,e=>by
  obtain⟨u,r,rfl,a1,a2⟩:=a;simp at e;subst e;exact⟨d,rfl,a1⟩
 | d::ds,vs,j+1,v,a,e=>by
  obtain⟨u,r,rfl,a1,a2⟩:=a;obtain⟨d',h1,h2⟩:=aG.get (j:=j) a2 (by simpa using e);exact⟨d',by simpa using h1,h2⟩
theorem nn{h:Heap}:∀ (n:Nat) {x y:Im}{v:Value},Im.pl n x=true->Im.pl n y=true->Dq h x v->Dq h y v->av x y=true
 | n,.j_,y,v,_,ky,hx,hy=>by
  cases (show v=.none from hx);cases y with
  | j_=>rfl
  | bl b=>cases hy
  | int j=>obtain⟨u,e⟩:=hy;cases e
  | str z=>obtain⟨u,e⟩:=hy;cases e
  | tup ds=>obtain⟨_,_,_,_,e,_⟩:=hy;cases e
  | fn a=>cases n<;>cases ky
  | fl a=>cases n<;>cases ky
  | fd=>cases n<;>cases ky
 | n,.bl b,y,v,_,ky,hx,hy=>by
  cases (show v=.bool b from hx);cases y with
  | j_=>cases hy
  | bl c=>cases hy;simp[av]
  | int j=>obtain⟨u,e⟩:=hy;cases e
  | str z=>obtain⟨u,e⟩:=hy;cases e
  | tup ds=>obtain⟨_,_,_,_,e,_⟩:=hy;cases e
  | fn a=>cases n<;>cases ky
  | fl a=>cases n<;>cases ky
  | fd=>cases n<;>cases ky
 | n,.int i,y,v,_,ky,hx,hy=>by
  obtain⟨t,rfl⟩:=hx;cases y with
  | j_=>cases hy
  | bl c=>cases hy
  | int j=>obtain⟨u,e⟩:=hy;cases e;simp[av]
  | str z=>obtain⟨u,e⟩:=hy;cases e
  | tup ds=>obtain⟨_,_,_,_,e,_⟩:=hy;cases e
  | fn a=>cases n<;>cases ky
  | fl a=>cases n<;>cases ky
  | fd=>cases n<;>cases ky
 | n,.str i,y,v,_,ky,hx,hy=>by
  obtain⟨t,rfl⟩:=hx;cases y with
  | j_=>cases hy
  | bl c=>cases hy
  | int j=>obtain⟨u,e⟩:=hy;cases e
  | str z=>obtain⟨u,e⟩:=hy;cases e;simp[av]
  | tup ds=>obtain⟨_,_,_,_,e,_⟩:=hy;cases e
  | fn a=>cases n<;>cases ky
  | fl a=>cases n<;>cases ky
  | fd=>cases n<;>cases ky
 | n+1,.tup ds,y,v,kx,ky,hx,hy=>by
  obtain⟨a,o,items,m,rfl,h1,h2,h3,h4⟩:=hx;cases y with
  | j_=>cases hy
  | bl c=>cases hy
  | int j=>obtain⟨u,e⟩:=hy;cases e
  | str z=>obtain⟨u,e⟩:=hy;cases e
  | fn a=>cases ky
  | fl a=>cases ky
  | fd=>cases ky
  | tup es=>
   obtain⟨a',o',w_,m',e,g1,g2,g3,g4⟩:=hy;cases e;rw[h1] at g1;cases g1;rw[h3] at g3;injection g3 with g3 _;subst g3;have all:∀ (ds es:List Im) (vs:List Value),Im.pls n ds=true->Im.pls n es=true->aG h ds vs->aG h es vs->bj ds es=true:=by
    intro ds;induction ds with
    | nil=>
     intro es vs _ _ a b;cases es with
     | nil=>rfl
     | cons e es=>obtain⟨_,_,q,_⟩:=b;rw[show vs=[] from a] at q;cases q
    | cons d ds ih=>
     intro es vs k1 k2 a b;obtain⟨v,r,rfl,a1,a2⟩:=a;cases es with
     | nil=>cases (show v::r=[] from b)
     | cons e es=>
      obtain⟨v',r',q,b1,b2⟩:=b;cases q;rw[Im.pls,and_eq_true] at k1 k2;rw[bj,nn n k1.1 k2.1 a1 b1,ih es r k1.2 k2.2 a2 b2];rfl
   rw[av];exact all ds es _ kx ky h4 g4
 | n,.fn _,_,_,k,_,_,_=>by cases n<;>cases k
 | n,.fl _,_,_,k,_,_,_=>by cases n<;>cases k
 | n,.fd,_,_,k,_,_,_=>by cases n<;>cases k
 | 0,.tup _,_,_,k,_,_,_=>by cases k
theorem gH{e:Nat->Bool}:∀ {ds es:List Im},(∀ (j:Nat) (x y:Im),ds[j]?=some x->es[j]?=some y->e j=av x y)->((range<|min ds.length es.length).all e && ds.length == es.length)=bj ds es:=by
 have key:∀ (ds es:List Im) (f:Nat->Bool),(∀ (j:Nat) (x y:Im),ds[j]?=some x->es[j]?=some y->f j=av x y)->((range<|min ds.length es.length).all f && ds.length == es.length)=bj ds es:=by
  intro ds;induction ds with
  | nil=>intro es f _;cases es<;>simp[bj]
  | cons d ds ih=>
   intro es f h;cases es with
   | nil=>simp[bj]
   | cons c es=>
    have:=ih es (fun j=>f<|j+1) fun j x y a b=>h (j+1) x y (by simpa using a) (by simpa using b);rw[bj,<- this,<- h 0 d c rfl rfl];rw[length_cons,length_cons,show min (ds.length+1) (es.length+1)=min ds.length es.length+1 by lia,List.range_succ_eq_map,List.all_cons,List.all_map,Bool.and_assoc];congr 2;rw[Bool.eq_iff_iff];simp
 exact fun {ds es} h=>key ds es e h
theorem cN{s:Shared}:∀ (n:Nat) {A:Around}{x y:Im}{u v:Value},Im.pl n x=true->Im.pl n y=true->A.units+n+1<cLine->Dq s.heap x u->Dq s.heap y v->SeqAt.EqAt A s u v (av x y)
 | n,A,.j_,y,u,v,_,ky,hu,hx,hy=>by
  cases (show u=.none from hx);cases y with
  | j_=>cases (show v=.none from hy);exact SeqAt.EqAt.same _
  | bl b=>cases (show v=.bool b from hy);exact SeqAt.EqAt.none_bool b
  | int j=>obtain⟨t,rfl⟩:=hy;exact SeqAt.EqAt.none_int j t
  | str z=>obtain⟨t,rfl⟩:=hy;exact SeqAt.EqAt.none_str z t
  | tup ds=>obtain⟨a,o,items,m,rfl,h1,h2,h3,_⟩:=hy;exact SeqAt.EqAt.none_tuple ⟨o,h1,h2,m,h3⟩ (by lia)
  | fn a=>cases n<;>cases ky
  | fl a=>cases n<;>cases ky
  | fd=>cases n<;>cases ky
 | n,A,.bl b,y,u,v,_,ky,hu,hx,hy=>by
  cases (show u=.bool b from hx);cases y with
  | j_=>cases (show v=.none from hy);exact SeqAt.EqAt.bool_none b
  | bl c=>cases (show v=.bool c from hy);exact SeqAt.EqAt.bool_bool b c
  | int j=>obtain⟨t,rfl⟩:=hy;exact SeqAt.EqAt.bool_int b j t
  | str z=>obtain⟨t,rfl⟩:=hy;exact SeqAt.EqAt.bool_str b z t
  | tup ds=>obtain⟨a,o,items,m,rfl,h1,h2,h3,_⟩:=hy;exact SeqAt.EqAt.bool_tuple b ⟨o,h1,h2,m,h3⟩ (by lia)
  | fn a=>cases n<;>cases ky
  | fl a=>cases n<;>cases ky
  | fd=>cases n<;>cases ky
 | n,A,.int i,y,u,v,_,ky,hu,hx,hy=>by
  obtain⟨t0,rfl⟩:=hx;cases y with
  | j_=>cases (show v=.none from hy);exact SeqAt.EqAt.int_none i t0
  | bl c=>cases (show v=.bool c from hy);exact SeqAt.EqAt.int_bool i t0 c
  | int j=>obtain⟨t,rfl⟩:=hy;exact SeqAt.EqAt.int_int i t0 j t
  | str z=>obtain⟨t,rfl⟩:=hy;exact SeqAt.EqAt.int_str i t0 z t
  | tup ds=>obtain⟨a,o,items,m,rfl,h1,h2,h3,_⟩:=hy;exact SeqAt.EqAt.int_tuple i t0 ⟨o,h1,h2,m,h3⟩ (by lia)
  | fn a=>cases n<;>cases ky
  | fl a=>cases n<;>cases ky
  | fd=>cases n<;>cases ky
 | n,A,.str i,y,u,v,_,ky,hu,hx,hy=>by
  obtain⟨t0,rfl⟩:=hx;cases y with
  | j_=>cases (show v=.none from hy);exact SeqAt.EqAt.str_none i t0
  | bl c=>cases (show v=.bool c from hy);exact SeqAt.EqAt.str_bool i t0 c
  | int j=>obtain⟨t,rfl⟩:=hy;exact SeqAt.EqAt.str_int i t0 j t
  | str z=>obtain⟨t,rfl⟩:=hy;exact SeqAt.EqAt.str_str i t0 z t
  | tup ds=>obtain⟨a,o,items,m,rfl,h1,h2,h3,_⟩:=hy;exact SeqAt.EqAt.str_tuple i t0 ⟨o,h1,h2,m,h3⟩ (by lia)
  | fn a=>cases n<;>cases ky
  | fl a=>cases n<;>cases ky
  | fd=>cases n<;>cases ky
 | n+1,A,.tup ds,y,u,v,kx,ky,hu,hx,hy=>by
  have FM:=hx;obtain⟨a,o,items,m,rfl,h1,h2,h3,h4⟩:=hx;have ta:s.heap.IsTuple a items:=⟨o,h1,h2,m,h3⟩;cases y with
  | j_=>cases (show v=.none from hy);exact SeqAt.EqAt.tuple_none ta (by lia)
  | bl c=>cases (show v=.bool c from hy);exact SeqAt.EqAt.tuple_bool c ta (by lia)
  | int j=>obtain⟨t,rfl⟩:=hy;exact SeqAt.EqAt.tuple_int j t ta (by lia)
  | str z=>obtain⟨t,rfl⟩:=hy;exact SeqAt.EqAt.tuple_str z t ta (by lia)
  | fn a=>cases ky
  | fl a=>cases ky
  | fd=>cases ky
  | tup es=>
   have Lm:=hy;obtain⟨b,o',w_,m',rfl,g1,g2,g3,g4⟩:=hy;by_cases e:a=b
   ·subst e;rw[nn (n+1) kx ky FM Lm];exact SeqAt.EqAt.same _
   ·have tb:s.heap.IsTuple b w_:=⟨o',g1,g2,m',g3⟩;have l1:=h4.length;have l2:=g4.length;have l3:items.toList.length=items.size:=by simp
    have l4:w_.toList.length=w_.size:=by simp
    rw[l3] at l1;rw[l4] at l2;have q:=SeqAt.EqAt.of_refs (A:=A) e (SeqAt.RcAt.tuples (e:=fun j=>av (ds.getD j .j_)<|es.getD j .j_) ta tb (by lia) fun j j1 j2=>by
     obtain⟨d1,e1,r1⟩:=h4.get (j:=j) (v:=items[j]) (by rw[getElem?_toList];simp[j1]);obtain⟨d2,e2,r2⟩:=g4.get (j:=j) (v:=w_[j]) (by rw[getElem?_toList];simp[j2]);rw[getD_eq_getElem?_getD,e1,getD_eq_getElem?_getD,e2];exact cN n (cY kx e1) (cY ky e2) (by show A.units+1+n+1<cLine;lia) r1 r2)
    rw[<- l1,<- l2,gH (ds:=ds) (es:=es) (fun j x y a b=>by rw[getD_eq_getElem?_getD,a,getD_eq_getElem?_getD,b];rfl)] at q;rw[av];exact q
 | n,A,.fn _,_,_,_,k,_,_,_,_=>by cases n<;>cases k
 | n,A,.fl _,_,_,_,k,_,_,_,_=>by cases n<;>cases k
 | n,A,.fd,_,_,_,k,_,_,_,_=>by cases n<;>cases k
 | 0,A,.tup _,_,_,_,k,_,_,_,_=>by cases k
mutual
theorem ku:∀ {n:Nat}{d:Im},Im.key n d=true->Im.pl n d=true
 | n,.int _,_=>by cases n<;>rfl
 | n,.str _,_=>by cases n<;>rfl
 | n+1,.tup ds,h=>by rw[Im.key] at h;rw[Im.pl];exact no h
 | 0,.tup _,h=>by cases h
 | n,.j_,h=>by cases n<;>cases h
 | n,.bl _,h=>by cases n<;>cases h
 | n,.fn _,h=>by cases n<;>cases h
 | n,.fl _,h=>by cases n<;>cases h
 | n,.fd,h=>by cases n<;>cases h
theorem no:∀ {n:Nat}{ds:List Im},Im.keys n ds=true->Im.pls n ds=true
 | n,[],_=>by rw[Im.pls]
 | n,d::ds,h=>by rw[Im.keys,and_eq_true] at h;rw[Im.pls,ku h.1,no h.2];rfl
end
mutual
theorem np:∀ {n:Nat}{x y:Im},Im.key n x=true->Im.key n y=true->av x y=decide (x=y)
 | n,.int i,y,_,hy=>by
  cases y with
  | int j=>rw[av];by_cases e:i=j<;>simp[e]
  | str z=>simp[av]
  | tup z=>simp[av]
  | _=>cases n<;>cases hy
 | n,.str i,y,_,hy=>by
  cases y with
  | int j=>simp[av]
  | str z=>rw[av];by_cases e:i=z<;>simp[e]
  | tup z=>simp[av]
  | _=>cases n<;>cases hy
 | n+1,.tup ds,y,hx,hy=>by
  cases y with
  | int j=>simp[av]
  | str z=>simp[av]
  | tup es=>
   rw[Im.key] at hx hy;rw[av,kw hx hy];simp
  | _=>cases hy
 | 0,.tup _,_,h,_=>by cases h
 | n,.j_,_,h,_=>by cases n<;>cases h
 | n,.bl _,_,h,_=>by cases n<;>cases h
 | n,.fn _,_,h,_=>by cases n<;>cases h
 | n,.fl _,_,h,_=>by cases n<;>cases h
 | n,.fd,_,h,_=>by cases n<;>cases h
theorem kw:∀ {n:Nat}{x y:List Im},Im.keys n x=true->Im.keys n y=true->bj x y=decide (x=y)
 | n,[],y,_,_=>by cases y<;>simp[bj]
 | n,d::ds,[],_,_=>by simp[bj]
 | n,d::ds,e::es,hx,hy=>by
  rw[Im.keys,and_eq_true] at hx hy;rw[bj,np hx.1 hy.1,kw hx.2 hy.2];by_cases h1:d=e<;>by_cases h2:ds=es<;>simp[h1,h2]
end
theorem iV:∀ (n:Nat) {A:Around}{E:Value->Shared->Prop}{s:Shared}{d:Im}{v:Value}{Q:Bool->Shared->Prop},Im.key n d=true->Dq s.heap d v->Q true s->wpAny (model prog w) A (eqIsQuiet n v) Q E s
 | n,A,E,s,.int i,v,Q,_,hv,h=>by
  obtain⟨t,rfl⟩:=hv;rw[eqIsQuiet_byValue n rfl];exact wpAny_pure h
 | n,A,E,s,.str i,v,Q,_,hv,h=>by
  obtain⟨t,rfl⟩:=hv;rw[eqIsQuiet_byValue n rfl];exact wpAny_pure h
 | n+1,A,E,s,.tup ds,v,Q,k,hv,h=>by
  obtain⟨a,o,items,m,rfl,ho,hc,hd,hi⟩:=hv;have hT:s.TypeIs (.ref a) "tuple" := ⟨o,ho,hc⟩;unfold eqIsQuiet;refine wpAny_bind (wpAny_specialOf hT F.slot_tuple_eq.lookup ?_);show wpAny _ _ (isInstance (.ref a) (.type "tuple") >>= _) _ _ s;refine wpAny_bind (wpAny_isInstance hT isSubtype_tuple_tuple ?_);simp only[Bool.not_true,false_eq_true,if_false];refine wpAny_bind (wpAny_seqItems ho hd ?_);refine wpAny_bind ?_;show wpAny _ _ (forIn items _ _) _ _ s;rw[<- forIn_toList];rw[Im.key] at k;refine wpAny_forIn_list _ (fun rest r s'=>r.1=none/\s'=s/\∃ left,Im.keys n left=true/\aG s.heap left rest) _ ?_ ?_ _ _ ⟨rfl,rfl,ds,k,hi⟩
  ·rintro v rest r s' ⟨hr,rfl,left,hk,hl⟩;cases left with
   | nil=>cases (show v::rest=[] from hl)
   | cons d left=>
    obtain⟨v',r',e,h1,DW⟩:=hl;cases e;rw[Im.keys,and_eq_true] at hk;refine wpAny_bind (iV n hk.1 h1 ?_);simp only[Bool.not_true,false_eq_true,if_false];exact wpAny_pure ⟨rfl,rfl,left,hk.2,DW⟩
  ·rintro⟨r1,r2⟩ s' ⟨hr,rfl,_⟩;simp only at hr;subst hr;exact wpAny_pure h
 | _,_,_,_,.j_,_,_,k,_,_=>by cases ‹Nat›<;>cases k
 | _,_,_,_,.bl _,_,_,k,_,_=>by cases ‹Nat›<;>cases k
 | _,_,_,_,.fn _,_,_,k,_,_=>by cases ‹Nat›<;>cases k
 | _,_,_,_,.fl _,_,_,k,_,_=>by cases ‹Nat›<;>cases k
 | _,_,_,_,.fd,_,_,k,_,_=>by cases ‹Nat›<;>cases k
 | 0,_,_,_,.tup _,_,_,k,_,_=>by cases k
def bh(prog:Program)(w:World):HeapKind prog w (List Im) where
 is:=fun h ds a=>Im.keys 7 ds=true/\Dq h (.tup ds) (.ref a)
 hash:=fun ds=>C_ w (.tup ds)
 draws:=fun ds=>KG (.tup ds)
 room:=fun A=>A.units+10<cLine
 inj:=fun hx hy=>by
  have:=nj 8 (x:=.tup _) (y:=.tup _) hx.1 hy.1 hx.2 hy.2;injection this
 keeps:=fun {h h' k a d o es ep} x ho hd hs=>⟨x.1,x.2.keep fun b u items n hb hc HL=>by
  have Jn:b≠d:=by
   rintro rfl;rw[ho] at hb;cases hb;rw[hd] at HL;cases HL
  exact (hs.2 b Jn).trans hb⟩
 pyHash:=fun hu hk h=>nk 8 (d:=.tup _) hk.1 (show _ < _ by have:_+10<cLine:=hu;lia) hk.2 h
 eqBool:=fun {A E s x y a b Q} hu hx hy h=>by
  have q:=cN (s:=s) 8 (A:=A) (x:=.tup x) (y:=.tup y) (ku (n:=8) (d:=.tup x) hx.1) (ku (n:=8) (d:=.tup y) hy.1) (show _ < _ by have:A.units+10<cLine:=hu;lia) hx.2 hy.2;rw[np (n:=8) (x:=.tup x) (y:=.tup y) hx.1 hy.1] at q;exact q _ _ E Q (by simpa using h)
 quiet:=fun hk h=>iV 8 (d:=.tup _) hk.1 hk.2 h
end
abbrev Key:=Sum Int Str
def fL:Key->Value->Bool
 | .inl k,v=>Value.isInt k v
 | .inr x,v=>Value.isStrOf x v
def tz(w:World):Key->Int
 | .inl k=>hashInt k
 | .inr x=>hashStr w x
theorem dC:∀ {k:Key}{v:Value},fL k v=true->(∃ i t,k=Sum.inl i/\v=Value.int i t)\/(∃ x t,k=Sum.inr x/\v=Value.str x t)
 | .inl i,v,h=>by
  obtain⟨t,e⟩:=Value.isInt_shape (k:=i) (v:=v) h;exact .inl ⟨i,t,rfl,e⟩
 | .inr x,v,h=>by
  obtain⟨t,e⟩:=Value.isStrOf_shape (x:=x) (v:=v) h;exact .inr ⟨x,t,rfl,e⟩
theorem tB(i:Int)(t:Tok):fL (.inl i) (.int i t)=true:=by simp[fL,Value.isInt]
theorem tD(x:Str)(t:Tok):fL (.inr x) (.str x t)=true:=by simp[fL,Value.isStrOf]
theorem tE(a b:Int):decide ((Sum.inl a:Key)=Sum.inl b)=(a == b):=by
 by_cases e:a=b
 ·subst e;simp
 ·have h:¬ (Sum.inl a:Key)=Sum.inl b:=fun q=>e (Sum.inl.inj q);rw[decide_eq_false h];exact (beq_eq_false_iff_ne.mpr e).symm
theorem tF(a b:Str):decide ((Sum.inr a:Key)=Sum.inr b)=decide (a=b):=by
 by_cases e:a=b
 ·subst e;simp
 ·have h:¬ (Sum.inr a:Key)=Sum.inr b:=fun q=>e (Sum.inr.inj q);rw[decide_eq_false h,decide_eq_false e]
theorem tH(a:Int)(b:Str):decide ((Sum.inl a:Key)=Sum.inr b)=false:=decide_eq_false (fun q=>nomatch q)
theorem tJ(a:Str)(b:Int):decide ((Sum.inr a:Key)=Sum.inl b)=false:=decide_eq_false (fun q=>nomatch q)
def dW(prog:Program)(w:World):PySem.KeyKind prog w Key where
 is:=fL
 hash:=tz w
 inj:=fun v a b ha hb=>by
  rcases dC ha with ⟨i,t,rfl,rfl⟩ | ⟨x,t,rfl,rfl⟩
  ·rcases dC hb with ⟨j,u,rfl,e⟩ | ⟨y,u,rfl,e⟩
   ·injection e with e1 _;rw[e1]
   ·exact nomatch e
  ·rcases dC hb with ⟨j,u,rfl,e⟩ | ⟨y,u,rfl,e⟩
   ·exact nomatch e
   ·injection e with e1 _;rw[e1]
 byValue:=fun k v h=>by
  rcases dC h with ⟨i,t,rfl,rfl⟩ | ⟨x,t,rfl,rfl⟩<;>rfl
 pyHash:=fun hv h=>by
  rcases dC hv with ⟨i,t,rfl,rfl⟩ | ⟨x,t,rfl,rfl⟩
  ·exact wpAny_pyHash_int h
  ·exact wpAny_pyHash_str h
 eqBool:=fun hu hv h=>by
  rcases dC hu with ⟨i,t,rfl,rfl⟩ | ⟨x,t,rfl,rfl⟩
  ·rcases dC hv with ⟨j,u,rfl,rfl⟩ | ⟨y,u,rfl,rfl⟩
   ·rw[tE] at h;exact wpAny_eqBool_int h
   ·rw[tH] at h;exact SeqAt.EqAt.int_str i t y u _ _ _ _ h
  ·rcases dC hv with ⟨j,u,rfl,rfl⟩ | ⟨y,u,rfl,rfl⟩
   ·rw[tJ] at h;exact SeqAt.EqAt.str_int x t j u _ _ _ _ h
   ·rw[tF] at h;exact wpAny_eqBool_str h
 «strs»:=fun k x t v h=>by
  rcases dC h with ⟨i,u,rfl,e⟩ | ⟨y,u,rfl,e⟩
  ·exact nomatch e
  ·injection e with e1 _;subst e1;cases v<;>rfl
theorem tK(prog:Program)(w:World)(i:Int)(t:Tok):(dW prog w).is (.inl i) (.int i t)=true:=tB i t
theorem tL(prog:Program)(w:World)(x:Str)(t:Tok):(dW prog w).is (.inr x) (.str x t)=true:=tD x t
inductive V where
 | j_ | bl (b:Bool) | int (i:Int) | str (x:Str) | Jo (b:Array UInt8) | Ln (b:UInt64) | ref (a:Addr) | ty (n:String)
 deriving DecidableEq
variable{vs xs:List V}{y v:V}
def aq:V->Value->Prop
 | .j_,u=>u=Value.none
 | .bl b,u=>u=Value.bool b
 | .int i,u=>∃ t,u=Value.int i t
 | .str x,u=>∃ t,u=Value.str x t
 | .Jo b,u=>∃ t,u=Value.bytes b t
 | .Ln b,u=>∃ t,u=Value.float b t
 | .ref a,u=>u=Value.ref a
 | .ty n,u=>u=Value.type n
abbrev ak:List V->List Value->Prop:=Paired aq
theorem ak.length(r:ak xs us):xs.length=us.length:=Paired.length r
theorem ak.get:∀ {xs:List V}{us:List Value}{i:Nat}{x:V},ak xs us->xs[i]?=some x->∃ u,us[i]?=some u/\aq x u
 | _,_,_,_,.nil,e=>by simp at e
 | _,_,0,_,.cons r _,e=>by simp at e;subst e;exact⟨_,rfl,r⟩
 | _,_,i+1,x,.cons _ t,e=>by
  obtain⟨u,h1,h2⟩:=ak.get (i:=i) (x:=x) t (by simpa using e);exact⟨u,by simpa using h1,h2⟩
theorem ak.set{x:V}{u:Value}(r:aq x u):∀ {xs:List V}{us:List Value} (i:Nat),ak xs us->ak (xs.set i x) (us.set i u)
 | _,_,_,.nil=>.nil
 | _,_,0,.cons _ t=>.cons r t
 | _,_,i+1,.cons q t=>.cons q (ak.set r i t)
theorem ak.append:∀ {xs ys:List V}{us ws:List Value},ak xs us->ak ys ws->ak (xs++ys) (us++ws)
 | _,_,_,_,.nil,s=>s
 | _,_,_,_,.cons r t,s=>.cons r (ak.append t s)
theorem ak.take:∀ {xs:List V}{us:List Value} (n:Nat),ak xs us->ak (xs.take n) (us.take n)
 | _,_,0,_=>.nil
 | _,_,_+1,.nil=>.nil
 | _,_,n+1,.cons r t=>.cons r (ak.take n t)
theorem ak.drop:∀ {xs:List V}{us:List Value} (n:Nat),ak xs us->ak (xs.drop n) (us.drop n)
 | _,_,0,r=>r
 | _,_,_+1,.nil=>.nil
 | _,_,n+1,.cons _ t=>ak.drop n t
def dg:Option V->Option Value->Prop
 | some v,some u=>aq v u
 | none,none=>True
 | _,_=>False
def KV{κ:Type}:List (κ×V)->List (κ×Value)->Prop:=Paired fun (p:κ×V) (q:κ×Value)=>p.1=q.1/\aq p.2 q.2
def kV:Key->V
 | .inl i=>.int i
 | .inr x=>.str x
inductive HO where
 | lst (xs:List V)
 | tup (xs:List V)
 | dK (kvs:List (Key×V)) | dT (kvs:List (List Im×V))
 | set (S:Int->Bool) (n:Nat)
 | ins (C dx:Addr) (fs:List (Str×V))
 | own (x:Addr)
 | xd (fs:List (Str×V))
 | met (f x:Addr)
 | Lo (lo hi:Int)
 | Da (o:Obj) (u:HO)
 | HM (ps:Array Value)
 | ext (φ:Heap->Prop)
variable{o:HO}
abbrev Hp:=Addr->Option HO
variable{H' H:Hp}
def upd(H:Hp)(a:Addr)(o:HO):Hp:=fun b=>if b=a then some o else H b
theorem aW:upd H a o a=some o:=by unfold upd;rw[if_pos rfl]
theorem aw(h:b≠a):upd H a o b=H b:=by unfold upd;rw[if_neg h]
theorem nq{u:HO}(h:H a=some o)(h':H b=some u)(d:o≠u):a≠b:=by
 intro e;subst e;rw[h] at h';exact d (Option.some.inj h')
theorem bS(h:H a=some o)(h':H b=none):a≠b:=by
 intro e;subst e;rw[h] at h';cases h'
mutual
def CL(H:Hp):Im->V->Prop
 | .j_,v=>v=.j_
 | .bl b,v=>v=.bl b
 | .int i,v=>v=.int i
 | .str x,v=>v=.str x
 | .fn a,v=>v=.ref a
 | .fl ds,v=>∃ a xs o,v=.ref a/\H a=some (.Da o<|.lst xs)/\aj H ds xs
 | .fd,v=>∃ a o,v=.ref a/\H a=some (.Da o<|.dT [])
 | .tup ds,v=>∃ a xs,v=.ref a/\H a=some (.tup xs)/\aj H ds xs
def aj(H:Hp):List Im->List V->Prop
 | [],vs=>vs=[]
 | d::ds,vs=>∃ v r,vs=v::r/\CL H d v/\aj H ds r
end
def gI(H H':Hp):Prop:=∀ a xs,H a=some (.tup xs)->H' a=some (.tup xs)
structure Fq(H H':Hp):Prop where
 t:gI H H'
 z:∀ a o u,H a=some (.Da o u)->H' a=some (.Da o u)
instance {H H':Hp}:CoeFun (Fq H H') (fun _=>∀ a xs,H a=some (.tup xs)->H' a=some (.tup xs)):=⟨fun t=>t.t⟩
mutual
theorem CL.mono{H H':Hp}(k:Fq H H'):∀ {d:Im}{v:V},CL H d v->CL H' d v
 | .j_,_,e=>e
 | .bl _,_,e=>e
 | .int _,_,e=>e
 | .str _,_,e=>e
 | .fn _,_,e=>e
 | .tup ds,_,e=>by
  obtain⟨a,xs,rfl,h1,h2⟩:=e;exact⟨a,xs,rfl,k.t a xs h1,aj.mono k h2⟩
 | .fl ds,_,e=>by
  obtain⟨a,xs,o,rfl,h1,h2⟩:=e;exact⟨a,xs,o,rfl,k.z a _ _ h1,aj.mono k h2⟩
 | .fd,_,e=>by
  obtain⟨a,o,rfl,h1⟩:=e;exact⟨a,o,rfl,k.z a _ _ h1⟩
theorem aj.mono{H H':Hp}(k:Fq H H'):∀ {ds:List Im}{vs:List V},aj H ds vs->aj H' ds vs
 | [],_,e=>e
 | d::ds,_,e=>by
  obtain⟨v,r,rfl,h1,h2⟩:=e;exact⟨v,r,rfl,CL.mono k h1,aj.mono k h2⟩
end
def Fr(H:Hp)(k:List Im)(b:Addr):Prop:=Im.keys 7 k=true/\CL H (.tup k) (.ref b)
mutual
theorem CL.EL{H H':Hp}(k:gI H H'):∀ {d:Im}{n:Nat}{v:V},Im.key n d=true->CL H d v->CL H' d v
 | .j_,_,_,_,e=>e
 | .bl _,_,_,_,e=>e
 | .int _,_,_,_,e=>e
 | .str _,_,_,_,e=>e
 | .fn _,_,_,_,e=>e
 | .tup ds,n+1,_,q,e=>by
  obtain⟨a,xs,rfl,h1,h2⟩:=e;exact⟨a,xs,rfl,k a xs h1,aj.EL k q h2⟩
 | .tup ds,0,_,q,e=>nomatch q
 | .fl ds,0,_,q,e=>nomatch q
 | .fl ds,n+1,_,q,e=>nomatch q
 | .fd,0,_,q,e=>nomatch q
 | .fd,n+1,_,q,e=>nomatch q
theorem aj.EL{H H':Hp}(k:gI H H'):∀ {ds:List Im}{n:Nat}{vs:List V},Im.keys n ds=true->aj H ds vs->aj H' ds vs
 | [],_,_,_,e=>e
 | d::ds,n,_,q,e=>by
  obtain⟨v,r,rfl,h1,h2⟩:=e;rw[Im.keys,and_eq_true] at q;exact⟨v,r,rfl,CL.EL k q.1 h1,aj.EL k q.2 h2⟩
end
theorem Fr.mono{k:List Im}(h:Fr H k b)(t:gI H H'):Fr H' k b:=by
 obtain⟨h0,a,xs,e,h1,h2⟩:=h;exact⟨h0,a,xs,e,t a xs h1,h2.EL t h0⟩
section
variable(P:Program)(w:World)
def a0(H:Hp)(h:Heap)(a:Addr):HO->Prop
 | .lst xs=>xs.length<=sizeLine/\∃ (f_:List Value) (n:Nat),ak xs f_/\h.get? a=some { cls:=.type "list",data:=.seq f_.toArray n }
 | .tup xs=>xs.length<=sizeLine/\∃ f_:List Value,ak xs f_/\IsTup h a f_.toArray
 | .dK kvs=>kvs.length<=sizeLine/\(a == sysModules)=false/\∃ vs,KV kvs vs/\h.DictOf (dW P w) a vs
 | .dT kvs=>kvs.length<=sizeLine/\(a == sysModules)=false/\∃ xs:List (List Im×Addr×Value),
   Paired (fun (p:List Im×V) (q:List Im×Addr×Value)=>p.1=q.1/\Fr H p.1 q.2.1/\aq p.2 q.2.2) kvs xs/\
   ∃ o es ep,h.get? a=some o/\o.ExactDict/\o.data=.dict es ep/\es.toList=xs.map (entryOfKey<|bh P w)/\(xs.map (·.1)).Nodup
 | .set S n=>h.SetOf (intKind P w) a S n
 | .ins C dx fs=>H dx=some (.own a)/\fs.length<=1000/\dx≠a/\h.get? a=some (PySem.W.instObj C dx)/\
   ∃ mA,h.Ns1 dx mA/\(∀ f,dg (fs.lookup f)<|mA f)/\PySem.Within mA (fs.map (·.1))
 | .own _=>∃ o,h.get? a=some o
 | .xd fs=>∃ mA,h.Ns1 a mA/\∀ f,dg (fs.lookup f) (mA f)
 | .Lo lo hi=>∃ t u v,h.get? a=some { cls:=.type "range",data:=.fields #[.int lo t,.int hi u,.int 1 v] }
 | .Da o u=>h.get? a=some o/\a0 H h a u
 | .HM ps=>h.get? a=some { cls:=.none,data:=.fields ps }
 | .met f x=>h.get? a=some (PySem.W.methodObj (.ref f)<|.ref x)
 | .ext φ=>φ h/\(∃ o,h.get? a=some o)/\∀ h1 h2:Heap,φ h1->(∀ o,h1.get? a=some o->h2.get? a=some o)->φ h2
def Dt(H:Hp)(h:Heap):Prop:=∀ a o,H a=some o->a0 P w H h a o
end
section
variable{P:Program}{w:World}{H H':Hp}{h h':Heap}{a:Addr}{o:HO}
theorem a0.lt(x:a0 P w H h a o):a<h.objs.size:=by
 cases o with
 | lst xs=>obtain⟨_,_,_,_,e⟩:=x;exact Heap.lt_size e
 | tup xs=>obtain⟨_,_,_,p⟩:=x;exact p.lt
 | dK kvs=>obtain⟨_,_,_,_,o,_,_,e,_⟩:=x;exact Heap.lt_size e
 | dT kvs=>obtain⟨_,_,_,_,o,_,_,e,_⟩:=x;exact Heap.lt_size e
 | set S n=>obtain⟨o,_,_,_,e,_⟩:=x;exact Heap.lt_size e
 | ins C dx fs=>obtain⟨_,_,_,e,_⟩:=x;exact Heap.lt_size e
 | own y=>obtain⟨_,e⟩:=x;exact Heap.lt_size e
 | xd fs=>obtain⟨_,⟨_,_,_,e,_⟩,_⟩:=x;exact Heap.lt_size e
 | Lo lo hi=>obtain⟨_,_,_,e⟩:=x;exact Heap.lt_size e
 | Da ob u=>obtain⟨e,_⟩:=x;exact Heap.lt_size e
 | HM ps=>exact Heap.lt_size (show h.get? a=some _ from x)
 | met f y=>exact Heap.lt_size (show h.get? a=some _ from x)
 | ext φ=>obtain⟨_,⟨_,e⟩,_⟩:=x;exact Heap.lt_size e
theorem Paired.GL{α β:Type}{F G:α->β->Prop}:∀ {l₁:List α}{l₂:List β},Paired F l₁ l₂->(∀ a b,F a b->G a b)->Paired G l₁ l₂
 | _,_,.nil,_=>.nil
 | _,_,.cons r t,f=>.cons (f _ _ r) (Paired.GL t f)
theorem a0.Dc(x:a0 P w H h a o)(k:∀ b u,(b=a\/H b=some (.own a))->h.get? b=some u->h'.get? b=some u)(ho:∀ b,H b=some (.own a)->H' b=some (.own a))(ht:∀ b xs,H b=some (.tup xs)->H' b=some (.tup xs)):a0 P w H' h' a o:=by
 induction o with
 | lst xs=>obtain⟨z,f_,n,r,e⟩:=x;exact⟨z,f_,n,r,k _ _ (.inl rfl) e⟩
 | tup xs=>obtain⟨z,f_,r,ob,e,c⟩:=x;exact⟨z,f_,r,ob,k _ _ (.inl rfl) e,c⟩
 | dK kvs=>obtain⟨z,y,vs,r,ob,es,ep,e,c⟩:=x;exact⟨z,y,vs,r,ob,es,ep,k _ _ (.inl rfl) e,c⟩
 | dT kvs=>
  obtain⟨z,y,xs,r,ob,es,ep,e,c⟩:=x;exact⟨z,y,xs,Paired.GL r fun p q z=>⟨z.1,z.2.1.mono ht,z.2.2⟩,ob,es,ep,k _ _ (.inl rfl) e,c⟩
 | set S n=>obtain⟨ob,es,ep,t,e,c⟩:=x;exact⟨ob,es,ep,t,k _ _ (.inl rfl) e,c⟩
 | ins C dx fs=>
  obtain⟨d,z,ne,e,mA,⟨od,es,ep,e2,c⟩,r⟩:=x;exact⟨ho _ d,z,ne,k _ _ (.inl rfl) e,mA,⟨od,es,ep,k _ _ (.inr d) e2,c⟩,r⟩
 | own y=>obtain⟨ob,e⟩:=x;exact⟨ob,k _ _ (.inl rfl) e⟩
 | xd fs=>obtain⟨mA,⟨od,es,ep,e,c⟩,r⟩:=x;exact⟨mA,⟨od,es,ep,k _ _ (.inl rfl) e,c⟩,r⟩
 | Lo lo hi=>obtain⟨t,u,v,e⟩:=x;exact⟨t,u,v,k _ _ (.inl rfl) e⟩
 | Da ob u ih=>obtain⟨e,q⟩:=x;exact⟨k _ _ (.inl rfl) e,ih q⟩
 | HM ps=>
  have e:h.get? a=some { cls:=.none,data:=.fields ps }:=x;show h'.get? a=some { cls:=.none,data:=.fields ps };exact k a _ (.inl rfl) e
 | met f y=>
  have e:h.get? a=some (PySem.W.methodObj (.ref f)<|.ref y):=x;show h'.get? a=some (PySem.W.methodObj (.ref f)<|.ref y);exact k a _ (.inl rfl) e
 | ext φ=>obtain⟨p,⟨o,e⟩,st⟩:=x;exact⟨st _ _ p fun o q=>k _ _ (.inl rfl) q,⟨o,k _ _ (.inl rfl) e⟩,st⟩
theorem Dt.lt(x:Dt P w H h)(e:H a=some o):a<h.objs.size:=(x a o e).lt
theorem Dt.fresh(x:Dt P w H h)(e:h.objs.size<=a):H a=none:=by
 cases q:H a with
 | none=>rfl
 | some u=>exact absurd (lt_of_lt_of_le (x.lt q) e) (lt_irrefl _)
theorem Dt.kept(x:Dt P w H h)(k:∀ b u,h.get? b=some u->h'.get? b=some u):Dt P w H h':=fun a o e=>
 (x a o e).Dc (fun b u _ q=>k b u q) (fun _ q=>q) fun _ _ q=>q
theorem Dt.laid(x:Dt P w H h)(k:∀ b u,h.get? b=some u->h'.get? b=some u)(hp:h.objs.size<=a)(new:a0 P w (upd H a o) h' a o):Dt P w (upd H a o) h':=fun b u e=>by
 have hn:=x.fresh hp;by_cases hb:b=a
 ·subst hb;rw[aW] at e;cases e;exact new
 ·rw[aw hb] at e;exact (x b u e).Dc (fun c v _ q=>k c v q) (fun c q=>by rw[aw (bS q hn)];exact q) fun c xs q=>by rw[aw (bS q hn)];exact q
end
def Rd(H:Hp)(a:Addr)(u:HO):Prop:=H a=some u\/∃ o,H a=some (.Da o u)
theorem Rd.ok{u:HO}(r:Rd H a u)(x:Dt P w H h):a0 P w H h a u:=by
 rcases r with r | ⟨o,r⟩
 ·exact x a u r
 ·obtain⟨_,q⟩:=x a _ r;exact q
def Jp:Option HO->Prop
 | some (.lst _)=>True
 | some (.dK _)=>True
 | some (.dT _)=>True
 | some (.set _ _)=>True
 | some (.ins _ _ _)=>True
 | some (.ext _)=>True
 | _=>False
section
variable{P:Program}{w:World}{H:Hp}{h h':Heap}{x e:Addr}{o':HO}
theorem Dt.write(ok:Dt P w H h)(mu:Jp (H x))(he:e=x\/H e=some (.own x))(k:∀ b u,b≠e->h.get? b=some u->h'.get? b=some u)(IM:∃ u,h'.get? e=some u)(new:a0 P w (upd H x o') h' x o'):Dt P w (upd H x o') h':=fun b u q=>by
 have Jq:∀ c y,H c=some (.own y)->c≠x:=fun c y r z=>by subst z;rw[r] at mu;exact mu
 have Lp:∀ c xs,H c=some (.tup xs)->c≠x:=fun c xs r z=>by subst z;rw[r] at mu;exact mu
 by_cases hb:b=x
 ·subst hb;rw[aW] at q;cases q;exact new
 ·rw[aw hb] at q;by_cases HN:b=e
  ·have q':H b=some (.own x):=by
    rcases he with z | z
    ·exact absurd (HN.trans z) hb
    ·rw[HN];exact z
   rw[q] at q';cases q';obtain⟨v,hv⟩:=IM;exact⟨v,by rw[HN];exact hv⟩
  ·refine (ok b u q).Dc (fun c v hc r=>k c v ?_ r) (fun c r=>by rw[aw (Jq c b r)];exact r) fun c xs r=>by rw[aw (Lp c xs r)];exact r
   rcases hc with rfl | hc
   ·exact HN
   ·rintro rfl;rcases he with z | z
    ·exact Jq c b hc z
    ·rw[hc] at z;cases z;exact hb rfl
end
structure Un(fs ex:List Addr)(H H':Hp)(h h':Heap):Prop where
 keep:∀ b o,h.get? b=some o->H b=none->b∉fs->b∉ex->h'.get? b=some o
 slot:∀ b o,h.get? b=some o->H b=none->b∈fs->b∉ex->∃ sl,h'.get? b=some { o with slots:=sl }
 free:∀ b o,h.get? b=some o->H b=none->b∉ex->H' b=none
 there:∀ b o,h.get? b=some o->b∉ex->∃ o',h'.get? b=some o'
 Em:∀ b xs,H b=some (.tup xs)->H' b=some (.tup xs)
 DX:∀ b o u,H b=some (.Da o u)->H' b=some (.Da o u)
 EA:∀ b ps,H b=some (.HM ps)->∃ more,H' b=some (.HM<|ps++more)
section
variable{fs Oa ex Qj:List Addr}{H H1 H2:Hp}{h h1 h2 h':Heap}{a x e:Addr}{o:HO}
theorem Un.any(u:Un fs ex H H1 h h1){b:Addr}{ob:Obj}(q:h.get? b=some ob)(n:H b=none)(hx:b∉ex):∃ sl,h1.get? b=some { ob with slots:=sl }:=by
 by_cases hb:b∈fs
 ·exact u.slot b ob q n hb hx
 ·exact⟨ob.slots,u.keep b ob q n hb hx⟩
theorem Un.kept(k:∀ b u,h.get? b=some u->h'.get? b=some u):Un fs ex H H h h':=
 ⟨fun b ob q _ _ _=>k b ob q,fun b ob q _ _ _=>⟨ob.slots,k b ob q⟩,fun _ _ _ n _=>n,fun b ob q _=>⟨ob,k b ob q⟩,fun _ _ q=>q,fun _ _ _ q=>q,fun _ ps q=>⟨#[],by rw[q];simp⟩⟩
theorem Un.refl:Un fs ex H H h h:=Un.kept fun _ _ q=>q
theorem Un.laid(k:∀ b u,h.get? b=some u->h'.get? b=some u)(hp:h.objs.size<=a)(hn:H a=none):Un fs ex H (upd H a o) h h' where
 keep:=fun b u q _ _ _=>k b u q
 slot:=fun b u q _ _ _=>⟨u.slots,k b u q⟩
 free:=fun b u q n _=>by rw[aw (ne_of_lt<|lt_of_lt_of_le (Heap.lt_size q) hp)];exact n
 there:=fun b u q _=>⟨u,k b u q⟩
 Em:=fun b xs q=>by rw[aw (bS q hn)];exact q
 DX:=fun b u xs q=>by rw[aw (bS q hn)];exact q
 EA:=fun b ps q=>⟨#[],by rw[aw (bS q hn),q];simp⟩
theorem Un.write(mu:Jp (H x))(he:e=x\/H e=some (.own x))(k:∀ b u,b≠e->h.get? b=some u->h'.get? b=some u)(IM:∃ u,h'.get? e=some u):Un fs ex H (upd H x o) h h':=by
 have hx:∀ b,H b=none->b≠x:=fun b n z=>by subst z;rw[n] at mu;exact mu
 have hb:∀ b,H b=none->b≠e:=fun b n z=>by
  subst z;rcases he with r | r
  ·exact hx b n r
  ·rw[n] at r;cases r
 have hm:∀ b u,H b=some u->¬ Jp (some u)->b≠x:=fun b u q nm z=>by subst z;rw[q] at mu;exact nm mu
 refine⟨fun b u q n _ _=>k b u (hb b n) q,fun b u q n _ _=>⟨u.slots,k b u (hb b n) q⟩,fun b u q n _=>by rw[aw (hx b n)];exact n,fun b u q _=>?_,
  fun b xs q=>by rw[aw (hm b _ q fun z=>z)];exact q,fun b u xs q=>by rw[aw (hm b _ q fun z=>z)];exact q,fun b ps q=>⟨#[],by rw[aw (hm b _ q fun z=>z),q];simp⟩⟩;by_cases HN:b=e
 ·subst HN;exact IM
 ·exact⟨u,k b u HN q⟩
end
def KH(h:Heap)(H:Hp):List Addr:=(range h.objs.size).filter fun a=>(H a).isSome
def dD(h:Heap)(H:Hp):Heap:=PySem.W.hideAll h (KH h H)
theorem tM(h:Heap)(H:Hp):(dD h H).objs.size=h.objs.size:=PySem.W.hideAll_size _ _
theorem tN{o:Obj}(e:h.get? b=some o)(n:H b=none):(dD h H).get? b=some o:=
 PySem.W.hideAll_get _ e fun hm=>by
  have q:(H b).isSome=true:=(List.mem_filter.mp hm).2;rw[n] at q;simp at q
theorem tQ{o:Obj}(e:(dD h H).get? b=some o):h.get? b=some o/\H b=none:=by
 have e':h.get? b=some o:=PySem.W.of_hideAll (KH h H) e;refine⟨e',?_⟩;cases q:H b with
 | none=>rfl
 | some x=>
  have hm:b∈KH h H:=List.mem_filter.mpr ⟨mem_range.mpr<|Heap.lt_size e',by simp[q]⟩;have z:(dD h H).get? b=none:=PySem.W.hideAll_none (KH h H) hm;rw[z] at e;cases e
def tR(g h:Heap)(L:Addr):List (Addr×Obj):=(range h.objs.size).filterMap fun a=>if a=L\/(g.get? a).isSome=true then none else (h.get? a).map fun o=>(a,o)
def rest(g h:Heap)(L d:Addr):List (Addr×Obj):=(tR g h L).filter fun p=>decide (p.1≠d)
structure Mod(K:PySem.W.Frag)(mg:Str->Option Value)(base:Heap):Prop where
 KI:K.In base
 glob:base.Ns mainGlobals mg
 blt:∃ mb,base.Ns builtinsNs mb/\∀ x:Str,x ≠ "__name__" -> mb x=bootBuiltins x
 nolimit:base.NoLimit
structure Cx where
 prog:Program
 w:World
 K:PySem.W.Frag
 mg:Str->Option Value
 base:Heap
 A:Around
 N:List Str
 s₀:Shared
 H₀:Hp
 env:Env
 outer:List Env
 stack:List Env
 ex:List Addr
 fn:Str->Bool
 calm:Bool
 pn:List (Addr×Obj)
 xe:Value->Shared->Prop
variable{X:Cx}
def Fd(l:List Env):List Addr:=l.filterMap (·.frame)
abbrev Cx.fs(X:Cx):List Addr:=Fd X.outer
def KJ(sc:Scope)(x:Str):Prop:=sc.names.lookup x=some .local\/sc.names.lookup x=some .cell\/sc.names.lookup x=some .free
def Loc(sc:Scope)(x:Str):Prop:=sc.names.lookup x=some .local\/sc.names.lookup x=some .cell
def tT(env:Env)(h:Heap)(m:Str->Option Value)(x:Str)(u:Value):Prop:=
 (env.kindOf x=some .local/\m x=some u)\/((env.kindOf x=some .cell\/env.kindOf x=some .free)/\∃ c,env.cells.lookup x=some c/\h.IsCell c (some u))
structure Cx.Ok(X:Cx):Prop where
 mod:Mod X.K X.mg X.base
 kind:X.env.scope.kind=.function
 glob:X.env.globals=mainGlobals
 blt:X.env.builtins=builtinsNs
 above:X.s₀.heap.objs.size<=X.env.locals
 inj:∀ x y c,X.env.cells.lookup x=some c->X.env.cells.lookup y=some c->x=y
 has:∀ x,(X.env.kindOf x=some .cell\/X.env.kindOf x=some .free)->∃ c,X.env.cells.lookup x=some c
 IN:∀ x c,X.fn x=true->X.env.cells.lookup x=some c->X.s₀.heap.objs.size<=c
 hd:X.calm=true->X.A.handled=none
 frames:X.A.frames=some X.stack
 Jr:X.stack=X.outer\/(X.stack=X.env::X.outer/\X.env.frame=some X.env.locals)
 Lq:∀ b∈X.ex,b≠X.env.locals/\∀ x c,X.env.cells.lookup x=some c->c≠b
 bs:∀ b o,X.base.get? b=some o->X.s₀.heap.get? b=some o/\X.H₀ b=none
 GN:X.base.objs.size<=X.s₀.heap.objs.size
 Fs:∀ b o,X.base.get? b=some o->b∉X.ex
 Ft:∀ b∈X.ex,b∉X.fs
 DF:X.s₀.heap.FunFrames X.base X.outer
 HP:∀ b∈X.fs,X.H₀ b=none
structure Inv(X:Cx)(pins:List (Addr×Obj))(σ:List (Option V))(H:Hp)(s:Shared):Prop where
 ok:X.Ok
 os:s.os=X.s₀.os
 bare:AllBare s.gens
 base:Un X.fs X.ex X.H₀ H X.s₀.heap s.heap
 loc:∃ m,s.heap.Ns X.env.locals m/\∀ (i:Nat) (x:Str) (v:V),X.N[i]?=some x->σ[i]?=some (some v)->KJ X.env.scope x->∃ u,aq v u/\tT X.env s.heap m x u
 cell:∀ x c,X.env.cells.lookup x=some c->∃ v,s.heap.IsCell c v
 free:H X.env.locals=none
 CU:∀ x c,X.env.cells.lookup x=some c->H c=none
 pin:∀ p∈X.pn++pins,s.heap.get? p.1=some p.2/\H p.1=none/\p.1≠X.env.locals/\p.1∉X.fs/\∀ v,p.2.data≠.cell v
 l_:Dt X.prog X.w H s.heap
 len:σ.length=X.N.length
section
variable{X:Cx}{pins:List (Addr×Obj)}{σ:List (Option V)}{H H':Hp}{s:Shared}{h':Heap}
theorem Cx.Ok.Lr(ok:X.Ok){b:Addr}{o:Obj}(e:X.base.get? b=some o):b∉X.fs:=fun hb=>by
 have:=(ok.DF.mem hb).1;rw[e] at this;cases this
theorem Inv.bs(I:Inv X pins σ H s):∀ b o,X.base.get? b=some o->s.heap.get? b=some o/\H b=none:=fun b o e=>
 ⟨I.base.keep b o (I.ok.bs b o e).1 (I.ok.bs b o e).2 (I.ok.Lr e) (I.ok.Fs b o e),I.base.free b o (I.ok.bs b o e).1 (I.ok.bs b o e).2 (I.ok.Fs b o e)⟩
theorem Inv.bk(I:Inv X pins σ H s):∀ b o,X.base.get? b=some o->s.heap.get? b=some o:=fun b o e=>(I.bs b o e).1
theorem Inv.mod(I:Inv X pins σ H s):Mod X.K X.mg X.base:=I.ok.mod
theorem Inv.HQ(I:Inv X pins σ H s):X.K.In s.heap:=I.ok.mod.KI.keeps I.bk
theorem Inv.lt(I:Inv X pins σ H s):X.env.locals<s.heap.objs.size:=let ⟨_,hn,_⟩:=I.loc;hn.lt
theorem Inv.sz(I:Inv X pins σ H s):X.s₀.heap.objs.size<=s.heap.objs.size:=Nat.le_trans I.ok.above (le_of_lt I.lt)
theorem Inv.Ls(I:Inv X pins σ H s){a:Addr}(h:s.heap.objs.size<=a):a∉X.fs:=fun hb=>by
 obtain⟨_,o,ho,_⟩:=I.ok.DF.mem hb;exact absurd (lt_of_lt_of_le (Heap.lt_size ho)<|Nat.le_trans I.sz h) (lt_irrefl _)
theorem Inv.HR(I:Inv X pins σ H s):∀ x c,X.env.cells.lookup x=some c->c≠X.env.locals:=fun x c e z=>by
 obtain⟨v,o,ho,hd⟩:=I.cell x c e;obtain⟨m,⟨o',es,ep,FU,HL,_⟩,_⟩:=I.loc;rw[z,FU] at ho;cases ho;rw[HL] at hd;cases hd
theorem Inv.DF(I:Inv X pins σ H s):s.heap.FunFrames X.base X.outer:=by
 have all:∀ (l:List Env),(∀ b∈Fd l,b∈X.fs)->X.s₀.heap.FunFrames X.base l->s.heap.FunFrames X.base l:=by
  intro l;induction l with
  | nil=>intro _ _;trivial
  | cons env r ih=>
   intro hs hl;obtain⟨hk,⟨L,o,hf,hn,ho,hd⟩,hr⟩:=hl;have hL:L∈X.fs:=hs L (by unfold Fd;rw[filterMap_cons,hf];exact mem_cons_self);obtain⟨sl,e⟩:=I.base.slot L o ho (I.ok.HP L hL) hL fun z=>I.ok.Ft L z hL;exact⟨hk,⟨L,_,hf,hn,e,hd⟩,ih (fun b hb=>hs b (by unfold Fd;rw[filterMap_cons,hf];exact mem_cons_of_mem _ hb)) hr⟩
 exact all X.outer (fun _ hb=>hb) I.ok.DF
theorem Inv.stack(I:Inv X pins σ H s):s.heap.FunFrames X.base X.stack:=by
 rcases I.ok.Jr with e | ⟨e,hf⟩
 ·rw[e];exact I.DF
 ·rw[e];obtain⟨m,hn,_⟩:=I.loc;refine .cons (by rw[I.ok.kind];decide) hf hn ?_ I.DF;exact Heap.get?_none_of_le (Nat.le_trans I.ok.GN I.ok.above)
theorem Inv.EV(I:Inv X pins σ H s):∀ b∈Fd X.stack,b∈X.env.locals::X.fs:=fun b hb=>by
 rcases I.ok.Jr with e | ⟨e,hf⟩
 ·rw[e] at hb;exact mem_cons_of_mem _ hb
 ·rw[e] at hb;unfold Fd at hb;rw[filterMap_cons,hf] at hb;exact hb
theorem Inv.Fe(I:Inv X pins σ H s):∀ b∈Fd X.stack,H b=none:=fun b hb=>by
 rcases mem_cons.mp (I.EV b hb) with e | hb
 ·rw[e];exact I.free
 ·obtain⟨_,o,ho,_⟩:=I.ok.DF.mem hb;exact I.base.free b o ho (I.ok.HP b hb) fun z=>I.ok.Ft b z hb
theorem Inv.step(I:Inv X pins σ H s)(DP:∀ b∈ch,(b∈X.ex\/X.s₀.heap.objs.size<=b)/\b≠X.env.locals/\(∀ x c,X.env.cells.lookup x=some c->c≠b)/\∀ p∈X.pn++pins,p.1≠b)(keep:∀ b o,b≠X.env.locals->b∉X.fs->b∉ch->s.heap.get? b=some o->H b=none->h'.get? b=some o)(slot:∀ b o,b≠X.env.locals->b∈X.fs->b∉ch->s.heap.get? b=some o->H b=none->∃ sl,h'.get? b=some { o with slots:=sl })(free:∀ b o,b∉ch->s.heap.get? b=some o->H b=none->H' b=none)(there:∀ b o,b∉ch->s.heap.get? b=some o->∃ o',h'.get? b=some o')(Em:∀ b xs,H b=some (.tup xs)->H' b=some (.tup xs))(DX:∀ b o u,H b=some (.Da o u)->H' b=some (.Da o u))(EA:∀ b ps,H b=some (.HM ps)->∃ more,H' b=some (.HM<|ps++more))(ns:∀ m,s.heap.Ns X.env.locals m->h'.Ns X.env.locals m)(l_:Dt X.prog X.w H' h')(hg:AllBare g'):
  Inv X pins σ H' { s with heap:=h',gens:=g',drawn:=d',toks:=t' }:=by
 have M7:∀ b o,X.s₀.heap.get? b=some o->b≠X.env.locals:=fun b o e=>ne_of_lt (lt_of_lt_of_le (Heap.lt_size e) I.ok.above);have KK:∀ b o,X.s₀.heap.get? b=some o->b∉X.ex->b∉ch:=fun b o e hx hb=>by
  rcases (DP b hb).1 with z | z
  ·exact hx z
  ·exact absurd (lt_of_lt_of_le (Heap.lt_size e) z) (lt_irrefl _)
 have cellK:∀ x c,X.env.cells.lookup x=some c->∀ v,s.heap.IsCell c v->h'.IsCell c v:=fun x c e v ⟨o,ho,hd⟩=>by
  have Js:c∉ch:=fun z=>(DP c z).2.2.1 x c e rfl;by_cases hc:c∈X.fs
  ·obtain⟨sl,q⟩:=slot c o (I.HR x c e) hc Js ho (I.CU x c e);exact⟨_,q,hd⟩
  ·exact⟨o,keep c o (I.HR x c e) hc Js ho<|I.CU x c e,hd⟩
 refine⟨I.ok,I.os,hg,⟨fun b o e n hb hx=>?_,fun b o e n hb hx=>?_,fun b o e n hx=>?_,fun b o e hx=>?_,fun b xs e=>Em b xs<|I.base.Em b xs e,fun b o xs e=>DX b o xs<|I.base.DX b o xs e,fun b ps e=>?_⟩,?_,fun x c e=>?_,?_,fun x c e=>?_,fun p hp=>?_,l_,I.len⟩
 ·exact keep b o (M7 b o e) hb (KK b o e hx) (I.base.keep b o e n hb hx) (I.base.free b o e n hx)
 ·obtain⟨sl,e1⟩:=I.base.slot b o e n hb hx;obtain⟨Lu,e2⟩:=slot b _ (M7 b o e) hb (KK b o e hx) e1 (I.base.free b o e n hx);exact⟨Lu,e2⟩
 ·obtain⟨o',e1⟩:=I.base.there b o e hx;exact free b o' (KK b o e hx) e1 (I.base.free b o e n hx)
 ·obtain⟨o',e1⟩:=I.base.there b o e hx;exact there b o' (KK b o e hx) e1
 ·obtain⟨m1,e1⟩:=I.base.EA b ps e;obtain⟨m2,e2⟩:=EA b _ e1;exact⟨m1++m2,by rw[e2,Array.append_assoc]⟩
 ·obtain⟨m,hn,hl⟩:=I.loc;refine⟨m,ns m hn,fun i x v e1 e2 e3=>?_⟩;obtain⟨u,r,l⟩:=hl i x v e1 e2 e3;refine⟨u,r,?_⟩;rcases l with l | ⟨k,c,e,z⟩
  ·exact .inl l
  ·exact .inr ⟨k,c,e,cellK x c e _ z⟩
 ·obtain⟨v,z⟩:=I.cell x c e;exact⟨v,cellK x c e v z⟩
 ·obtain⟨m,⟨o,_,_,ho,_⟩,_⟩:=I.loc;exact free _ o (fun z=>(DP _ z).2.1 rfl) ho I.free
 ·obtain⟨v,o,ho,hd⟩:=I.cell x c e;exact free c o (fun z=>(DP c z).2.2.1 x c e rfl) ho (I.CU x c e)
 ·obtain⟨e,n,ne,nf,d⟩:=I.pin p hp;have Js:p.1∉ch:=fun z=>(DP p.1 z).2.2.2 p hp rfl;exact⟨keep p.1 p.2 ne nf Js e n,free p.1 p.2 Js e n,ne,nf,d⟩
theorem Inv.un(I:Inv X pins σ H s)(u:Un X.fs [] H H' s.heap h')(l_:Dt X.prog X.w H' h'):Inv X pins σ H' { s with heap:=h',toks:=t' }:=by
 obtain⟨m,⟨o,es,ep,ho,r⟩,_⟩:=id I.loc;obtain⟨sl,hL⟩:=u.any ho I.free (by simp);exact I.step (g':=s.gens) (d':=s.drawn) (ch:=[]) (fun _ z=>nomatch z) (fun b o _ hb _ e n=>u.keep b o e n hb (by simp)) (fun b o _ hb _ e n=>u.slot b o e n hb (by simp)) (fun b o _ e n=>u.free b o e n (by simp)) (fun b o _ e=>u.there b o e (by simp)) u.Em u.DX u.EA (fun m' hm=>by
  obtain⟨o',es',Lv,FU,r'⟩:=hm;rw[ho] at FU;cases FU;exact⟨_,es',Lv,hL,r'⟩) l_ I.bare
theorem Inv.call(I:Inv X pins σ H s)(u:Un (Fd X.stack) ch H H' s.heap h')(l_:Dt X.prog X.w H' h')(hg:AllBare g')(DP:∀ b∈ch,(b∈X.ex\/X.s₀.heap.objs.size<=b)/\b≠X.env.locals/\(∀ x c,X.env.cells.lookup x=some c->c≠b)/\∀ p∈X.pn++pins,p.1≠b):
  Inv X pins σ H' { s with heap:=h',gens:=g',drawn:=d',toks:=t' }:=by
 obtain⟨m,⟨o,es,ep,ho,r⟩,_⟩:=id I.loc;obtain⟨sl,hL⟩:=u.any ho I.free fun z=>(DP _ z).2.1 rfl;exact I.step (ch:=ch) DP (fun b o hL hb hc e n=>u.keep b o e n (fun z=>(mem_cons.mp<|I.EV b z).elim hL hb) hc) (fun b o _ _ hc e n=>u.any e n hc) (fun b o hc e n=>u.free b o e n hc) (fun b o hc e=>u.there b o e hc) u.Em u.DX u.EA (fun m' hm=>by
  obtain⟨o',es',Lv,FU,r'⟩:=hm;rw[ho] at FU;cases FU;exact⟨_,es',Lv,hL,r'⟩) l_ hg
theorem Inv.turned(I:Inv X pins σ H s)(k:∀ b o,b≠it->s.heap.get? b=some o->h'.get? b=some o)(hn:H it=none)(hL:it≠X.env.locals)(h1:it∈X.ex\/X.s₀.heap.objs.size<=it)(h2:∀ x c,X.env.cells.lookup x=some c->c≠it)(h3:∀ p∈X.pn++pins,p.1≠it):Inv X pins σ H { s with heap:=h',toks:=t' }:=by
 have M8:∀ b u,H b=some u->b≠it:=fun b u e z=>by rw[z,hn] at e;cases e
 refine I.step (g':=s.gens) (d':=s.drawn) (ch:=[it]) (fun b hb=>?_) (fun b o _ _ hc e _=>k b o (fun z=>hc (by simp[z])) e) (fun b o _ _ hc e _=>⟨o.slots,k b o (fun z=>hc (by simp[z])) e⟩) (fun _ _ _ _ n=>n)
  (fun b o hc e=>⟨o,k b o (fun z=>hc (by simp[z])) e⟩) (fun _ _ e=>e) (fun _ _ _ e=>e) (fun b ps e=>⟨#[],by rw[e];simp⟩) (fun m hm=>?_) (fun b u e=>?_) I.bare
 ·have e:b=it:=by simpa using hb
  subst e;exact⟨h1,hL,h2,h3⟩
 ·obtain⟨o,es,ep,ho,r⟩:=hm;exact⟨o,es,ep,k _ o (Ne.symm hL) ho,r⟩
 ·refine (I.l_ b u e).Dc (fun c v hc q=>k c v ?_ q) (fun _ q=>q) fun _ _ q=>q;rcases hc with z | z
  ·rw[z];exact M8 b u e
  ·exact M8 c _ z
theorem Inv.tok(I:Inv X pins σ H s)(t:Nat):Inv X pins σ H { s with toks:=t }:=I.un (h':=s.heap) (t':=t) Un.refl I.l_
theorem Inv.kept(I:Inv X pins σ H s)(k:∀ b u,s.heap.get? b=some u->h'.get? b=some u):Inv X pins σ H { s with heap:=h',toks:=t' }:=I.un (Un.kept k) (I.l_.kept k)
theorem Inv.laid(I:Inv X pins σ H s)(k:∀ b u,s.heap.get? b=some u->h'.get? b=some u)(hp:s.heap.objs.size<=a)(new:a0 X.prog X.w (upd H a o) h' a o):
  Inv X pins σ (upd H a o) { s with heap:=h',toks:=t' }:=I.un (Un.laid k hp<|I.l_.fresh hp) (I.l_.laid k hp new)
theorem Inv.write{x e:Addr}(I:Inv X pins σ H s)(mu:Jp (H x))(he:e=x\/H e=some (.own x))(k:∀ b u,b≠e->s.heap.get? b=some u->h'.get? b=some u)(IM:∃ u,h'.get? e=some u)(new:a0 X.prog X.w (upd H x o) h' x o):Inv X pins σ (upd H x o) { s with heap:=h',toks:=t' }:=I.un (Un.write mu he k IM) (I.l_.write mu he k IM new)
theorem Inv.weak{σ':List (Option V)}(I:Inv X pins σ H s)(hl:σ'.length=σ.length)(w:∀ (i:Nat) v,σ'[i]?=some (some v)->σ[i]?=some (some v)):Inv X pins σ' H s:=
 ⟨I.ok,I.os,I.bare,I.base,let ⟨m,hn,DW⟩:=I.loc;⟨m,hn,fun i x v e1 e2 e3=>DW i x v e1 (w i v e2) e3⟩,I.cell,I.free,I.CU,I.pin,I.l_,hl.trans I.len⟩
theorem Inv.Dm{Et:List (Addr×Obj)}(I:Inv X pins σ H s)(h:∀ p∈Et,s.heap.get? p.1=some p.2/\H p.1=none/\p.1≠X.env.locals/\p.1∉X.fs/\∀ v,p.2.data≠.cell v):Inv X Et σ H s:=
 ⟨I.ok,I.os,I.bare,I.base,I.loc,I.cell,I.free,I.CU,fun p hp=>(mem_append.mp hp).elim (fun z=>I.pin p<|mem_append_left _ z)<|h p,I.l_,I.len⟩
theorem nr(hN:N.Nodup){i j:Nat}{x:Str}(a:N[i]?=some x)(b:N[j]?=some x):i=j:=by
 obtain⟨h1,e1⟩:=List.getElem?_eq_some_iff.mp a;obtain⟨h2,e2⟩:=List.getElem?_eq_some_iff.mp b;exact (List.getElem_inj hN).mp (e1.trans e2.symm)
variable{Q:Unit->Shared->Prop}
theorem nt{M:Model}(I:Inv X pins σ H s)(hN:X.N.Nodup)(hi:X.N[i]?=some x)(hx:Loc X.env.scope x)(r:aq v u)(h:∀ s',Inv X pins (σ.set i<|some v) H s'->(∃ a,Heap.SameBut a s.heap s'.heap/\(a=X.env.locals\/X.env.cells.lookup x=some a))->Q () s')(hf:X.fn x=true\/X.env.scope.names.lookup x=some .local:=by first | exact .inl rfl | exact .inr rfl | assumption):wpAny M A (storeName X.env x u) Q E s:=by
 obtain⟨m,hn,hl⟩:=id I.loc;have Lw:(X.env.scope.kind == .class || (X.env.scope.kind == .module && X.env.locals != X.env.globals))=false:=by rw[I.ok.kind];rfl
 have Jt:i < σ.length:=by rw[I.len];exact (List.getElem?_eq_some_iff.mp hi).1
 have HR:=I.HR;have tracked:∀ {a:Addr}{h':Heap},(∃ o,s.heap.get? a=some o/\H a=none)->Heap.SameBut a s.heap h'->Dt X.prog X.w H h':=fun {a h'} ha hs b ob e=>by
  obtain⟨_,_,EM⟩:=ha;refine (I.l_ b ob e).Dc (fun c w' hc q=>(hs.2 c ?_).trans q) (fun _ q=>q) fun _ _ q=>q;rintro rfl;rcases hc with rfl | hc
  ·rw[EM] at e;cases e
  ·rw[EM] at hc;cases hc
 rcases hx with hk | hk
 ·refine wpAny_storeName_local hk hn (fun h' Ju hs=>?_) Lw;obtain⟨oL,_,_,Ob,_⟩:=id hn;refine h _ ⟨I.ok,I.os,I.bare,⟨fun b o e n hb hx=>?_,fun b o e n hb hx=>?_,I.base.free,fun b o e hx=>?_,I.base.Em,I.base.DX,I.base.EA⟩,⟨_,Ju,fun j y v' e1 e2 e3=>?_⟩,fun y c e=>?_,I.free,I.CU,fun p hp=>?_,tracked ⟨oL,Ob,I.free⟩ hs,by simpa using I.len⟩ ⟨_,hs,.inl rfl⟩
  ·exact (hs.2 b<|ne_of_lt<|lt_of_lt_of_le (Heap.lt_size e) I.ok.above).trans (I.base.keep b o e n hb hx)
  ·obtain⟨sl,e1⟩:=I.base.slot b o e n hb hx;exact⟨sl,(hs.2 b<|ne_of_lt<|lt_of_lt_of_le (Heap.lt_size e) I.ok.above).trans e1⟩
  ·obtain⟨o',e1⟩:=I.base.there b o e hx;exact⟨o',(hs.2 b<|ne_of_lt<|lt_of_lt_of_le (Heap.lt_size e) I.ok.above).trans e1⟩
  ·by_cases hj:j=i
   ·subst hj;rw[hi] at e1;cases e1;rw[List.getElem?_set_self Jt] at e2;cases e2;exact⟨u,r,.inl ⟨hk,by simp⟩⟩
   ·rw[getElem?_set_ne (Ne.symm hj)] at e2;obtain⟨u',r',q⟩:=hl j y v' e1 e2 e3;refine⟨u',r',?_⟩;rcases q with ⟨k,e⟩ | ⟨k,c,e,z⟩
    ·refine .inl ⟨k,?_⟩;have:y≠x:=fun e=>hj (nr hN e1<|e ▸ hi);simp[this,e]
    ·exact .inr ⟨k,c,e,z.sameBut hs<|HR y c e⟩
  ·obtain⟨w',z⟩:=I.cell y c e;exact⟨w',z.sameBut hs<|HR y c e⟩
  ·obtain⟨e,n,ne,nf,d⟩:=I.pin p hp;exact⟨(hs.2 p.1 ne).trans e,n,ne,nf,d⟩
 ·have HS:X.fn x=true:=by
   rcases hf with z | z
   ·exact z
   ·rw[z] at hk;cases hk
  obtain⟨c,hc⟩:=I.ok.has x (.inl hk);obtain⟨w',z⟩:=I.cell x c hc;refine wpAny_storeName_cell I.ok.kind hk hc z (fun h' Jv hs=>?_);obtain⟨oc,M9,Lx⟩:=id z;refine h { s with heap:=h' } ⟨I.ok,I.os,I.bare,⟨fun b o e n hb hx=>?_,fun b o e n hb hx=>?_,I.base.free,fun b o e hx=>?_,I.base.Em,I.base.DX,I.base.EA⟩,⟨m,hn.sameBut hs<|Ne.symm<|HR x c hc,fun j y v' e1 e2 e3=>?_⟩,fun y c' e=>?_,I.free,I.CU,fun p hp=>?_,tracked ⟨oc,M9,I.CU x c hc⟩ hs,by simpa using I.len⟩ ⟨c,hs,.inr hc⟩
  ·exact (hs.2 b<|ne_of_lt<|lt_of_lt_of_le (Heap.lt_size e)<|I.ok.IN x c HS hc).trans (I.base.keep b o e n hb hx)
  ·obtain⟨sl,e1⟩:=I.base.slot b o e n hb hx;exact⟨sl,(hs.2 b<|ne_of_lt<|lt_of_lt_of_le (Heap.lt_size e)<|I.ok.IN x c HS hc).trans e1⟩
  ·obtain⟨o',e1⟩:=I.base.there b o e hx;exact⟨o',(hs.2 b<|ne_of_lt<|lt_of_lt_of_le (Heap.lt_size e)<|I.ok.IN x c HS hc).trans e1⟩
  ·by_cases hj:j=i
   ·subst hj;rw[hi] at e1;cases e1;rw[List.getElem?_set_self Jt] at e2;cases e2;exact⟨u,r,.inr ⟨.inl hk,c,hc,Jv⟩⟩
   ·rw[getElem?_set_ne (Ne.symm hj)] at e2;obtain⟨u',r',q⟩:=hl j y v' e1 e2 e3;refine⟨u',r',?_⟩;rcases q with q | ⟨k,c',e,z'⟩
    ·exact .inl q
    ·refine .inr ⟨k,c',e,z'.sameBut hs ?_⟩;rintro rfl;exact hj (nr hN e1<|I.ok.inj _ _ _ e hc ▸ hi)
  ·by_cases M':c'=c
   ·subst M';exact⟨_,Jv⟩
   ·obtain⟨w2,z2⟩:=I.cell y c' e;exact⟨w2,z2.sameBut hs M'⟩
  ·obtain⟨e,n,ne,nf,d⟩:=I.pin p hp;refine⟨(hs.2 p.1 ?_).trans e,n,ne,nf,d⟩;intro q;rw[q,M9] at e;have q':oc=p.2:=Option.some.inj e;exact d w' (by rw[<- q'];exact Lx)
theorem iW{M:Model}(I:Inv X pins σ H s)(hN:X.N.Nodup)(hi:X.N[i]?=some x)(hx:Loc X.env.scope x)(r:aq v u)(h:∀ s',Inv X pins (σ.set i<|some v) H s'->Q () s')(hf:X.fn x=true\/X.env.scope.names.lookup x=some .local:=by first | exact .inl rfl | exact .inr rfl | assumption):wpAny M A (storeName X.env x u) Q E s:=
 nt I hN hi hx r (fun s' I' _=>h s' I') hf
theorem Inv.Jw(I:Inv X pins σ H s)(ho:s'.os=s.os)(u:Un (Fd X.stack) ch H H' s.heap s'.heap)(l_:Dt X.prog X.w H' s'.heap)(hg:AllBare s'.gens)(DP:∀ b∈ch,(b∈X.ex\/X.s₀.heap.objs.size<=b)/\b≠X.env.locals/\(∀ x c,X.env.cells.lookup x=some c->c≠b)/\∀ p∈X.pn++pins,p.1≠b):Inv X pins σ H' s':=by
 obtain⟨h',g',d',t',o'⟩:=s';have e:o'=s.os:=ho;subst e;exact I.call (g':=g') (t':=t') (d':=d') u l_ hg DP
end
abbrev XK:=Value->Option Addr->Hp->Prop
abbrev St:=List (Option V)
variable{σ:St}
abbrev VK:=V->Hp->Prop
abbrev TE:=St->Hp->VK->Prop
variable{te:TE}
abbrev TT:=St->Hp->(Bool->Hp->Prop)->Prop
variable{tc:TT}
abbrev TA:=St->Hp->(List V->Hp->Prop)->Prop
variable{ta:TA}
structure Ends where
 nx:St->Hp->Prop
 rt:VK
 bk:St->Hp->Prop:=fun _ _=>False
 ct:St->Hp->Prop:=fun _ _=>False
abbrev TS:=Ends->St->Hp->Prop
variable{tb:TS}
def EP(X:Cx)(pins:List (Addr×Obj))(σ:St)(Q:VK)(u:Value)(s':Shared):Prop:=∃ v H',Inv X pins σ H' s'/\aq v u/\Q v H'
def TP(X:Cx)(pins:List (Addr×Obj))(σ:St)(Q:Bool->Hp->Prop)(b:Bool)(s':Shared):Prop:=∃ H',Inv X pins σ H' s'/\Q b H'
def AP(X:Cx)(pins:List (Addr×Obj))(σ:St)(Q:List V->Hp->Prop)(us:List Value)(s':Shared):Prop:=∃ vs H',Inv X pins σ H' s'/\ak vs us/\Q vs H'
def SP(X:Cx)(pins:List (Addr×Obj))(D:Ends)(f:Flow)(s':Shared):Prop:=
 match f with
 | .next=>∃ σ' H',Inv X pins σ' H' s'/\D.nx σ' H'
 | .brk=>∃ σ' H',Inv X pins σ' H' s'/\D.bk σ' H'
 | .cont=>∃ σ' H',Inv X pins σ' H' s'/\D.ct σ' H'
 | .ret u=>∃ v σ' H',Inv X pins σ' H' s'/\aq v u/\D.rt v H'
def Ly(X:Cx)(e:Expr)(t:TE)(pins:List (Addr×Obj)):Prop:=
 ∀ (s:Shared) (σ:St) (H:Hp) (Q:VK),Inv X pins σ H s->t σ H Q->wpAny (model X.prog X.w) X.A (eval e X.env) (EP X pins σ Q) X.xe s
def PE(X:Cx)(e:Expr)(t:TE):Prop:=∀ pins,Ly X e t pins
def M_(X:Cx)(e:Expr)(t:TT)(pins:List (Addr×Obj)):Prop:=
 ∀ (s:Shared) (σ:St) (H:Hp) (Q:Bool->Hp->Prop),Inv X pins σ H s->t σ H Q->wpAny (model X.prog X.w) X.A (isTrue e X.env<|eval e X.env) (TP X pins σ Q) X.xe s
def PT(X:Cx)(e:Expr)(t:TT):Prop:=∀ pins,M_ X e t pins
def Na(X:Cx)(e:Expr)(t:TT)(whole:Sem Value):Prop:=
 ∀ (pins:List (Addr×Obj)) (s:Shared) (σ:St) (H:Hp) (Q:Bool->Hp->Prop),Inv X pins σ H s->t σ H Q->wpAny (model X.prog X.w) X.A (isTrue e X.env whole) (TP X pins σ Q) X.xe s
def PW(X:Cx)(e:Expr)(t:TT):Prop:=∀ whole,Na X e t whole
theorem PW.pt{t:TT}(h:PW X e t):PT X e t:=h _
def Nb(X:Cx)(es:List Expr)(t:TA)(pos:Pos):Prop:=
 ∀ (pins:List (Addr×Obj)) (s:Shared) (σ:St) (H:Hp) (Q:List V->Hp->Prop),Inv X pins σ H s->t σ H Q->wpAny (model X.prog X.w) X.A (spliced<|backTo pos<|starEach es X.env) (AP X pins σ Q) X.xe s
def PA(X:Cx)(es:List Expr)(t:TA):Prop:=∀ pos,Nb X es t pos
def Nc(X:Cx)(st:Stmt)(t:TS)(pins:List (Addr×Obj)):Prop:=
 ∀ (s:Shared) (σ:St) (H:Hp) (D:Ends),Inv X pins σ H s->t D σ H->wpAny (model X.prog X.w) X.A (exec st X.env) (SP X pins D) X.xe s
def PS(X:Cx)(st:Stmt)(t:TS):Prop:=∀ pins,Nc X st t pins
def nu(X:Cx)(st:List Stmt)(t:TS)(pins:List (Addr×Obj)):Prop:=
 ∀ (s:Shared) (σ:St) (H:Hp) (D:Ends),Inv X pins σ H s->t D σ H->wpAny (model X.prog X.w) X.A (execs st X.env) (SP X pins D) X.xe s
def EW(X:Cx)(st:List Stmt)(t:TS):Prop:=∀ pins,nu X st t pins
theorem u_{α:Type}{t:Sem α}{Q Q':α->Shared->Prop}{M:Model}(h:wpAny M A t Q E s)(hQ:∀ a s,Q a s->Q' a s):wpAny M A t Q' E s:=wpAny_mono h hQ fun _ _ x=>x
section
variable{X:Cx}
def dE(i:Nat):TE:=fun σ H Q=>∃ v,σ[i]?=some (some v)/\Q v H
def tC(v:V):TE:=fun _ H Q=>Q v H
theorem nv(hN:X.N[i]?=some x)(hv:KJ X.env.scope x)(hd:(x == ("__debug__" : Str))=false:=by decide)(Fu:(x == ("__classdict__" : Str))=false:=by decide):PE X (.Name x pos) (dE i):=by
 intro pins s σ H Q I h;obtain⟨v,e,h⟩:=h;obtain⟨m,hn,hl⟩:=I.loc;obtain⟨u,r,l⟩:=hl i x v hN e hv;have fin:EP X pins σ Q u s:=⟨v,H,I,r,h⟩;rcases l with ⟨hk,hm⟩ | ⟨hk,c,hc,Ff⟩
 ·exact wpAny_Name (wpAny_loadName_local I.ok.kind hk hn hm fin) hd
 ·rcases hk with hk | hk
  ·exact wpAny_Name (wpAny_loadName_cell I.ok.kind hk hc Ff fin) hd
  ·exact wpAny_Name (wpAny_loadName_free I.ok.kind hk hc Ff fin Fu) hd
theorem tU{i j pos}:PE X (.Constant (.int i) j pos) (tC<|.int i):=fun _ _ _ H _ I h=>wpAny_Constant_int ⟨.int i,H,I.tok _,⟨_,rfl⟩,h⟩
theorem tW{b j pos}:PE X (.Constant (.bool b) j pos) (tC<|.bl b):=fun _ _ _ H _ I h=>Constant_bool ⟨.bl b,H,I,rfl,h⟩
theorem tX{j pos}:PE X (.Constant .none j pos) (tC .j_):=fun _ _ _ H _ I h=>Constant_none ⟨.j_,H,I,rfl,h⟩
theorem tY{x j pos}:PE X (.Constant (.str x) j pos) (tC<|.str x):=fun _ _ _ H _ I h=>Calls.Constant_str ⟨.str x,H,I.tok _,⟨_,rfl⟩,h⟩
def Gl(X:Cx)(x:Str):Prop:=X.env.kindOf x=some .globalImplicit
theorem nw(I:Inv X pins σ H s)(hg:Gl X x)(hm:X.mg x=some u)(h:Q u s)(hd:(x == ("__debug__" : Str))=false:=by decide):wpAny (model X.prog X.w) X.A (eval (.Name x pos) X.env) Q E s:=
 Calls.Name_function_global I.ok.kind hg (Calls.loadGlobal_global (by rw[I.ok.glob];exact I.mod.glob.keeps I.bk) hm h) hd
theorem eU(I:Inv X pins σ H s)(hg:Gl X x)(hm:X.mg x=none)(hv:bootBuiltins x=some u)(h:Q u s)(hn:x ≠ "__name__" := by decide)(hd:(x == ("__debug__" : Str))=false:=by decide):wpAny (model X.prog X.w) X.A (eval (.Name x pos) X.env) Q E s:=by
 obtain⟨mb,h1,h2⟩:=I.mod.blt;exact Calls.Name_function_global I.ok.kind hg (Calls.loadGlobal_builtin (by rw[I.ok.glob];exact I.mod.glob.keeps I.bk) hm (by rw[I.ok.blt];exact h1.keeps I.bk) ((h2 x hn).trans hv) h) hd
theorem ny(hg:Gl X x)(hm:X.mg x=some u)(r:aq v u)(hd:(x == ("__debug__" : Str))=false:=by decide):PE X (.Name x pos) (tC v):=
 fun _ _ _ H _ I h=>nw I hg hm ⟨v,H,I,r,h⟩ hd
theorem tZ(hg:Gl X x)(hm:X.mg x=none)(hv:bootBuiltins x=some u)(r:aq v u)(hn:x ≠ "__name__" := by decide)(hd:(x == ("__debug__" : Str))=false:=by decide):PE X (.Name x pos) (tC v):=
 fun _ _ _ H _ I h=>eU I hg hm hv ⟨v,H,I,r,h⟩ hn hd
variable{a b:Expr}{ta tb:TE}{pos:Pos}
variable{tA KL:TT}{rest:List Expr}
def nz(t u:TT):TT:=fun σ H Q=>t σ H fun c H1=>if c=true then u σ H1 Q else Q false H1
def Nd(t u:TT):TT:=fun σ H Q=>t σ H fun c H1=>if c=true then Q true H1 else u σ H1 Q
def t5(t:TT):TT:=fun σ H Q=>t σ H fun c H1=>Q (!c) H1
theorem t6(ha:PT X a tA):PW X (.BoolOp .And [a] pos) tA:=by
 intro wh pins s σ H Q I h;refine isTrue_and (u_ (ha pins s σ H Q I h) fun c s1 e=>?_);cases c with
 | true=>exact isTrue_and_nil e
 | false=>exact e
theorem t7(ha:PT X a tA):PW X (.BoolOp .Or [a] pos) tA:=by
 intro wh pins s σ H Q I h;refine isTrue_or (u_ (ha pins s σ H Q I h) fun c s1 e=>?_);cases c with
 | false=>exact isTrue_or_nil e
 | true=>exact e
theorem t9(ha:PT X a tA)(hb:PW X (.BoolOp .And (b::rest) pos) KL):PW X (.BoolOp .And (a::b::rest) pos) (nz tA KL):=by
 intro wh pins s σ H Q I h;refine isTrue_and (u_ (ha pins s σ H _ I h) fun c s1 ⟨H1,I1,q1⟩=>?_);cases c with
 | true=>exact hb wh pins s1 σ H1 Q I1 q1
 | false=>exact⟨H1,I1,q1⟩
theorem ua(ha:PT X a tA)(hb:PW X (.BoolOp .Or (b::rest) pos) KL):PW X (.BoolOp .Or (a::b::rest) pos) (Nd tA KL):=by
 intro wh pins s σ H Q I h;refine isTrue_or (u_ (ha pins s σ H _ I h) fun c s1 ⟨H1,I1,q1⟩=>?_);cases c with
 | true=>exact⟨H1,I1,q1⟩
 | false=>exact hb wh pins s1 σ H1 Q I1 q1
theorem uc(ha:PT X a tA):PT X (.UnaryOp .Not a pos) (t5 tA):=by
 intro pins s σ H Q I h;exact isTrue_not (ha pins s σ H (fun c H1=>Q (!c) H1) I h)
def ud(ta tb:TE):TE:=fun σ H Q=>ta σ H fun x H1=>∃ c,x=.bl c/\if c=true then tb σ H1 Q else Q (.bl false) H1
def ue(ta tb:TE):TE:=fun σ H Q=>ta σ H fun x H1=>∃ c,x=.bl c/\if c=true then Q (.bl true) H1 else tb σ H1 Q
def uf(ta:TE):TE:=fun σ H Q=>ta σ H fun x H1=>∃ c,x=.bl c/\Q (.bl<|!c) H1
theorem ug{op}{t:TE}(h:PE X a t):PE X (.BoolOp op [a] pos) t:=fun pins s σ H Q I hw=>BoolOp_one (h pins s σ H Q I hw)
theorem uh(ha:PE X a ta)(hb:PE X (.BoolOp .And (b::rest) pos) tb):PE X (.BoolOp .And (a::b::rest) pos) (ud ta tb):=by
 intro pins s σ H Q I h;refine BoolOp_and (u_ (ha pins s σ H _ I h) fun v s1 ⟨x,H1,I1,r1,q1⟩=>?_);obtain⟨c,rfl,q1⟩:=q1;cases r1;refine wpAny_truthy_bool ?_;cases c with
 | true=>exact hb pins s1 σ H1 Q I1 q1
 | false=>exact⟨.bl false,H1,I1,rfl,q1⟩
theorem ui(ha:PE X a ta)(hb:PE X (.BoolOp .Or (b::rest) pos) tb):PE X (.BoolOp .Or (a::b::rest) pos) (ue ta tb):=by
 intro pins s σ H Q I h;refine BoolOp_or (u_ (ha pins s σ H _ I h) fun v s1 ⟨x,H1,I1,r1,q1⟩=>?_);obtain⟨c,rfl,q1⟩:=q1;cases r1;refine wpAny_truthy_bool ?_;cases c with
 | false=>exact hb pins s1 σ H1 Q I1 q1
 | true=>exact⟨.bl true,H1,I1,rfl,q1⟩
theorem uj(ha:PE X a ta):PE X (.UnaryOp .Not a pos) (uf ta):=by
 intro pins s σ H Q I h;refine UnaryOp_ (u_ (ha pins s σ H _ I h) fun v s1 ⟨x,H1,I1,r1,q1⟩=>?_);obtain⟨c,rfl,q1⟩:=q1;cases r1;exact not_of (wpAny_truthy_bool ⟨.bl<|!c,H1,I1,rfl,q1⟩)
end
def CT(K:PySem.W.Frag)(H:Hp)(a:Addr)(xs:List V):Prop:=
 Rd H a (.lst xs)\/
  ∃ (o:Obj) (f_:Array Value) (n:Nat),K.lookup a=some o/\o.cls=.type "list" /\ o.dict=none/\o.data=.seq f_ n/\f_.size<=sizeLine/\ak xs f_.toList
def A_(K:PySem.W.Frag)(H:Hp)(a:Addr)(xs:List V):Prop:=
 Rd H a (.tup xs)\/
  ∃ (o:Obj) (f_:Array Value) (n:Nat),K.lookup a=some o/\o.cls=.type "tuple" /\ o.data=.seq f_ n/\f_.size<=sizeLine/\ak xs f_.toList
def uk:Value->Option V
 | .none=>some .j_
 | .bool b=>some (.bl b)
 | .int i _=>some (.int i)
 | .str x _=>some (.str x)
 | .bytes b _=>some (.Jo b)
 | .float b _=>some (.Ln b)
 | .ref a=>some (.ref a)
 | .type n=>some (.ty n)
 | _=>none
theorem aq.abs{x:V}(r:aq x u):uk u=some x:=by
 cases x with
 | j_=>cases r;rfl
 | bl _=>cases r;rfl
 | int _=>obtain⟨t,rfl⟩:=r;rfl
 | str _=>obtain⟨t,rfl⟩:=r;rfl
 | Jo _=>obtain⟨t,rfl⟩:=r;rfl
 | Ln _=>obtain⟨t,rfl⟩:=r;rfl
 | ref _=>cases r;rfl
 | ty _=>cases r;rfl
theorem aq.inj{x:V}(r:aq x u)(q:aq y u):x=y:=Option.some.inj (r.abs.symm.trans q.abs)
theorem ak.inj:∀ {xs ys:List V}{us:List Value},ak xs us->ak ys us->xs=ys
 | _,_,_,.nil,.nil=>rfl
 | _,_,_,.cons r t,.cons r' t'=>by rw[r.inj r',ak.inj t t']
section
variable{X:Cx}{pins:List (Addr×Obj)}{σ:St}{H:Hp}{s:Shared}{a:Addr}{xs ys:List V}
theorem CT.of(h:H a=some (.lst xs)):CT K H a xs:=.inl (.inl h)
theorem A_.of(h:H a=some (.tup xs)):A_ K H a xs:=.inl (.inl h)
theorem Inv.list(I:Inv X pins σ H s)(h:CT X.K H a xs):∃ f_:List Value,ak xs f_/\PlainL s.heap a f_.toArray/\xs.length<=sizeLine:=by
 rcases h with h | ⟨o,f_,n,hk,hc,hd,hs,hz,r⟩
 ·obtain⟨z,f_,n,r,e⟩:=h.ok I.l_;exact⟨f_,r,⟨_,n,e,rfl,rfl,rfl⟩,z⟩
 ·refine⟨f_.toList,r,⟨o,n,I.HQ a o hk,hc,hd,by simpa using hs⟩,?_⟩;have e:=r.length;simp only[length_toList] at e;lia
theorem Inv.tuple(I:Inv X pins σ H s)(h:A_ X.K H a xs):∃ f_:List Value,ak xs f_/\IsTup s.heap a f_.toArray/\xs.length<=sizeLine:=by
 rcases h with h | ⟨o,f_,n,hk,hc,hs,hz,r⟩
 ·obtain⟨z,f_,r,p⟩:=h.ok I.l_;exact⟨f_,r,p,z⟩
 ·refine⟨f_.toList,r,⟨o,I.HQ a o hk,hc,n,by simpa using hs⟩,?_⟩;have e:=r.length;simp only[length_toList] at e;lia
theorem Inv.FV(I:Inv X pins σ H s)(h:CT X.K H a xs)(h':CT X.K H a ys):xs=ys:=by
 obtain⟨f_,r,⟨o,n,e,_,_,d⟩,_⟩:=I.list h;obtain⟨its',r',⟨o',n',e',_,_,d'⟩,_⟩:=I.list h';rw[e] at e';cases e';rw[d] at d';injection d' with d1 _;have:f_=its':=by simpa using congrArg Array.toList d1
 subst this;exact r.inj r'
theorem Inv.DG(I:Inv X pins σ H s)(h:A_ X.K H a xs)(h':A_ X.K H a ys):xs=ys:=by
 obtain⟨f_,r,⟨o,e,_,n,d⟩,_⟩:=I.tuple h;obtain⟨its',r',⟨o',e',_,n',d'⟩,_⟩:=I.tuple h';rw[e] at e';cases e';rw[d] at d';injection d' with d1 _;have:f_=its':=by simpa using congrArg Array.toList d1
 subst this;exact r.inj r'
end
abbrev Cx.En(X:Cx)(E:Value->Shared->Prop):Cx:={ X with xe:=E }
abbrev Cx.IO(X:Cx):Cx:=X.En fun _ _=>False
theorem Cx.Ok.En(ok:X.Ok)(E:Value->Shared->Prop):(X.En E).Ok:=
 ⟨ok.mod,ok.kind,ok.glob,ok.blt,ok.above,ok.inj,ok.has,ok.IN,ok.hd,ok.frames,ok.Jr,ok.Lq,ok.bs,ok.GN,ok.Fs,ok.Ft,ok.DF,ok.HP⟩
theorem Cx.Ok.Dj(ok:(X.En E).Ok):X.Ok:=
 ⟨ok.mod,ok.kind,ok.glob,ok.blt,ok.above,ok.inj,ok.has,ok.IN,ok.hd,ok.frames,ok.Jr,ok.Lq,ok.bs,ok.GN,ok.Fs,ok.Ft,ok.DF,ok.HP⟩
section
variable{X:Cx}{pins:List (Addr×Obj)}{σ:St}{H:Hp}{s:Shared}{E:Value->Shared->Prop}
theorem Inv.En(I:Inv X pins σ H s)(E:Value->Shared->Prop):Inv (X.En E) pins σ H s:=⟨I.ok.En E,I.os,I.bare,I.base,I.loc,I.cell,I.free,I.CU,I.pin,I.l_,I.len⟩
theorem Inv.Dj(I:Inv (X.En E) pins σ H s):Inv X pins σ H s:=⟨I.ok.Dj,I.os,I.bare,I.base,I.loc,I.cell,I.free,I.CU,I.pin,I.l_,I.len⟩
theorem SP.Dj{D:Ends}{f:Flow}(h:SP (X.En E) pins D f s'):SP X pins D f s':=by
 cases f with
 | next=>obtain⟨σ',H',I,q⟩:=h;exact⟨σ',H',I.Dj,q⟩
 | brk=>obtain⟨σ',H',I,q⟩:=h;exact⟨σ',H',I.Dj,q⟩
 | cont=>obtain⟨σ',H',I,q⟩:=h;exact⟨σ',H',I.Dj,q⟩
 | ret u=>obtain⟨v,σ',H',I,r,q⟩:=h;exact⟨v,σ',H',I.Dj,r,q⟩
theorem EW.IO{st:List Stmt}{t:TS}(h:EW X.IO st t):EW X st t:=fun pins s σ H D I hw=>
 wpAny_mono (h pins s σ H D (I.En _) hw) (fun _ _ q=>q.Dj) fun _ _ z=>False.elim z
end
section
variable{X:Cx}{st:Stmt}{rest:List Stmt}{t u:TS}{e:Expr}{te:TE}{pos:Pos}
def Jx:TS:=fun D σ H=>D.nx σ H
def nA(t u:TS):TS:=fun D σ H=>t { D with nx:=u D } σ H
theorem ul:EW X [] Jx:=fun _ _ σ H _ I h=>wpAny_execs_nil ⟨σ,H,I,h⟩
theorem um(h1:PS X st t)(h2:EW X rest u):EW X (st::rest) (nA t u):=by
 intro pins s σ H D I h;refine wpAny_execs_cons (u_ (h1 pins s σ H { D with nx:=u D } I h) fun f s1 q=>?_);cases f with
 | next=>
  obtain⟨σ',H',I',q⟩:=q;exact h2 pins s1 σ' H' D I' q
 | ret v=>exact q
 | brk=>exact q
 | cont=>exact q
theorem uo(h1:PS X st t):EW X [st] t:=by
 intro pins s σ H D I h;refine wpAny_execs_cons (u_ (h1 pins s σ H D I h) fun f s1 q=>?_);cases f with
 | next=>exact wpAny_execs_nil q
 | ret v=>exact q
 | brk=>exact q
 | cont=>exact q
theorem Inv.quiet(I:Inv X pins σ H s):interactive X.env=false:=by simp[interactive,I.ok.kind]
def uq(te:TE):TS:=fun D σ H=>te σ H fun _ H1=>D.nx σ H1
theorem ur(he:PE X e te)(hs:swapsWith e none pos.line X.env=pure false:=by rfl):PS X (.Expr e pos) (uq te):=by
 intro pins s σ H D I h;exact wpAny_Expr_any (u_ (he pins s σ H _ I h) fun v s1 ⟨x,H1,I1,r1,q1⟩=>⟨σ,H1,I1,q1⟩) I.quiet hs
def ut(te:TE):TS:=fun D σ H=>te σ H D.rt
theorem uu(he:PE X e te):PS X (.Return (some e) pos) (ut te):=by
 intro pins s σ H D I h;exact wpAny_Return_some (u_ (he pins s σ H _ I h) fun v s1 ⟨x,H1,I1,r1,q1⟩=>⟨x,σ,H1,I1,r1,q1⟩)
def uw(c:TT)(t u:TS):TS:=fun D σ H=>c σ H fun b H1=>if b=true then t D σ H1 else u D σ H1
theorem ux{a b:List Stmt}(hc:PT X c tc)(ha:EW X a t)(hb:EW X b u):PS X (.If c a b pos) (uw tc t u):=by
 intro pins s σ H D I h;refine wpAny_If (u_ (hc pins s σ H _ I h) fun d s1 ⟨H1,I1,q1⟩=>?_);cases d with
 | true=>exact ha pins s1 σ H1 D I1 q1
 | false=>exact hb pins s1 σ H1 D I1 q1
end
abbrev TG:=V->St->Hp->(St->Hp->Prop)->Prop
abbrev GE:=List V->St->Hp->(St->Hp->Prop)->Prop
def Nf(X:Cx)(target:Expr)(t:TG)(pins:List (Addr×Obj)):Prop:=
 ∀ (s:Shared) (σ:St) (H:Hp) (v:V) (u:Value) (Q:St->Hp->Prop),Inv X pins σ H s->aq v u->t v σ H Q->
  wpAny (model X.prog X.w) X.A (assign target X.env u) (fun _ s'=>∃ σ' H',Inv X pins σ' H' s'/\Q σ' H') X.xe s
def PG(X:Cx)(target:Expr)(t:TG):Prop:=∀ pins,Nf X target t pins
def nE(X:Cx)(ts:List Expr)(t:GE)(pins:List (Addr×Obj)):Prop:=
 ∀ (s:Shared) (σ:St) (H:Hp) (vs:List V) (us:List Value) (Q:St->Hp->Prop),Inv X pins σ H s->ak vs us->t vs σ H Q->
  wpAny (model X.prog X.w) X.A (assignInOrder ((assignEach ts X.env).map (·.2)) us) (fun _ s'=>∃ σ' H',Inv X pins σ' H' s'/\Q σ' H') X.xe s
def IP(X:Cx)(ts:List Expr)(t:GE):Prop:=∀ pins,nE X ts t pins
abbrev HU:=V->V->V->Hp->(Hp->Prop)->Prop
def kz(X:Cx)(t:HU):Prop:=
 ∀ (pins:List (Addr×Obj)) (s:Shared) (σ:St) (H:Hp) (o i v:V) (ov iv u:Value) (Q:Hp->Prop),Inv X pins σ H s->aq o ov->aq i iv->aq v u->t o i v H Q->
  wpAny (model X.prog X.w) X.A (setItem ov iv u) (fun _ s'=>∃ H',Inv X pins σ H' s'/\Q H') X.xe s
section
variable{X:Cx}{pos:Pos}
def kA(i:Nat):TG:=fun v σ H Q=>Q (σ.set i<|some v) H
theorem uy(hN:X.N.Nodup)(hi:X.N[i]?=some x)(hx:Loc X.env.scope x)(hf:X.fn x=true\/X.env.scope.names.lookup x=some .local:=by first | exact .inl rfl | exact .inr rfl | assumption):PG X (.Name x pos) (kA i):=by
 intro pins s σ H v u Q I r h;exact wpAny_assign_Name (iW I hN hi hx r (fun s' I'=>⟨_,H,I',h⟩) hf)
def Lz:GE:=fun vs σ H Q=>vs=[]/\Q σ H
def uz(t:TG)(u:GE):GE:=fun vs σ H Q=>∃ v r,vs=v::r/\t v σ H fun σ' H'=>u r σ' H' Q
theorem uA:IP X [] Lz:=by
 intro pins s σ H vs us Q I r h;obtain⟨e,h⟩:=h;subst e;cases r;exact assignInOrder_nil ⟨σ,H,I,h⟩
theorem uB{t:TG}{u:GE}(h1:PG X e t)(h2:IP X es u)(hs:(assignEach (e::es) X.env).map (·.2)=assign e X.env::(assignEach es X.env).map (·.2):=by rfl):IP X (e::es) (uz t u):=by
 intro pins s σ H vs us Q I r h;obtain⟨v,vr,e1,h⟩:=h;subst e1;cases r with
 | cons r rr=>
  rw[hs];refine assignInOrder_cons (u_ (h1 pins s σ H _ _ _ I r h) fun _ s1 ⟨σ1,H1,I1,q1⟩=>?_);exact h2 pins s1 σ1 H1 _ _ Q I1 rr q1
def uD(K:PySem.W.Frag)(n:Nat)(t:GE):TG:=fun v σ H Q=>∃ a xs,v=.ref a/\A_ K H a xs/\xs.length=n/\t xs σ H Q
theorem uE{t:GE}(hc:X.calm=true)(h:IP X es t)(hn:(assignEach es X.env).length=n:=by rfl)(GO:(assignEach es X.env).findIdx? (·.1)=none:=by rfl):PG X (.Tuple es k pos) (uD X.K n t):=by
 intro pins s σ H v u Q I r hw;obtain⟨a,xs,e1,hq,hl,hw⟩:=hw;subst e1;cases r;obtain⟨f_,rv,ht,hz⟩:=I.tuple hq;refine assign_Tuple_tuple (I.ok.hd hc) ht (by simp[hn,<- hl,rv.length]) GO fun h' hx=>?_;have I1:Inv X pins σ H { s with heap:=h' }:=I.kept (t':=s.toks) fun b o e=>hx b o (ne_of_lt<|Heap.lt_size e) e;exact h pins _ σ H xs _ Q I1 (by simpa using rv) hw
def uF(to ti:TE)(t:HU):TG:=fun v σ H Q=>to σ H fun o H1=>ti σ H1 fun i H2=>t o i v H2 fun H3=>Q σ H3
theorem uG{o i:Expr}{to ti:TE}{t:HU}(ho:PE X o to)(hi:PE X i ti)(hs:kz X t)(ha:∀ v,assign (.Subscript o i pos) X.env v=(do
   let ov <- holding [v] (eval o X.env)
   let iv <- holding [v,ov] (eval i X.env)
   standAt pos
   holding [v,ov,iv] (setItem ov iv v)
   release [v,ov,iv] []):=by intro _;rfl):PG X (.Subscript o i pos) (uF to ti t):=by
 intro pins s σ H v u Q I r h;rw[ha];refine wpAny_bind (wpAny_holding<|u_ (ho pins s σ H _ I h) fun ov s1 ⟨x,H1,I1,r1,q1⟩=>?_);refine wpAny_bind (wpAny_holding<|u_ (hi pins s1 σ H1 _ I1 q1) fun iv s2 ⟨y,H2,I2,r2,q2⟩=>?_);refine wpAny_bind (wpAny_standAt<|wpAny_bind<|wpAny_holding<|u_ (hs pins s2 σ H2 x y v ov iv u _ I2 r1 r2 r q2) fun _ s3 ⟨H3,I3,q3⟩=>?_);exact wpAny_release ⟨σ,H3,I3,q3⟩
def kC(te:TE)(g:TG):TS:=fun D σ H=>te σ H fun x H1=>g x σ H1 D.nx
theorem uH{g:TG}(he:PE X e te)(hg:PG X tg g)(hs:swapsWithSole [tg] e pos.line X.env=pure false:=by rfl)(hw:swappedStores [tg] e X.env=pure none:=by rfl)(h1:(assignEach [tg] X.env).map (·.2)=[assign tg X.env]:=by rfl):PS X (.Assign [tg] e pos) (kC te g):=by
 intro pins s σ H D I h;refine wpAny_Assign_stores (u_ (he pins s σ H _ I h) fun v s1 ⟨x,H1,I1,r1,q1⟩=>?_) hs hw;rw[h1];exact u_ (hg pins s1 σ H1 x v _ I1 r1 q1) fun _ s2 q=>q
theorem uI{pos':Pos}(hN:X.N.Nodup)(hi:X.N[i]?=some x)(hx:Loc X.env.scope x)(he:PE X e te)(hs:swapsWith e (some<|.Name x pos') pos.line X.env=pure false:=by rfl)(hf:X.fn x=true\/X.env.scope.names.lookup x=some .local:=by first | exact .inl rfl | exact .inr rfl | assumption):
  PS X (.Assign [.Name x pos'] e pos) (kC te<|kA i):=by
 intro pins s σ H D I h;refine wpAny_Assign_Name (u_ (he pins s σ H _ I h) fun v s1 ⟨y,H1,I1,r1,q1⟩=>?_) hs;exact iW I1 hN hi hx r1 (fun s2 I2=>⟨_,H1,I2,q1⟩) hf
def uJ(i j:Nat)(ta:TA):TS:=fun D σ H=>ta σ H fun vs H1=>∃ v w,vs=[v,w]/\D.nx ((σ.set i<|some v).set j<|some w) H1
theorem uK{y:Str}{a b:Expr}{px py pt:Pos}{kt k2 HV}(hc:X.calm=true)(hN:X.N.Nodup)(hi:X.N[i]?=some x)(hj:X.N[j]?=some y)(DY:i≠j)(hx:X.env.scope.names.lookup x=some .local)(hy:X.env.scope.names.lookup y=some .local)(ha:PA X [a,b] ta)(hw:swappedStores [.Tuple [.Name x px,.Name y py] kt pt] (.Tuple [a,b] k2 HV) X.env=pure (some [x,y]))(hs:swapsWithSole [.Tuple [.Name x px,.Name y py] kt pt] (.Tuple [a,b] k2 HV) pos.line X.env=pure false:=by rfl):
  PS X (.Assign [.Tuple [.Name x px,.Name y py] kt pt] (.Tuple [a,b] k2 HV) pos) (uJ i j ta):=by
 intro pins s σ H D I h;rw[exec_Assign_arm];refine wpAny_bind (wpAny_standAt ?_);rw[hs];refine wpAny_bind (wpAny_pure ?_);rw[if_neg (by decide)];refine wpAny_bind (Tuple_<|u_ (ha _ pins s σ H _ I h) fun us s1 ⟨vs,H1,I1,r1,q1⟩=>?_);obtain⟨v,w,e1,q1⟩:=q1;subst e1;obtain⟨u1,u2,rfl,rv,FW⟩:∃ u1 u2,us=[u1,u2]/\aq v u1/\aq w u2:=by
  cases r1 with
  | cons p q=>
   cases q with
   | cons p' q'=>
    cases q';exact⟨_,_,rfl,p,p'⟩
 refine wpAny_newObj_type ?_ (by show 2<=sizeLine;decide);have I2:Inv X pins σ H1 { s1 with heap:=s1.heap.push { cls:=.type "tuple",data:=.seq [u1,u2].toArray } }:=I1.kept (t':=s1.toks) fun b o e=>Heap.get?_push_of_some _ e;rw[hw];refine wpAny_bind (wpAny_pure ?_);show wpAny (model X.prog X.w) X.A (do rule "assign.swapped-stores";let items <- unpackItems (.ref s1.heap.objs.size) 2 none;assignInOrder [fun v=>bindName X.env y v,fun v=>bindName X.env x v] items.reverse;pure Flow.next) _ _ _;refine wpAny_bind (wpAny_rule<|wpAny_bind<|unpackItems_tuple (items:=#[u1,u2]) (I.ok.hd hc) (IsTup.new s1.heap _) fun h' FM=>?_);have I3:=I2.kept (h':=h') (t':=s1.toks) fun b o e=>FM b o (ne_of_lt<|Heap.lt_size e) e;show wpAny _ _ (assignInOrder [fun v=>bindName X.env y v,fun v=>bindName X.env x v] [u2,u1] >>= fun _=>pure Flow.next) _ _ _;refine wpAny_bind (assignInOrder_cons<|wpAny_bindName<|iW I3 hN hj (.inl hy) FW (fun s2 I4=>?_)<|.inr hy);refine assignInOrder_cons (wpAny_bindName<|iW I4 hN hi (.inl hx) rv (fun s3 I5=>assignInOrder_nil<|wpAny_pure ?_)<|.inr hx);rw[set_comm _ _ (Ne.symm DY)] at I5;exact⟨_,H1,I5,q1⟩
end
section
variable{X:Cx}{pos:Pos}
def uL(c:TT)(tb:TS):TS:=fun D σ H=>∃ W:Nat->St->Hp->Prop,(∃ m,W m σ H)/\∀ m σ H,W m σ H->
 c σ H fun b H1=>if b=true then ∃ N:St->Hp->Prop,(∀ σ' H',N σ' H'->∃ m',m'<m/\W m' σ' H')/\tb { D with nx:=N,ct:=N,bk:=D.nx } σ H1 else D.nx σ H1
theorem uM(hp:PassesOwn (model X.prog X.w) X.A X.env X.xe)(hc:PT X c tc)(hb:EW X body tb):PS X (.While c body [] pos) (uL tc tb):=by
 intro pins s σ H D I h;obtain⟨W,⟨m0,w0⟩,turn⟩:=h;refine wpAny_While (codeAny_whileLoop (fun n s'=>∃ σ' H',Inv X pins σ' H' s'/\W n σ' H') ?_ m0 ⟨σ,H,I,w0⟩);rintro n s1 ⟨σ1,H1,I1,w1⟩;refine wpAny_passesOwn hp (u_ (hc pins s1 σ1 H1 _ I1<|turn n σ1 H1 w1) fun b s2 ⟨H2,I2,q2⟩=>?_);cases b with
 | true=>
  obtain⟨N,hN,q2⟩:=q2;rw[if_pos rfl];refine wpAny_passesOwn hp (u_ (hb pins s2 σ1 H2 _ I2 q2) fun f s3 q3=>?_);cases f with
  | next=>
   obtain⟨σ3,H3,I3,n3⟩:=q3;obtain⟨m',hm,w3⟩:=hN σ3 H3 n3;exact⟨m',hm,σ3,H3,I3,w3⟩
  | cont=>
   obtain⟨σ3,H3,I3,n3⟩:=q3;obtain⟨m',hm,w3⟩:=hN σ3 H3 n3;exact⟨m',hm,σ3,H3,I3,w3⟩
  | brk=>exact q3
  | ret v=>exact q3
 | false=>
  rw[if_neg Bool.false_ne_true];exact wpAny_execs_nil ⟨σ1,H2,I2,q2⟩
end
structure It where
 go:Nat->Hp->Prop
 Jy:Nat->Hp->V->Hp->Prop
 stop:Nat->Hp->Prop
def cZ(X:Cx)(pins:List (Addr×Obj))(H:Hp)(b:Addr):Prop:=
 H b=none/\b≠X.env.locals/\b∉X.fs/\(b∈X.ex\/X.s₀.heap.objs.size<=b)/\(∀ x c,X.env.cells.lookup x=some c->c≠b)/\∀ p∈X.pn++pins,p.1≠b
theorem Inv.GP(I:Inv X pins σ H s)(hb:s.heap.objs.size<=b)(hn:H' b=none):cZ X pins H' b:=by
 refine⟨hn,ne_of_gt<|lt_of_lt_of_le I.lt hb,I.Ls hb,.inr<|Nat.le_trans I.sz hb,fun x c e z=>?_,fun p hp z=>?_⟩
 ·obtain⟨v,q⟩:=I.cell x c e;exact absurd (lt_of_lt_of_le q.lt (by rw[z];exact hb)) (lt_irrefl _)
 ·exact absurd (lt_of_lt_of_le (Heap.lt_size (I.pin p hp).1) (by rw[z];exact hb)) (lt_irrefl _)
structure Turn(P:Program)(w:World)(K:PySem.W.Frag)(tg:Expr)(J:It)(fp:List Addr)(it:Addr)(tn:Nat->Heap->Prop):Prop where
 mem:it∈fp
 obj:∀ i h,tn i h->∀ b∈fp,∃ o,h.get? b=some o/\∀ v,o.data≠.cell v
 keep:∀ i h h',tn i h->(∀ b∈fp,∀ o,h.get? b=some o->h'.get? b=some o)->tn i h'
 item:∀ (X:Cx),X.prog=P->X.w=w->X.K=K->X.calm=true->∀ (i:Nat) (pins:List (Addr×Obj)) (s:Shared) (σ:St) (H:Hp) (E:Value->Shared->Prop),Inv X pins σ H s->(∀ b∈fp,cZ X pins H b)->tn i s.heap->J.go i H->
  wpAny (model P w) X.A (pyNext<|.ref it) (fun r s1=>∃ u,r=some u/\
   wpAny (model P w) X.A (letOwnedTupleGo tg (.ref it) u) (fun _ s2=>∃ x H',Inv X pins σ H' s2/\aq x u/\J.Jy i H x H'/\tn (i+1) s2.heap/\∀ b∈fp,H' b=none) E s1) E s
 done:∀ (X:Cx),X.prog=P->X.w=w->X.K=K->X.calm=true->∀ (i:Nat) (pins:List (Addr×Obj)) (s:Shared) (σ:St) (H:Hp) (E:Value->Shared->Prop),Inv X pins σ H s->(∀ b∈fp,cZ X pins H b)->tn i s.heap->J.stop i H->
  wpAny (model P w) X.A (pyNext<|.ref it) (fun r s1=>r=none/\Inv X pins σ H s1) E s
 self:∀ (A:Around) (i:Nat) (s:Shared) (Q:Value->Shared->Prop) (E:Value->Shared->Prop),tn i s.heap->Q (.ref it) s->wpAny (model P w) A (pyIter<|.ref it) Q E s
abbrev TI:=St->Hp->(It->Hp->Prop)->Prop
def Ng(X:Cx)(pins:List (Addr×Obj))(σ:St)(tg:Expr)(R:It->Hp->Prop)(LC:Value)(s2:Shared):Prop:=
 ∃ (it:Addr) (fp:List Addr) (tn:Nat->Heap->Prop) (J:It) (H':Hp),LC=.ref it/\Inv X pins σ H' s2/\Turn X.prog X.w X.K tg J fp it tn/\tn 0 s2.heap/\(∀ b∈fp,cZ X pins H' b)/\R J H'
def Nh(X:Cx)(tg iter:Expr)(wi:TI)(pins:List (Addr×Obj)):Prop:=
 ∀ (s:Shared) (σ:St) (H:Hp) (R:It->Hp->Prop),Inv X pins σ H s->wi σ H R->
  wpAny (model X.prog X.w) X.A (eval iter X.env) (fun v s1=>wpAny (model X.prog X.w) X.A (pyIter v) (Ng X pins σ tg R) X.xe s1) X.xe s
def PI(X:Cx)(tg iter:Expr)(wi:TI):Prop:=∀ pins,Nh X tg iter wi pins
theorem kD{M : Model}{E : Value -> Shared -> Prop}{o : Obj}{n : String}{vs : Array Value}{Q : Unit -> Shared -> Prop}(ho : s.heap.get? it = some o)(hc : o.cls = .type n)(hd : o.data = .fields vs)(hn : ["enumerate", "zip", "dict_itemiterator", "dict_reverseitemiterator", "odict_iterator", "itertools.zip_longest", "itertools.pairwise"].contains n = false)(hQ : Q () s): wpAny M A (letOwnedTupleGo tg (.ref it) u) Q E s := by
  unfold letOwnedTupleGo;cases tg <;> first
    | exact wpAny_pure hQ
    | (cases u <;> first
        | exact wpAny_pure hQ
        | (refine wpAny_bind (wpAny_load ho ?_)
           rw [hc, hd];show wpAny M A (if (["enumerate", "zip", "dict_itemiterator", "dict_reverseitemiterator", "odict_iterator", "itertools.zip_longest", "itertools.pairwise"].contains n && vs[0]? == some (rawInt _)) = true then _ else _) Q E s;rw [if_neg (by intro h; rw [hn, Bool.false_and] at h; cases h)];exact wpAny_pure hQ))
def Jz(K:PySem.W.Frag)(a:Addr):It:=
 ⟨fun i H=>∃ xs x,CT K H a xs/\xs[i]?=some x,fun i H x H'=>H'=H/\∀ xs,CT K H a xs->xs[i]?=some x,fun i H=>∃ xs,CT K H a xs/\xs.length<=i⟩
def KM(K:PySem.W.Frag)(a:Addr):It:=
 ⟨fun i H=>∃ xs x,A_ K H a xs/\xs[i]?=some x,fun i H x H'=>H'=H/\∀ xs,A_ K H a xs->xs[i]?=some x,fun i H=>∃ xs,A_ K H a xs/\xs.length<=i⟩
def KN(lo:Int)(n:Nat):It:=⟨fun i _=>i<n,fun i H x H'=>H'=H/\x=.int (lo+i),fun i _=>n<=i⟩
theorem uN(a it:Addr):Turn P w K tg (Jz K a) [it] it (fun i h=>h.IsListIter it a i) where
 mem:=by simp
 obj:=fun i h st b hb=>by
  have e:b=it:=by simpa using hb
  subst e;obtain⟨o,e,c,d⟩:=st;exact⟨o,e,fun v z=>by rw[d] at z;cases z⟩
 keep:=fun i h h' st k=>st.at fun o e=>k it (by simp) o e
 item:=by
  intro X hP hw hK hc i pins s σ H E I hf st hg;subst hP hw hK;obtain⟨xs,x,hq,hx⟩:=hg;obtain⟨f_,rv,p,hz⟩:=I.list hq;obtain⟨u,hu,ru⟩:=rv.get hx;obtain⟨f0,f1,f2,f3,f4,f5⟩:=hf it (by simp);refine wpAny_pyNext_list_item st p.isList (x:=u) (by simpa using hu) fun h' g_ sb=>?_;have I1:Inv X pins σ H { s with heap:=h' }:=I.turned (t':=s.toks) (fun b o hb e=>(sb.2 b hb).trans e) f0 f1 f3 f4 f5;obtain⟨o,e,c,d⟩:=id g_;exact⟨u,rfl,kD (s:={ s with heap:=h' }) e c d (by decide) ⟨x,H,I1,ru,⟨rfl,fun ys hy=>by rw[I.FV hy hq];exact hx⟩,g_,fun b hb=>(hf b hb).1⟩⟩
 done:=by
  intro X hP hw hK hc i pins s σ H E I hf st hg;subst hP hw hK;obtain⟨xs,hq,hx⟩:=hg;obtain⟨f_,rv,p,hz⟩:=I.list hq;obtain⟨f0,f1,f2,f3,f4,f5⟩:=hf it (by simp);have hl:=rv.length;exact wpAny_pyNext_list_end (I.ok.hd hc) st p.isList (by simp;lia) fun h' eb=>⟨rfl,I.turned (t':=s.toks) (fun b o hb e=>eb b o hb e) f0 f1 f3 f4 f5⟩
 self:=fun _ _ _ _ _ st h=>wpAny_pyIter_listiter st h
theorem uO(a it:Addr):Turn P w K tg (KM K a) [it] it (fun i h=>h.IsTupleIter it a i) where
 mem:=by simp
 obj:=fun i h st b hb=>by
  have e:b=it:=by simpa using hb
  subst e;obtain⟨o,e,c,d⟩:=st;exact⟨o,e,fun v z=>by rw[d] at z;cases z⟩
 keep:=fun i h h' st k=>st.at fun o e=>k it (by simp) o e
 item:=by
  intro X hP hw hK hc i pins s σ H E I hf st hg;subst hP hw hK;obtain⟨xs,x,hq,hx⟩:=hg;obtain⟨f_,rv,p,hz⟩:=I.tuple hq;obtain⟨u,hu,ru⟩:=rv.get hx;obtain⟨f0,f1,f2,f3,f4,f5⟩:=hf it (by simp);refine wpAny_pyNext_tuple_item st (show s.heap.IsTuple a f_.toArray from p) (x:=u) (by simpa using hu) fun h' g_ sb=>?_;have I1:Inv X pins σ H { s with heap:=h' }:=I.turned (t':=s.toks) (fun b o hb e=>(sb.2 b hb).trans e) f0 f1 f3 f4 f5;obtain⟨o,e,c,d⟩:=id g_;exact⟨u,rfl,kD (s:={ s with heap:=h' }) e c d (by decide) ⟨x,H,I1,ru,⟨rfl,fun ys hy=>by rw[I.DG hy hq];exact hx⟩,g_,fun b hb=>(hf b hb).1⟩⟩
 done:=by
  intro X hP hw hK hc i pins s σ H E I hf st hg;subst hP hw hK;obtain⟨xs,hq,hx⟩:=hg;obtain⟨f_,rv,p,hz⟩:=I.tuple hq;obtain⟨f0,f1,f2,f3,f4,f5⟩:=hf it (by simp);have hl:=rv.length;exact wpAny_pyNext_tuple_end (I.ok.hd hc) st (show s.heap.IsTuple a f_.toArray from p) (by simp;lia) fun h' eb=>⟨rfl,I.turned (t':=s.toks) (fun b o hb e=>eb b o hb e) f0 f1 f3 f4 f5⟩
 self:=fun _ _ _ _ _ st h=>wpAny_pyIter_tupleiter st h
theorem uP(it:Addr)(lo:Int)(n:Nat):Turn P w K tg (KN lo n) [it] it (fun i h=>IsRangeIter h it (lo+(i:Nat) * 1) ((n:Int) - (i:Nat)) 1) where
 mem:=by simp
 obj:=fun i h st b hb=>by
  have e:b=it:=by simpa using hb
  subst e;exact⟨_,st,fun v z=>by
   have z':Data.fields _=Data.cell v:=z;cases z'⟩
 keep:=fun i h h' st k=>k it (by simp) _ st
 item:=by
  intro X hP hw hK hc i pins s σ H E I hf st hg;subst hP hw hK;obtain⟨f0,f1,f2,f3,f4,f5⟩:=hf it (by simp);have W:=Walks.range (prog:=X.prog) (w:=X.w) (I.ok.hd hc) it lo 1 n;refine W.item i s _ _ hg st fun v h' tk hv g_ kk=>?_;obtain⟨t,rfl⟩:=hv;have I1:Inv X pins σ H { s with heap:=h',toks:=tk }:=I.turned (fun b o hb e=>kk b o (by simpa using hb) e) f0 f1 f3 f4 f5;refine⟨_,rfl,kD (s:={ s with heap:=h',toks:=tk }) (n := "range_iterator") g_ rfl rfl (by decide) ⟨.int<|lo+i,H,I1,⟨t,?_⟩,⟨rfl,rfl⟩,g_,fun b hb=>(hf b hb).1⟩⟩;rw[Int.mul_one]
 done:=by
  intro X hP hw hK hc i pins s σ H E I hf st hg;subst hP hw hK;obtain⟨f0,f1,f2,f3,f4,f5⟩:=hf it (by simp);exact wpAny_pyNext_range_end (I.ok.hd hc) st (by have:n<=i:=hg;lia) fun h' eb=>⟨rfl,I.turned (t':=s.toks) (fun b o hb e=>eb b o hb e) f0 f1 f3 f4 f5⟩
 self:=fun _ _ _ _ _ st h=>wpAny_pyIter_rangeiter st h
section
variable{X:Cx}{tg:Expr}
theorem uQ{R:It->Hp->Prop}{lo hi:Int}{t u v:Tok}{tk:Nat}(I:Inv X pins σ H s)(h1 : -(2 ^ 62)<=lo)(h2:lo<2 ^ 62)(h3 : -(2 ^ 62)<=hi)(h4:hi<2 ^ 62)(q:R (KN lo (hi - lo).toNat) H):wpAny (model X.prog X.w) X.A (pyIter<|.ref s.heap.objs.size) (Ng X pins σ tg R) E { s with heap:=s.heap.push { cls:=.type "range",data:=.fields #[.int lo t,.int hi u,.int 1 v] },toks:=tk }:=by
 refine wpAny_pyIter_range (IsRange.new ..) (small_one h1 h2 h3 h4) ?_;have I1:Inv X pins σ H { s with heap:=s.heap.push { cls:=.type "range",data:=.fields #[.int lo t,.int hi u,.int 1 v] },toks:=tk }:=I.kept fun b o e=>Heap.get?_push_of_some _ e;refine⟨(s.heap.push { cls:=.type "range",data:=.fields #[.int lo t,.int hi u,.int 1 v] }).objs.size,[(s.heap.push { cls:=.type "range",data:=.fields #[.int lo t,.int hi u,.int 1 v] }).objs.size],_,_,H,rfl,
  I1.kept (t':=tk) fun b o e=>Heap.get?_push_of_some _ e,uP _ lo (hi - lo).toNat,?_,fun b hb=>?_,q⟩
 ·have e1:lo+((0:Nat):Int) * 1=lo:=by simp
  have e2:(((hi - lo).toNat:Nat):Int) - ((0:Nat):Int)=Builtin.Range.rangeSize lo hi 1:=by rw[rangeSize_one];split<;>lia
  show IsRangeIter _ _ (lo+((0:Nat):Int) * 1) ((((hi - lo).toNat:Nat):Int) - ((0:Nat):Int)) 1;rw[e1,e2];exact Heap.get?_push_size _ rfl
 ·have e:b=(s.heap.push { cls:=.type "range",data:=.fields #[.int lo t,.int hi u,.int 1 v] }).objs.size:=by simpa using hb
  subst e;exact I1.GP (Nat.le_refl _) (I1.l_.fresh<|Nat.le_refl _)
def uR(ta:TA):TI:=fun σ H R=>ta σ H fun vs H1=>∃ j:Int,vs=[.int j] /\ -(2 ^ 62)<=j/\j<2 ^ 62/\R (KN 0 j.toNat) H1
theorem uS{a:Expr}{p:Pos}(hg:Gl X "range")(hm:X.mg "range" = none)(ha:PA X [a] ta)(hs:starEach [a] X.env=[(false,eval a X.env)]:=by rfl):PI X tg (.Call (.Name "range" p) [a] [] pos) (uR ta):=by
 intro pins s σ H R I h;refine Call_ (eU I hg hm boot_range<|PyProof.Rows.callWith_type1 (u_ (ha pos pins s σ H _ I h) fun us s1 ⟨vs,H1,I1,r1,q1⟩=>?_) hs rfl);obtain⟨j,e,q1,q2,q⟩:=q1;subst e;cases r1 with
 | cons r rr=>
  cases rr;obtain⟨t,rfl⟩:=r;exact call_range_1 (uQ I1 (by lia) (by lia) q1 q2 (by simpa using q))
def nF(wi:TI)(g:TG)(tb:TS):TS:=fun D σ H=>wi σ H fun J H1=>∃ W:Nat->Nat->St->Hp->Prop,(∃ m,W 0 m σ H1)/\∀ i m σ H,W i m σ H->
 (J.stop i H/\D.nx σ H)\/(J.go i H/\∃ N:St->Hp->Prop,(∀ σ' H',N σ' H'->∃ m',m'<m/\W (i+1) m' σ' H')/\∀ x H',J.Jy i H x H'->g x σ H' fun σ2 H2=>tb { D with nx:=N,ct:=N,bk:=D.nx } σ2 H2)
def dX(fp:List Addr)(h:Heap):List (Addr×Obj):=fp.filterMap fun b=>(h.get? b).map fun o=>(b,o)
theorem iX{o:Obj}(hb:b∈fp)(e:h.get? b=some o):(b,o)∈dX fp h:=mem_filterMap.mpr ⟨b,hb,by rw[e];rfl⟩
theorem nG{p:Addr×Obj}(hp:p∈dX fp h):p.1∈fp/\h.get? p.1=some p.2:=by
 obtain⟨b,hb,e⟩:=mem_filterMap.mp hp;cases q:h.get? b with
 | none=>rw[q] at e;cases e
 | some o=>
  rw[q] at e;have e':(b,o)=p:=Option.some.inj e;subst e';exact⟨hb,q⟩
theorem Inv.pinned(I:Inv X pins σ H s)(hf:∀ b∈fp,cZ X pins H b)(ho:∀ b∈fp,∃ o,s.heap.get? b=some o/\∀ v,o.data≠.cell v):Inv X (pins++dX fp s.heap) σ H s:=
 I.Dm fun p hp=>(mem_append.mp hp).elim (fun z=>I.pin p<|mem_append_right _ z) fun z=>by
  obtain⟨hb,e⟩:=nG z;obtain⟨f0,f1,f2,_⟩:=hf p.1 hb;obtain⟨o,e',d⟩:=ho p.1 hb;rw[e] at e';cases e';exact⟨e,f0,f1,f2,d⟩
theorem Inv.DZ{pl:List (Addr×Obj)}(I:Inv X (pins++pl) σ H s):Inv X pins σ H s:=I.Dm fun p hp=>I.pin p (mem_append_right _<|mem_append_left _ hp)
theorem uT{iter:Expr}{wi:TI}{g:TG}(hp:PassesOwn (model X.prog X.w) X.A X.env X.xe)(hc:X.calm=true)(hi:PI X tg iter wi)(hg:PG X tg g)(hb:EW X body tb)(hs:∀ x,foldedSetIterable iter X.env x=pure x:=by intro _;rfl):PS X (.For tg iter body [] pos) (nF wi g tb):=by
 intro pins s σ H D I h;refine wpAny_For (u_ (hi pins s σ H _ I h) fun v s1 h1=>u_ h1 fun LC s2 h2=>?_) hs;obtain⟨it,fp,tn,J,H2,e,I2,T,o_,f2,W,⟨m0,w0⟩,turn⟩:=h2;subst e;have HW:∀ {H':Hp},(∀ b∈fp,H' b=none)->∀ b∈fp,cZ X pins H' b:=fun hn b hb=>⟨hn b hb,(f2 b hb).2⟩;refine codeAny_forLoop_any (fun n s'=>∃ i σ' H',Inv X pins σ' H' s'/\tn i s'.heap/\(∀ b∈fp,H' b=none)/\W i n σ' H') ?_ m0 ⟨0,σ,H2,I2,o_,fun b hb=>(f2 b hb).1,w0⟩;rintro n s3 ⟨i,σ3,H3,I3,Dy,JA,w3⟩;rcases turn i n σ3 H3 w3 with ⟨stop,qn⟩ | ⟨go,N,hN,step⟩
 ·refine wpAny_passesOwn hp (u_ (T.done X rfl rfl rfl hc i pins s3 σ3 H3 X.xe I3 (HW JA) Dy stop) fun r s4 ⟨hr,I4⟩=>?_);subst hr;exact wpAny_execs_nil ⟨σ3,H3,I4,qn⟩
 ·refine wpAny_passesOwn hp (u_ (T.item X rfl rfl rfl hc i pins s3 σ3 H3 X.xe I3 (HW JA) Dy go) fun r s4 ⟨u,hr,h4⟩=>?_);subst hr;refine wpAny_passesOwn hp (u_ h4 fun _ s5 ⟨x,H5,I5,r5,y5,DQ,KO⟩=>?_);have LD:=I5.pinned (HW KO) (T.obj _ _ DQ);refine wpAny_passesOwn hp (u_ (hg _ s5 σ3 H5 x u _ LD r5<|step x H5 y5) fun _ s6 ⟨σ6,H6,I6,q6⟩=>?_);refine wpAny_passesOwn hp (u_ (hb _ s6 σ6 H6 _ I6 q6) fun f s7 q7=>?_);have again:∀ {σ7:St}{H7:Hp},Inv X (pins++dX fp s5.heap) σ7 H7 s7->N σ7 H7->∃ m,m<n/\∃ i σ' H',Inv X pins σ' H' s7/\tn i s7.heap/\(∀ b∈fp,H' b=none)/\W i m σ' H':=fun {σ7 H7} I7 n7=>by
   obtain⟨m',hm,w7⟩:=hN σ7 H7 n7;refine⟨m',hm,i+1,σ7,H7,I7.DZ,T.keep _ _ _ DQ fun b hb o e=>(I7.pin (b,o)<|mem_append_right _<|mem_append_right _<|iX hb e).1,fun b hb=>?_,w7⟩;obtain⟨o,e,d⟩:=T.obj _ _ DQ b hb;exact (I7.pin (b,o)<|mem_append_right _<|mem_append_right _<|iX hb e).2.1
  cases f with
  | next=>obtain⟨σ7,H7,I7,n7⟩:=q7;exact again I7 n7
  | cont=>obtain⟨σ7,H7,I7,n7⟩:=q7;exact again I7 n7
  | brk=>obtain⟨σ7,H7,I7,q7⟩:=q7;exact⟨σ7,H7,I7.DZ,q7⟩
  | ret v=>obtain⟨x7,σ7,H7,I7,r7,q7⟩:=q7;exact⟨x7,σ7,H7,I7.DZ,r7,q7⟩
end
abbrev R2:=V->V->Hp->VK->Prop
variable{r' r:R2}
def Dg(X:Cx)(f:Value->Value->Sem Value)(r:R2):Prop:=
 ∀ (pins:List (Addr×Obj)) (s:Shared) (σ:St) (H:Hp) (x y:V) (v u:Value) (Q:VK),Inv X pins σ H s->aq x v->aq y u->r x y H Q->
  wpAny (model X.prog X.w) X.A (f v u) (EP X pins σ Q) X.xe s
def LE(X:Cx)(f:Value->Sem Value)(r:V->Hp->VK->Prop):Prop:=
 ∀ (pins:List (Addr×Obj)) (s:Shared) (σ:St) (H:Hp) (x:V) (v:Value) (Q:VK),Inv X pins σ H s->aq x v->r x H Q->
  wpAny (model X.prog X.w) X.A (f v) (EP X pins σ Q) X.xe s
def aX(X:Cx)(f:Value)(r:List V->Hp->VK->Prop):Prop:=
 ∀ (pins:List (Addr×Obj)) (s:Shared) (σ:St) (H:Hp) (xs:List V) (us:List Value) (Q:VK),Inv X pins σ H s->ak xs us->r xs H Q->
  wpAny (model X.prog X.w) X.A (call f us) (EP X pins σ Q) X.xe s
def uU(X:Cx)(r:V->Hp->(Bool->Hp->Prop)->Prop):Prop:=
 ∀ (pins:List (Addr×Obj)) (s:Shared) (σ:St) (H:Hp) (x:V) (v:Value) (Q:Bool->Hp->Prop),Inv X pins σ H s->aq x v->r x H Q->
  wpAny (model X.prog X.w) X.A (truthy v) (TP X pins σ Q) X.xe s
def KP(r:R2)(ta tb:TE):TE:=fun σ H Q=>ta σ H fun x H1=>tb σ H1 fun y H2=>r x y H2 Q
def Oc(r:V->Hp->VK->Prop)(ta:TE):TE:=fun σ H Q=>ta σ H fun x H1=>r x H1 Q
def rI(C:Int->Int->Prop)(g:Int->Int->V):R2:=fun x y H Q=>∃ i j,x=.int i/\y=.int j/\C i j/\Q (g i j) H
def GQ(g:Int->Int->V):R2:=fun x y H Q=>∃ i j,x=.int i/\y=.int j/\Q (g i j) H
def rU(g:Int->V):V->Hp->VK->Prop:=fun x H Q=>∃ i,x=.int i/\Q (g i) H
section
variable{X:Cx}{a b c:Expr}{ta tb tc:TE}{pos:Pos}
theorem kF(ha:PE X a ta)(hb:PE X b tb){pins:List (Addr×Obj)}{s:Shared}{σ:St}{H:Hp}{R:V->V->Hp->Prop}(I:Inv X pins σ H s)(h:ta σ H fun x H1=>tb σ H1 fun y H2=>R x y H2){Q:Value->Shared->Prop}{f:Value->Value->Sem Value}(hf:∀ v u s2 x y H2,Inv X pins σ H2 s2->aq x v->aq y u->R x y H2->wpAny (model X.prog X.w) X.A (f v u) Q X.xe s2):
  wpAny (model X.prog X.w) X.A (eval a X.env) (fun v s₁=>wpAny (model X.prog X.w) X.A (eval b X.env) (fun u s₂=>wpAny (model X.prog X.w) X.A (f v u) Q X.xe s₂) X.xe s₁) X.xe s:=by
 refine u_ (ha pins s σ H _ I h) fun v s1 ⟨x,H1,I1,r1,q1⟩=>?_;refine u_ (hb pins s1 σ H1 _ I1 q1) fun u s2 ⟨y,H2,I2,r2,q2⟩=>?_;exact hf v u s2 x y H2 I2 r1 r2 q2
theorem uV{op:Operator}(ho:Dg X (binaryOp op) r)(ha:PE X a ta)(hb:PE X b tb):PE X (.BinOp a op b pos) (KP r ta tb):=by
 intro pins s σ H Q I h;exact wpAny_BinOp (kF ha hb I h fun v u s2 x y H2 I2 rx ry q=>ho pins s2 σ H2 x y v u Q I2 rx ry q)
theorem uW{op:UnaryOp}{r:V->Hp->VK->Prop}(ho:LE X (unaryOp op) r)(ha:PE X a ta):PE X (.UnaryOp op a pos) (Oc r ta):=by
 intro pins s σ H Q I h;exact UnaryOp_ (u_ (ha pins s σ H _ I h) fun v s1 ⟨x,H1,I1,r1,q1⟩=>ho pins s1 σ H1 x v Q I1 r1 q1)
theorem KQ{C:Int->Int->Prop}(rule:∀ (i j:Int) (t u:Tok) (s:Shared) (Q:Value->Shared->Prop) (E:Value->Shared->Prop),C i j->Q (.int (g i j) s.toks) { s with toks:=s.toks+1 }->wpAny (model X.prog X.w) X.A (f (.int i t)<|.int j u) Q E s):
  Dg X f (rI C fun i j=>.int<|g i j):=by
 intro pins s σ H x y v u Q I rx ry h;obtain⟨i,j,rfl,rfl,hc,q⟩:=h;obtain⟨t,rfl⟩:=rx;obtain⟨t',rfl⟩:=ry;exact rule i j t t' s _ _ hc ⟨.int<|g i j,H,I.tok _,⟨_,rfl⟩,q⟩
theorem nH(rule:∀ (i j:Int) (t u:Tok) (s:Shared) (Q:Value->Shared->Prop) (E:Value->Shared->Prop),Q (.int (g i j) s.toks) { s with toks:=s.toks+1 }->wpAny (model X.prog X.w) X.A (f (.int i t)<|.int j u) Q E s):
  Dg X f (GQ fun i j=>.int<|g i j):=by
 intro pins s σ H x y v u Q I rx ry h;obtain⟨i,j,rfl,rfl,q⟩:=h;obtain⟨t,rfl⟩:=rx;obtain⟨t',rfl⟩:=ry;exact rule i j t t' s _ _ ⟨.int<|g i j,H,I.tok _,⟨_,rfl⟩,q⟩
theorem iY{g:Int->Int->Bool}(rule:∀ (i j:Int) (t u:Tok) (s:Shared) (Q:Value->Shared->Prop) (E:Value->Shared->Prop),Q (.bool<|g i j) s->wpAny (model X.prog X.w) X.A (f (.int i t)<|.int j u) Q E s):
  Dg X f (GQ fun i j=>.bl<|g i j):=by
 intro pins s σ H x y v u Q I rx ry h;obtain⟨i,j,rfl,rfl,q⟩:=h;obtain⟨t,rfl⟩:=rx;obtain⟨t',rfl⟩:=ry;exact rule i j t t' s _ _ ⟨.bl<|g i j,H,I,rfl,q⟩
def uX(i j:Int):Prop:=0<j/\j<1073741824
def uY(i j:Int):Prop:=0<=j/\j<=1000000/\i.natAbs<2 ^ 64
theorem uZ:Dg X (binaryOp .Add) (GQ fun i j=>.int<|i+j):=nH fun _ _ _ _ _ _ _ q=>add_int q
theorem u0:Dg X (binaryOp .Sub) (GQ fun i j=>.int<|i - j):=nH fun _ _ _ _ _ _ _ q=>sub_int q
theorem u3:Dg X (binaryOp .FloorDiv) (rI uX fun i j=>.int<|i / j):=KQ fun i j _ _ _ _ _ hc q=>by
 have h1:(0:Int)<j:=hc.1;have h2:j<1073741824:=hc.2;exact floordiv_int (by lia) (by rw[Int.fdiv_eq_ediv_of_nonneg i (by lia)];exact q) (.inl (PyProof.noPylong_small (by lia)))
theorem u4:Dg X (binaryOp .Mod) (rI (fun _ j=>0<j) fun i j=>.int<|i % j):=KQ fun i j _ _ _ _ _ hc q=>by
 have h1:(0:Int)<j:=hc;exact mod_int' (by lia) (by rw[Int.fmod_eq_emod_of_nonneg i (by lia)];exact q)
theorem u5:Dg X (binaryOp .Pow) (rI uY fun i j=>.int<|i ^ j.toNat):=KQ fun _ _ _ _ _ _ _ hc q=>pow_int_small hc.1 hc.2.1 hc.2.2 q
theorem Od{f:Value->Sem Value}{g:Int->Int}(rule:∀ (i:Int) (t:Tok) (s:Shared) (Q:Value->Shared->Prop) (E:Value->Shared->Prop),Q (.int (g i) s.toks) { s with toks:=s.toks+1 }->wpAny (model X.prog X.w) X.A (f<|.int i t) Q E s):
  LE X f (rU fun i=>.int<|g i):=by
 intro pins s σ H x v Q I rx h;obtain⟨i,rfl,q⟩:=h;obtain⟨t,rfl⟩:=rx;exact rule i t s _ _ ⟨.int<|g i,H,I.tok _,⟨_,rfl⟩,q⟩
theorem u6:LE X (unaryOp .USub) (rU fun i=>.int<|-i):=Od fun _ _ _ _ _ q=>neg_int q
end
section
variable{X:Cx}{a b c:Expr}{ta tb tc:TE}{pos:Pos}
theorem nJ{Q:VK}{k k':Bool}(I:Inv X pins σ H s)(q:Q (.bl k) H)(e:k=k'):EP X pins σ Q (.bool k') s:=by
 subst e;exact⟨.bl k,H,I,rfl,q⟩
theorem u8:Dg X (compareOp .Lt) (GQ fun i j=>.bl<|decide (i<j)):=iY fun _ _ _ _ _ _ _ q=>lt_int q
theorem u9:Dg X (compareOp .LtE) (GQ fun i j=>.bl<|decide (i<=j)):=iY fun _ _ _ _ _ _ _ q=>le_int q
theorem va:Dg X (compareOp .Gt) (GQ fun i j=>.bl<|decide (j<i)):=iY fun _ _ _ _ _ _ _ q=>gt_int q
theorem vb:Dg X (compareOp .GtE) (GQ fun i j=>.bl<|decide (j<=i)):=iY fun _ _ _ _ _ _ _ q=>ge_int q
theorem vc:Dg X (compareOp .Is) (fun x y H Q=>y=.j_/\Q (.bl<|decide (x=.j_)) H):=by
 intro pins s σ H x y v u Q I rx ry h;obtain⟨rfl,q⟩:=h;cases ry;refine is_none_gen (nJ I q ?_);cases x<;>first
  | (cases rx;rfl)
  | (obtain⟨t,rfl⟩:=rx;rfl)
theorem vd:Dg X (compareOp .IsNot) (fun x y H Q=>y=.j_/\Q (.bl<|!decide (x=.j_)) H):=by
 intro pins s σ H x y v u Q I rx ry h;obtain⟨rfl,q⟩:=h;cases ry;refine isnot_none_gen (nJ I q ?_);cases x<;>first
  | (cases rx;rfl)
  | (obtain⟨t,rfl⟩:=rx;rfl)
theorem Dg.or(h:Dg X f r)(h':Dg X f r'):Dg X f (fun x y H Q=>r x y H Q\/r' x y H Q):=by
 intro pins s σ H x y v u Q I rx ry q;rcases q with q | q
 ·exact h pins s σ H x y v u Q I rx ry q
 ·exact h' pins s σ H x y v u Q I rx ry q
theorem a9(b:Expr){op:CmpOp}(h:op≠.In:=by decide)(h2:op≠.NotIn:=by decide):behindInMarks op b=false:=by
 have e1:(op == CmpOp.In)=false:=by cases op<;>first | rfl | exact absurd rfl h
 have e2:(op == CmpOp.NotIn)=false:=by cases op<;>first | rfl | exact absurd rfl h2
 cases b<;>simp[behindInMarks,e1,e2]
theorem ve(ho:Dg X (compareOp op) r)(ha:PE X a ta)(hb:PE X b tb)(hm:behindInMarks op b=false):PE X (.Compare a [op] [b] pos) (KP r ta tb):=by
 intro pins s σ H Q I h;exact wpAny_Compare1 (kF ha hb I h fun v u s2 x y H2 I2 rx ry q=>ho pins s2 σ H2 x y v u Q I2 rx ry q) hm
def vf(t:TE):TT:=fun σ H Q=>t σ H fun x H'=>∃ k,x=.bl k/\Q k H'
theorem vg(ho:Dg X (compareOp op) r)(ha:PE X a ta)(hb:PE X b tb)(hm:behindInMarks op b=false):PT X (.Compare a [op] [b] pos) (vf<|KP r ta tb):=by
 intro pins s σ H Q I h;refine wpAny_isTrue_Compare1 (u_ (ha pins s σ H _ I h) fun v s1 ⟨x,H1,I1,r1,q1⟩=>u_ (hb pins s1 σ H1 _ I1 q1) fun u s2 ⟨y,H2,I2,r2,q2⟩=>
  u_ (ho pins s2 σ H2 x y v u _ I2 r1 r2 q2) fun c s3 ⟨z,H3,I3,r3,k,e,q3⟩=>?_) hm;subst e;cases r3;exact wpAny_truthy_bool ⟨H3,I3,q3⟩
def nK(r r':R2)(ta tb tc:TE):TE:=fun σ H Q=>ta σ H fun x H1=>tb σ H1 fun y H2=>r x y H2 fun z H3=>∃ k,z=.bl k/\
 (if k=true then tc σ H3 fun w' H4=>r' y w' H4 Q else Q (.bl false) H3)
theorem vh{HX:CmpOp}(ho:Dg X (compareOp op) r)(FU:Dg X (compareOp HX) r')(ha:PE X a ta)(hb:PE X b tb)(hc:PE X c tc)(hm:lastMarks [op,HX] [b,c]=false:=by with_unfolding_all rfl):PE X (.Compare a [op,HX] [b,c] pos) (nK r r' ta tb tc):=by
 intro pins s σ H Q I h;refine Compare_chain (u_ (ha pins s σ H _ I h) fun v s1 ⟨x,H1,I1,r1,q1⟩=>chain_link (u_ (hb pins s1 σ H1 _ I1 q1) fun u s2 ⟨y,H2,I2,r2,q2⟩=>
  u_ (ho pins s2 σ H2 x y v u _ I2 r1 r2 q2) fun d s3 ⟨z,H3,I3,r3,k,e,q3⟩=>?_)) hm;subst e;cases r3;refine wpAny_truthy_bool ?_;cases k with
 | false=>exact ite_ff ⟨.bl false,H3,I3,rfl,q3⟩
 | true=>exact ite_tt (chain_last<|u_ (hc pins s3 σ H3 _ I3 q3) fun w' s4 ⟨z',H4,I4,r4,q4⟩=>FU pins s4 σ H4 y z' u w' Q I4 r2 r4 q4)
def kG(K:PySem.W.Frag)(x:V)(H:Hp)(k:Bool):Prop:=
 match x with
 | .j_=>k=false
 | .bl b=>k=b
 | .int i=>k=(i != 0)
 | .str y=>y.length<=sizeLine/\k=((y.length:Int) != 0)
 | .Jo y=>y.size<=sizeLine/\k=((y.size:Int) != 0)
 | .ref p=>(∃ xs,CT K H p xs/\k=!xs.isEmpty)\/(∃ xs,A_ K H p xs/\k=!xs.isEmpty)\/∃ kvs,H p=some (.dK kvs)/\k=!kvs.isEmpty
 | _=>False
theorem vj{κ:Type}{kvs:List (κ×V)}{vs:List (κ×Value)}(r:KV kvs vs):(!vs.isEmpty)=!kvs.isEmpty:=by
 cases r<;>rfl
theorem nL{f_:List Value}(r:ak xs f_):(!f_.toArray.isEmpty)=!xs.isEmpty:=by
 cases r<;>simp
theorem fM:(sizeLine:Nat)<2 ^ 63:=by rw[sizeLine_eq];decide
theorem vk:uU X (fun x H Q=>∃ k,kG X.K x H k/\Q k H):=by
 intro pins s σ H x v Q I rx h;obtain⟨k,e,q⟩:=h;have hl:=fM;have hs:sizeLine=16777216:=sizeLine_eq;cases x with
 | j_=>
  cases rx;have e':k=false:=e;subst e';exact truthy_none ⟨H,I,q⟩
 | bl b=>
  cases rx;have e':k=b:=e;subst e';exact wpAny_truthy_bool ⟨H,I,q⟩
 | int i=>
  obtain⟨t,rfl⟩:=rx;have e':k=(i != 0):=e;subst e';exact PySem.P.truthy_int ⟨H,I,q⟩
 | str y=>
  obtain⟨t,rfl⟩:=rx;obtain⟨hy,e'⟩:y.length<=sizeLine/\k=((y.length:Int) != 0):=e;subst e';exact PySem.P.truthy_str (by lia) ⟨H,I.tok _,q⟩
 | Jo y=>
  obtain⟨t,rfl⟩:=rx;obtain⟨hy,e'⟩:y.size<=sizeLine/\k=((y.size:Int) != 0):=e;subst e';exact PySem.W.truthy_bytes (by lia) ⟨H,I.tok _,q⟩
 | ref p=>
  cases rx;have e':(∃ xs,CT X.K H p xs/\k=!xs.isEmpty)\/(∃ xs,A_ X.K H p xs/\k=!xs.isEmpty)\/∃ kvs,H p=some (.dK kvs)/\k=!kvs.isEmpty:=e;rcases e' with ⟨xs,hx,e'⟩ | ⟨xs,hx,e'⟩ | ⟨kvs,hx,e'⟩
  ·subst e';obtain⟨f_,r,pl,hz⟩:=I.list hx;have hlen:=r.length;exact wpAny_truthy_list pl.isList (by simp only[size_toArray];lia) ⟨H,I.tok _,by rw[nL r];exact q⟩
  ·subst e';obtain⟨f_,r,pl,hz⟩:=I.tuple hx;have hlen:=r.length;exact truthy_tuple pl (by simp only[size_toArray];lia) ⟨H,I.tok _,by rw[nL r];exact q⟩
  ·subst e';obtain⟨hz,hS,vs,r,m⟩:kvs.length<=sizeLine/\(p == sysModules)=false/\∃ vs,KV kvs vs/\s.heap.DictOf (dW X.prog X.w) p vs:=I.l_ p _ hx;have hlen:kvs.length=vs.length:=Paired.length r;exact wpAny_truthy_dict hS m (by lia) ⟨H,I.tok _,by rw[vj r];exact q⟩
 | _=>exact (show False from e).elim
theorem vm(ha:PE X a ta)(he:∀ whole,isTrue a X.env whole=(do let v <- whole;standAt a.pos;holding [v] (truthy v))):
  PT X a (fun σ H Q=>ta σ H fun x H'=>∃ k,kG X.K x H' k/\Q k H'):=by
 intro pins s σ H Q I h;exact isTrue_plain (u_ (ha pins s σ H _ I h) fun v s1 ⟨x,H1,I1,r1,q1⟩=>vk pins s1 σ H1 x v Q I1 r1 q1) (he _)
theorem vn:Dg X (binaryOp .Add) (fun x y H Q=>∃ i j,x=.str i/\y=.str j/\i.length+j.length<=sizeLine/\Q (.str<|i++j) H):=by
 intro pins s σ H x y v u Q I rx ry h;obtain⟨i,j,rfl,rfl,hz,q⟩:=h;obtain⟨t,rfl⟩:=rx;obtain⟨t',rfl⟩:=ry;exact add_str (fun t' tk=>⟨.str<|i++j,H,I.tok _,⟨_,rfl⟩,q⟩) hz
theorem ci{x:V}(r:ak [x] us):∃ u,us=[u]/\aq x u:=by
 cases r with
 | cons r1 r2=>cases r2;exact⟨_,rfl,r1⟩
theorem nM{x:V}(r:ak [x,y] us):∃ u w',us=[u,w']/\aq x u/\aq y w':=by
 cases r with
 | cons r1 r2=>
  cases r2 with
  | cons r3 r4=>cases r4;exact⟨_,_,rfl,r1,r3⟩
theorem vo:aX X (.builtin "abs") (fun xs H Q=>∃ i,xs=[.int i]/\Q (.int<|if i<0 then -i else i) H):=by
 intro pins s σ H xs us Q I r h;obtain⟨i,rfl,q⟩:=h;obtain⟨u,rfl,t,rfl⟩:=ci r;exact call_abs_int fun u tk=>⟨.int<|if i<0 then -i else i,H,I.tok _,⟨_,rfl⟩,q⟩
theorem vp(hc:X.calm=true):aX X (.builtin "max") (fun xs H Q=>∃ i j,xs=[.int i,.int j]/\Q (.int<|if j > i then j else i) H):=by
 intro pins s σ H xs us Q I r h;obtain⟨i,j,rfl,q⟩:=h;obtain⟨u,w',rfl,⟨t,rfl⟩,⟨t',rfl⟩⟩:=nM r;refine max_two_ints (I.ok.hd hc) fun h' tk k=>⟨_,H,I.kept k,?_,q⟩;by_cases hj:j > i
 ·rw[if_pos hj,if_pos hj];exact⟨_,rfl⟩
 ·rw[if_neg hj,if_neg hj];exact⟨_,rfl⟩
theorem vq(hc:X.calm=true):aX X (.builtin "min") (fun xs H Q=>∃ i j,xs=[.int i,.int j]/\Q (.int<|if j<i then j else i) H):=by
 intro pins s σ H xs us Q I r h;obtain⟨i,j,rfl,q⟩:=h;obtain⟨u,w',rfl,⟨t,rfl⟩,⟨t',rfl⟩⟩:=nM r;refine min_two_ints (I.ok.hd hc) fun h' tk k=>⟨_,H,I.kept k,?_,q⟩;by_cases hj:j<i
 ·rw[if_pos hj,if_pos hj];exact⟨_,rfl⟩
 ·rw[if_neg hj,if_neg hj];exact⟨_,rfl⟩
theorem vw:aX X (.type "int") (fun xs H Q=>(∃ i,xs=[.int i]/\Q (.int i) H)\/∃ k,xs=[.bl k]/\Q (.int<|if k then 1 else 0) H):=by
 intro pins s σ H xs us Q I r h;rcases h with ⟨i,rfl,q⟩ | ⟨k,rfl,q⟩
 ·obtain⟨u,rfl,t,rfl⟩:=ci r;exact call_int_int ⟨.int i,H,I,⟨_,rfl⟩,q⟩
 ·obtain⟨u,rfl,r1⟩:=ci r;cases r1;exact call_int_bool ⟨.int<|if k then 1 else 0,H,I.tok _,⟨_,rfl⟩,q⟩
end
section
variable{prog:Program}{w:World}{A:Around}{E:Value->Shared->Prop}{s:Shared}{K:PySem.W.Frag}{x dx C f:Addr}{mA:Str->Option Value}{name:Str}{v:Value}
end
theorem dg.some_of{o:Option Value}(r:dg (some v) o):∃ u,o=some u/\aq v u:=by
 cases o with
 | none=>exact (show False from r).elim
 | some u=>exact⟨u,rfl,r⟩
section
variable{P:Program}{w:World}{H H':Hp}{h h':Heap}{a C dx:Addr}{fs Oa:List (Str×V)}
end
section
variable{X:Cx}{pins:List (Addr×Obj)}{σ:St}{H:Hp}{s:Shared}{a C dx:Addr}{fs:List (Str×V)}{f:Str}{v:V}{A:Around}{E:Value->Shared->Prop}
end
section
variable{X:Cx}{o e value:Expr}{f:Str}{pos pos' LF:Pos}{ta tv:TE}
end
section
variable{X:Cx}{pins:List (Addr×Obj)}{σ:St}{H:Hp}{s:Shared}{A:Around}{E:Value->Shared->Prop}{Q:Value->Shared->Prop}{c:Value}{b:Bool}
end
structure CM(k:Nat)(A:Around):Prop where
 hd:A.handled=none
 dp:A.depth+3 * k+5<recursionLimit
 un:A.units+16 * k+200<cLine
 gd:A.guards=some []
theorem CM.mono(r:CM k A)(h:j<=k):CM j A:=⟨r.hd,by have:=r.dp;lia,by have:=r.un;lia,r.gd⟩
theorem CM.deeper(r:CM (k+1) A)(env:Env):CM k (A.deeper env):=
 ⟨r.hd,by have:=r.dp;show A.depth+1+3 * k+5 < _;lia,by have:=r.un;show A.units+3+16 * k+200 < _;lia,r.gd⟩
theorem CM.depth(r:CM k A):A.depth<recursionLimit:=by have:=r.dp;lia
def LG:TA:=fun _ H Q=>Q [] H
def vx(ta:TE)(tr:TA):TA:=fun σ H Q=>ta σ H fun x H1=>tr σ H1 fun xs H2=>Q (x::xs) H2
section
variable{X:Cx}{e:Expr}{es:List Expr}{te:TE}{t:TA}{pos:Pos}
theorem nN:PA X [] LG:=fun _ _ _ _ H Q I h=>Calls.spliced_nil ⟨[],H,I,.nil,h⟩
theorem kJ(ha:PE X e te)(hr:PA X es t)(hs:starEach (e::es) X.env=(false,eval e X.env)::starEach es X.env:=by rfl):PA X (e::es) (vx te t):=by
 intro pos pins s σ H Q I h;rw[hs];show wpAny _ _ (spliced ((false,eval e X.env)::backTo pos (starEach es X.env))) _ _ s;refine Calls.spliced_cons (u_ (ha pins s σ H _ I h) fun u s1 ⟨x,H1,I1,r1,q1⟩=>?_);exact u_ (hr pos pins s1 σ H1 _ I1 q1) fun us s2 ⟨xs,H2,I2,r2,q2⟩=>⟨x::xs,H2,I2,.cons r1 r2,q2⟩
def vy(t:TA):TE:=fun σ H Q=>t σ H fun xs H1=>xs.length<=sizeLine/\∀ p,H1 p=none->Q (.ref p) (upd H1 p<|.tup xs)
def vz(t:TA):TE:=fun σ H Q=>t σ H fun xs H1=>xs.length<=sizeLine/\∀ p,H1 p=none->Q (.ref p) (upd H1 p<|.lst xs)
theorem vA{x1}(h:PA X es t):PE X (.Tuple es x1 pos) (vy t):=by
 intro pins s σ H Q I hq;refine wpAny_Tuple_spliced (u_ (h pos pins s σ H _ I hq) fun us s1 ⟨xs,H1,I1,r,z,q⟩=>⟨by rw[<- r.length];exact z,?_⟩);have hf:H1 s1.heap.objs.size=none:=I1.l_.fresh (Nat.le_refl _);refine⟨.ref s1.heap.objs.size,upd H1 s1.heap.objs.size<|.tup xs,I1.laid (t':=s1.toks) (fun b u e=>Heap.get?_push_of_some _ e) (Nat.le_refl _) ?_,rfl,q _ hf⟩;exact⟨z,us,r,⟨_,Heap.get?_push_size _ rfl,rfl,_,rfl⟩⟩
theorem vB(h:PA X es t):PE X (.List es pos) (vz t):=by
 intro pins s σ H Q I hq;refine wpAny_List_spliced (u_ (h pos pins s σ H _ I hq) fun us s1 ⟨xs,H1,I1,r,z,q⟩=>⟨by rw[<- r.length];exact z,?_⟩);have hf:H1 s1.heap.objs.size=none:=I1.l_.fresh (Nat.le_refl _);refine⟨.ref s1.heap.objs.size,upd H1 s1.heap.objs.size<|.lst xs,I1.laid (t':=s1.toks) (fun b u e=>Heap.get?_push_of_some _ e) (Nat.le_refl _) ?_,rfl,q _ hf⟩;exact⟨z,us,0,r,Heap.get?_push_size _ rfl⟩
end
abbrev Sp:=List V->Hp->VK->XK->Prop
abbrev FX:=List Env->Hp->Shared->XK->Value->Shared->Prop
variable{CX:FX}
structure GR(P:Program)(w:World)(K:PySem.W.Frag)(mg:Str->Option Value)(base:Heap)(A:Around)(outer:List Env)(s:Shared)(H:Hp):Prop where
 frames:A.frames=some outer
 mod:Mod K mg base
 bs:∀ b o,base.get? b=some o->s.heap.get? b=some o/\H b=none
 GN:base.objs.size<=s.heap.objs.size
 DF:s.heap.FunFrames base outer
 HP:∀ b∈Fd outer,H b=none
 l_:Dt P w H s.heap
 bare:AllBare s.gens
def CE(outer:List Env)(P:Program)(w:World)(H:Hp)(s:Shared)(Q:VK)(u:Value)(s':Shared):Prop:=
 ∃ v H',s'.os=s.os/\AllBare s'.gens/\Un (Fd outer) [] H H' s.heap s'.heap/\Dt P w H' s'.heap/\aq v u/\Q v H'
def CR(CX:FX)(outer:List Env)(P:Program)(w:World)(H:Hp)(s:Shared)(Q:VK)(E:XK)(r:Result)(s':Shared):Prop:=
 match r with
 | .ok (.ret u)=>CE outer P w H s Q u s'
 | .ok _=>False
 | .error e=>CX outer H s E e s'
structure Dw(P:Program)(w:World)(K:PySem.W.Frag)(mg:Str->Option Value)(base:Heap)(CX:FX)(k:Nat)(f:Addr)(fd:FuncData)(ps:List Str)(sp:Sp):Prop where
 len:∀ vs H Q E,sp vs H Q E->vs.length=ps.length
 run:∀ (A:Around) (outer:List Env) (s:Shared) (H:Hp) (args:Args) (us:List Value) (vs:List V) (Q:VK) (E:XK),CM k A->GR P w K mg base A outer s H->BindsTo s fd args (ps.zip us)->ak vs us->sp vs H Q E->
  codeAny (model P w) A (.call (.ref f) args) (CR CX outer P w H s Q E) s
section
variable{X:Cx}{pins:List (Addr×Obj)}{σ:St}{H:Hp}{s s':Shared}
theorem Inv.LI(I:Inv X pins σ H s):GR X.prog X.w X.K X.mg X.base X.A X.stack s H:=
 ⟨I.ok.frames,I.ok.mod,I.bs,Nat.le_trans I.ok.GN I.sz,I.stack,I.Fe,I.l_,I.bare⟩
theorem Inv.after{Q:VK}(I:Inv X pins σ H s)(h:CE X.stack X.prog X.w H s Q u s'):EP X pins σ Q u s':=by
 obtain⟨v,H',os,bare,un,l_,r,q⟩:=h;obtain⟨hh,g,d,t,Oe⟩:=s';obtain rfl:Oe=s.os:=os;exact⟨v,H',I.call (h':=hh) (g':=g) (d':=d) (t':=t) (ch:=[]) un l_ bare (fun b z=>absurd z (by simp)),r,q⟩
end
def kK(sp:Sp)(FY:List V)(E:XK)(t:TA):TE:=fun σ H Q=>t σ H fun vs H1=>sp (vs++FY) H1 Q E
def cP(K:PySem.W.Frag)(fd:FuncData)(ps:List Str)(ds:List Value):Prop:=
 ∀ (s:Shared) (us:List Value),K.In s.heap->(us++ds).length=ps.length->BindsTo s fd ⟨us,[]⟩ (ps.zip<|us++ds)
theorem cP.all{fd:FuncData}(h:∀ us:List Value,us.length=ps.length->bindArgs fd ⟨us,[]⟩=pure (ps.zip us)):cP K fd ps []:=fun s us _ hl=>by
 rw[append_nil] at hl ⊢;exact .of_eq (h us hl)
def i7(CX:FX)(X:Cx)(E:XK):Prop:=∀ (pins:List (Addr×Obj)) (σ:St) (H:Hp) (s:Shared) (e:Value) (s':Shared),Inv X pins σ H s->CX X.stack H s E e s'->X.xe e s'
section
variable{X:Cx}{CX:FX}{k:Nat}{f C:Addr}{fd:FuncData}{ps:List Str}{sp:Sp}{FY:List V}{ds:List Value}{E:XK}{x m:Str}{p pos apos:Pos}{e o:Expr}{es:List Expr}{ta:TE}{t:TA}
theorem nO{Q:VK}(F:Dw X.prog X.w X.K X.mg X.base CX k f fd ps sp)(hr:CM k X.A)(hb:cP X.K fd ps ds)(hd:ak FY ds)(hx:i7 CX X E)(I:Inv X pins σ H s)(r:ak vs us)(h:sp (vs++FY) H Q E):wpAny (model X.prog X.w) X.A (call (.ref f) us) (EP X pins σ Q) X.xe s:=by
 have r2:ak (vs++FY) (us++ds):=r.append hd;have hl:(us++ds).length=ps.length:=by rw[<- r2.length];exact F.len _ _ _ _ h
 refine wpAny_call (codeAny_mono (F.run X.A X.stack s H ⟨us,[]⟩ (us++ds) (vs++FY) Q E hr I.LI (hb s us I.HQ hl) r2 h) fun r s' hq=>?_);cases r with
 | error e=>exact hx pins σ H s e s' I hq
 | ok fl=>
  cases fl with
  | ret u=>exact I.after hq
  | next=>exact False.elim hq
  | brk=>exact False.elim hq
  | cont=>exact False.elim hq
theorem vC(F:Dw X.prog X.w X.K X.mg X.base CX k f fd ps sp)(hr:CM k X.A)(hg:Gl X x)(hm:X.mg x=some (.ref f))(hk:PySem.W.keepIn X.K (.ref f)=true)(hb:cP X.K fd ps ds)(hd:ak FY ds)(hx:i7 CX X E)(ha:PA X (e::es) t)(Fv:(x == ("__debug__" : Str))=false:=by decide)(he:starEach (e::es) X.env=(false,eval e X.env)::starEach es X.env:=by rfl)(Eh:(backTo pos<|starEach es X.env).any (·.1)=false:=by rfl):
  PE X (.Call (.Name x p) (e::es) [] pos) (kK sp FY E t):=by
 intro pins s σ H Q I h;refine wpAny_Call_Name_kw (nw I hg hm ?_ Fv);refine PySem.W.callWith_K (h₀:=X.base) I.ok.mod.KI hk (u_ (ha pos pins s σ H _ I h) fun us s1 ⟨vs,H1,I1,r,q⟩=>⟨I1.HQ,?_⟩) he Eh;exact nO F hr hb hd hx I1 r q
end
section
variable{X:Cx}{CX:FX}{k:Nat}{f C:Addr}{fd:FuncData}{ps ks:List Str}{sp:Sp}{E:XK}{x m:Str}{p pos apos Of:Pos}{e o:Expr}{es:List Expr}{Dh:List Keyword}{te ta:TE}{t tk:TA}{nm:Option Str}
variable{g:List Value->List Value->List Value}{gV:List V->List V->List V}
end
structure k_(N P:List Str)(sc:Scope):Prop where
 kind:sc.kind=.function
 co:sc.isCoroutine=false
 gen:sc.isGenerator=false
 nd:N.Nodup
 pre:N.take P.length=P
 par:∀ x∈P,sc.names.lookup x=some .local\/sc.names.lookup x=some .cell
 HY:∀ y∈sc.names,y.2≠.free
theorem nP{kindOf:Str->Option NameKind}{x:Str}:∀ {binds:List (Str×Value)}{m:Str->Option Value},(∀ v,(x,v)∉binds)->bindL kindOf binds m x=m x
 | [],_,_=>rfl
 | (n,v)::r,m,h=>by
  unfold bindL;rw[nP fun w hw=>h w<|mem_cons_of_mem _ hw];split
  ·have:x≠n:=by rintro rfl;exact h v mem_cons_self
   simp[this]
  ·rfl
theorem nQ{kindOf:Str->Option NameKind}{x:Str}:∀ {binds:List (Str×Value)}{m:Str->Option Value},(∀ v,(x,v)∉binds)->bindC kindOf binds m x=m x
 | [],_,_=>rfl
 | (n,v)::r,m,h=>by
  unfold bindC;rw[nQ fun w hw=>h w<|mem_cons_of_mem _ hw];split
  ·rfl
  ·have:x≠n:=by rintro rfl;exact h v mem_cons_self
   simp[this]
theorem nR{kindOf:Str->Option NameKind}{x:Str}{v:Value}:∀ {P:List Str}{vs:List Value}{i:Nat}{m:Str->Option Value},P.Nodup->P[i]?=some x->vs[i]?=some v->kindOf x=some .local->
  bindL kindOf (P.zip vs) m x=some v
 | [],_,_,_,_,h,_,_=>by simp at h
 | _::_,[],_,_,_,_,h,_=>by simp at h
 | p::P,w::vs,0,m,nd,h1,h2,hk=>by
  simp at h1 h2;subst h1;subst h2;show bindL kindOf ((p,w)::P.zip vs) m p=_;unfold bindL;rw[nP fun v hv=>(nodup_cons.mp nd).1 (of_mem_zip hv).1,if_pos hk];simp
 | p::P,w::vs,i+1,m,nd,h1,h2,hk=>by
  show bindL kindOf ((p,w)::P.zip vs) m x=_;unfold bindL;exact nR (i:=i) (nodup_cons.mp nd).2 (by simpa using h1) (by simpa using h2) hk
theorem nS{kindOf:Str->Option NameKind}{x:Str}{v:Value}:∀ {P:List Str}{vs:List Value}{i:Nat}{m:Str->Option Value},P.Nodup->P[i]?=some x->vs[i]?=some v->kindOf x≠some .local->
  bindC kindOf (P.zip vs) m x=some v
 | [],_,_,_,_,h,_,_=>by simp at h
 | _::_,[],_,_,_,_,h,_=>by simp at h
 | p::P,w::vs,0,m,nd,h1,h2,hk=>by
  simp at h1 h2;subst h1;subst h2;show bindC kindOf ((p,w)::P.zip vs) m p=_;unfold bindC;rw[nQ fun v hv=>(nodup_cons.mp nd).1 (of_mem_zip hv).1,if_neg hk];simp
 | p::P,w::vs,i+1,m,nd,h1,h2,hk=>by
  show bindC kindOf ((p,w)::P.zip vs) m x=_;unfold bindC;exact nS (i:=i) (nodup_cons.mp nd).2 (by simpa using h1) (by simpa using h2) hk
def dh(N:List Str)(vs:List V):St:=vs.map some++List.replicate (N.length - vs.length) none
def dY(CX:FX)(P:Program)(w:World)(K:PySem.W.Frag)(mg:Str->Option Value)(base:Heap)(N:List Str)(qual:Str)(scope:Scope)(f:Addr)(cd:Value)(A:Around)(outer:List Env)(s:Shared)(H:Hp)(E:XK):Cx where
 prog:=P
 w:=w
 K:=K
 mg:=mg
 base:=base
 A:=A.deeper (envOfC qual scope s.heap.objs.size f cd)
 N:=N
 s₀:=s
 H₀:=H
 env:=envOfC qual scope s.heap.objs.size f cd
 outer:=outer
 stack:=envOfC qual scope s.heap.objs.size f cd::outer
 ex:=[]
 calm:=true
 fn:=fun _=>true
 pn:=[]
 xe:=fun e s'=>wpAny (model P w) (A.deeper<|envOfC qual scope s.heap.objs.size f cd) (leaving (envOfC qual scope s.heap.objs.size f cd) e) (fun _ LJ=>CX outer H s E e LJ) (fun e' LJ=>CX outer H s E e' LJ) s'
theorem nU{sc:Scope}(h:sc.names.lookup x=some .cell):∃ c,(cellsFrom n sc.names []).lookup x=some c:=by
 have q:=PySem.W.cellsFrom_some sc.names n [] (.inl h);exact Option.isSome_iff_exists.mp q
theorem vD{f:Addr}{cd:Value}{outer:List Env}{s1:Shared}{E:XK}(S:k_ N ps scope)(hd:A.handled=none)(e0:GR P w K mg base A outer s H)(hl:vs.length=ps.length)(r:ak vs us)(x:InCallC s s.heap.objs.size (bindL (envOfC qual scope s.heap.objs.size f cd).kindOf (ps.zip us) fun _=>none) (cellsFrom (s.heap.objs.size+1) scope.names []) (bindC (envOfC qual scope s.heap.objs.size f cd).kindOf (ps.zip us) fun _=>none) s1):
  Inv (dY CX P w K mg base N qual scope f cd A outer s H E) [] (dh N vs) H s1:=by
 have Eh:ps.length<=N.length:=by have:=congrArg List.length S.pre;rw[length_take] at this;lia
 obtain⟨h1,tk,rfl,hk⟩:=x.done;have JB:∀ b:Addr,b∉(dY CX P w K mg base N qual scope f cd A outer s H E).ex:=fun b z=>absurd (show b∈([]:List Addr) from z) (by simp);refine⟨⟨e0.mod,S.kind,rfl,rfl,Nat.le_refl _,fun y z c h1 h2=>?_,fun y hy=>?_,fun y c _ h=>?_,fun _=>hd,Around.frames_deeper e0.frames,.inr ⟨rfl,rfl⟩,fun b z=>absurd z<|JB b,e0.bs,e0.GN,fun b _ _=>JB b,fun b z=>absurd z<|JB b,e0.DF,e0.HP⟩,
  rfl,e0.bare,Un.kept hk,⟨_,x.toInCall.ns,fun i y v h1 h2 h3=>?_⟩,fun y c h=>⟨_,x.cell y c h⟩,e0.l_.fresh<|Nat.le_refl _,fun y c h=>?_,fun p hp=>absurd (show p∈([]:List (Addr×Obj)) from hp) (by simp),e0.l_.kept hk,?_⟩
 ·exact name_of_addr x.apart (PySem.mem_of_lookup h1) (PySem.mem_of_lookup h2)
 ·have hy:scope.names.lookup y=some .cell\/scope.names.lookup y=some .free:=hy;rcases hy with hy | hy
  ·exact nU hy
  ·exact absurd rfl (S.HY _<|PySem.mem_of_lookup hy)
 ·exact le_of_lt (x.above y c<|PySem.mem_of_lookup h)
 ·have hi:i<vs.length:=by
   unfold dh at h2;by_cases hi:i<vs.length
   ·exact hi
   ·rw[getElem?_append_right (by simpa using hi)] at h2;rw[List.getElem?_replicate] at h2;split at h2<;>cases h2
  have ha:vs[i]?=some v:=by
   unfold dh at h2;rw[getElem?_append_left (by simpa using hi),List.getElem?_map] at h2;cases e:vs[i]? with
   | none=>rw[e] at h2;cases h2
   | some a=>rw[e] at h2;cases h2;rfl
  obtain⟨u,hu,rv⟩:=r.get ha;have hp:ps[i]?=some y:=by
   rw[<- S.pre,List.getElem?_take_of_lt (by lia)];exact h1
  have Ni:ps.Nodup:=by rw[<- S.pre];exact S.nd.sublist (take_sublist _ _)
  refine⟨u,rv,?_⟩;rcases S.par y (mem_of_getElem? hp) with k | k
  ·exact .inl ⟨k,nR Ni hp hu k⟩
  ·obtain⟨c,e⟩:=nU (n:=s.heap.objs.size+1) k;refine .inr ⟨.inl k,c,e,?_⟩;have q:=x.cell y c e;rw[nS Ni hp hu (by show scope.names.lookup y≠_;rw[k];decide)] at q;exact q
 ·exact e0.l_.fresh (le_of_lt<|x.above y c<|PySem.mem_of_lookup h)
 ·unfold dh;show _=N.length;rw[length_append,length_map,List.length_replicate];lia
theorem vE{f:Addr}{name:Str}{params:Arguments}{dV kV doc pm z_ ct oc:Value}{an od:Option Addr}{FN:Array (Option Value)}{sp:Sp}(lk:K.lookup f=some ⟨oc,od,.func<|PySem.W.fnOf name qual params body scope dV kV doc pm an z_ ct,FN⟩)(Fu:PySem.W.codeIn K z_ qual=true)(S:k_ N ps scope)(len:∀ vs H Q E,sp vs H Q E->vs.length=ps.length)(FZ:∀ (A:Around) (outer:List Env) (s:Shared) (H:Hp) (vs:List V) (Q:VK) (E:XK),CM k (A.deeper<|envOfC qual scope s.heap.objs.size f z_)->sp vs H Q E->
   ∃ t,EW (dY CX P w K mg base N qual scope f z_ A outer s H E) body t/\t { nx:=fun _ H'=>Q .j_ H',rt:=Q } (dh N vs) H):
  Dw P w K mg base CX (k+1) f (PySem.W.fnOf name qual params body scope dV kV doc pm an z_ ct) ps sp:=by
 refine⟨len,fun A outer s H args us vs Q E hr e0 hb r Hl=>?_⟩;have hl:=len _ _ _ _ Hl;have KX:K.In s.heap:=e0.mod.KI.keeps fun b o e=>(e0.bs b o e).1;have lim:s.heap.NoLimit:=e0.mod.nolimit.keeps fun b o e=>(e0.bs b o e).1;have n_:∀ y∈ps.zip us,scope.names.lookup y.1=some .local\/(scope.names.lookup y.1=some .cell/\((cellsFrom (s.heap.objs.size+1) scope.names []).lookup y.1).isSome=true):=fun ⟨n,v⟩ hy=>by
  rcases S.par n (of_mem_zip hy).1 with q | q
  ·exact .inl q
  ·exact .inr ⟨q,PySem.W.cellsFrom_some _ _ _<|.inl q⟩
 refine codeAny_call_function hr.depth (KX _ _ lk) rfl S.co S.gen rfl (PySem.W.codeRec_of KX Fu) (hb _ _ _ _ ?_);refine wpAny_newFunctionEnv_cells S.kind n_ fun env he s1 x=>?_;subst he;refine⟨lim.keeps x.toInCall.keep,codeAny_func ?_⟩;obtain⟨t,ht,hq⟩:=FZ A outer s H vs Q E (hr.deeper _) Hl;have I:Inv (dY CX P w K mg base N qual scope f z_ A outer s H E) [] (dh N vs) H s1:=vD S hr.hd e0 hl r x;refine wpAny_mono (ht [] s1 (dh N vs) H _ I hq) (fun fl s' hs=>?_) fun e s' hs=>hs;have fin:∀ {σ':St}{H':Hp}{v:V}{u:Value},Inv (dY CX P w K mg base N qual scope f z_ A outer s H E) [] σ' H' s'->aq v u->Q v H'->CE outer P w H s Q u s':=
  fun {σ' H' v u} J rv q=>⟨v,H',J.os,J.bare,J.base,J.l_,rv,q⟩;cases fl with
 | ret u=>
  obtain⟨v,σ',H',J,rv,q⟩:=hs;exact fin J rv q
 | next=>
  obtain⟨σ',H',J,q⟩:=hs;exact fin (v:=V.j_) (u:=Value.none) J rfl q
 | brk=>
  obtain⟨_,_,_,q⟩:=hs;exact False.elim q
 | cont=>
  obtain⟨_,_,_,q⟩:=hs;exact False.elim q
section
variable{X:Cx}{x:Str}{p pos:Pos}{e:Expr}{es:List Expr}{t:TA}{id T:String}{r:List V->Hp->VK->Prop}
def Nj(r:List V->Hp->VK->Prop)(t:TA):TE:=fun σ H Q=>t σ H fun vs H1=>r vs H1 Q
theorem nV(hc:aX X (.builtin id) r)(hg:Gl X x)(hm:X.mg x=none)(hv:bootBuiltins x=some (.builtin id))(ha:PA X (e::es) t)(hn:x ≠ "__name__" := by decide)(Fv:(x == ("__debug__" : Str))=false:=by decide)(he:starEach (e::es) X.env=(false,eval e X.env)::starEach es X.env:=by rfl)(Eh:(backTo pos<|starEach es X.env).any (·.1)=false:=by rfl):PE X (.Call (.Name x p) (e::es) [] pos) (Nj r t):=by
 intro pins s σ H Q I h;refine wpAny_Call_Name_kw (eU I hg hm hv ?_ hn Fv);exact PyProof.Rows.callWith_builtin1 (u_ (ha pos pins s σ H _ I h) fun us s1 ⟨vs,H1,I1,r1,q1⟩=>hc pins s1 σ H1 vs us Q I1 r1 q1) he Eh
theorem vF(hc:aX X (.type T) r)(hg:Gl X x)(hm:X.mg x=none)(hv:bootBuiltins x=some (.type T))(ha:PA X (e::es) t)(hn:x ≠ "__name__" := by decide)(Fv:(x == ("__debug__" : Str))=false:=by decide)(he:starEach (e::es) X.env=(false,eval e X.env)::starEach es X.env:=by rfl)(Eh:(backTo pos<|starEach es X.env).any (·.1)=false:=by rfl):PE X (.Call (.Name x p) (e::es) [] pos) (Nj r t):=by
 intro pins s σ H Q I h;refine wpAny_Call_Name_kw (eU I hg hm hv ?_ hn Fv);exact PyProof.Rows.callWith_type1 (u_ (ha pos pins s σ H _ I h) fun us s1 ⟨vs,H1,I1,r1,q1⟩=>hc pins s1 σ H1 vs us Q I1 r1 q1) he Eh
end
end L2
namespace HT
open PySem PyProof.Rows
variable{hi lo:Option Int}{vu vl:Value}{sl t:Addr}{Q:Value->Shared->Prop}
theorem vG(A:Around)(s:Shared)(a:Int)(t:Tok)(c:Int)(u:Tok)(prog:Program)(w:World)(E:Value->Shared->Prop)(Q:Value->Shared->Prop)(h:Q (.bool<|decide (a<c)) s):
  wpAny (model prog w) A (richCompare .Lt (.int a t)<|.int c u) Q E s:=
 (PyProof.Rows.lt_int h:wpAny (model prog w) A (compareOp .Lt (.int a t)<|.int c u) Q E s)
section
open PySem.SeqAt
open PySem.AutoSeq1 (wpAny_loadPart')
open PySem.MeetsSeq PySem.MeetsSeq2 PySem.MeetsSeq3
end
section
variable{prog:Program}{w:World}{A:Around}{E:Value->Shared->Prop}{s:Shared}
theorem vH{b:Addr}{vs ws:List Value}(ht:IsTup s.heap t vs.toArray)(hb:IsTup s.heap b ws.toArray)(hv:vs≠[])(h1:ws=[]->Q (.ref t) s)(h2:ws≠[]->Q (.ref s.heap.objs.size) { s with heap:=s.heap.push { cls:=.type "tuple",data:=.seq (vs++ws).toArray } })(hsz:vs.length+ws.length<=sizeLine):wpAny (model prog w) A (binaryOp .Add (.ref t)<|.ref b) Q E s:=by
 obtain⟨⟨cls,dd,data,sl⟩,ho,hc,n,hd⟩:=id ht;obtain⟨⟨LK,IQ,data2,IR⟩,HZ,JC,n2,hd2⟩:=id hb;simp only at hc hd JC hd2;subst hc hd JC hd2;have e:vs.toArray++ws.toArray=(vs++ws).toArray:=by simp
 by_cases hw:ws=[]
 ·exact concat_meets ⟨_,ho,rfl⟩ ⟨_,HZ,rfl⟩ noFill_tuple_add seq_tuple_add PySem.F.slot_tuple_add PySem.F.entry_tuple_add (PySem.F.args_tuple_add_2 _ _)
   (tuple_addW1 t b vs.toArray ws.toArray n n2 dd IQ sl IR (by simpa using hv) (by simp[hw])) ⟨ho,HZ,h1 hw⟩
 ·refine concat_meets ⟨_,ho,rfl⟩ ⟨_,HZ,rfl⟩ noFill_tuple_add seq_tuple_add PySem.F.slot_tuple_add PySem.F.entry_tuple_add (PySem.F.args_tuple_add_2 _ _)
   (tuple_addW2 t b vs.toArray ws.toArray n n2 dd IQ sl IR (by simpa using hv) (by simpa using hw) (by rw[size_toArray,size_toArray];exact hsz)) ⟨ho,HZ,?_⟩;rw[e];exact h2 hw
def B_(n d:Nat):Option Int->Nat
 | none=>d
 | some v=>if v<0 then (v+(n:Int)).toNat else min v.toNat n
theorem nW(n d:Nat):B_ n d none=d:=rfl
theorem nX(n d k:Nat):B_ n d (some (k:Int))=min k n:=by
 show (if (k:Int)<0 then ((k:Int)+(n:Int)).toNat else min (k:Int).toNat n)=min k n;rw[if_neg (by lia),toNat_natCast]
theorem vI(n d:Nat)(hd:d<=n)(o:Option Int):B_ n d o<=n:=by
 cases o with
 | none=>exact hd
 | some v=>
  show (if v<0 then (v+(n:Int)).toNat else min v.toNat n)<=n;by_cases hv:v<0
  ·rw[if_pos hv];lia
  ·rw[if_neg hv];exact Nat.min_le_right _ _
theorem nY(v:Int)(n d:Nat):(if v<0 then max (v+(n:Int)) 0 else min v (n:Int))=((B_ n d (some v):Nat):Int):=by
 show (if v<0 then max (v+(n:Int)) 0 else min v (n:Int))=(((if v<0 then (v+(n:Int)).toNat else min v.toNat n):Nat):Int);by_cases hv:v<0
 ·simp only[if_pos hv];lia
 ·simp only[if_neg hv];lia
theorem vJ(lo hi:Option Int)(n:Nat):Builtin.Slice.sliceAdjust lo hi 1 (n:Int)=(((B_ n 0 lo:Nat):Int),((B_ n n hi:Nat):Int)):=by
 have h1:¬ ((1:Int)<0):=by lia
 unfold Builtin.Slice.sliceAdjust;simp only[h1,if_false];refine Prod.ext ?_ ?_
 ·cases lo with
  | none=>rfl
  | some v=>exact nY v n 0
 ·cases hi with
  | none=>rfl
  | some v=>exact nY v n n
theorem vK(i j:Nat):Builtin.Slice.slicePlaces (i:Int) (j:Int) 1=j - i:=by
 unfold Builtin.Slice.slicePlaces;have h1:(1:Int) > 0:=by lia
 simp only[h1,if_true,Int.ediv_one];split<;>lia
theorem nZ{v:Value}{o:Option Int}{Q:Option Int->Shared->Prop}(p:IsPart v o)(h:Q o s):wpAny (model prog w) A (Builtin.Slice.slicePartIndex v) Q E s:=by
 cases p with
 | none=>exact slicePart_none h
 | int i t=>exact slicePart_int h
theorem n4{n:Nat}{Q:Int×Int×Nat->Shared->Prop}(hs:s.heap.IsSliceOf sl vl vu .none)(pl:IsPart vl lo)(pu:IsPart vu hi)(h:Q (((B_ n 0 lo:Nat):Int),1,B_ n n hi - B_ n 0 lo) s):wpAny (model prog w) A (Builtin.Slice.sliceApplied (.ref sl)<|pure (n:Int)) Q E s:=by
 obtain⟨os,F7,H9,F8⟩:=id hs;unfold Builtin.Slice.sliceApplied Builtin.Slice.sliceFields;refine wpAny_bind (wpAny_bind<|wpAny_field F7 F8 (x:=vl) rfl<|wpAny_bind<|wpAny_field F7 F8 (x:=vu) rfl<|wpAny_bind<|wpAny_field F7 F8 (x:=.none) rfl<|wpAny_pure ?_);refine wpAny_bind (slicePart_none ?_);show wpAny _ _ (if ((1:Int) == 0)=true then _ else _) _ _ s;rw[if_neg (by decide)];refine wpAny_bind (nZ pl<|wpAny_bind<|nZ pu<|wpAny_bind<|wpAny_pure ?_);show wpAny _ _ (match Builtin.Slice.sliceAdjust lo hi 1 (n:Int) with | (lo,hi)=>pure (lo,(1:Int),Builtin.Slice.slicePlaces lo hi 1)) _ _ s;rw[vJ lo hi n];show wpAny _ _ (pure (((B_ n 0 lo:Nat):Int),(1:Int),Builtin.Slice.slicePlaces ((B_ n 0 lo:Nat):Int) ((B_ n n hi:Nat):Int) 1)) _ _ s;rw[vK];exact wpAny_pure h
theorem vL(xs:Array Value)(i k:Nat):((range k).filterMap fun (m:Nat)=>xs[((i:Int)+(m:Int) * 1).toNat]?).toArray=((xs.toList.drop i).take k).toArray:=by
 have e:(fun (m:Nat)=>xs[((i:Int)+(m:Int) * 1).toNat]?)=fun m=>xs[i+m]?:=by
  funext m;have:((i:Int)+(m:Int) * 1).toNat=i+m:=by lia
  rw[this]
 rw[e];have:=pick_run xs i k;rw[List.filterMap_map] at this;have e2:((fun x=>xs[x]?) ∘ fun x=>i+x)=fun m=>xs[i+m]?:=rfl;rw[e2] at this;rw[this]
theorem vM{items:Array Value}(ht:IsTup s.heap t items)(hs:s.heap.IsSliceOf sl vl vu .none)(pl:IsPart vl lo)(pu:IsPart vu hi)(hw:¬ (B_ items.size 0 lo=0/\B_ items.size items.size hi=items.size))(h:Q (.ref s.heap.objs.size) { s with heap:=s.heap.push { cls:=.type "tuple",data:=.seq ((items.toList.drop<|B_ items.size 0 lo).take<|B_ items.size items.size hi - B_ items.size 0 lo).toArray } })(hsz:items.size<=sizeLine):wpAny (model prog w) A (getItem (.ref t)<|.ref sl) Q E s:=by
 have Fg:sizeOk (.seq ((items.toList.drop<|B_ items.size 0 lo).take<|B_ items.size items.size hi - B_ items.size 0 lo).toArray):=by
  show ((items.toList.drop<|B_ items.size 0 lo).take<|B_ items.size items.size hi - B_ items.size 0 lo).toArray.size<=sizeLine;rw[size_toArray,length_take,length_drop,length_toList];lia
 have hj:B_ items.size items.size hi<=items.size:=vI _ _ (Nat.le_refl _) hi;obtain⟨os,F7,H9,F8⟩:=id hs;have LL:s.TypeIs (.ref sl) "slice" := ⟨os,F7,H9⟩;unfold getItem;try with_reducible refine wpAny_holding ?_
 first | refine wpAny_bind (wpAny_pure ?_) | skip
 refine wpAny_bind (wpAny_sequenceKey ht.typeIs (by decide) ?_);refine wpAny_bind (wpAny_callSpecial?_slot (name:=Str.ofString "__getitem__") ht.typeIs PyProof.Rows.slot_tuple_getitem
  (wpAny_call_entry PyProof.Rows.slot_tuple_getitem ht.typeIs entry_tuple_getitem ?_<|args_tuple_getitem _ _));show wpAny _ _ (Builtin.Tuple.tupleItemsOf (.ref t) >>= _) _ _ s;refine wpAny_bind (tupleItemsOf_ ht ?_);refine wpAny_bind (wpAny_typeOf LL ?_);rw[if_pos (by decide)];refine wpAny_bind (n4 hs pl pu ?_);have Og:¬ ((((B_ items.size 0 lo:Nat):Int) == 0 && (1:Int) == 1 && (B_ items.size items.size hi - B_ items.size 0 lo) == items.size)=true):=by
  intro q;rw[and_eq_true,and_eq_true] at q;have q1:((B_ items.size 0 lo:Nat):Int)=0:=eq_of_beq q.1.1;have q2:B_ items.size items.size hi - B_ items.size 0 lo=items.size:=eq_of_beq q.2;exact hw ⟨by lia,by lia⟩
 show wpAny _ _ (if (((B_ items.size 0 lo:Nat):Int) == 0 && (1:Int) == 1 && (B_ items.size items.size hi - B_ items.size 0 lo) == items.size)=true then _ else _) _ _ s;rw[if_neg Og,vL];first
  | exact wpAny_bind (m:=Builtin.Tuple.tupleExact _) (wpAny_newObj_type (wpAny_pure ⟨_,rfl,wpAny_pure h⟩) Fg)
  | exact wpAny_bind (m:=Builtin.Tuple.tupleExact _) (wpAny_newObj_type (wpAny_bind<|wpAny_pure<|wpAny_pure ⟨_,rfl,wpAny_pure h⟩) Fg)
  | exact wpAny_bind (wpAny_bind (m:=Builtin.Tuple.tupleExact _)<|wpAny_newObj_type (wpAny_pure<|wpAny_pure ⟨_,rfl,wpAny_pure h⟩) Fg)
  | exact wpAny_bind (wpAny_bind (m:=Builtin.Tuple.tupleExact _)<|wpAny_newObj_type (wpAny_pure ⟨_,rfl,wpAny_pure h⟩) Fg)
end
end HT
namespace L2
open PySem PySem.Spec PyProof.Rows
variable{h':Heap}{Q:Value->Shared->Prop}{b a p:Addr}{H' H:Hp}{kvs:List (List Im×V)}{w:World}{P:Program}{o:Option V}{t' n:Nat}{its' f_ us:List Value}{s:Shared}{σ:St}{pins:List (Addr×Obj)}{r:R2}{α:Type}{i:Int}{xs:List (List Im×Addr×Value)}
abbrev TO:=St->Hp->(Option Int->Hp->Prop)->Prop
def Nk(X:Cx)(e:Option Expr)(t:TO)(pins:List (Addr×Obj)):Prop:=
 ∀ (s:Shared) (σ:St) (H:Hp) (Q:Option Int->Hp->Prop),Inv X pins σ H s->t σ H Q->
  wpAny (model X.prog X.w) X.A (evalPart e X.env) (fun u s'=>∃ o H',Inv X pins σ H' s'/\IsPart u o/\Q o H') X.xe s
def PO(X:Cx)(e:Option Expr)(t:TO):Prop:=∀ pins,Nk X e t pins
def GS:TO:=fun _ H Q=>Q none H
def vN(t:TE):TO:=fun σ H Q=>t σ H fun x H1=>∃ i,x=.int i/\Q (some i) H1
section
variable{X:Cx}{e:Expr}{te:TE}{lo hi:Option Expr}{tl th:TO}{pos p2:Pos}
theorem vO:PO X none GS:=by
 intro pins s σ H Q I h;rw[evalPart_none];exact wpAny_pure ⟨none,H,I,.none,h⟩
theorem vP(h:PE X e te):PO X (some e) (vN te):=by
 intro pins s σ H Q I hw;rw[evalPart_some];refine u_ (h pins s σ H _ I hw) fun u s1 ⟨x,H1,I1,r1,q1⟩=>?_;obtain⟨i,rfl,q⟩:=q1;obtain⟨t,rfl⟩:=r1;exact⟨some i,H1,I1,.int i t,q⟩
def JD(X:Cx)(r:V->Option Int->Option Int->Hp->VK->Prop):Prop:=
 ∀ (pins:List (Addr×Obj)) (s:Shared) (σ:St) (H:Hp) (x:V) (v vl vu:Value) (lo hi:Option Int) (sl:Addr) (Q:VK),Inv X pins σ H s->aq x v->s.heap.IsSliceOf sl vl vu .none->IsPart vl lo->IsPart vu hi->r x lo hi H Q->
  ∃ T id,typeLookup (.type T) "__getitem__" = pure (some<|.builtin id)/\s.TypeIs v T/\wpAny (model X.prog X.w) X.A (getItem v<|.ref sl) (EP X pins σ Q) X.xe s
def Oh(r:V->Option Int->Option Int->Hp->VK->Prop)(te:TE)(tl th:TO):TE:=fun σ H Q=>te σ H fun x H1=>tl σ H1 fun l H2=>th σ H2 fun u H3=>r x l u H3 Q
theorem vQ{r:V->Option Int->Option Int->Hp->VK->Prop}(hr:JD X r)(he:PE X e te)(hl:PO X lo tl)(hu:PO X hi th):PE X (.Subscript e (.Slice lo hi none p2) pos) (Oh r te tl th):=by
 intro pins s σ H Q I h;refine Subscript_ (u_ (he pins s σ H _ I h) fun v s1 ⟨x,H1,I1,r1,q1⟩=>?_);refine wpAny_Slice (u_ (hl pins s1 σ H1 _ I1 q1) fun vl s2 ⟨l,H2,I2,pl,q2⟩=>u_ (hu pins s2 σ H2 _ I2 q2) fun vu s3 ⟨u,H3,I3,pu,q3⟩=>?_);rw[evalPart_none];refine wpAny_pure ?_;have I4:Inv X pins σ H3 { s3 with heap:=s3.heap.push { cls:=.type "slice",data:=.fields #[vl,vu,.none] } }:=I3.kept (t':=s3.toks) fun b ob q=>Heap.get?_push_of_some _ q;obtain⟨T,id,hT,ht,hg⟩:=hr pins { s3 with heap:=s3.heap.push { cls:=.type "slice",data:=.fields #[vl,vu,.none] } } σ H3 x v vl vu l u s3.heap.objs.size Q I4 r1 (Heap.IsSliceOf.new ..) pl pu q3;show wpAny (model X.prog X.w) X.A (subscriptTail e (.Slice lo hi none p2) v<|.ref s3.heap.objs.size) (EP X pins σ Q) X.xe { s3 with heap:=s3.heap.push { cls:=.type "slice",data:=.fields #[vl,vu,.none] } };exact tail_any (ops:=[.ref s3.heap.objs.size,v]) ht hT hg (by with_unfolding_all rfl)
def dZ(xs:List V)(lo hi:Option Int):List V:=(xs.drop<|HT.B_ xs.length 0 lo).take (HT.B_ xs.length xs.length hi - HT.B_ xs.length 0 lo)
theorem n5(xs:List V)(lo hi:Option Int):(dZ xs lo hi).length<=xs.length:=by
 unfold dZ;rw[length_take,length_drop];lia
def vR(K:PySem.W.Frag):V->Option Int->Option Int->Hp->VK->Prop:=fun x lo hi H Q=>∃ a xs,x=.ref a/\A_ K H a xs/\
 ¬ (HT.B_ xs.length 0 lo=0/\HT.B_ xs.length xs.length hi=xs.length)/\∀ p,H p=none->Q (.ref p) (upd H p<|.tup<|dZ xs lo hi)
theorem vS:JD X (vR X.K):=by
 intro pins s σ H x v vl vu lo hi sl Q I rx hs pl pu h;obtain⟨a,xs,rfl,hx,hw,q⟩:=h;cases rx;obtain⟨f_,r,ht,hz⟩:=I.tuple hx;have hlen:f_.toArray.size=xs.length:=by rw[size_toArray];exact r.length.symm
 refine⟨"tuple",_,PyProof.Rows.slot_tuple_getitem.lookup,ht.typeIs,?_⟩;refine HT.vM ht hs pl pu (by rw[hlen];exact hw) ?_ (by rw[hlen];exact hz);rw[hlen];refine⟨.ref s.heap.objs.size,_,I.laid (t':=s.toks) (o:=.tup (dZ xs lo hi)) (fun b ob q=>Heap.get?_push_of_some _ q) (Nat.le_refl _) ?_,rfl,q _<|I.l_.fresh<|Nat.le_refl _⟩;exact⟨Nat.le_trans (n5 xs lo hi) hz,_,(r.drop<|HT.B_ xs.length 0 lo).take<|HT.B_ xs.length xs.length hi - HT.B_ xs.length 0 lo,IsTup.new _ _⟩
def vT(K:PySem.W.Frag):R2:=fun x y H Q=>∃ a b xs ys,x=.ref a/\y=.ref b/\A_ K H a xs/\A_ K H b ys/\xs≠[]/\xs.length+ys.length<=sizeLine/\
 (ys=[]->Q (.ref a) H)/\(ys≠[]->∀ p,H p=none->Q (.ref p) (upd H p<|.tup<|xs++ys))
theorem ak.DR{xs:List V}(r:ak xs us):us=[]↔xs=[]:=by
 cases r with
 | nil=>simp
 | cons _ _=>simp
theorem vU:Dg X (binaryOp .Add) (vT X.K):=by
 intro pins s σ H x y v u Q I rx ry h;obtain⟨a,b,xs,ys,rfl,rfl,ha,hb,hx,hz,q1,q2⟩:=h;cases rx;cases ry;obtain⟨f_,r1,p1,_⟩:=I.tuple ha;obtain⟨Eo,r2,p2,_⟩:=I.tuple hb;refine HT.vH p1 p2 (fun z=>hx<|r1.DR.mp z) (fun z=>⟨.ref a,H,I,rfl,q1<|r2.DR.mp z⟩) (fun z=>?_) (by rw[<- r1.length,<- r2.length];exact hz);refine⟨.ref s.heap.objs.size,_,I.laid (t':=s.toks) (o:=.tup (xs++ys)) (fun b ob q=>Heap.get?_push_of_some _ q) (Nat.le_refl _) ?_,rfl,q2 (fun w=>z<|r2.DR.mpr w) _<|I.l_.fresh<|Nat.le_refl _⟩;exact⟨by rw[length_append];exact hz,_,r1.append r2,IsTup.new _ _⟩
end
def GF(n:Nat)(i:Int):Option Nat:=if 0<=i then (if i<n then some i.toNat else none) else if -(n:Int)<=i then some (i+n).toNat else none
def Eu{α:Type}(xs:List α)(i:Int):Option α:=(GF xs.length i).bind fun j=>xs[j]?
theorem n6{j:Nat}(h:GF n i=some j):seqIndex? i n=some j/\j<n /\ -(n:Int)<=i/\i<n:=by
 unfold GF at h;by_cases h0:0<=i
 ·rw[if_pos h0] at h;by_cases h1:i<n
  ·rw[if_pos h1] at h;have e:i.toNat=j:=Option.some.inj h;exact⟨by rw[seqIndex_of h0 h1,e],by lia,by lia,h1⟩
  ·rw[if_neg h1] at h;cases h
 ·rw[if_neg h0] at h;by_cases h1 : -(n:Int)<=i
  ·rw[if_pos h1] at h;have e:(i+n).toNat=j:=Option.some.inj h;exact⟨by rw[seqIndex_neg (by lia) h1,e],by lia,h1,by lia⟩
  ·rw[if_neg h1] at h;cases h
theorem n9{xs:List α}{v:α}(h:Eu xs i=some v):∃ j,seqIndex? i xs.length=some j/\xs[j]?=some v/\j<xs.length /\ -(xs.length:Int)<=i/\i<xs.length:=by
 unfold Eu at h;cases e:GF xs.length i with
 | none=>rw[e] at h;cases h
 | some j=>
  rw[e] at h;obtain⟨h1,h2,h3,h4⟩:=n6 e;exact⟨j,h1,h,h2,h3,h4⟩
def kL(b:Expr):Prop:=∀ o i,subscripted b false o i=operate [o,i] (getItem o i)
def Fw(X:Cx)(r:R2):Prop:=
 ∀ (value slice:Expr) (pins:List (Addr×Obj)) (s:Shared) (σ:St) (H:Hp) (x y:V) (v u:Value) (Q:VK),Inv X pins σ H s->aq x v->aq y u->r x y H Q->
  subscripted slice false v u=operate [v,u] (getItem v u)->wpAny (model X.prog X.w) X.A (subscriptTail value slice v u) (EP X pins σ Q) X.xe s
def LM(X:Cx)(id:String)(r:V->List V->Hp->VK->Prop):Prop:=
 ∀ (pins:List (Addr×Obj)) (s:Shared) (σ:St) (H:Hp) (x:V) (xs:List V) (v:Value) (us:List Value) (Q:VK),Inv X pins σ H s->aq x v->ak xs us->r x xs H Q->
  wpAny (model X.prog X.w) X.A (call (.builtin id) (v::us)) (EP X pins σ Q) X.xe s
section
variable{X:Cx}{a b:Expr}{ta tb:TE}{pos:Pos}
theorem Fw.or{r':R2}(h:Fw X r)(h':Fw X r'):Fw X (fun x y H Q=>r x y H Q\/r' x y H Q):=by
 intro value slice pins s σ H x y v u Q I rx ry q hs;rcases q with q | q
 ·exact h value slice pins s σ H x y v u Q I rx ry q hs
 ·exact h' value slice pins s σ H x y v u Q I rx ry q hs
theorem vV(hr:Fw X r)(ha:PE X a ta)(hb:PE X b tb)(hs:kL b):PE X (.Subscript a b pos) (KP r ta tb):=by
 intro pins s σ H Q I h;exact Subscript_ (kF ha hb I h fun v u s2 x y H2 I2 rx ry q=>hr a b pins s2 σ H2 x y v u Q I2 rx ry q<|hs _ _)
def vW(K:PySem.W.Frag):R2:=fun x y H Q=>∃ p xs i v,x=.ref p/\y=.int i/\CT K H p xs/\Eu xs i=some v/\Q v H
def vX(K:PySem.W.Frag):R2:=fun x y H Q=>∃ p xs i v,x=.ref p/\y=.int i/\A_ K H p xs/\Eu xs i=some v/\Q v H
theorem vY:Fw X (vW X.K):=by
 intro value slice pins s σ H x y v u Q I rx ry h hs;obtain⟨p,xs,i,z,rfl,rfl,hq,he,q⟩:=h;cases rx;obtain⟨t,rfl⟩:=ry;obtain⟨f_,r,pl,hz⟩:=I.list hq;obtain⟨j,h1,h2,h3,h4,h5⟩:=n9 he;obtain⟨w,ew,FW⟩:=r.get h2;have hl:=r.length;have hn:=fM;have fin:EP X pins σ Q w s:=⟨z,H,I,FW,q⟩;by_cases h0:0<=i
 ·have hj:i.toNat=j:=by
   rw[seqIndex_of h0 h5] at h1;exact Option.some.inj h1
  exact item_listR pl.isList h0 (by lia) (by rw[hj];simpa using ew) fin hs
 ·have hj:(i+(f_.toArray.size:Int)).toNat=j:=by
   rw[seqIndex_neg (by lia) h4] at h1;rw[size_toArray,<- hl];exact Option.some.inj h1
  exact subscriptTail_builtinR (x:=w) pl.isList.typeIs slot_list_getitem.lookup
   (wpAny_getItem_list_neg (Q:=fun r s'=>r=w/\EP X pins σ Q r s') pl.isList (by lia) (by rw[size_toArray]<;>lia) (by lia) (by rw[hj];simpa using ew) ⟨rfl,fin⟩) hs
theorem vZ:Fw X (vX X.K):=by
 intro value slice pins s σ H x y v u Q I rx ry h hs;obtain⟨p,xs,i,z,rfl,rfl,hq,he,q⟩:=h;cases rx;obtain⟨t,rfl⟩:=ry;obtain⟨f_,r,pl,hz⟩:=I.tuple hq;obtain⟨j,h1,h2,h3,h4,h5⟩:=n9 he;obtain⟨w,ew,FW⟩:=r.get h2;have hl:=r.length;have hn:=fM;have fin:EP X pins σ Q w s:=⟨z,H,I,FW,q⟩;exact subscriptTail_builtinR (x:=w) pl.typeIs slot_tuple_getitem.lookup
  (getItem_tuple (j:=j) (Q:=fun r s'=>r=w/\EP X pins σ Q r s') pl (by lia) (by lia) (by rw[size_toArray,<- hl];exact h1) (by simpa using ew) ⟨rfl,fin⟩) hs
theorem v3(f_:List Value)(n j:Nat)(u:Value):Obj.mapSeq (·.setIfInBounds j u) { cls:=.type "list",data:=.seq f_.toArray n }={ cls:=.type "list",data:=.seq (f_.set j u).toArray n }:=by
 simp[Obj.mapSeq]
variable{xs:List V}
theorem Inv.lst(I:Inv X pins σ H s)(h:H p=some (.lst xs)):
  ∃ (f_:List Value) (n:Nat),ak xs f_/\s.heap.get? p=some { cls:=.type "list",data:=.seq f_.toArray n }/\xs.length<=sizeLine:=by
 obtain⟨z,f_,n,r,e⟩:=I.l_ p _ h;exact⟨f_,n,r,e,z⟩
theorem Inv.H_{ys:List V}{n':Nat}{f:Obj->Obj}(I:Inv X pins σ H s)(h:H p=some (.lst xs))(ho:s.heap.get? p=some { cls:=.type "list",data:=.seq f_.toArray n })(hf:f { cls:=.type "list",data:=.seq f_.toArray n }={ cls:=.type "list",data:=.seq its'.toArray n' })(r:ak ys its')(hz:ys.length<=sizeLine)(t:Nat):
  Inv X pins σ (upd H p<|.lst ys) { s with heap:=s.heap.update p f,toks:=t }:=by
 have e:(s.heap.update p f).get? p=some { cls:=.type "list",data:=.seq its'.toArray n' }:=by
  rw[Heap.get?_update_self f ho (by rw[hf]<;>rfl),hf]
 refine I.write (x:=p) (e:=p) (by rw[h];trivial) (.inl rfl) (fun b u hb q=>(Heap.get?_update_other _ _<|Ne.symm hb).trans q) ⟨_,e⟩ ?_;exact⟨hz,its',n',r,e⟩
def JE:V->V->V->Hp->(Hp->Prop)->Prop:=fun o i v H Q=>∃ p xs k j,o=.ref p/\i=.int k/\H p=some (.lst xs)/\GF xs.length k=some j/\Q (upd H p<|.lst<|xs.set j v)
theorem v4:kz X JE:=by
 intro pins s σ H o i v ov iv u Q I ro ri rv h;obtain⟨p,xs,k,j,rfl,rfl,hp,hj,q⟩:=h;cases ro;obtain⟨t,rfl⟩:=ri;obtain⟨f_,n,r,ho,hz⟩:=I.lst hp;obtain⟨h1,h2,h3,h4⟩:=n6 hj;have hl:=r.length;have hn:=fM;have I':Inv X pins σ (upd H p<|.lst<|xs.set j v) { s with heap:=s.heap.update p (Obj.mapSeq (·.setIfInBounds j u)) }:=
  I.H_ hp ho (v3 f_ n j u) (r.set rv j) (by rw[length_set];exact hz) s.toks;by_cases h0:0<=k
 ·have hk:k.toNat=j:=by
   rw[seqIndex_of h0 h4] at h1;exact Option.some.inj h1
  exact PySem.W.ki_setAt ho h0 (by lia) (by rw[size_toArray,<- hl];exact h4) (by rw[hk];exact⟨_,I',q⟩)
 ·have hk:(k+(f_.toArray.size:Int)).toNat=j:=by
   rw[seqIndex_neg (by lia) h3] at h1;rw[size_toArray,<- hl];exact Option.some.inj h1
  exact PySem.W.ki_setBack ho (by lia) (by rw[size_toArray,<- hl];exact h3) (by lia) (by rw[hk];exact⟨_,I',q⟩)
theorem v6(lo hi:Option Int)(n:Nat):(sliceBounds lo hi none n).1=((HT.B_ n 0 lo:Nat):Int)/\(sliceBounds lo hi none n).2.1=((HT.B_ n n hi:Nat):Int)/\(sliceBounds lo hi none n).2.2=1:=by
 refine⟨?_,?_,rfl⟩
 ·cases lo with
  | none=>simp[sliceBounds,HT.B_]
  | some i=>
   simp only[sliceBounds,HT.B_,getD_none,show (1:Int) > 0 by decide,if_true];by_cases h:i<0
   ·simp only[h,if_true]<;>lia
   ·simp only[h,if_false]<;>lia
 ·cases hi with
  | none=>simp[sliceBounds,HT.B_]
  | some i=>
   simp only[sliceBounds,HT.B_,getD_none,show (1:Int) > 0 by decide,if_true];by_cases h:i<0
   ·simp only[h,if_true]<;>lia
   ·simp only[h,if_false]<;>lia
theorem v7(f_:List Value)(lo hi:Option Int):slicePick f_.toArray lo hi none=((f_.drop<|HT.B_ f_.length 0 lo).take<|HT.B_ f_.length f_.length hi - HT.B_ f_.length 0 lo).toArray:=by
 obtain⟨h1,h2,h3⟩:=v6 lo hi f_.toArray.size;unfold slicePick;rw[h1,h2,h3];simp only[sliceRange_one,pick_run,size_toArray]<;>rfl
def v9(K:PySem.W.Frag):V->Option Int->Option Int->Hp->VK->Prop:=fun x lo hi H Q=>∃ a xs,x=.ref a/\CT K H a xs/\∀ p,H p=none->Q (.ref p) (upd H p<|.lst<|dZ xs lo hi)
theorem oa:JD X (v9 X.K):=by
 intro pins s σ H x v vl vu lo hi sl Q I rx hs pl pu h;obtain⟨a,xs,rfl,hx,q⟩:=h;cases rx;obtain⟨f_,r,ht,hz⟩:=I.list hx;have hlen:=r.length;refine⟨"list",_,slot_list_getitem.lookup,ht.isList.typeIs,?_⟩;refine wpAny_getItem_list_slice ht.isList hs pl pu .none (by simp) ?_ (by rw[size_toArray]<;>lia);rw[v7,<- hlen];refine⟨.ref s.heap.objs.size,_,I.laid (t':=s.toks) (o:=.lst (dZ xs lo hi)) (fun b ob q=>Heap.get?_push_of_some _ q) (Nat.le_refl _) ?_,rfl,q _<|I.l_.fresh<|Nat.le_refl _⟩;exact⟨Nat.le_trans (n5 xs lo hi) hz,_,0,(r.drop<|HT.B_ xs.length 0 lo).take<|HT.B_ xs.length xs.length hi - HT.B_ xs.length 0 lo,Heap.get?_push_size _ rfl⟩
theorem we:aX X (.builtin "len") (fun xs H Q=>∃ p ys,xs=[.ref p]/\(CT X.K H p ys\/A_ X.K H p ys)/\Q (.int ys.length) H):=by
 intro pins s σ H xs us Q I r h;obtain⟨p,ys,rfl,hq,q⟩:=h;obtain⟨u,rfl,rx⟩:=ci r;cases rx;have hn:=fM;rcases hq with hq | hq
 ·obtain⟨f_,r',pl,hz⟩:=I.list hq;have hlen:=r'.length;exact Calls.call_len_list pl.isList (by simp only[size_toArray]<;>lia) ⟨.int ys.length,H,I.tok _,⟨s.toks+1,by rw[size_toArray,hlen]⟩,q⟩
 ·obtain⟨f_,r',pl,hz⟩:=I.tuple hq;have hlen:=r'.length;exact len_tuple pl (by simp only[size_toArray]<;>lia) ⟨.int ys.length,H,I.tok _,⟨s.toks+1,by rw[size_toArray,hlen]⟩,q⟩
theorem wf:aX X (.builtin "len") (fun xs H Q=>∃ z,xs=[.str z]/\z.length<=sizeLine/\Q (.int z.length) H):=by
 intro pins s σ H xs us Q I r h;obtain⟨z,rfl,hz,q⟩:=h;obtain⟨u,rfl,t,rfl⟩:=ci r;have hn:=fM;exact len_str (by lia) ⟨.int z.length,H,I.tok _,⟨_,rfl⟩,q⟩
theorem aX.or{f:Value}{r r':List V->Hp->VK->Prop}(h:aX X f r)(h':aX X f r'):aX X f (fun xs H Q=>r xs H Q\/r' xs H Q):=by
 intro pins s σ H xs us Q I rs q;rcases q with q | q
 ·exact h pins s σ H xs us Q I rs q
 ·exact h' pins s σ H xs us Q I rs q
theorem wg:aX X (.type "list") (fun xs H Q=>∃ p ys,xs=[.ref p]/\(CT X.K H p ys\/A_ X.K H p ys)/\∀ l,H l=none->Q (.ref l) (upd H l<|.lst ys)):=by
 intro pins s σ H xs us Q I r h;obtain⟨p,ys,rfl,hq,q⟩:=h;obtain⟨u,rfl,rx⟩:=ci r;cases rx;have fin:∀ (f_:List Value),ak ys f_->ys.length<=sizeLine->∀ (h':Heap) (c':Nat),(∀ b o',s.heap.get? b=some o'->h'.get? b=some o')->
   h'.get? s.heap.objs.size=some { cls:=.type "list",dict:=none,data:=.seq f_.toArray c',slots:=#[] }->EP X pins σ Q (.ref s.heap.objs.size) { s with heap:=h' }:=fun f_ r' hz h' c' kp e=>
  ⟨.ref s.heap.objs.size,_,I.laid (t':=s.toks) kp (Nat.le_refl _)<|show a0 X.prog X.w _ h' _ (.lst ys) from ⟨hz,f_,c',r',e⟩,rfl,q _<|I.l_.fresh<|Nat.le_refl _⟩;rcases hq with hq | hq
 ·obtain⟨f_,r',pl,hz⟩:=I.list hq;have hlen:=r'.length;obtain⟨o,ho,hc,n,hd⟩:=pl.isList;exact call_list_seq p (.inl rfl) ho hc hd (fun h' c' kp e=>fin f_ r' hz h' c' kp e) (by simp only[size_toArray]<;>lia)
 ·obtain⟨f_,r',pl,hz⟩:=I.tuple hq;have hlen:=r'.length;obtain⟨o,ho,hc,n,hd⟩:=pl;exact call_list_seq p (.inr rfl) ho hc hd (fun h' c' kp e=>fin f_ r' hz h' c' kp e) (by simp only[size_toArray]<;>lia)
theorem wj:aX X (.type "tuple") (fun xs H Q=>∃ p ys,xs=[.ref p]/\((CT X.K H p ys/\∀ l,H l=none->Q (.ref l) (upd H l<|.tup ys))\/(A_ X.K H p ys/\Q (.ref p) H))):=by
 intro pins s σ H xs us Q I r h;obtain⟨p,ys,rfl,h⟩:=h;obtain⟨u,rfl,rx⟩:=ci r;cases rx;rcases h with ⟨hq,q⟩ | ⟨hq,q⟩
 ·obtain⟨f_,r',pl,hz⟩:=I.list hq;have hlen:=r'.length;refine call_tuple_list pl.isList (fun h' kp=>?_) (by simp only[size_toArray]<;>lia);have I1:Inv X pins σ H { s with heap:=h' }:=I.kept (t':=s.toks) kp;have I2:Inv X pins σ (upd H h'.objs.size<|.tup ys) { s with heap:=h'.push { cls:=.type "tuple",data:=.seq f_.toArray } }:=
   I1.laid (t':=s.toks) (fun b o e=>Heap.get?_push_of_some _ e) (Nat.le_refl _) (show a0 X.prog X.w _ _ _ (.tup ys) from ⟨hz,f_,r',IsTup.new _ _⟩);exact⟨.ref h'.objs.size,_,I2,rfl,q _<|I1.l_.fresh<|Nat.le_refl _⟩
 ·obtain⟨f_,r',pl,hz⟩:=I.tuple hq;exact call_tuple_same pl ⟨.ref p,H,I,rfl,q⟩
def Hm(K:PySem.W.Frag)(T:String)(x:V)(H:Hp):Prop:=match x with
 | .str _=>T = "str"
 | .int _=>T = "int"
 | .ref p=>(T = "list" /\ ∃ xs,CT K H p xs)\/(T = "tuple" /\ ∃ o,K.lookup p=some o/\o.cls=.type "tuple" /\ o.dict=none)\/
   (T = "dict" /\ ((∃ kvs,H p=some (.dK kvs))\/∃ kvs,H p=some (.dT kvs)))\/(T = "set" /\ ∃ S n,H p=some (.set S n))
 | _=>False
theorem og{T:String}{x:V}{v:Value}(I:Inv X pins σ H s)(r:aq x v)(ty:Hm X.K T x H):
  s.TypeIs v T/\∀ a,v=.ref a->∃ ob,s.heap.get? a=some ob/\ob.dict=none:=by
 cases x with
 | str z=>
  obtain⟨t,rfl⟩:=r;cases (show T = "str" from ty);exact⟨typeIs_str s z t,fun _ e=>nomatch e⟩
 | int i=>
  obtain⟨t,rfl⟩:=r;cases (show T = "int" from ty);exact⟨typeIs_int s i t,fun _ e=>nomatch e⟩
 | ref p=>
  cases r;rcases ty with ⟨rfl,xs,hq⟩ | ⟨rfl,o,hk,hc,hd⟩ | ⟨rfl,hk⟩ | ⟨rfl,S,n,hk⟩
  ·obtain⟨f_,_,pl,_⟩:=I.list hq;refine⟨pl.isList.typeIs,fun a e=>?_⟩;cases e;obtain⟨o,n,e,c,hd,_⟩:=pl;exact⟨o,e,hd⟩
  ·refine⟨⟨o,I.HQ p o hk,hc⟩,fun a e=>?_⟩;cases e;exact⟨o,I.HQ _ o hk,hd⟩
  ·have z:∃ o,s.heap.get? p=some o/\o.ExactDict:=by
    rcases hk with ⟨kvs,hk⟩ | ⟨kvs,hk⟩
    ·obtain⟨_,_,_,_,o,_,_,e,ex,_⟩:=I.l_ p _ hk;exact⟨o,e,ex⟩
    ·obtain⟨_,_,_,_,o,_,_,e,ex,_⟩:=I.l_ p _ hk;exact⟨o,e,ex⟩
   obtain⟨o,e,ex⟩:=z;refine⟨⟨o,e,ex.1⟩,fun a e2=>?_⟩;cases e2;exact⟨o,e,ex.2.1⟩
  ·obtain⟨o,_,_,_,e,ex,_⟩:=I.l_ p _ hk;refine⟨⟨o,e,ex.1⟩,fun a e2=>?_⟩;cases e2;exact⟨o,e,ex.2.1⟩
 | _=>exact False.elim ty
def wl(K:PySem.W.Frag)(T:String)(r:V->List V->Hp->VK->Prop)(to:TE):TE:=fun σ H Q=>to σ H fun x H1=>Hm K T x H1/\r x [] H1 Q
def Oi(K:PySem.W.Frag)(T:String)(r:V->List V->Hp->VK->Prop)(to:TE)(t:TA):TE:=fun σ H Q=>to σ H fun x H1=>Hm K T x H1/\t σ H1 fun xs H2=>r x xs H2 Q
variable{o e:Expr}{es:List Expr}{to:TE}{t:TA}{name:Str}{apos De:Pos}{T id:String}{r:V->List V->Hp->VK->Prop}
theorem wm(pa:PlainAttrs T)(slot:Slot T name id)(GT:typeOf (.builtin id)=pure (.type "method_descriptor"))(hm:LM X id r)(ho:PE X o to)(D6:attributeBase o name X.env (eval o X.env)=eval o X.env:=by rfl)(D7:(apos.endLine == De.line)=true:=by rfl):PE X (.Call (.Attribute o name apos) [] [] De) (wl X.K T r to):=by
 intro pins s σ H Q I h;refine wpAny_Call_method0_late D6 D7 (u_ (ho pins s σ H _ I h) fun v s1 ⟨x,H1,I1,r1,ty,q1⟩=>?_);obtain⟨h1,h2⟩:=og I1 r1 ty;exact⟨T,id,pa,slot,GT,h1,h2,Calls.callWith_builtin rfl<|PySem.evalArgs_none<|hm pins s1 σ H1 x [] v [] Q I1 r1 .nil q1⟩
theorem wn(pa:PlainAttrs T)(slot:Slot T name id)(GT:typeOf (.builtin id)=pure (.type "method_descriptor"))(hm:LM X id r)(ho:PE X o to)(ha:PA X (e::es) t)(D6:attributeBase o name X.env (eval o X.env)=eval o X.env:=by rfl)(Ia:((backTo De<|starEach (e::es) X.env).all (fun x=>!x.1) && (backToKw De<|keywordEach [] X.env).all (fun x=>x.1.isSome)
   && decide ((e::es).length+([]:List Keyword).length+(if ([]:List Keyword).isEmpty then 0 else 1)<30))=true:=by rfl)(D7:(apos.endLine == De.line)=true:=by rfl)(hs:starEach (e::es) X.env=(false,eval e X.env)::starEach es X.env:=by rfl)(EX:(backTo De<|starEach es X.env).any (·.1)=false:=by rfl):
  PE X (.Call (.Attribute o name apos) (e::es) [] De) (Oi X.K T r to t):=by
 intro pins s σ H Q I h;refine wpAny_Call_method_late D6 Ia D7 rfl (u_ (ho pins s σ H _ I h) fun v s1 ⟨x,H1,I1,r1,ty,q1⟩=>?_);obtain⟨h1,h2⟩:=og I1 r1 ty;refine⟨T,id,pa,slot,GT,h1,h2,?_⟩;have hA:=ha De pins s1 σ H1 _ I1 q1;rw[hs] at hA ⊢;refine Calls.callWith_builtin (by show (false || (backTo De<|starEach es X.env).any (·.1))=false;rw[EX]<;>rfl) (Calls.evalArgs_plain ?_);exact u_ hA fun us s2 ⟨vs,H2,I2,r2,q2⟩=>hm pins s2 σ H2 x vs v us Q I2 r1 r2 q2
end
def Nl(X:Cx)(id:String)(r:V->List V->Hp->VK->Prop):Prop:=
 ∀ (pins:List (Addr×Obj)) (s:Shared) (σ:St) (H:Hp) (x:V) (xs:List V) (v:Value) (us:List Value) (Q:VK),Inv X pins σ H s->aq x v->ak xs us->r x xs H Q->
  wpAny (model X.prog X.w) X.A (call (.builtin id) (v::us)) (EP X pins σ Q) X.xe s
theorem ak.one:∀ {x:V}{us:List Value},ak [x] us->∃ u,us=[u]/\aq x u
 | _,_,.cons r .nil=>⟨_,rfl,r⟩
theorem ak.zero:∀ {us:List Value},ak [] us->us=[]
 | _,.nil=>rfl
theorem ak.dropLast{xs:List V}(h:ak xs us):ak xs.dropLast us.dropLast:=by
 induction h with
 | nil=>exact .nil
 | cons r t ih=>
  cases t with
  | nil=>exact .nil
  | cons q t'=>exact .cons r ih
theorem wo(l:List α):l.eraseIdx (l.length - 1)=l.dropLast:=by
 induction l with
 | nil=>rfl
 | cons a r ih=>
  cases r with
  | nil=>rfl
  | cons b r=>
   have e:(a::b::r).length - 1=((b::r).length - 1)+1:=by
    have h1:(a::b::r).length=r.length+2:=rfl;have h2:(b::r).length=r.length+1:=rfl;lia
   rw[e,List.eraseIdx_cons_succ,ih];all_goals rfl
section
variable{X:Cx}{pins:List (Addr×Obj)}{σ:St}{H:Hp}{s:Shared}{l b:Addr}{xs ys zs:List V}
theorem Inv.JF{f:Array Value->Array Value}(I:Inv X pins σ H s)(hH:H l=some (.lst xs))(e:s.heap.get? l=some { cls:=.type "list",data:=.seq f_.toArray n })(hf:f f_.toArray=its'.toArray)(hv:ak ys its')(hz:ys.length<=sizeLine):
  Inv X pins σ (upd H l<|.lst ys) { s with heap:=s.heap.update l (Obj.mapSeq f),toks:=t' }:=by
 have q:=PySem.IsL.update e f;rw[hf] at q;refine I.write (x:=l) (e:=l) (by rw[hH];exact trivial) (.inl rfl) (fun b' u hb hu=>(Heap.get?_update_other s.heap (Obj.mapSeq f)<|Ne.symm hb).trans hu) ⟨_,q⟩ ?_;exact⟨hz,its',_,hv,q⟩
theorem Inv.LN(I:Inv X pins σ H s)(hv:ak ys f_)(hz:ys.length<=sizeLine):
  Inv X pins σ (upd H s.heap.objs.size<|.lst ys) { s with heap:=s.heap.push { cls:=.type "list",data:=.seq f_.toArray },toks:=t' }:=
 I.laid (fun _ _ q=>Heap.get?_push_of_some _ q) (Nat.le_refl _) ⟨hz,f_,0,hv,Heap.get?_push_size _ rfl⟩
theorem Inv.fresh(I:Inv X pins σ H s):H s.heap.objs.size=none:=I.l_.fresh (Nat.le_refl _)
theorem Inv.DH(I:Inv X pins σ H s)(hH:H l=some (.lst xs)):xs.length<=sizeLine/\∃ (f_:List Value) (n:Nat),ak xs f_/\xs.length=f_.length/\s.heap.get? l=some { cls:=.type "list",data:=.seq f_.toArray n }:=by
 obtain⟨z,f_,n,r,e⟩:=I.l_ l _ hH;exact⟨z,f_,n,r,r.length,e⟩
theorem B5(h:n<=sizeLine):Builtin.List.listTooLong n=false:=by
 unfold Builtin.List.listTooLong;exact decide_eq_false (by lia)
end
section
variable{X:Cx}
def GU:V->List V->Hp->VK->Prop:=fun x vs H Q=>∃ l xs y,x=.ref l/\vs=[y]/\H l=some (.lst xs)/\xs.length<sizeLine/\Q .j_ (upd H l<|.lst<|xs++[y])
theorem wq:Nl X "list.append" GU:=by
 intro pins s σ H x vs v us Q I rx rv h;obtain⟨l,xs,y,rfl,rfl,hH,hz,q⟩:=h;cases rx;obtain⟨u,rfl,ru⟩:=rv.one;obtain⟨z,f_,n,r,hl,e⟩:=I.DH hH;refine call_meets F.slot_list_append ⟨_,e,rfl⟩ F.entry_list_append (F.args_list_append_2 _ _) (PySem.list_append l f_.toArray n u (by rw[size_toArray];lia)) ⟨e,?_⟩;refine⟨.j_,_,I.JF (its':=f_++[u]) hH e (by simp) (r.append<|.cons ru .nil) ?_,rfl,q⟩;rw[length_append,length_singleton];lia
def LO:V->List V->Hp->VK->Prop:=fun x vs H Q=>∃ l xs y,x=.ref l/\vs=[]/\H l=some (.lst xs)/\xs[xs.length - 1]?=some y/\Q y (upd H l<|.lst xs.dropLast)
theorem wu:Nl X "list.pop" LO:=by
 intro pins s σ H x vs v us Q I rx rv h;obtain⟨l,xs,y,rfl,rfl,hH,hy,q⟩:=h;cases rx;have Oj:=rv.zero;subst Oj;obtain⟨z,f_,n,r,hl,e⟩:=I.DH hH;obtain⟨u,hu,ru⟩:=r.get hy;have Lm:f_.toArray[f_.toArray.size - 1]?=some u:=by
  show f_.toArray[f_.length - 1]?=some u;rw[<- getElem?_toList,<- hl];exact hu
 refine call_meets F.slot_list_pop ⟨_,e,rfl⟩ F.entry_list_pop (F.args_list_pop_1 _) (MeetsSeq.list_pop_last l f_.toArray n u Lm (by rw[size_toArray];lia)) ⟨e,?_⟩;refine⟨y,_,I.JF (its':=f_.dropLast) hH e ?_ r.dropLast ?_,ru,q⟩
 ·show f_.toArray.eraseIdxIfInBounds (f_.toArray.size - 1)=f_.dropLast.toArray;rw[size_toArray,List.eraseIdxIfInBounds_toArray,wo]
 ·rw[List.length_dropLast];lia
def LP:R2:=fun x y H Q=>∃ l b xs zs,x=.ref l/\y=.ref b/\H l=some (.lst xs)/\H b=some (.lst zs)/\xs.length+zs.length<=sizeLine/\∀ p,H p=none->Q (.ref p) (upd H p<|.lst<|xs++zs)
theorem wv:Dg X (binaryOp .Add) LP:=by
 intro pins s σ H x y v u Q I rx ry h;obtain⟨l,b,xs,zs,rfl,rfl,hH,hB,hz,q⟩:=h;cases rx;cases ry;obtain⟨z,f_,n,r,hl,e⟩:=I.DH hH;obtain⟨z2,Eo,n2,r2,IS,e2⟩:=I.DH hB;refine PySem.P.add_list e e2 ?_ (by rw[size_toArray,size_toArray];lia);have ea:f_.toArray++Eo.toArray=(f_++Eo).toArray:=by simp
 rw[ea];exact⟨.ref _,_,I.LN (t':=s.toks) (r.append r2) (by rw[length_append];lia),rfl,q _ I.fresh⟩
end
section
variable{prog:Program}{w:World}{A:Around}{E:Value->Shared->Prop}{s:Shared}
end
section
variable{X:Cx}
end
section
variable{κ:Type}[DecidableEq κ]
def bZ(kvs:List (κ×V))(k:κ):Option V:=(kvs.find? fun kv=>decide (kv.1=k)).map (·.2)
def cj(kvs:List (κ×V))(k:κ)(v:V):List (κ×V):=
 if (kvs.any fun kv=>decide (kv.1=k))=true then kvs.map (fun kv=>if kv.1=k then (kv.1,v) else kv) else kvs++[(k,v)]
theorem i8{p:κ×V}{r:List (κ×V)}{k:κ}(e:p.1=k):bZ (p::r) k=some p.2:=by simp[bZ,find?_cons,e]
theorem i9{p:κ×V}{r:List (κ×V)}{k:κ}(e:¬ p.1=k):bZ (p::r) k=bZ r k:=by simp[bZ,find?_cons,e]
theorem oh(k:κ):∀ kvs:List (κ×V),(kvs.any fun kv=>decide (kv.1=k))=(bZ kvs k).isSome
 | []=>rfl
 | p::r=>by
  rw[any_cons];by_cases e:p.1=k
  ·simp only[i8 e,decide_eq_true e,Bool.true_or,Option.isSome_some]
  ·rw[i9 e,decide_eq_false e,Bool.false_or];exact oh k r
theorem oj(kvs:List (κ×V))(k:κ)(v:V):(cj kvs k v).length<=kvs.length+1:=by
 unfold cj;split
 ·rw[length_map];lia
 ·rw[length_append,length_cons,length_nil];lia
theorem dg.CV{u:Option Value}(r:dg o u):o.isSome=u.isSome:=by
 cases o with
 | none=>cases u with
  | none=>rfl
  | some _=>exact (show False from r).elim
 | some _=>cases u with
  | none=>exact (show False from r).elim
  | some _=>rfl
theorem KV.val{kvs:List (κ×V)}{vs:List (κ×Value)}(r:KV kvs vs)(k:κ):dg (bZ kvs k) (valueAt vs k):=by
 unfold KV at r;induction r with
 | nil=>exact True.intro
 | @cons p q ps qs h t ih=>
  obtain⟨h1,h2⟩:=h;by_cases e:p.1=k
  ·have e':q.1=k:=h1.symm.trans e;have b:valueAt (q::qs) k=some q.2:=by simp[valueAt,find?_cons,e']
   rw[i8 e,b];exact h2
  ·have e':¬ q.1=k:=fun z=>e (h1.trans z);have b:valueAt (q::qs) k=valueAt qs k:=by simp[valueAt,find?_cons,e']
   rw[i9 e,b];exact ih
theorem KV.any{kvs:List (κ×V)}{vs:List (κ×Value)}(r:KV kvs vs)(k:κ):(kvs.any fun kv=>decide (kv.1=k))=vs.any fun kv=>decide (kv.1=k):=by
 unfold KV at r;induction r with
 | nil=>rfl
 | cons h t ih=>rw[any_cons,any_cons,ih,h.1]
theorem KV.Ib{kvs:List (κ×V)}{vs:List (κ×Value)}(r:KV kvs vs)(k:κ){y:V}{u:Value}(ry:aq y u):
  KV (kvs.map fun kv=>if kv.1=k then (kv.1,y) else kv) (vs.map fun kv=>if kv.1=k then (kv.1,u) else kv):=by
 unfold KV at r ⊢;induction r with
 | nil=>exact .nil
 | @cons p q ps qs h t ih=>
  rw[map_cons,map_cons];refine .cons ?_ ih;obtain⟨h1,h2⟩:=h;by_cases e:p.1=k
  ·rw[if_pos e,if_pos<|h1.symm.trans e];exact⟨h1,ry⟩
  ·rw[if_neg e,if_neg<|fun z=>e<|h1.trans z];exact⟨h1,h2⟩
theorem KV.put{kvs:List (κ×V)}{vs:List (κ×Value)}(r:KV kvs vs)(k:κ){y:V}{u:Value}(ry:aq y u):KV (cj kvs k y) (stored vs k u):=by
 unfold cj stored;rw[r.any k];by_cases e:(vs.any fun kv=>decide (kv.1=k))=true
 ·rw[if_pos e,if_pos e];exact r.Ib k ry
 ·rw[if_neg e,if_neg e];exact Paired.snoc r ⟨rfl,ry⟩
theorem KV.length{kvs:List (κ×V)}{vs:List (κ×Value)}(r:KV kvs vs):kvs.length=vs.length:=Paired.length r
end
theorem ja{k:Key}{u:Value}(r:aq (kV k) u):(dW P w).is k u=true:=by
 cases k with
 | inl i=>obtain⟨t,e⟩:=(show ∃ t,u=Value.int i t from r);subst e;exact tK P w i t
 | inr x=>obtain⟨t,e⟩:=(show ∃ t,u=Value.str x t from r);subst e;exact tL P w x t
abbrev KT(H:Hp):List (List Im×V)->List (List Im×Addr×Value)->Prop:=Paired fun p q=>p.1=q.1/\Fr H p.1 q.2.1/\aq p.2 q.2.2
theorem KT.val(r:KT H kvs xs)(k:List Im):dg (bZ kvs k) ((atKey xs k).map (·.2)):=by
 induction r with
 | nil=>exact True.intro
 | @cons p q ps qs h t ih=>
  obtain⟨h1,_,h2⟩:=h;by_cases e:p.1=k
  ·have e':q.1=k:=h1.symm.trans e;have b:atKey (q::qs) k=some q.2:=by simp[atKey,find?_cons,e']
   rw[i8 e,b];exact h2
  ·have e':¬ q.1=k:=fun z=>e (h1.trans z);have b:atKey (q::qs) k=atKey qs k:=by simp[atKey,find?_cons,e']
   rw[i9 e,b];exact ih
theorem KT.Ib(r:KT H kvs xs)(k:List Im){y:V}{u:Value}(ry:aq y u):
  KT H (kvs.map fun kv=>if kv.1=k then (kv.1,y) else kv) (xs.map<|putAt k u):=by
 induction r with
 | nil=>exact .nil
 | @cons p q ps qs h t ih=>
  rw[map_cons,map_cons];refine .cons ?_ ih;obtain⟨h1,h2,h3⟩:=h;unfold putAt;by_cases e:p.1=k
  ·rw[if_pos e,if_pos<|h1.symm.trans e];exact⟨h1,h2,ry⟩
  ·rw[if_neg e,if_neg<|fun z=>e<|h1.trans z];exact⟨h1,h2,h3⟩
theorem KT.put(r:KT H kvs xs)(k:List Im){b:Addr}{y:V}{u:Value}(hb:Fr H k b)(ry:aq y u):
  KT H (cj kvs k y) (storedH xs k b u):=by
 have e:(kvs.any fun kv=>decide (kv.1=k))=(atKey xs k).isSome:=by
  rw[oh,(r.val k).CV,isSome_map]
 unfold cj storedH;rw[e];by_cases q:(atKey xs k).isSome=true
 ·rw[if_pos q,if_pos q];exact r.Ib k ry
 ·rw[if_neg q,if_neg q];exact Paired.snoc r ⟨rfl,hb,ry⟩
theorem KT.keeps(r:KT H kvs xs)(ht:∀ b ys,H b=some (.tup ys)->H' b=some (.tup ys)):KT H' kvs xs:=
 Paired.GL r fun _ _ z=>⟨z.1,z.2.1.mono ht,z.2.2⟩
section
variable{P:Program}{w:World}{H:Hp}{h:Heap}{a:Addr}
theorem om{u:HO}(ok:Dt P w H h)(e:Rd H a u):a0 P w H h a u:=e.ok ok
theorem fN{kvs:List (Key×V)}(ok:Dt P w H h)(e:Rd H a (.dK kvs)):kvs.length<=sizeLine/\(a == sysModules)=false/\∃ vs,KV kvs vs/\h.DictOf (dW P w) a vs:=
 show a0 P w H h a (.dK kvs) from om ok e
theorem ww{kvs:List (Key×V)}(ok:Dt P w H h)(e:H a=some (.dK kvs)):kvs.length<=sizeLine/\(a == sysModules)=false/\∃ vs,KV kvs vs/\h.DictOf (dW P w) a vs:=fN ok (.inl e)
mutual
theorem CL.Ei(ok:Dt P w H h):∀ {d:Im}{v:V}{u:Value},CL H d v->aq v u->Dq h d u
 | .j_,_,_,e,r=>by cases (show _=V.j_ from e);exact r
 | .bl b,_,_,e,r=>by cases (show _=V.bl b from e);exact r
 | .int i,_,_,e,r=>by cases (show _=V.int i from e);exact r
 | .str x,_,_,e,r=>by cases (show _=V.str x from e);exact r
 | .fn a,_,_,e,r=>by cases (show _=V.ref a from e);exact r
 | .tup ds,_,_,e,r=>by
  obtain⟨a,xs,rfl,h1,h2⟩:=e;cases r;obtain⟨_,f_,rv,o,g1,g2,n,g3⟩:=(show a0 P w H h a (.tup xs) from ok a _ h1);exact⟨a,o,f_.toArray,n,rfl,g1,g2,g3,by simpa using aj.Ei ok h2 rv⟩
 | .fl ds,_,_,e,r=>by
  obtain⟨a,xs,o,rfl,h1,h2⟩:=e;cases r;exact⟨a,rfl⟩
 | .fd,_,_,e,r=>by
  obtain⟨a,o,rfl,h1⟩:=e;cases r;exact⟨a,rfl⟩
theorem aj.Ei(ok:Dt P w H h):∀ {ds:List Im}{vs:List V}{us:List Value},aj H ds vs->ak vs us->aG h ds us
 | [],_,_,e,r=>by cases (show _=[] from e);cases r;rfl
 | d::ds,_,_,e,r=>by
  obtain⟨v,t,rfl,h1,h2⟩:=e;cases r with
  | cons r1 r2=>exact⟨_,_,rfl,CL.Ei ok h1 r1,aj.Ei ok h2 r2⟩
end
theorem fO{ks:List Im}(ok:Dt P w H h)(e:Fr H ks a):(bh P w).is h ks a:=⟨e.1,e.2.Ei ok rfl⟩
theorem jb{P:Program}{w:World}{A:Around}(h:A.units+20<cLine):(bh P w).room A.in1:=show A.units+1+10<cLine by lia
theorem gJ(ok:Dt P w H h)(e:Rd H a (.dT kvs)):kvs.length<=sizeLine/\(a == sysModules)=false/\
  ∃ xs,KT H kvs xs/\h.DictOfH (bh P w) a xs:=by
 obtain⟨z,y,xs,r,o,es,ep,h1,h2,h3,h4,h5⟩:=(show a0 P w H h a (.dT kvs) from om ok e);refine⟨z,y,xs,r,o,es,ep,h1,h2,h3,h4,fun x hx=>?_,h5⟩;have all:∀ {l:List (List Im×V)}{m:List (List Im×Addr×Value)},KT H l m->∀ x∈m,(bh P w).is h x.1 x.2.1:=by
  intro l m q;induction q with
  | nil=>intro x hx;exact nomatch hx
  | @cons p q ps qs hq t ih=>
   intro x hx;rcases mem_cons.mp hx with e | hx
   ·subst e;exact fO ok (by rw[<- hq.1];exact hq.2.1)
   ·exact ih x hx
 exact all r x hx
theorem oo(ok:Dt P w H h)(e:H a=some (.dT kvs)):kvs.length<=sizeLine/\(a == sysModules)=false/\
  ∃ xs,KT H kvs xs/\h.DictOfH (bh P w) a xs:=gJ ok (.inl e)
end
def bE(H:Hp)(a:Addr)(y:V)(r:Option V):Prop:=
 (∃ kvs k,Rd H a (.dK kvs)/\y=kV k/\r=bZ kvs k)\/∃ kvs k b,Rd H a (.dT kvs)/\y=.ref b/\Fr H k b/\r=bZ kvs k
def eV(H:Hp)(a:Addr)(y v:V)(H':Hp):Prop:=
 (∃ kvs k,H a=some (.dK kvs)/\y=kV k/\kvs.length<sizeLine/\H'=upd H a (.dK<|cj kvs k v))\/
 ∃ kvs k b,H a=some (.dT kvs)/\y=.ref b/\Fr H k b/\kvs.length<sizeLine/\H'=upd H a (.dT<|cj kvs k v)
theorem bE.k{H:Hp}{a:Addr}{kvs:List (Key×V)}{k:Key}(e:H a=some (.dK kvs)):bE H a (kV k) (bZ kvs k):=.inl ⟨kvs,k,.inl e,rfl,rfl⟩
theorem bE.t{k:List Im}(e:H a=some (.dT kvs))(eb:Fr H k b):bE H a (.ref b) (bZ kvs k):=.inr ⟨kvs,k,b,.inl e,rfl,eb,rfl⟩
theorem eV.k{H:Hp}{a:Addr}{kvs:List (Key×V)}{k:Key}{v:V}(e:H a=some (.dK kvs))(hl:kvs.length<sizeLine):eV H a (kV k) v (upd H a<|.dK<|cj kvs k v):=.inl ⟨kvs,k,e,rfl,hl,rfl⟩
theorem eV.t{k:List Im}{v:V}(e:H a=some (.dT kvs))(eb:Fr H k b)(hl:kvs.length<sizeLine):
  eV H a (.ref b) v (upd H a<|.dT<|cj kvs k v):=.inr ⟨kvs,k,b,e,rfl,eb,hl,rfl⟩
section
variable{X:Cx}{pins:List (Addr×Obj)}{σ:St}{H:Hp}{s:Shared}{a:Addr}{y v:V}{u r:Value}{o:Option V}{A:Around}{E:Value->Shared->Prop}
theorem Inv.big(I:Inv X pins σ H s):sysModules<s.heap.objs.size:=by
 have h:mainGlobals<s.heap.objs.size:=(I.mod.glob.keeps I.bk).lt;exact lt_trans (by decide) h
theorem wx(hu:A.units+20<cLine)(I:Inv X pins σ H s)(g:bE H a y (some v))(ry:aq y u)(h:∀ w' s',Inv X pins σ H s'->aq v w'->Q w' s'):
  wpAny (model X.prog X.w) A (getItem (.ref a) u) Q E s:=by
 rcases g with ⟨kvs,k,e,ey,l⟩ | ⟨kvs,k,b,e,ey,eb,l⟩
 ·subst ey;obtain⟨z,hd,vs,rel,dd⟩:=fN I.l_ e;obtain⟨w',hw,FW⟩:=dg.some_of (v:=v) (o:=valueAt vs k) (by rw[l];exact rel.val k);exact wpAny_getItem_of (ja ry) dd.mapOf hw (h w' _ (I.tok _) FW)
 ·subst ey;cases (show u=Value.ref b from ry);obtain⟨z,hd,xs,rel,dd⟩:=gJ I.l_ e;obtain⟨w',hw,FW⟩:=dg.some_of (v:=v) (o:=(atKey xs k).map (·.2)) (by rw[l];exact rel.val k);obtain⟨p,hp,Fx⟩:=map_eq_some_iff.mp hw;refine wpAny_getItem_heap (jb hu) (fO I.l_ eb) dd hp ?_;rw[Fx];exact h w' _ (I.tok _) FW
theorem kN(hu:A.units+20<cLine)(I:Inv X pins σ H s)(g:bE H a y o)(ry:aq y u)(h:∀ s',Inv X pins σ H s'->Q (.bool o.isSome) s'):
  wpAny (model X.prog X.w) A (compareOp .In u<|.ref a) Q E s:=by
 rcases g with ⟨kvs,k,e,ey,l⟩ | ⟨kvs,k,b,e,ey,eb,l⟩
 ·subst ey;obtain⟨z,hd,vs,rel,dd⟩:=fN I.l_ e;refine wpAny_in_of (ja ry) hd dd.mapOf ?_;rw[<- (rel.val k).CV,<- l];exact h _ (I.tok _)
 ·subst ey;cases (show u=Value.ref b from ry);obtain⟨z,hd,xs,rel,dd⟩:=gJ I.l_ e;refine wpAny_in_heap (jb hu) (fO I.l_ eb) hd dd ?_;have q:=(rel.val k).CV;rw[isSome_map] at q;rw[<- q,<- l];exact h _ (I.tok _)
theorem kO(hu:A.units+20<cLine)(I:Inv X pins σ H s)(g:bE H a y o)(ry:aq y u)(h:∀ s',Inv X pins σ H s'->Q (.bool<|!o.isSome) s'):
  wpAny (model X.prog X.w) A (compareOp .NotIn u<|.ref a) Q E s:=by
 rcases g with ⟨kvs,k,e,ey,l⟩ | ⟨kvs,k,b,e,ey,eb,l⟩
 ·subst ey;obtain⟨z,hd,vs,rel,dd⟩:=fN I.l_ e;refine wpAny_notIn_of (ja ry) hd dd.mapOf ?_;rw[<- (rel.val k).CV,<- l];exact h _ (I.tok _)
 ·subst ey;cases (show u=Value.ref b from ry);obtain⟨z,hd,xs,rel,dd⟩:=gJ I.l_ e;refine wpAny_notIn_heap (jb hu) (fO I.l_ eb) hd dd ?_;have q:=(rel.val k).CV;rw[isSome_map] at q;rw[<- q,<- l];exact h _ (I.tok _)
theorem kP{ob:HO}(I:Inv X pins σ H s)(mu:Jp (H a))(hs:Heap.SameBut a s.heap h')(he:∃ q,h'.get? a=some q)(new:a0 X.prog X.w (upd H a ob) h' a ob):
  Inv X pins σ (upd H a ob) { s with heap:=h',toks:=t' }:=
 I.write (x:=a) (e:=a) mu (.inl rfl) (fun b q hb z=>(hs.2 b hb).trans z) he new
theorem wy{kvs:List (Key×V)}{vs:List (Key×Value)}(z:kvs.length<=sizeLine)(hd:(a == sysModules)=false)(rel:KV kvs vs)(dd:h'.DictOf (dW P w) a vs):
  a0 P w H' h' a (.dK kvs):=⟨z,hd,vs,rel,dd⟩
theorem oq{Q:Unit->Shared->Prop}(hu:A.units+20<cLine)(I:Inv X pins σ H s)(g:eV H a y v H')(ry:aq y u)(rv:aq v r)(h:∀ s',Inv X pins σ H' s'->Q () s'):
  wpAny (model X.prog X.w) A (setItem (.ref a) u r) Q E s:=by
 rcases g with ⟨kvs,k,e,ey,l,eH⟩ | ⟨kvs,k,b,e,ey,eb,l,eH⟩
 ·subst ey eH;obtain⟨z,hd,vs,rel,dd⟩:=ww I.l_ e;have hz:vs.length<=sizeLine:=by rw[<- rel.length];exact z
  have hl:(cj kvs k v).length<=sizeLine:=by have:=oj kvs k v;lia
  refine wpAny_setItem_pairs (hsz:=hz) (ja ry) dd fun h' Hn hs=>h _ ?_;have he:∃ q,h'.get? a=some q:=let ⟨q,_,_,hq,_⟩:=Hn;⟨q,hq⟩
  exact kP I (by rw[e];exact True.intro) hs he (wy hl hd (rel.put k rv) Hn)
 ·subst ey eH;cases (show u=Value.ref b from ry);obtain⟨z,hd,xs,rel,dd⟩:=oo I.l_ e;have hz:xs.length<=sizeLine:=by rw[<- Paired.length rel];exact z
  have hl:(cj kvs k v).length<=sizeLine:=by have:=oj kvs k v;lia
  refine wpAny_setItem_heap (hsz:=hz) (jb hu) (fO I.l_ eb) dd fun h' Hn hs=>h _ ?_;obtain⟨q,es,ep,hq,h2,h3,h4,_,h5⟩:=Hn;refine kP I (by rw[e];exact True.intro) hs ⟨q,hq⟩ ⟨hl,hd,_,(rel.put k eb rv).keeps fun c ys ec=>?_,q,es,ep,hq,h2,h3,h4,h5⟩;rw[aw (nq ec e<|fun z=>nomatch z)];exact ec
end
section
variable{X:Cx}{pins:List (Addr×Obj)}{σ:St}{H:Hp}{s:Shared}{a:Addr}{kvs:List (Key×V)}{k:Key}{u:Value}{A:Around}{E:Value->Shared->Prop}
theorem wz(I:Inv X pins σ H s)(e:Rd H a (.dK kvs))(h:∀ t s',Inv X pins σ H s'->Q (.int kvs.length t) s'):wpAny (model X.prog X.w) A (call (.builtin "len") [.ref a]) Q E s:=by
 obtain⟨z,hd,vs,rel,dd⟩:=fN I.l_ e;refine call_len_dict hd dd (by rw[<- rel.length];rw[sizeLine_eq] at z;lia) ?_;rw[<- rel.length];exact h _ _ (I.tok _)
end
theorem wA{X:Cx}{y:V}(I:Inv X pins σ H s)(g:bE H a y o):s.TypeIs (.ref a) "dict" := by
 rcases g with ⟨kvs,k,e,_,_⟩ | ⟨kvs,k,b,e,_,_,_⟩
 ·obtain⟨_,_,vs,_,dd⟩:=fN I.l_ e;exact dd.typeIs
 ·obtain⟨_,_,xs,_,dd⟩:=gJ I.l_ e;exact dd.typeIs
section
variable{X:Cx}{o i e value:Expr}{pos pos' LF:Pos}{td ty tv:TE}
end
theorem ot(h:Heap)(hb:sysModules<h.objs.size):a0 P w H (h.push { cls:=.type "dict",data:=.dict #[] }) h.objs.size (.dT []):=
 ⟨zero_le _,beq_eq_false_iff_ne.mpr<|Ne.symm<|ne_of_lt hb,[],.nil,_,#[],0,Heap.get?_push_size _ rfl,⟨rfl,rfl,rfl⟩,rfl,rfl,nodup_nil⟩
def Ic:TE:=fun _ H Q=>∀ p,H p=none->Q (.ref p) (upd H p<|.dT [])
section
variable{X:Cx}{pos:Pos}
theorem wB:PE X (.Dict [] [] pos) Ic:=fun pins s σ H Q I h=>
 wpAny_Dict_empty ⟨.ref s.heap.objs.size,_,I.laid (a:=s.heap.objs.size) (o:=.dT []) (t':=s.toks) (fun _ _ q=>Heap.get?_push_of_some _ q) (Nat.le_refl _)<|ot s.heap I.big,rfl,h _<|I.l_.fresh<|Nat.le_refl _⟩
end
section
variable{X:Cx}{pins:List (Addr×Obj)}{σ:St}{H:Hp}{s:Shared}{a:Addr}{y d:V}{u r:Value}{o:Option V}{A:Around}{E:Value->Shared->Prop}
end
section
variable{X:Cx}{o e f:Expr}{apos De:Pos}{td ty tx:TE}
end
section
variable{X:Cx}{pins:List (Addr×Obj)}{σ:St}{H:Hp}{s:Shared}{a:Addr}{kvs:List (Key×V)}{A:Around}{E:Value->Shared->Prop}
end
section
variable{X:Cx}{pins:List (Addr×Obj)}{σ:St}{H:Hp}{s:Shared}{a:Addr}{y:V}{u:Value}{A:Around}{E:Value->Shared->Prop}
end
end L2
namespace Nm
open PySem PySem.W PySem.Calls PyProof.Rows
variable{n:Nat}{l:OpenLaw}
theorem wC{P:Params}{h:Heap}:∀ (ns:List Int) (vs:List Value),WellAll P h vs (ns.map WData.int)->IntsAre vs ns:=by
 intro ns;induction ns with
 | nil=>
  intro vs w;rw[List.map_nil] at w;cases w;exact .nil
 | cons n ns ih=>
  intro vs w;rw[map_cons] at w;cases w with
  | cons a b=>
   cases a;exact .cons _ _ (ih _ b)
theorem wD(hn:l.most=some n){P:Params}{h:Heap}{args:List WData}{vals:List Value}(GV:l.row.toRowW.claim.pre args=true)(LQ:WellAll P h vals args):
  ∃ a vs ns,vals=[Value.ref a]/\args=[WData.list (ns.map WData.int)]/\h.get? a=some { cls:=.type "list",data:=.seq vs.toArray }/\IntsAre vs ns/\ns.length<=n:=by
 have Ol:WShape.hasAll [] args [.list .int]=true:=(pre_splitW GV).1;have hc:l.pre.holds [] { args:=args }=true:=(pre_splitW GV).2;obtain⟨d,r,rfl,h1,h2⟩:=hasAllW_cons Ol;obtain rfl:=hasAllW_nil h2;obtain⟨xs,rfl,h3⟩:=hasW_list h1;obtain⟨ns,rfl⟩:=items_int h3;have hlen:ns.length<=n:=by
  unfold OpenLaw.pre at hc;have h4:(WTm.not<|.lt (.lit<|.int (n:Int))<|.len<|.arg 0).holds [] { args:=[.list (ns.map .int)] }=true:=by
   have h4:=(holds_andW hc).1;rw[hn] at h4;exact h4
  have h5:=condW_of h4 (w_not<|w_lt w_lit<|w_len_list<|w_arg rfl);rw[length_map] at h5;refine Nat.le_of_not_lt fun q=>?_;have q':(n:Int)<((ns.length:Nat):Int):=by lia
  first
   | (rw[decide_eq_true q'] at h5;exact absurd h5 (by decide))
   | (simp at h5;lia)
 cases LQ with
 | cons w1 w2=>
  cases w2;cases w1 with
  | list ho GW=>exact⟨_,_,ns,rfl,rfl,ho,wC ns _ GW,hlen⟩
theorem wE(l:OpenLaw)(args:List WData):l.row.toRowW.claim.post args (.bool true) args=true:=
 postW_of (r:=l.row.toRowW) (X:=(true == true))
  (show WShape.has [] (.bool true) .bool=true by first | rfl | decide | simp[WShape.has,WShape.arms,WShape.armsAll])
  (show (WTm.eq .res<|.lit<|.bool true).value [] { args:=args,res:=some (.bool true),after:=args }=some (.bool<|true == true) from w_eq_bool (w_res rfl) w_lit) rfl
theorem EN{q:Program}{loose:List Str}{XP:(Str->Option Value)->Heap->Prop}{YP:World->Heap->Prop}{d:DefRec}(hn:l.most=some n)(JG:d.params.defaults=[])(call:∀ (w:World) (s₀ s₁:Shared) (mg mb:Str->Option Value) (fa:Addr) (o:Obj) (pm cd doc:Value) (a:Addr) (vs:List Value) (ns:List Int),
   Ground q loose [] XP w s₀ mg mb s₁.heap->YP w s₁.heap->
   s₁.heap.get? fa=some o->o.data=.func (docDef d.name d.params d.body d.scope pm cd doc)->s₁.heap.CodeRec cd d.name->mg d.name=some (.ref fa)->
   s₁.heap.get? a=some { cls:=.type "list",data:=.seq vs.toArray }->IntsAre vs ns->ns.length<=n->s₁.gens=#[]->
   codeAny (model l.prog w) callerA (.call (.ref fa) ⟨[.ref a],[]⟩) (fun r s'=>r=.ok (.ret<|.bool true)/\OldK s₁.heap s'.heap/\s'.os=s₁.os/\AllBare s'.gens) s₁):
  WalkO q loose XP YP l.row.toRowW d [] (fun f vs=>PySem.call f vs):=by
 intro w s₀ s₁ mg mb G Y fa o pm cd doc dV kV ho hd Fu hD hmg hg args vals as GV Om Qk LQ On;obtain rfl:dV=.none:=Dflts.none hD JG;obtain rfl:kV=.none:=Dflts.noKw hD;obtain⟨a,vs,ns,rfl,rfl,Id,hints,hlen⟩:=wD hn GV LQ;refine enter_call (codeAny_mono (call w s₀ s₁ mg mb fa o pm cd doc a vs ns G Y ho (fd_plain hd) Fu hmg Id hints hlen hg) fun r s' hq=>?_);obtain⟨rfl,h2,h3,h4⟩:=hq;exact⟨.inl ⟨.bool true,.bool true,[],rfl,fun _=>rfl,.bool true,wE l _,fun _=>⟨List.Pairwise.nil,fun _ hm=>(nomatch hm)⟩⟩,h2,h3,h4⟩
section
variable{prog:Program}{w:World}{A:Around}{E:Value->Shared->Prop}{s:Shared}{K:Frag}
end
end Nm
namespace L2
open PySem PySem.Spec PyProof.Rows
variable{ps:List Str}{f:Addr}{st:Stmt}{qual x:Str}{sp:Sp}{fd:FuncData}{k:Nat}
theorem ou:∀ {vs:List Value}{ns:List Int},IntsAre vs ns->ak (ns.map V.int) vs
 | _,_,.nil=>.nil
 | _,_,.cons n t h=>.cons ⟨t,rfl⟩ (ou h)
def jc(H:Hp):Prop:=∀ b,H b=none\/∃ o xs,H b=some (.Da o<|.lst xs)
theorem wF{P:Program}{w:World}{K:PySem.W.Frag}{mg mb:Str->Option Value}{CX:FX}{fa a:Addr}{s₁:Shared}{vs:List Value}{ns:List Int}(KX:K.In s₁.heap)(LR:s₁.heap.Ns mainGlobals mg)(hb:s₁.heap.Ns builtinsNs mb)(Oo:∀ x:Str,x ≠ "__name__" -> mb x=bootBuiltins x)(LS:s₁.heap.NoLimit)(hg:s₁.gens=#[])(ha:s₁.heap.get? a=some { cls:=.type "list",data:=.seq vs.toArray })(hi:IntsAre vs ns)(hl:ns.length<=sizeLine)(hr:CM k callerA)(F:∀ base:Heap,K.In base->base.Ns mainGlobals mg->Dw P w K mg base CX k fa fd [x] sp)(JH:∀ (s:Shared) (u:Value),BindsTo s fd ⟨[u],[]⟩ [(x,u)])(Hl:∀ H:Hp,jc H->CT K H a (ns.map V.int)->sp [.ref a] H (fun v _=>v=.bl true) fun _ _ _=>False)(LT:∀ H e s',CX [] H s₁ (fun _ _ _=>False) e s'->False):
  codeAny (model P w) callerA (.call (.ref fa) ⟨[.ref a],[]⟩) (fun r s'=>r=.ok (.ret<|.bool true)/\OldK s₁.heap s'.heap/\s'.os=s₁.os/\AllBare s'.gens) s₁:=by
 have rv:=ou hi;have LU:=hi.length;have core:∀ H:Hp,jc H->CT K H a (ns.map V.int)->Dt P w H s₁.heap->(∀ b,H b≠none->b=a)->(H a≠none->K.lookup a=none)->
   codeAny (model P w) callerA (.call (.ref fa) ⟨[.ref a],[]⟩) (fun r s'=>r=.ok (.ret<|.bool true)/\OldK s₁.heap s'.heap/\s'.os=s₁.os/\AllBare s'.gens) s₁:=by
  intro H hO hS l_ hA hK;have Fh:∀ {b:Addr}{o:Obj},s₁.heap.get? b=some o->H b=none->(dD s₁.heap H).get? b=some o:=fun e n=>tN e n;have JB:∀ {b:Addr}{o:Obj}{es:Array DictEntry}{ep:Nat},s₁.heap.get? b=some o->o.data=.dict es ep->H b=none:=fun {b o es ep} e d=>by
   cases q:H b with
   | none=>rfl
   | some u=>
    have e':b=a:=hA b (by rw[q];simp);subst e';rw[ha] at e;cases e;have d':Data.seq vs.toArray _=Data.dict es ep:=d;cases d'
  have KR:∀ {b:Addr}{m:Str->Option Value},s₁.heap.Ns b m->(dD s₁.heap H).Ns b m:=fun {b m} ⟨o,es,ep,e,d,r⟩=>⟨o,es,ep,Fh e<|JB e d,d,r⟩;have Nn:K.In (dD s₁.heap H):=fun b o e=>Fh (KX b o e) (by
   cases q:H b with
   | none=>rfl
   | some u=>
    have e':b=a:=hA b (by rw[q];simp);subst e';rw[hK (by rw[q];simp)] at e;cases e)
  have hM:Mod K mg (dD s₁.heap H):=⟨Nn,KR LR,⟨mb,KR hb,Oo⟩,let ⟨mc,h1,h2⟩:=LS;⟨mc,KR h1,h2⟩⟩;have e0:GR P w K mg (dD s₁.heap H) callerA [] s₁ H:=⟨rfl,hM,fun b o e=>tQ e,Nat.le_of_eq<|tM _ _,trivial,fun b hb=>absurd (show b∈([]:List Addr) from hb) (by simp),l_,.of_eq hg⟩;refine codeAny_mono ((F _ Nn<|KR LR).run callerA [] s₁ H ⟨[.ref a],[]⟩ [.ref a] [.ref a] _ _ hr e0 (JH s₁<|.ref a) (.cons rfl .nil)<|Hl H hO hS) fun r s' h=>?_;cases r with
  | error e=>exact (LT H e s' h).elim
  | ok fl=>
   cases fl with
   | next=>exact False.elim h
   | brk=>exact False.elim h
   | cont=>exact False.elim h
   | ret u=>
    obtain⟨v,H',os,bare,un,F9,r',q⟩:=h;have q':v=.bl true:=q;subst q';obtain rfl:u=Value.bool true:=r';refine⟨rfl,OldK.of_keep fun b o e=>?_,os,bare⟩;cases q:H b with
    | none=>exact un.keep b o e q (by intro z;exact absurd (show b∈([]:List Addr) from z) (by simp)) (by simp)
    | some u=>
     rcases hO b with z | ⟨ob,xs,z⟩
     ·rw[q] at z;cases z
     ·have z2:=un.DX b ob _ z;obtain⟨e1,_⟩:=l_ b _ z;obtain⟨e2,_⟩:=F9 b _ z2;rw[e] at e1;cases e1;exact e2
 cases hk:K.lookup a with
 | some o=>
  have e:=KX a o hk;rw[ha] at e;cases e;refine core (fun _=>none) (fun _=>.inl rfl) (.inr ⟨_,vs.toArray,_,hk,rfl,rfl,rfl,by rw[size_toArray,LU];exact hl,by simpa using rv⟩) (fun b u z=>by have z':(none:Option HO)=some u:=z;cases z') (fun b z=>absurd rfl z) fun z=>absurd rfl z
 | none=>
  refine core (fun b=>if b=a then some (.Da { cls:=.type "list",data:=.seq vs.toArray } (.lst<|ns.map V.int)) else none) (fun b=>?_) (.inl<|.inr ⟨{ cls:=.type "list",data:=.seq vs.toArray },if_pos rfl⟩) (fun b u z=>?_) (fun b z=>?_) fun _=>hk
  ·by_cases hb:b=a
   ·exact .inr ⟨_,_,if_pos hb⟩
   ·exact .inl (if_neg hb)
  ·by_cases hb:b=a
   ·have z':=(if_pos hb).symm.trans z;cases z';subst hb;exact⟨ha,by rw[length_map];exact hl,vs,_,rv,ha⟩
   ·have z':=(if_neg hb).symm.trans z;cases z'
  ·by_cases hb:b=a
   ·exact hb
   ·exact absurd (if_neg hb) z
theorem wG{l:PySem.W.OpenLaw}{n:Nat}{q:Program}{loose:List Str}{XP:(Str->Option Value)->Heap->Prop}{YP:World->Heap->Prop}{d:DefRec}{K:Params->PySem.W.Frag}{CX:World->FX}{sp:World->Sp}(hn:l.most=some n)(LV:n<=sizeLine)(JG:d.params.defaults=[])(hr:CM k callerA)(hY:∀ (w:World) (h:Heap),YP w h->(K w.params).In h)(F:∀ (w:World) (mg:Str->Option Value) (fa:Addr) (h:Heap),(K w.params).In h->h.Ns mainGlobals mg->mg d.name=some (.ref fa)->
   ∃ fd:FuncData,(∀ (s:Shared) (u:Value),BindsTo s fd ⟨[u],[]⟩ [(x,u)])/\
    ∀ base:Heap,(K w.params).In base->base.Ns mainGlobals mg->Dw l.prog w (K w.params) mg base (CX w) k fa fd [x] (sp w))(Hl:∀ (w:World) (H:Hp) (a:Addr) (ns:List Int),ns.length<=n->jc H->CT (K w.params) H a (ns.map V.int)->sp w [.ref a] H (fun v _=>v=.bl true) fun _ _ _=>False)(LT:∀ (w:World) (H:Hp) (s:Shared) (e:Value) (s':Shared),CX w [] H s (fun _ _ _=>False) e s'->False):
  PySem.W.WalkO q loose XP YP l.row.toRowW d [] (fun f vs=>PySem.call f vs):=by
 refine Nm.EN hn JG fun w s₀ s₁ mg mb fa o pm cd doc a vs ns G Y ho hd Fu hmg Id hints hlen hg=>?_;have KX:=hY w _ Y;obtain⟨fd,hb,hF⟩:=F w mg fa _ KX G.T.g hmg;exact wF KX G.T.g G.T.b G.T.builtins G.T.nolimit hg Id hints (Nat.le_trans hlen LV) hr hF hb (fun H hO hS=>Hl w H a ns hlen hO hS) fun H e s'=>LT w H s₁ e s'
def di(s:Stmt):Arguments:=match s with
 | .FunctionDef _ a _ _ _ _ _ _ _ _=>a
 | _=>{ posonlyargs:=[],args:=[],vararg:=none,kwonlyargs:=[],kw_defaults:=[],kwarg:=none,defaults:=[] }
def cy(s:Stmt):List Stmt:=match s with
 | .FunctionDef _ _ b _ _ _ _ _ _ _=>b
 | _=>[]
def aD(s:Stmt):Scope:=match s with
 | .FunctionDef _ _ _ _ _ _ sc _ _ _=>sc
 | _=>{ kind:=.function,names:=[],isGenerator:=false,isCoroutine:=false }
abbrev Fi:FX:=fun _ _ _ _ _ _=>False
abbrev E0:XK:=fun _ _ _=>False
theorem oz{X:Cx}:i7 Fi X E0:=fun _ _ _ _ _ _ _ h=>h.elim
structure Fj(K:PySem.W.Frag)(x qual:Str)(st:Stmt)(f:Addr)(fd:FuncData):Prop where
 ex:∃ (oc:Value) (od:Option Addr) (kV doc pm:Value) (an:Option Addr) (z_ ct:Value) (FN:Array (Option Value)),
  fd=PySem.W.fnOf x qual (di st) (cy st) (aD st) .none kV doc pm an z_ ct/\K.lookup f=some ⟨oc,od,.func fd,FN⟩/\PySem.W.codeIn K z_ qual=true
 kp:PySem.W.keepIn K (.ref f)=true
section
variable{P:Program}{w:World}{K:PySem.W.Frag}{mg:Str->Option Value}{base:Heap}
theorem Fj.ok{N:List Str}(F:Fj K x qual st f fd)(S:k_ N ps (aD st))(len:∀ vs H Q E,sp vs H Q E->vs.length=ps.length)(FZ:∀ (z_:Value) (A:Around) (outer:List Env) (s:Shared) (H:Hp) (vs:List V) (Q:VK) (E:XK),CM k (A.deeper<|envOfC qual (aD st) s.heap.objs.size f z_)->sp vs H Q E->
   ∃ t,EW (dY Fi P w K mg base N qual (aD st) f z_ A outer s H E).IO (cy st) t/\t { nx:=fun _ H'=>Q .j_ H',rt:=Q } (dh N vs) H):Dw P w K mg base Fi (k+1) f fd ps sp:=by
 obtain⟨oc,od,kV,doc,pm,an,z_,ct,FN,rfl,lk,Fu⟩:=F.ex;refine vE lk Fu S len fun A outer s H vs Q E hr Hl=>?_;obtain⟨t,h,q⟩:=FZ z_ A outer s H vs Q E hr Hl;exact⟨t,h.IO,q⟩
theorem Fj.binds(F:Fj K x qual st f fd)(h:∀ (kV doc pm:Value) (an:Option Addr) (z_ ct:Value) (us:List Value),us.length=ps.length->bindArgs (PySem.W.fnOf x qual (di st) (cy st) (aD st) .none kV doc pm an z_ ct) ⟨us,[]⟩=pure (ps.zip us)):cP K fd ps []:=by
 obtain⟨oc,od,kV,doc,pm,an,z_,ct,FN,rfl,lk,Fu⟩:=F.ex;exact .all (h kV doc pm an z_ ct)
theorem wH{oc:Value}{od an:Option Addr}{FN:Array (Option Value)}{kV doc pm z_ ct:Value}(l:K.lookup f=some ⟨oc,od,.func<|PySem.W.fnOf x qual (di st) (cy st) (aD st) .none kV doc pm an z_ ct,FN⟩)(c:PySem.W.codeIn K z_ qual=true)(k:PySem.W.keepIn K (.ref f)=true):Fj K x qual st f (PySem.W.fnOf x qual (di st) (cy st) (aD st) .none kV doc pm an z_ ct):=⟨⟨oc,od,kV,doc,pm,an,z_,ct,FN,rfl,l,c⟩,k⟩
end
section
variable{X:Cx}
theorem pv(i:Nat){x:Str}{pos:Pos}(hN:X.N[i]?=some x:=by rfl)(hv:KJ X.env.scope x:=by first | exact Or.inl rfl | exact Or.inr (Or.inl rfl) | exact Or.inr (Or.inr rfl))(hd:(x == ("__debug__" : Str))=false:=by decide)(Fu:(x == ("__classdict__" : Str))=false:=by decide):PE X (.Name x pos) (dE i):=nv hN hv hd Fu
end
def aB(H H':Hp):Prop:=∀ b o,H b=some o->H' b=some o
theorem aB.refl(H:Hp):aB H H:=fun _ _ h=>h
end L2
namespace L2
section
variable{X:Cx}
theorem wI:aX X (.builtin "len") (fun xs H Q=>∃ a kvs,xs=[V.ref a]/\H a=some (.dK kvs)/\Q (.int kvs.length) H):=by
 intro pins s σ H xs us Q I r h;obtain⟨a,kvs,rfl,ha,q⟩:=h;obtain⟨u,rfl,ru⟩:=ci r;cases ru;exact wz I (.inl ha) fun t s' I'=>⟨.int kvs.length,H,I',⟨t,rfl⟩,q⟩
end
section
variable{κ:Type}[DecidableEq κ]
end
end L2
namespace L2
open PySem PySem.Spec PyProof.Rows
variable{Q:Option Value->Shared->Prop}{i ep:Nat}{it d C:Addr}{h:Heap}{ks:List Value}{wi:TI}{tg iter elt:Expr}{fp:List Addr}{H:Hp}{σ:St}{pins:List (Addr×Obj)}{caps:List Nat}{own:List Str}{env:Env}{pos:Pos}{scope:Scope}{ifs:List Expr}{s:Shared}
theorem wJ{prog:Program}{w:World}{A:Around}{R:Result->Shared->Prop}{target:Expr}{it acc:Value}(I:Nat->Shared->Prop)(turn:∀ n s,I n s->wpAny (model prog w) A (pyNext it) (fun r s₁=>match r with
   | none=>R (.ok .next) s₁
   | some v=>wpAny (model prog w) A (letOwnedTupleGo target it v) (fun _ s₁=>wpAny (model prog w) A (assign target env v) (fun _ s₂=>
     wpAny (model prog w) A (forIn ifs true fun c r=>if r=true then do let ok <- isTrue c env (eval c env);pure (ForInStep.yield ok) else pure (ForInStep.yield r)) (fun ok s₃=>
      if ok=true then wpAny (model prog w) A (eval elt env) (fun x s₄=>
       wpAny (model prog w) A (call (.builtin "list.append") [acc,x]) (fun _ s₅=>∃ m,m<n/\I m s₅) (fun _ _=>False) s₄) (fun _ _=>False) s₃
      else ∃ m,m<n/\I m s₃) (fun _ _=>False) s₂) (fun _ _=>False) s₁) (fun _ _=>False) s₁) (fun _ _=>False) s)(n:Nat)(h:I n s):
  codeAny (model prog w) A (.compLoop (.ListComp elt [⟨target,iter,ifs,0⟩] scope pos) 0 it acc env) R s:=by
 refine codeAny_loop rfl I (fun n s hI=>?_) n h;show wpAny _ A ((compTurn (.ListComp elt [⟨target,iter,ifs,0⟩] scope pos) 0 it acc env).onRaise (fun x=>do noteFrame x env;theTreesLotGoes x)) _ _ s;refine wpAny_noted ?_;rw[compTurn_list];refine wpAny_bind (wpAny_standAt<|wpAny_bind<|wpAny_mono (turn n s hI) (fun r s₁ h₁=>?_) fun _ _ h'=>h'.elim);cases r with
 | none=>exact wpAny_pure h₁
 | some v=>
  refine wpAny_bind (wpAny_mono h₁ (fun _ s₁ h₁=>?_) fun _ _ h'=>h'.elim);refine wpAny_bind (wpAny_mono h₁ (fun _ s₂ h₂=>wpAny_bind<|wpAny_mono h₂ (fun ok s₃ h₃=>?_) fun _ _ h'=>h'.elim) fun _ _ h'=>h'.elim);cases ok with
  | false=>exact wpAny_pure ⟨rfl,h₃⟩
  | true=>
   exact wpAny_bind (wpAny_bind<|wpAny_mono h₃ (fun x s₄ h₄=>wpAny_bind<|wpAny_mono h₄ (fun _ s₅ h₅=>wpAny_pure<|wpAny_pure ⟨rfl,h₅⟩) fun _ _ h'=>h'.elim) fun _ _ h'=>h'.elim)
def eZ(env:Env)(names:List (Str×NameKind)):List (Str×Addr):=names.foldl (fun cs y=>if y.2 == .free then (y.1,(env.cells.lookup y.1).getD 0)::cs else cs) []
theorem kQ{env:Env}:∀ (names:List (Str×NameKind)) (cs:List (Str×Addr)),(∀ y∈names,y.2=.free->∃ c,env.cells.lookup y.1=some c)->
  (forIn names cs fun (y:Str×NameKind) cs=>if y.2 == .free then (do let c <- cellOf env y.1;pure (ForInStep.yield ((y.1,c)::cs))) else pure (ForInStep.yield cs):Sem _)=
   pure (names.foldl (fun cs y=>if y.2 == .free then (y.1,(env.cells.lookup y.1).getD 0)::cs else cs) cs)
 | [],cs,_=>rfl
 | y::r,cs,h=>by
  rw[forIn_cons,foldl_cons];by_cases hy:y.2=.free
  ·obtain⟨c,hc⟩:=h y mem_cons_self hy;have e:(y.2 == NameKind.free)=true:=by simp[hy]
   rw[if_pos e,if_pos e];have ec:cellOf env y.1=pure c:=by unfold cellOf;rw[hc]
   rw[ec,hc];show (forIn r ((y.1,c)::cs) _:Sem _)=_;exact kQ r _ fun z hz=>h z (mem_cons_of_mem _ hz)
  ·have e:¬ (y.2 == NameKind.free)=true:=by simp[hy]
   rw[if_neg e,if_neg e];show (forIn r cs _:Sem _)=_;exact kQ r _ fun z hz=>h z (mem_cons_of_mem _ hz)
theorem wK(h:∀ y∈scope.names,y.2=.free->∃ c,env.cells.lookup y.1=some c):closureFor scope env=pure (eZ env scope.names):=by
 have:=kQ (env:=env) scope.names [] h;unfold closureFor;dsimp only;have e:(forIn scope.names ([]:List (Str×Addr))<|fun (x:Str×NameKind) (r:List (Str×Addr))=>(if x.2 == .free then (do let c <- cellOf env x.1;pure (ForInStep.yield ((x.1,c)::r))) else pure (ForInStep.yield r):Sem (ForInStep<|List<|Str×Addr)))=pure (eZ env scope.names):=this;rw[e];rfl
theorem oA{env:Env}:∀ (names:List (Str×NameKind)) (cs:List (Str×Addr)) (x:Str) (c:Addr),
  (names.foldl (fun cs y=>if y.2 == .free then (y.1,(env.cells.lookup y.1).getD 0)::cs else cs) cs).lookup x=some c->
  (c=(env.cells.lookup x).getD 0/\(x,NameKind.free)∈names)\/cs.lookup x=some c
 | [],cs,x,c,h=>.inr h
 | y::r,cs,x,c,h=>by
  rw[foldl_cons] at h;rcases oA r _ x c h with ⟨e,m⟩ | h
  ·exact .inl ⟨e,mem_cons_of_mem _ m⟩
  ·by_cases hy:y.2=.free
   ·rw[if_pos (by simp[hy])] at h;rw[lookup_cons] at h;by_cases hx:x=y.1
    ·subst hx;rw[beq_self_eq_true] at h;refine .inl ⟨(Option.some.inj h).symm,?_⟩;rw[<- hy];exact mem_cons_self
    ·have:(x == y.1)=false:=by simpa using hx
     rw[this] at h;exact .inr h
   ·rw[if_neg (by simp[hy])] at h;exact .inr h
theorem kR{env:Env}:∀ (names:List (Str×NameKind)) (cs:List (Str×Addr)) (x:Str),(x,NameKind.free)∈names\/(∃ c,cs.lookup x=some c)->
  ∃ c,(names.foldl (fun cs y=>if y.2 == .free then (y.1,(env.cells.lookup y.1).getD 0)::cs else cs) cs).lookup x=some c
 | [],cs,x,h=>by
  rcases h with h | h
  ·cases h
  ·exact h
 | y::r,cs,x,h=>by
  rw[foldl_cons];apply kR r _ x;rcases h with h | ⟨c,h⟩
  ·rcases mem_cons.mp h with e | h
   ·right;subst e;rw[if_pos (by rfl),lookup_cons,beq_self_eq_true];exact⟨_,rfl⟩
   ·exact .inl h
  ·right;by_cases hy:(y.2 == NameKind.free)=true
   ·rw[if_pos hy,lookup_cons];cases x == y.1
    ·exact⟨c,h⟩
    ·exact⟨_,rfl⟩
   ·rw[if_neg hy];exact⟨c,h⟩
structure F_ where
 C:Addr
 s:Shared
 H:Hp
 fp:List Addr
variable{te:F_->TE}{tt:F_->TT}{g:F_->TG}
def Cx.EB(X : Cx)(N' : List Str)(scope : Scope)(Y : F_): Cx :=
  { prog := X.prog, w := X.w, K := X.K, mg := X.mg, base := X.base, A := X.A, N := N', s₀ := Y.s, H₀ := Y.H, env := compEnvC scope (eZ X.env scope.names) Y.C X.env, outer := X.stack, stack := X.stack,
    ex := Y.fp, fn := fun _ => false, calm := X.calm, pn := [], xe := fun _ _ => False }
theorem kS{env:Env}:∀ {names:List (Str×NameKind)}{x:Str}{k:NameKind},
  (names.map fun (n,k)=>if (k == NameKind.free && env.scope.kind == .function && env.kindOf n == some .cell) then (n,NameKind.cell) else (n,k)).lookup x=some k->
  (k=.cell\/k=.free)->(∀ y∈names,y.2≠.cell)->(x,NameKind.free)∈names
 | [],x,k,h,_,_=>by simp at h
 | (n,k')::r,x,k,h,hk,hc=>by
  rw[map_cons] at h;dsimp only at h;by_cases hx:x=n
  ·subst hx;by_cases hf:(k' == NameKind.free && env.scope.kind == .function && env.kindOf x == some .cell)=true
   ·have:k'=NameKind.free:=by
     simp only[and_eq_true] at hf;exact by simpa using hf.1.1
    subst this;exact mem_cons_self
   ·simp only[hf] at h;have e:k'=k:=by simpa [lookup_cons] using h
    subst e;rcases hk with hk | hk
    ·exact absurd hk (hc (x,k') mem_cons_self)
    ·rw[hk];exact mem_cons_self
  ·have hb:(x == n)=false:=by simpa using hx
   have h':(r.map fun (n,k)=>if (k == NameKind.free && env.scope.kind == .function && env.kindOf n == some .cell) then (n,NameKind.cell) else (n,k)).lookup x=some k:=by
    by_cases hf:(k' == NameKind.free && env.scope.kind == .function && env.kindOf n == some .cell)=true
    ·rw[if_pos hf,lookup_cons,hb] at h;exact h
    ·rw[if_neg hf,lookup_cons,hb] at h;exact h
   exact mem_cons_of_mem _ (kS h' hk fun y hy=>hc y<|mem_cons_of_mem _ hy)
section
variable{X:Cx}
structure q_(X:Cx)(scope:Scope)(own:List Str)(caps:List Nat):Prop where
 kind:scope.kind=.function
 cell:∀ y∈scope.names,y.2≠.cell
 free:∀ y∈scope.names,y.2=.free->X.env.scope.names.lookup y.1=some .cell
 loc:∀ y∈scope.names,y.2=.local->scope.names.lookup y.1=some .local
 LW:∀ i∈caps,∃ x,X.N[i]?=some x/\(x,NameKind.free)∈scope.names/\scope.names.lookup x=some .free
def bx(X:Cx)(own:List Str)(caps:List Nat):List Str:=own++caps.map fun i=>X.N.getD i ""
def c5(own:List Str)(caps:List Nat)(σ:St):St:=own.map (fun _=>none)++caps.map fun i=>σ.getD i none
theorem q_.cells(S:q_ X scope own caps)(ok:X.Ok):∀ y∈scope.names,y.2=.free->∃ c,X.env.cells.lookup y.1=some c:=
 fun y hy hf=>ok.has y.1 (.inl<|S.free y hy hf)
theorem q_.sub(S:q_ X scope own caps)(ok:X.Ok){x:Str}{c:Addr}(h:(eZ X.env scope.names).lookup x=some c):X.env.cells.lookup x=some c/\(x,NameKind.free)∈scope.names:=by
 rcases oA scope.names [] x c h with ⟨e,m⟩ | h
 ·obtain⟨c',e'⟩:=S.cells ok (x,.free) m rfl;rw[show (List.lookup x X.env.cells)=some c' from e'] at e;refine⟨?_,m⟩;rw[e];exact e'
 ·simp at h
theorem oC(S:q_ X scope own caps)(I:Inv X pins σ H s)(hC:s.heap.objs.size<=C)(hf:∀ b∈fp,cZ X pins H b)(DO:∀ b∈fp,b<s.heap.objs.size):(X.EB (bx X own caps) scope ⟨C,s,H,fp⟩).Ok where
 mod:=I.ok.mod
 kind:=S.kind
 glob:=I.ok.glob
 blt:=I.ok.blt
 above:=hC
 inj:=fun x y c h1 h2=>I.ok.inj x y c (S.sub I.ok h1).1 (S.sub I.ok h2).1
 has:=fun x hx=>by
  have m:(x,NameKind.free)∈scope.names:=by
   rcases hx with hx | hx
   ·exact kS hx (.inl rfl) S.cell
   ·exact kS hx (.inr rfl) S.cell
  exact kR scope.names [] x (.inl m)
 IN:=fun x c h _=>nomatch h
 hd:=I.ok.hd
 frames:=I.ok.frames
 Jr:=.inl rfl
 Lq:=fun b hb=>⟨ne_of_lt<|lt_of_lt_of_le (DO b hb) hC,fun x c h=>(hf b hb).2.2.2.2.1 x c (S.sub I.ok h).1⟩
 bs:=I.bs
 GN:=Nat.le_trans I.ok.GN I.sz
 Fs:=fun b o e hb=>by
  rcases (hf b hb).2.2.2.1 with z | z
  ·exact I.ok.Fs b o e z
  ·exact absurd (lt_of_lt_of_le (Heap.lt_size e)<|Nat.le_trans I.ok.GN z) (lt_irrefl _)
 Ft:=fun b hb z=>by
  rcases mem_cons.mp (I.EV b z) with e | e
  ·exact (hf b hb).2.1 e
  ·exact (hf b hb).2.2.1 e
 DF:=I.stack
 HP:=I.Fe
theorem wL{h1:Heap}{tk:Nat}{m:Str->Option Value}(S:q_ X scope own caps)(I:Inv X pins σ H s)(hC:s.heap.objs.size<=C)(hf:∀ b∈fp,cZ X pins H b)(DO:∀ b∈fp,b<s.heap.objs.size)(old:∀ b o,s.heap.get? b=some o->h1.get? b=some o)(hn:h1.Ns C m):
  Inv (X.EB (bx X own caps) scope ⟨C,s,H,fp⟩) [] (c5 own caps σ) H { s with heap:=h1,toks:=tk } where
 ok:=oC S I hC hf DO
 os:=rfl
 bare:=I.bare
 base:=Un.kept old
 loc:=by
  obtain⟨m0,Ql,Op⟩:=I.loc;refine⟨m,hn,fun j x v e1 e2 hv=>?_⟩;have e1:(own++caps.map fun i=>X.N.getD i "")[j]?=some x:=e1;have e2:(own.map (fun _=>(none:Option V))++caps.map fun i=>σ.getD i none)[j]?=some (some v):=e2;by_cases hj:j<own.length
  ·rw[getElem?_append_left (by rw[length_map];exact hj),List.getElem?_map] at e2;cases q:own[j]? with
   | none=>rw[q] at e2;cases e2
   | some z=>rw[q] at e2;cases e2
  ·rw[getElem?_append_right (by lia),List.getElem?_map] at e1;rw[getElem?_append_right (by rw[length_map];lia),List.getElem?_map,length_map] at e2;cases q:caps[j - own.length]? with
   | none=>rw[q] at e1;cases e1
   | some i=>
    rw[q] at e1 e2;have e1:X.N.getD i "" = x:=Option.some.inj e1;have e2:σ.getD i none=some v:=Option.some.inj e2;obtain⟨x',FM,hm,Oq⟩:=S.LW i (mem_of_getElem? q);have ex:x'=x:=by
     rw[<- e1,getD_eq_getElem?_getD,FM];rfl
    subst ex;have hs:σ[i]?=some (some v):=by
     rw[getD_eq_getElem?_getD] at e2;cases q2:σ[i]? with
     | none=>rw[q2] at e2;cases e2
     | some z=>rw[q2] at e2;rw[show z=some v from e2]
    have JI:=S.free (x',.free) hm rfl;obtain⟨u,r,lk⟩:=Op i x' v FM hs (.inr<|.inl JI);refine⟨u,r,.inr ⟨?_,?_⟩⟩
    ·rcases hv with hv | hv | hv
     ·
      exfalso;have:∀ {names:List (Str×NameKind)},names.lookup x'=some .free->(names.map fun (n,k)=>if (k == NameKind.free && X.env.scope.kind == .function && X.env.kindOf n == some .cell) then (n,NameKind.cell) else (n,k)).lookup x'≠some .local:=by
       intro names;induction names with
       | nil=>intro h;simp at h
       | cons y r ih=>
        obtain⟨n,k⟩:=y;intro h;rw[map_cons];dsimp only;by_cases hx:x'=n
        ·subst hx;have ek:k=.free:=by simpa [lookup_cons] using h
         subst ek;by_cases hq:(NameKind.free == NameKind.free && X.env.scope.kind == ScopeKind.function && X.env.kindOf x' == some NameKind.cell)=true
         ·rw[if_pos hq];simp[lookup_cons]
         ·rw[if_neg hq];simp[lookup_cons]
        ·have hb:(x' == n)=false:=by simpa using hx
         rw[lookup_cons,hb] at h;by_cases hq:(k == NameKind.free && X.env.scope.kind == ScopeKind.function && X.env.kindOf n == some NameKind.cell)=true
         ·rw[if_pos hq,lookup_cons,hb];exact ih h
         ·rw[if_neg hq,lookup_cons,hb];exact ih h
      exact this Oq hv
     ·exact .inl hv
     ·exact .inr hv
    ·rcases lk with ⟨hk,_⟩ | ⟨_,c,hc,Ff⟩
     ·exact absurd (hk.symm.trans JI) (by simp)
     ·obtain⟨c',Jv⟩:=kR (env:=X.env) scope.names [] x' (.inl hm);have:=(S.sub I.ok Jv).1;rw[hc] at this;cases this;obtain⟨o,ho,hd⟩:=Ff;exact⟨c,Jv,o,old _ _ ho,hd⟩
 cell:=fun x c h=>by
  obtain⟨v,o,ho,hd⟩:=I.cell x c (S.sub I.ok h).1;exact⟨v,o,old _ _ ho,hd⟩
 free:=I.l_.fresh hC
 CU:=fun x c h=>I.CU x c (S.sub I.ok h).1
 pin:=fun p hp=>nomatch hp
 l_:=I.l_.kept old
 len:=by simp[c5,bx,Cx.EB]
end
section
variable{X:Cx}
def oD(X:Cx)(ifs:List Expr)(t:TT)(pins:List (Addr×Obj)):Prop:=
 ∀ (s:Shared) (σ:St) (H:Hp) (Q:Bool->Hp->Prop),Inv X pins σ H s->t σ H Q->
  wpAny (model X.prog X.w) X.A (forIn ifs true fun c r=>if r=true then do let ok <- isTrue c X.env (eval c X.env);pure (ForInStep.yield ok) else pure (ForInStep.yield r)) (TP X pins σ Q) X.xe s
def JJ(X:Cx)(ifs:List Expr)(t:TT):Prop:=∀ pins,oD X ifs t pins
def LX:TT:=fun _ H Q=>Q true H
theorem wM:JJ X [] LX:=fun pins s σ H Q I h=>wpAny_tests_nil ⟨H,I,h⟩
theorem wN{c:Expr}{t:TT}(h:PT X c t):JJ X [c] t:=fun pins s σ H Q I hw=>wpAny_tests_one (h pins s σ H Q I hw)
def wO(own:List Str)(caps:List Nat)(g:TG)(tt:TT)(te:TE)(σ:St)(N:List V->Hp->Prop)(ys:List V)(x:V)(H':Hp):Prop:=
 g x (c5 own caps σ) H' fun σ2 H2=>(∀ (j:Nat) (v:V),(c5 own caps σ)[j]?=some (some v)->σ2[j]?=some (some v))/\tt σ2 H2 fun b H3=>if b=true then te σ2 H3 fun v H4=>ys.length<sizeLine/\N (ys++[v]) H4 else N ys H3
def wP(J:It)(own:List Str)(caps:List Nat)(g:TG)(tt:TT)(te:TE)(σ:St)(H1:Hp)(Q:VK):Prop:=
 ∃ W:Nat->Nat->List V->Hp->Prop,(∃ m,W 0 m [] H1)/\∀ i m ys H,W i m ys H->(J.stop i H/\∀ D,H D=none->Q (.ref D) (upd H D<|.lst ys))\/
  (J.go i H/\∃ N:List V->Hp->Prop,(∀ No H',N No H'->∃ m',m'<m/\W (i+1) m' No H')/\∀ x H',J.Jy i H x H'->wO own caps g tt te σ N ys x H')
def jd(own:List Str)(caps:List Nat)(wi:TI)(g:F_->TG)(tt:F_->TT)(te:F_->TE):TE:=fun σ H Q=>wi σ H fun J H1=>∀ Y:F_,wP J own caps (g Y) (tt Y) (te Y) σ H1 Q
def oE(sc:Scope)(N:List Str)(scope:Scope)(caps:List Nat):Bool:=
 scope.kind == .function && scope.names.all (fun y=>y.2 != .cell) && scope.names.all (fun y=>y.2 != .free || sc.names.lookup y.1 == some .cell) && scope.names.all (fun y=>y.2 != .local || scope.names.lookup y.1 == some .local) &&
  caps.all (fun i=>match N[i]? with | some x=>scope.names.lookup x == some .free | none=>false)
theorem mem_of_lookup:∀ {l:List (Str×NameKind)}{x:Str}{k:NameKind},l.lookup x=some k->(x,k)∈l
 | [],_,_,h=>by simp at h
 | (n,k')::r,x,k,h=>by
  rw[lookup_cons] at h;by_cases hx:x=n
  ·subst hx;rw[beq_self_eq_true] at h;cases h;exact mem_cons_self
  ·rw[show (x == n)=false by simpa using hx] at h;exact mem_cons_of_mem _ (mem_of_lookup h)
theorem fP{X:Cx}(sc:Scope)(N:List Str)(h:oE sc N scope caps=true)(e:X.env.scope=sc:=by rfl)(eN:X.N=N:=by rfl):q_ X scope own caps:=by
 unfold oE at h;simp only[and_eq_true,all_eq_true,bne_iff_ne,ne_eq,or_eq_true,beq_iff_eq] at h;obtain⟨⟨⟨⟨h1,h2⟩,h3⟩,h4⟩,h5⟩:=h;refine⟨h1,h2,fun y hy hf=>?_,fun y hy hf=>?_,fun i hi=>?_⟩
 ·rw[e];exact (h3 y hy).resolve_left fun z=>z hf
 ·exact (h4 y hy).resolve_left fun z=>z hf
 ·have:=h5 i hi;rw[eN];cases q:N[i]? with
  | none=>rw[q] at this;cases this
  | some x=>
   rw[q] at this;have hl:scope.names.lookup x=some .free:=by simpa using this
   exact⟨x,rfl,mem_of_lookup hl,hl⟩
theorem oF{p2:Pos}{use:Option (Value->Sem Unit)}{Qp:Value->Shared->Prop}{Qv:VK}(hc:X.calm=true)(S:q_ X scope own caps)(hi:PI X tg iter wi)(hg:∀ Y,PG (X.EB (bx X own caps) scope Y) tg<|g Y)(ht:∀ Y,JJ (X.EB (bx X own caps) scope Y) ifs<|tt Y)(he:∀ Y,PE (X.EB (bx X own caps) scope Y) elt<|te Y)(hs:∀ x,foldedSetIterable iter X.env x=pure x)(I:Inv X pins σ H s)(h:jd own caps wi g tt te σ H Qv)(EC:∀ (D C:Addr) (H4:Hp) (s4:Shared) (m:Str->Option Value),Inv X pins σ H4 s4->s4.heap.Ns C m->H4 C=none->X.env.locals≠C->(∀ x c,X.env.cells.lookup x=some c->c≠C)->X.s₀.heap.objs.size<=C->(∀ p∈X.pn++pins,p.1≠C)->Qv (.ref D) H4->compPost (model X.prog X.w) X.A X.xe use Qp (.ref D) C (.ok .next) s4):
  wpAny (model X.prog X.w) X.A (comprehension (.ListComp elt [⟨tg,iter,ifs,0⟩] scope pos) scope X.env p2 (newList []) false (eval iter X.env) use) Qp X.xe s:=by
 refine wpAny_comprehension_free (use:=use) rfl hs (wK<|S.cells I.ok) S.kind S.loc (u_ (hi pins s σ H _ I h) fun v s1 h1=>u_ h1 fun LC s2 h2=>?_);obtain⟨it,fp,tn,J,H2,e,I2,T,o_,f2,hW⟩:=h2;subst e;have DO:∀ b∈fp,b<s2.heap.objs.size:=fun b hb=>by
  obtain⟨o,e,_⟩:=T.obj _ _ o_ b hb;exact Heap.lt_size e
 refine wpAny_newObj_type (wpAny_newFunctionEnv S.cell (by intro y hy;simp at hy) (fun h₁ ED D8=>?_) S.kind);dsimp only at ED D8 ⊢;generalize LY:s2.heap.push { cls:=.type "list",dict:=none,data:=.seq ([]:List Value).toArray }=Hq at ED D8 ⊢;have hC:Hq.objs.size=s2.heap.objs.size+1:=by rw[<- LY,Heap.size_push]
 have Ie:s2.heap.objs.size≠Hq.objs.size:=by rw[hC];exact ne_of_lt (lt_succ_self _)
 have Ig:s2.heap.objs.size<=Hq.objs.size:=by rw[hC];exact le_succ _
 have old:∀ b o,s2.heap.get? b=some o->h₁.get? b=some o:=fun b o e=>
  D8.extBut b o (by rw[hC];exact ne_of_lt (Nat.lt_succ_of_lt<|Heap.lt_size e)) (Heap.get?_push_of_some _<|LY ▸ Heap.get?_push_of_some _ e);have D9:h₁.get? s2.heap.objs.size=some { cls:=.type "list",data:=.seq ([]:List Value).toArray 0 }:=D8.extBut _ _ Ie (Heap.get?_push_of_some _<|LY ▸ Heap.get?_push_size _ rfl);generalize Qm:Hq.objs.size=C at ED D8 hC Ie Ig ⊢;generalize Ih:s2.heap.objs.size=D at D9 hC Ie Ig ⊢;have JK:s2.heap.objs.size<=C:=by rw[Ih];exact Ig
 obtain⟨W,⟨m0,w0⟩,turn⟩:=hW ⟨C,s2,H2,fp⟩;have Np:=fun (tk:Nat)=>wL (tk:=tk) S I2 JK f2 DO old ED;have Nq:=hg ⟨C,s2,H2,fp⟩;have Nr:=ht ⟨C,s2,H2,fp⟩;have Nt:=he ⟨C,s2,H2,fp⟩;have F9:=oC S I2 JK f2 DO;generalize DI:X.EB (bx X own caps) scope ⟨C,s2,H2,fp⟩=X' at Np Nq Nr Nt F9;have eP:X'.prog=X.prog:=by rw[<- DI];rfl
 have ew:X'.w=X.w:=by rw[<- DI];rfl
 have eK:X'.K=X.K:=by rw[<- DI];rfl
 have eA:X'.A=X.A:=by rw[<- DI];rfl
 have ec:X'.calm=true:=by rw[<- DI];exact hc
 have eL:X'.env.locals=C:=by rw[<- DI];rfl
 have LZ:X'.ex=fp:=by rw[<- DI];rfl
 have KS:X'.s₀=s2:=by rw[<- DI];rfl
 have Os:X'.H₀=H2:=by rw[<- DI];rfl
 have Ot:X'.fs=Fd X.stack:=by rw[<- DI];rfl
 have KU:X'.pn=[]:=by rw[<- DI];rfl
 have L1:X'.xe=fun _ _=>False:=by rw[<- DI];rfl
 have JL:X'.env=compEnvC scope (eZ X.env scope.names) C X.env:=by rw[<- DI];rfl
 have Ho:∀ x c,X'.env.cells.lookup x=some c->X.env.cells.lookup x=some c:=fun x c h=>(S.sub I2.ok (by rw[JL] at h;exact h)).1;have nD:∀ x c,X'.env.cells.lookup x=some c->c≠D:=fun x c h z=>by
  obtain⟨v,o,ho,_⟩:=I2.cell x c (Ho x c h);have:=Heap.lt_size ho;rw[z,<- Ih] at this;exact lt_irrefl _ this
 have L3:∀ b∈fp,b≠D:=fun b hb z=>by
  have:=DO b hb;rw[z,<- Ih] at this;exact lt_irrefl _ this
 have Ou:D∉X'.fs:=fun z=>by
  obtain⟨_,o,ho,_⟩:=F9.DF.mem z;rw[KS] at ho;have:=Heap.lt_size ho;rw[Ih] at this;exact lt_irrefl _ this
 have L4:∀ (H':Hp) (o:Obj),(∀ b∈fp,H' b=none)->∀ b∈fp,cZ X' [(D,o)] H' b:=fun H' o hn b hb=>by
  refine⟨hn b hb,?_,?_,.inl (by rw[LZ];exact hb),fun x c h=>(f2 b hb).2.2.2.2.1 x c (Ho x c h),fun p hp=>?_⟩
  ·rw[eL];exact ne_of_lt (lt_of_lt_of_le (DO b hb) JK)
  ·exact F9.Ft b (by rw[LZ];exact hb)
  ·rw[KU] at hp;have:p=(D,o):=by simpa using hp
   rw[this];exact Ne.symm (L3 b hb)
 have loop:∀ s₃:Shared,s₃={ s2 with heap:=h₁,toks:=s2.toks+([]:List (Str×Value)).length }->
   codeAny (model X.prog X.w) X.A (.compLoop (.ListComp elt [⟨tg,iter,ifs,0⟩] scope pos) 0 (.ref it) (.ref D) X'.env)
    (compPost (model X.prog X.w) X.A X.xe use Qp (.ref D) C) s₃:=by
  rintro s₃ rfl;refine wJ (fun n s'=>∃ (i:Nat) (ys:List V) (H':Hp) (f_:List Value) (k:Nat),Inv X' [(D,{ cls:=.type "list",data:=.seq f_.toArray k })] (c5 own caps σ) H' s'/\ak ys f_/\ys.length<=sizeLine/\tn i s'.heap/\
   (∀ b∈fp,H' b=none)/\W i n ys H') ?_ m0 ?_
  ·rintro n s3 ⟨i,ys,H3,f_,k,I3,rv,hz,Dy,JA,w3⟩;rcases turn i n ys H3 w3 with ⟨stop,qn⟩ | ⟨go,N,hN,step⟩
   ·have:=T.done X' eP ew eK ec i _ s3 _ H3 (fun _ _=>False) I3 (L4 H3 _ JA) Dy stop;rw[eA] at this;refine u_ this fun r s4 ⟨hr,I4⟩=>?_;subst hr;obtain⟨m,hn,_⟩:=I4.loc;have Ov:s4.heap.Ns C m:=by rw[<- eL];exact hn
    have hp:=I4.pin (D,{ cls:=.type "list",data:=.seq f_.toArray k }) (by rw[KU];simp);have IT:H3 D=none:=hp.2.1;have kp:∀ b,b≠C->s4.heap.get? b=s4.heap.get? b:=fun b hb=>rfl;have nC:∀ b o,s2.heap.get? b=some o->b≠C:=fun b o e=>ne_of_lt (lt_of_lt_of_le (Heap.lt_size e) JK);have Ow:∀ b o,s2.heap.get? b=some o->b≠D:=fun b o e=>by rw[<- Ih];exact ne_of_lt (Heap.lt_size e)
    have ub:Un (Fd X.stack) fp H2 H3 s2.heap s4.heap:=by
     have:=I4.base;rw[Ot,LZ,Os,KS] at this;exact this
    have u:Un (Fd X.stack) fp H2 (upd H3 D<|.lst ys) s2.heap s4.heap:=
     ⟨fun b o e n hb hx=>(kp b<|nC b o e).trans<|ub.keep b o e n hb hx,
      fun b o e n hb hx=>by
      obtain⟨sl,q⟩:=ub.slot b o e n hb hx;exact⟨sl,(kp b<|nC b o e).trans q⟩,
      fun b o e n hx=>by rw[aw (Ow b o e)];exact ub.free b o e n hx,
      fun b o e hx=>by
      obtain⟨o',q⟩:=ub.there b o e hx;exact⟨o',(kp b<|nC b o e).trans q⟩,
      fun b xs e=>by rw[aw (bS (ub.Em b xs e) IT)];exact ub.Em b xs e,
      fun b o xs e=>by rw[aw (bS (ub.DX b o xs e) IT)];exact ub.DX b o xs e,
      fun b ps e=>by
      obtain⟨more,q⟩:=ub.EA b ps e;exact⟨more,by rw[aw (bS q IT)];exact q⟩⟩
    have JM:∀ b o,H3 b=some o->b≠C:=fun b o e z=>by
     have:=I4.free;rw[eL,<- z,e] at this;cases this
    have hk:Dt X.prog X.w (upd H3 D<|.lst ys) s4.heap:=fun a o e=>by
     by_cases ha:a=D
     ·subst ha;rw[aW] at e;cases e;exact⟨hz,f_,k,rv,(kp _ Ie).trans hp.1⟩
     ·rw[aw ha] at e;have:=I4.l_ a o e;rw[eP,ew] at this;refine this.Dc (fun b u hb q=>(kp b ?_).trans q) (fun b q=>by rw[aw (bS q IT)];exact q) fun b xs q=>by rw[aw (bS q IT)];exact q
      rcases hb with z | z
      ·rw[z];exact JM a o e
      ·exact JM b _ z
    have Ox:Inv X pins σ (upd H3 D<|.lst ys) s4:=I2.Jw (s':=s4) (ch:=fp) (by have:=I4.os;rw[KS] at this;exact this) u hk I4.bare fun b hb=>⟨(f2 b hb).2.2.2.1,(f2 b hb).2.1,(f2 b hb).2.2.2.2.1,(f2 b hb).2.2.2.2.2⟩;have KW:X.env.locals≠C:=by
     obtain⟨m2,LV,_⟩:=I2.loc;obtain⟨o,_,_,ho,_⟩:=LV;exact nC _ _ ho
    have KY:∀ x c,X.env.cells.lookup x=some c->c≠C:=fun x c h=>by
     obtain⟨v,o,ho,_⟩:=I2.cell x c h;exact nC _ _ ho
    refine EC D C _ s4 m Ox Ov ?_ KW KY ?_ (fun p hp=>nC _ _ (I2.pin p hp).1) (qn D IT)
    ·rw[aw (Ne.symm Ie)];have:=I4.free
     rwa [eL] at this
    ·exact Nat.le_trans I2.sz JK
   ·have:=T.item X' eP ew eK ec i _ s3 _ H3 (fun _ _=>False) I3 (L4 H3 _ JA) Dy go;rw[eA] at this;refine u_ this fun r s4 ⟨u,hr,h4⟩=>?_;subst hr;refine u_ h4 fun _ s5 ⟨x,H5,I5,r5,y5,DQ,KO⟩=>?_;have LD:=I5.pinned (L4 H5 _ KO) (T.obj _ _ DQ);have a6:=Nq _ s5 _ H5 x u _ LD r5 (step x H5 y5);rw[eP,ew,eA,L1] at a6;refine u_ a6 fun _ s6 ⟨σ6,H6,I6,Ii,q6⟩=>?_;have a7:=Nr _ s6 σ6 H6 _ I6 q6;rw[eP,ew,eA,L1] at a7;refine u_ a7 fun b s7 ⟨H7,I7,q7⟩=>?_;have Hr:∀ {σ':St}{H':Hp}{s':Shared},Inv X' ([(D,{ cls:=.type "list",data:=.seq f_.toArray k })]++dX fp s5.heap) σ' H' s'->(∀ b∈fp,H' b=none)/\tn (i+1) s'.heap:=fun {σ' H' s'} I'=>by
     refine⟨fun b hb=>?_,T.keep _ _ _ DQ fun b hb o e=>(I'.pin (b,o)<|mem_append_right _<|mem_append_right _<|iX hb e).1⟩;obtain⟨o,e,_⟩:=T.obj _ _ DQ b hb;exact (I'.pin (b,o)<|mem_append_right _<|mem_append_right _<|iX hb e).2.1
    have wk:∀ {Et:List (Addr×Obj)}{H':Hp}{s':Shared},Inv X' Et σ6 H' s'->Inv X' Et (c5 own caps σ) H' s':=fun {Et H' s'} I'=>
     I'.weak (by rw[I'.len,I3.len]) Ii;cases b with
    | false=>
     rw[if_neg Bool.false_ne_true] at q7;obtain⟨m',hm,w7⟩:=hN _ _ q7;rw[if_neg Bool.false_ne_true];obtain⟨k1,k2⟩:=Hr I7;exact⟨m',hm,i+1,ys,H7,f_,k,wk (I7.Dm fun p hp=>I7.pin p (by
      rw[KU];simp at hp ⊢;exact .inl hp)),rv,hz,k2,k1,w7⟩
    | true=>
     rw[if_pos rfl] at q7 ⊢;have a8:=Nt _ s7 σ6 H7 _ I7 q7;rw[eP,ew,eA,L1] at a8;refine u_ a8 fun uv s8 ⟨v8,H8,I8,r8,Qn,n8⟩=>?_;obtain⟨m',hm,w8⟩:=hN _ _ n8;have hp:=I8.pin (D,{ cls:=.type "list",data:=.seq f_.toArray k }) (mem_append_right _ (mem_append_left _ (by simp)));have eD:=hp.1;refine call_meets F.slot_list_append ⟨_,eD,rfl⟩ F.entry_list_append (F.args_list_append_2 _ _) (PySem.list_append D f_.toArray k uv (by rw[size_toArray,<- rv.length];lia)) ⟨eD,?_⟩;have q:=PySem.IsL.update eD (fun a=>a.push uv);obtain⟨k1,k2⟩:=Hr I8;have Oy:Inv X' (dX fp s5.heap) σ6 H8 s8:=I8.Dm fun p hp=>I8.pin p (mem_append_right _<|mem_append_right _ hp);have Nu:∀ b o,b≠D->s8.heap.get? b=some o->(s8.heap.update D<|Obj.mapSeq fun a=>a.push uv).get? b=some o:=fun b o hb e=>(Heap.get?_update_other s8.heap _<|Ne.symm hb).trans e;have I9:Inv X' (dX fp s5.heap) σ6 H8 { s8 with heap:=s8.heap.update D (Obj.mapSeq fun a=>a.push uv),toks:=s8.toks }:=
      Oy.turned (it:=D) Nu hp.2.1 (by rw[eL];exact Ie) (.inr (by rw[KS,Ih];exact Nat.le_refl _)) nD fun p GX=>by
       rw[KU] at GX;obtain⟨hb,_⟩:=nG (show p∈dX fp s5.heap by simpa using GX);exact L3 _ hb
     refine⟨m',hm,i+1,ys++[v8],H8,f_++[uv],k+1,wk<|I9.Dm fun p GX=>?_,rv.append<|.cons r8 .nil,?_,?_,k1,w8⟩
     ·have e:p=(D,{ cls:=.type "list",data:=.seq (f_++[uv]).toArray (k+1) }):=by simpa using GX
      subst e;refine⟨?_,hp.2.1,hp.2.2.1,hp.2.2.2.1,fun v z=>by cases z⟩;have e2:f_.toArray.push uv=(f_++[uv]).toArray:=by simp
      rw[<- e2];have q':IsL (s8.heap.update D<|Obj.mapSeq fun a=>a.push uv) D (f_.toArray.push uv) (if (f_.toArray.push uv).size == f_.toArray.size then k else k+1):=q;rw[if_neg (by simp)] at q';exact q'
     ·rw[length_append,length_singleton];lia
     ·refine T.keep _ _ _ k2 fun b hb o e=>Nu b o (L3 b hb) e
  ·refine⟨0,[],H2,[],0,?_,.nil,zero_le _,T.keep _ _ _ o_ fun b _ o e=>old b o e,fun b hb=>(f2 b hb).1,w0⟩;refine (Np _).Dm fun p hp=>?_;have e:p=(D,{ cls:=.type "list",data:=.seq ([]:List Value).toArray 0 }):=by simpa using hp
   subst e;exact⟨D9,I2.l_.fresh (by rw[Ih];exact Nat.le_refl _),by rw[eL];exact Ie,Ou,fun v z=>by cases z⟩
 have JN:compEnvC scope (eZ X.env scope.names) C X.env=X'.env:=JL.symm;show codeAny (model X.prog X.w) X.A (.compStart _ 0 (.ref it) (.ref D)<|compEnvC scope (eZ X.env scope.names) C X.env) _ _;rw[JN];exact codeAny_compStart_list (loop _ rfl) (T.self X.A 0 _ _ _ (T.keep _ _ _ o_ fun b _ o e=>old b o e)<|loop _ rfl)
theorem wQ(hc:X.calm=true)(S:q_ X scope own caps)(hi:PI X tg iter wi)(hg:∀ Y,PG (X.EB (bx X own caps) scope Y) tg<|g Y)(ht:∀ Y,JJ (X.EB (bx X own caps) scope Y) ifs<|tt Y)(he:∀ Y,PE (X.EB (bx X own caps) scope Y) elt<|te Y)(hs:∀ x,foldedSetIterable iter X.env x=pure x:=by intro _;rfl):PE X (.ListComp elt [⟨tg,iter,ifs,0⟩] scope pos) (jd own caps wi g tt te):=by
 intro pins s σ H Q I h;show wpAny _ X.A (comprehension (.ListComp elt [⟨tg,iter,ifs,0⟩] scope pos) scope X.env _ (newList []) false (eval iter X.env) none) _ _ s;refine oF (use:=none) (Qp:=EP X pins σ Q) hc S hi hg ht he hs I h fun D C H4 s4 m I4 hn f l c z p q=>?_;show ∃ m,s4.heap.Ns C m/\∀ h',Heap.SameBut C s4.heap h'->EP X pins σ Q (.ref D) { s4 with heap:=h' };refine⟨m,hn,fun h' sb=>⟨.ref D,H4,?_,rfl,q⟩⟩;exact I4.turned (it:=C) (t':=s4.toks) (fun b o hb e=>(sb.2 b hb).trans e) f (Ne.symm l) (.inr z) c p
end
def Fy(h:Heap)(d:Addr)(ks:List Value)(ep:Nat):Prop:=∃ o es,h.get? d=some o/\o.ExactDict/\o.data=.dict es ep/\es.toList.map (·.key)=ks
theorem Fy.ty(x:Fy s.heap d ks ep):s.TypeIs (.ref d) "dict" := let ⟨o,_,e,c,_⟩:=x;⟨o,e,c.1⟩
theorem Fy.lt(x:Fy h d ks ep):d<h.objs.size:=let ⟨_,_,e,_⟩:=x;Heap.lt_size e
theorem Fy.go{h':Heap}(x:Fy h d ks ep)(k:∀ o,h.get? d=some o->h'.get? d=some o):Fy h' d ks ep:=let ⟨o,es,e,r⟩:=x;⟨o,es,k o e,r⟩
section
variable{prog:Program}{w:World}{A:Around}{E:Value->Shared->Prop}{s:Shared}
theorem wR{Q:Value->Shared->Prop}(lo:(d == sysModules)=false)(x:Fy s.heap d ks ep)(q:Q (.ref s.heap.objs.size) { s with heap:=s.heap.push { cls:=.type "dict_keyiterator",data:=.fields #[.ref d,.int 0 0,.int ks.length 0,.int ep 0] } }):wpAny (model prog w) A (pyIter<|.ref d) Q E s:=by
 have ty:=x.ty;obtain⟨o,es,e1,e2,e3,e4⟩:=x;have n:es.size=ks.length:=by rw[<- e4,length_map,length_toList]
 refine wpAny_pyIter_slot ty F.slot_dict_iter (wpAny_call_entry F.slot_dict_iter ty F.entry_dict_iter ?z<|F.args_dict_iter_1 _)
 case z=>
  unfold Builtin.«dict.__iter__» Builtin.Dict.dictSlotNone;refine wpAny_bind (wpAny_bind<|wpAny_notOrdered_dict ty ?_);show wpAny _ _ (pure<|Value.ref d) _ _ s;apply wpAny_pure;show wpAny _ _ (Builtin.Dict.showsAll d >>= _) _ _ s;unfold Builtin.Dict.showsAll;rw[if_neg (by rw[lo];simp)];refine wpAny_bind (wpAny_pure<|wpAny_bind<|wpAny_dictEntries e1 e3<|wpAny_bind<|wpAny_dictEpoch e1 e3<|wpAny_bind<|wpAny_newObj_type<|wpAny_pure ⟨_,rfl,"dict_keyiterator",_,⟨_,Heap.get?_push_size _ rfl,rfl⟩,F.slot_dict_keyiterator_next.lookup,?_⟩);simpa [rawInt,n] using q
theorem wS{v:Value}(hit:s.heap.IsKeyIter it d i ks.length ep)(x:Fy s.heap d ks ep)(hv:ks[i]?=some v)(q:∀ h',h'.IsKeyIter it d (i+1) ks.length ep->Heap.SameBut it s.heap h'->Q (some v) { s with heap:=h' }):wpAny (model prog w) A (pyNext<|.ref it) Q E s:=by
 obtain⟨oi,f1,f2,f3⟩:=id hit;obtain⟨o,es,e1,e2,e3,e4⟩:=x;have n:es.size=ks.length:=by rw[<- e4,length_map,length_toList]
 have hi:i<es.size:=by
  have:i<ks.length:=(List.getElem?_eq_some_iff.mp hv).1;lia
 have ek:es[i].key=v:=by
  rw[<- e4,List.getElem?_map,getElem?_toList,Array.getElem?_eq_getElem hi] at hv;exact Option.some.inj hv
 unfold pyNext;refine wpAny_bind (wpAny_attempt<|wpAny_callSpecial?_slot (name:=Str.ofString "__next__") hit.typeIs F.slot_dict_keyiterator_next<|wpAny_call_entry F.slot_dict_keyiterator_next hit.typeIs F.entry_dict_keyiterator_next ?z<|F.args_dict_keyiterator_next_1 _)
 case z=>
  refine wpAny_bind (wpAny_pure<|wpAny_bind<|wpAny_bind ?_);refine wpAny_bind (wpAny_typeNameOfWhole_keyiter hit.typeIs<|wpAny_pure<|wpAny_bind<|wpAny_fieldsOf f1 f3 ?_);simp only[show Builtin.Dict_items.ownsTuple "dict_keyiterator" = false by decide,false_eq_true,if_false];show wpAny _ _ (if (Value.ref d == Value.none)=true then _ else _) _ _ s;rw[if_neg (show ¬ (Value.ref d == Value.none)=true by intro z;cases z)];refine wpAny_bind (wpAny_pure<|wpAny_bind<|wpAny_dictEntries e1 e3 ?_);rw[if_neg (by simp[n])];refine wpAny_bind (wpAny_pure<|wpAny_bind<|wpAny_dictEpoch e1 e3 ?_);rw[if_neg (by simp)];apply wpAny_pure;simp only[show ¬ ((i:Int)<0) by lia,if_false,toNat_natCast,Array.getElem?_eq_getElem hi];refine wpAny_bind (wpAny_bind<|wpAny_typeNameOfWhole_keyiter hit.typeIs<|wpAny_pure<|wpAny_bind<|wpAny_isOneOf_keyiter hit.typeIs ?_);show wpAny _ _ (setField (.ref it) 1 (rawInt<|(i:Int)+1) >>= _) _ _ s;have JO:(s.heap.update it (Obj.mapFields (·.setIfInBounds 1 (rawInt<|(i:Int)+1)))).IsKeyIter it d (i+1) ks.length ep:=
   ⟨_,Heap.get?_update_self _ f1<|Obj.isFreed_of_fields<|Obj.data_mapFields f3 _,(Obj.cls_mapFields ..).trans f2,by rw[Obj.data_mapFields f3];simp[rawInt]⟩;refine wpAny_bind (wpAny_setField f1 f3 (by simp) (wpAny_bind (wpAny_holding (wpAny_bind (wpAny_isOneOf_keyiter (s:={ s with heap:=s.heap.update it (Obj.mapFields (·.setIfInBounds 1 (rawInt<|(i:Int)+1))) }) JO.typeIs ?_)))));show wpAny _ _ (pure es[i].key) _ _ _;rw[ek];exact wpAny_pure (wpAny_pure ⟨_,rfl,wpAny_pure<|q _ JO<|Heap.SameBut.update ..⟩)
theorem wT(hh:A.handled=none)(hit:s.heap.IsKeyIter it d i ks.length ep)(x:Fy s.heap d ks ep)(hv:ks.length<=i)(q:∀ h',Heap.ExtBut it s.heap h'->Q none { s with heap:=h' }):wpAny (model prog w) A (pyNext<|.ref it) Q E s:=by
 obtain⟨oi,f1,f2,f3⟩:=id hit;obtain⟨o,es,e1,e2,e3,e4⟩:=x;have n:es.size=ks.length:=by rw[<- e4,length_map,length_toList]
 unfold pyNext;refine wpAny_bind (wpAny_attempt<|wpAny_callSpecial?_slot (name:=Str.ofString "__next__") hit.typeIs F.slot_dict_keyiterator_next<|wpAny_call_entry F.slot_dict_keyiterator_next hit.typeIs F.entry_dict_keyiterator_next ?z<|F.args_dict_keyiterator_next_1 _)
 case z=>
  refine wpAny_bind (wpAny_pure<|wpAny_bind<|wpAny_bind ?_);refine wpAny_bind (wpAny_typeNameOfWhole_keyiter hit.typeIs<|wpAny_pure<|wpAny_bind<|wpAny_fieldsOf f1 f3 ?_);simp only[show Builtin.Dict_items.ownsTuple "dict_keyiterator" = false by decide,false_eq_true,if_false];show wpAny _ _ (if (Value.ref d == Value.none)=true then _ else _) _ _ s;rw[if_neg (show ¬ (Value.ref d == Value.none)=true by intro z;cases z)];refine wpAny_bind (wpAny_pure<|wpAny_bind<|wpAny_dictEntries e1 e3 ?_);rw[if_neg (by simp[n])];refine wpAny_bind (wpAny_pure<|wpAny_bind<|wpAny_dictEpoch e1 e3 ?_);rw[if_neg (by simp)];apply wpAny_pure;simp only[show ¬ ((i:Int)<0) by lia,if_false,toNat_natCast,Array.getElem?_eq_none (show es.size<=i by lia)];refine wpAny_bind (wpAny_bind<|wpAny_typeNameOfWhole_keyiter hit.typeIs<|wpAny_pure ?_);show wpAny _ _ (setField (.ref it) 0 .none >>= _) _ _ s;refine wpAny_bind (wpAny_setField f1 f3 (by simp) ?_);show wpAny _ _ (newExc (.type "StopIteration") [] >>= _) _ _ _;apply wpAny_bind;simp only[newExc,newTuple];refine wpAny_bind (wpAny_newObj_type (wpAny_bind (m:=firstArgMember _ _) (wpAny_of_eq (a:=Value.none) (by first | rfl | (simp only[firstArgMember];rfl)) (wpAny_newObj_type ?_ (by size_fits)))) (by size_fits));simp only[raiseNew];apply wpAny_bind;apply wpAny_handled;rw[show A.in1.handled=none from hh];refine wpAny_bind (m:=pure _) (wpAny_pure<|wpAny_throw ?_);apply wpAny_bind;refine wpAny_isInstance (T := "StopIteration") (b:=true) ⟨_,Heap.get?_push_size _ rfl,rfl⟩ isSubtype_stop ?_;exact wpAny_pure (q _<|((Heap.SameBut.update ..).extBut.push _).push _)
theorem wU(hh:A.handled=none)(it d:Addr)(ne:d≠it)(ks:List Value)(ep:Nat):Walks prog w A it [it,d] [it] ks.length (fun i v=>ks[i]?=some v) (fun i h=>h.IsKeyIter it d i ks.length ep/\Fy h d ks ep) where
 sub:=fun b hb=>by
  have:b=it:=by simpa using hb
  simp[this]
 frame:=fun i h h' st k=>⟨let ⟨o,e,r⟩:=st.1;⟨o,k it (by simp) o e,r⟩,st.2.go (k d (by simp))⟩
 item:=fun i s Q E hi st hQ=>by
  have hv:ks[i]?=some ks[i]:=by simp[hi]
  refine wS st.1 st.2 hv fun h' a b=>hQ _ h' s.toks hv ⟨a,st.2.go fun o e=>b.extBut d o ne e⟩ fun c o hc e=>b.extBut c o (by simpa using hc) e
 done:=fun s Q E st hQ=>wT hh st.1 st.2 (Nat.le_refl _) fun h' b=>hQ h' s.toks fun c o hc e=>b c o (by simpa using hc) e
 self:=fun i s Q E st hQ=>wpAny_pyIter_keyiter st.1 hQ
theorem wV(lo:(d == sysModules)=false):PySem.W.KdlSrc prog w "dict" d d ks.length (fun i v=>ks[i]?=some v) (fun h=>Fy h d ks ep) where
 type:=fun s x=>x.ty
 there:=fun h x=>⟨x.lt,x.lt⟩
 keep:=fun h h' x k=>x.go (k d<|.inl rfl)
 notList:=by decide
 notTuple:=by decide
 hint:=fun A E s Q x q=>PySem.W.kdl_hint_dict x.ty q
 iter:=fun A s hh x=>⟨_,_,(fun E Q q=>wR lo x q),wU hh _ d (ne_of_lt x.lt) ks ep,⟨⟨_,Heap.get?_push_size _ rfl,rfl,rfl⟩,x.go fun o e=>Heap.get?_push_of_some _ e⟩⟩
end
end L2
namespace L2
open PySem PySem.Spec PyProof.Rows PySem.W
section
variable{n:Nat}{key:Nat->Int}{cmp:Nat->Nat->(Bool->Shared->Prop)->Shared->Prop}
def x_(key:Nat->Int)(p:Array Nat)(i:Nat):Int:=key (p.getD i 0)
def Up(key:Nat->Int)(p:Array Nat)(m:Nat):Prop:=∀ i j,i<=j->j<m->x_ key p i<=x_ key p j
def bT(n:Nat)(key:Nat->Int)(cmp:Nat->Nat->(Bool->Shared->Prop)->Shared->Prop)(s:Shared):Prop:=∀ i j C,i<n->j<n->C (decide (key i<key j)) s->cmp i j C s
def Rg(n:Nat)(p:Array Nat):Prop:=p.toList.Perm (range n)
variable{p:Array Nat}
theorem Rg.size(h:Rg n p):p.size=n:=by
 have:=h.length_eq;simpa using this
theorem Rg.lt(h:Rg n p){i:Nat}(hi:i<n):p.getD i 0<n:=by
 have hs:=h.size;have e:p.getD i 0=p[i]:=by simp[Array.getD,hs,hi]
 rw[e];have:p[i]∈p.toList:=by simp
 exact mem_range.mp (h.mem_iff.mp this)
theorem Rg.ne(h:Rg n p)(inj:∀ i j,i<n->j<n->key i=key j->i=j){i j:Nat}(DY:i<j)(hj:j<n):x_ key p i≠x_ key p j:=by
 intro e;have hs:=h.size;have e':=inj _ _ (h.lt (by lia)) (h.lt hj) e;have e1:p.getD i 0=p[i]:=by simp[Array.getD,hs,show i<n by lia]
 have e2:p.getD j 0=p[j]:=by simp[Array.getD,hs,hj]
 rw[e1,e2] at e';have nd:p.toList.Nodup:=h.nodup_iff.mpr nodup_range;have e3:p.toList[i]'(by simpa [hs] using (show i<n by lia))=p.toList[j]'(by simpa [hs] using hj):=by simpa using e'
 have:=(List.getElem_inj nd).mp e3;lia
theorem fQ{q:Array Nat}{i j:Nat}(e:p[i]?=q[j]?):x_ key p i=x_ key q j:=by
 unfold x_;rw[Array.getD_eq_getD_getElem?,Array.getD_eq_getD_getElem?,e]
theorem Rg.rev(h:Rg n p)(i j:Nat):Rg n (kas_rev p i j):=(Array.perm_iff_toList_perm.mp<|mirror_perm p i j _).trans h
theorem Rg.Oz(h:Rg n p)(i j:Nat):Rg n (bubble p i j):=(Array.perm_iff_toList_perm.mp<|bubble_perm p i j).trans h
end
section
variable{prog:Program}{w:World}{A:Around}{E:Value->Shared->Prop}{κ:SortKind}{it:Array Keyed}{key:Nat->Int}
end
section
variable{prog:Program}{w:World}{A:Around}{E:Value->Shared->Prop}{κ:SortKind}{it:Array Keyed}{key:Nat->Int}{n:Nat}{s:Shared}
def je:Bool->Keyed->Array Keyed->Nat->Nat->Nat->StateT SortSt Sem (Option Nat):=sortPriv% PySem.Builtin.gallop
theorem gK(hc:bT n key (kas_cmp prog w A κ it) s){i j:Nat}(hi:i<n)(hj:j<n){st:SortSt}(hk:kindOf st=κ){Q:Option Bool->SortSt->Shared->Prop}(h:Q (some<|decide (key i<key j)) st s):
  kasC (model prog w) A E (lt' (kas_item it i)<|kas_item it j) Q st s:=by
 rw[lt'_eq];apply kasC_bind;apply kasC_get;have:=hc i j (fun c s'=>s'=s/\c=decide (key i<key j)) hi hj ⟨rfl,rfl⟩;unfold kas_cmp at this;rw[hk];refine kasC_bind (kasC_lift<|wpAny_attempt<|wpAny_mono this (fun c s' H9=>?_) fun _ _ hF=>hF.elim);obtain⟨rfl,rfl⟩:=H9;exact kasC_pure h
theorem bz{σ β:Type}{M:Model}{f:Nat->β->StateT σ Sem (ForInStep β)}{Q:β->σ->Shared->Prop}(I:Nat->β->σ->Shared->Prop)(step:∀ x c st s',I x c st s'->kasC M A E (f x c) (fun r o_ s2=>match r with | .yield c'=>I (x+1) c' o_ s2 | .done c'=>Q c' o_ s2) st s'):∀ (m a:Nat) (c:β) (st:σ) (s':Shared),(∀ c st s',I (a+m) c st s'->Q c st s')->I a c st s'->
   kasC M A E (forIn (range' a m) c f) Q st s'
 | 0,a,c,st,s',fin,h=>by
  show kasC M A E (forIn ([]:List Nat) c f) Q st s';exact kasC_nil (fin c st s' h)
 | m+1,a,c,st,s',fin,h=>by
  show kasC M A E (forIn (a::range' (a+1) m) c f) Q st s';refine kasC_cons (wpAny_mono (step a c st s' h) (fun r s2 h'=>?_) fun _ _ e=>e);obtain⟨r,o_⟩:=r;cases r with
  | done c'=>exact h'
  | yield c'=>exact bz I step m (a+1) c' o_ s2 (fun c st s' hi=>fin c st s' (by rw[show a+(m+1)=a+1+m by lia];exact hi)) h'
def CN(key:Nat->Int)(left:Bool)(k:Nat)(pa:Array Nat)(base i:Nat):Bool:=if left=true then decide (key (pa.getD (base+i) 0)<key k) else !decide (key k<key (pa.getD (base+i) 0))
theorem oG(hc:bT n key (kas_cmp prog w A κ it) s){left:Bool}{k:Nat}(hk:k<n){pa:Array Nat}(OA:∀ i,i<pa.size->pa.getD i 0<n){base m hint:Nat}(hb:base+m<=pa.size)(hh:hint<m)(mono:∀ i j,i<=j->j<m->CN key left k pa base j=true->CN key left k pa base i=true){st:SortSt}(n_:kindOf st=κ){Q:Option Nat->SortSt->Shared->Prop}(h:∀ r,r<=m->(∀ i,i<r->CN key left k pa base i=true)->(∀ i,r<=i->i<m->CN key left k pa base i=false)->Q (some r) st s):
  kasC (model prog w) A E (je left (kas_item it k) (pa.map<|kas_item it) base m hint) Q st s:=by
 have el:∀ i,i<m->(pa.map<|kas_item it)[base+i]?=some (kas_item it<|pa.getD (base+i) 0):=fun i hi=>by
  have:base+i<pa.size:=by lia
  simp[Array.getD,this]
 have ask:∀ i,i<m->∀ Q':Option Bool->SortSt->Shared->Prop,Q' (some<|CN key left k pa base i) st s->
   kasC (model prog w) A E (do let x <- elem' (pa.map<|kas_item it) (base+i);if left=true then lt' x (kas_item it k) else do let r <- lt' (kas_item it k) x;pure (r.map fun x=>!x)) Q' st s:=fun i hi Q' hq=>by
  rw[elem'_eq,el i hi];apply kasC_bind;apply kasC_pure;have hx:=OA (base+i) (by lia);unfold CN at hq;cases left with
  | true=>
   rw[if_pos rfl] at hq ⊢;exact gK hc hx hk n_ hq
  | false=>
   rw[if_neg Bool.false_ne_true] at hq ⊢;exact kasC_bind (gK hc hk hx n_<|kasC_pure hq)
 unfold je;with_unfolding_all refine kasC_bind ?_;refine ask hint hh _ ?_;dsimp only;cases Nv:CN key left k pa base hint with
 | true=>
  rw[if_pos rfl];apply kasC_bind;apply kasC_range;have Ij:∀ last CQ,last<CQ->hint+last<m->CN key left k pa base (hint+last)=true->(CQ >= m - hint\/CN key left k pa base (hint+CQ)=false)->
    hint+last+1<=hint+min CQ (m - hint)/\hint+min CQ (m - hint)<=m/\(∀ i,i<hint+last+1->CN key left k pa base i=true)/\(∀ i,hint+min CQ (m - hint)<=i->i<m->CN key left k pa base i=false)/\hint+min CQ (m - hint) - (hint+last+1)<=m - 0:=fun last CQ a1 a2 a3 a4=>by
   refine⟨by lia,by lia,fun i hi=>mono i (hint+last) (by lia) a2 a3,fun i h1 h2=>?_,by lia⟩;rcases a4 with a4 | a4
   ·lia
   ·cases Dz:CN key left k pa base i with
    | false=>rfl
    | true=>rw[mono (hint+CQ) i (by lia) h2 Dz] at a4;cases a4
  refine bz (fun x c g_ s'=>g_=st/\s'=s/\∃ last CQ,c=(none,last,CQ)/\last<CQ/\x<CQ/\hint+last<m/\CN key left k pa base (hint+last)=true) ?_ _ 0 _ _ _ ?_ ⟨rfl,rfl,0,1,rfl,by lia,by lia,by lia,Nv⟩
  ·rintro x c g_ s' ⟨e1,e2,last,CQ,rfl,h1,h2,h3,h4⟩;rw[e1,e2];dsimp only;by_cases ho:CQ >= m - hint
   ·rw[if_pos ho];apply kasC_pure;dsimp only;have LH:=Ij last CQ h1 h3 h4 (.inl ho);apply kasC_bind;apply kasC_range;refine bz (fun x c g_ s'=>g_=st/\s'=s/\∃ lo hi,c=(none,lo,hi)/\lo<=hi/\hi<=m/\(∀ i,i<lo->CN key left k pa base i=true)/\(∀ i,hi<=i->i<m->CN key left k pa base i=false)/\hi - lo<=m - x) ?_ _ 0 _ _ _ ?_ ⟨rfl,rfl,_,_,rfl,LH⟩
    ·rintro x c g_ s' ⟨e1,e2,lo,hi,rfl,h1,h2,h3,h4,h5⟩;rw[e1,e2];dsimp only;by_cases EO:lo >= hi
     ·rw[if_pos EO];apply kasC_pure;dsimp only;have e:lo=hi:=by lia
      subst e;exact kasC_pure (h lo h2 h3 h4)
     ·rw[if_neg EO];have m1:lo<=lo+(hi - lo) / 2:=by lia
      have m2:lo+(hi - lo) / 2<hi:=by lia
      generalize lo+(hi - lo) / 2=mid at m1 m2 ⊢;refine kasC_bind (ask mid (by lia) _ ?_);dsimp only;cases hB:CN key left k pa base mid with
      | true=>
       rw[if_pos rfl];exact kasC_pure ⟨rfl,rfl,mid+1,hi,rfl,by lia,h2,fun i Ej=>mono i mid (by lia) (by lia) hB,h4,by lia⟩
      | false=>
       rw[if_neg Bool.false_ne_true];refine kasC_pure ⟨rfl,rfl,lo,mid,rfl,by lia,by lia,h3,fun i a b=>?_,by lia⟩;cases Dz:CN key left k pa base i with
       | false=>rfl
       | true=>rw[mono mid i a b Dz] at hB;cases hB
    ·rintro c g_ s' ⟨e1,e2,lo,hi,rfl,h1,h2,h3,h4,h5⟩;rw[e1,e2];dsimp only;have e:lo=hi:=by lia
     subst e;exact kasC_pure (h lo h2 h3 h4)
   ·rw[if_neg ho];refine kasC_bind (ask (hint+CQ) (by lia) _ ?_);dsimp only;cases hB:CN key left k pa base (hint+CQ) with
    | true=>
     simp only[Bool.not_true,false_eq_true,if_false];exact kasC_pure ⟨rfl,rfl,CQ,2 * CQ+1,rfl,by lia,by lia,by lia,hB⟩
    | false=>
     simp only[Bool.not_false,if_true];apply kasC_pure;dsimp only;have LH:=Ij last CQ h1 h3 h4 (.inr hB);apply kasC_bind;apply kasC_range;refine bz (fun x c g_ s'=>g_=st/\s'=s/\∃ lo hi,c=(none,lo,hi)/\lo<=hi/\hi<=m/\(∀ i,i<lo->CN key left k pa base i=true)/\(∀ i,hi<=i->i<m->CN key left k pa base i=false)/\hi - lo<=m - x) ?_ _ 0 _ _ _ ?_ ⟨rfl,rfl,_,_,rfl,LH⟩
     ·rintro x c g_ s' ⟨e1,e2,lo,hi,rfl,h1,h2,h3,h4,h5⟩;rw[e1,e2];dsimp only;by_cases EO:lo >= hi
      ·rw[if_pos EO];apply kasC_pure;dsimp only;have e:lo=hi:=by lia
       subst e;exact kasC_pure (h lo h2 h3 h4)
      ·rw[if_neg EO];have m1:lo<=lo+(hi - lo) / 2:=by lia
       have m2:lo+(hi - lo) / 2<hi:=by lia
       generalize lo+(hi - lo) / 2=mid at m1 m2 ⊢;refine kasC_bind (ask mid (by lia) _ ?_);dsimp only;cases hB:CN key left k pa base mid with
       | true=>
        rw[if_pos rfl];exact kasC_pure ⟨rfl,rfl,mid+1,hi,rfl,by lia,h2,fun i Ej=>mono i mid (by lia) (by lia) hB,h4,by lia⟩
       | false=>
        rw[if_neg Bool.false_ne_true];refine kasC_pure ⟨rfl,rfl,lo,mid,rfl,by lia,by lia,h3,fun i a b=>?_,by lia⟩;cases Dz:CN key left k pa base i with
        | false=>rfl
        | true=>rw[mono mid i a b Dz] at hB;cases hB
     ·rintro c g_ s' ⟨e1,e2,lo,hi,rfl,h1,h2,h3,h4,h5⟩;rw[e1,e2];dsimp only;have e:lo=hi:=by lia
      subst e;exact kasC_pure (h lo h2 h3 h4)
  ·rintro c g_ s' ⟨e1,e2,last,CQ,rfl,h1,h2,h3,h4⟩;rw[e1,e2];dsimp only;have LH:=Ij last CQ h1 h3 h4 (.inl (by lia));apply kasC_bind;apply kasC_range;refine bz (fun x c g_ s'=>g_=st/\s'=s/\∃ lo hi,c=(none,lo,hi)/\lo<=hi/\hi<=m/\(∀ i,i<lo->CN key left k pa base i=true)/\(∀ i,hi<=i->i<m->CN key left k pa base i=false)/\hi - lo<=m - x) ?_ _ 0 _ _ _ ?_ ⟨rfl,rfl,_,_,rfl,LH⟩
   ·rintro x c g_ s' ⟨e1,e2,lo,hi,rfl,h1,h2,h3,h4,h5⟩;rw[e1,e2];dsimp only;by_cases EO:lo >= hi
    ·rw[if_pos EO];apply kasC_pure;dsimp only;have e:lo=hi:=by lia
     subst e;exact kasC_pure (h lo h2 h3 h4)
    ·rw[if_neg EO];have m1:lo<=lo+(hi - lo) / 2:=by lia
     have m2:lo+(hi - lo) / 2<hi:=by lia
     generalize lo+(hi - lo) / 2=mid at m1 m2 ⊢;refine kasC_bind (ask mid (by lia) _ ?_);dsimp only;cases hB:CN key left k pa base mid with
     | true=>
      rw[if_pos rfl];exact kasC_pure ⟨rfl,rfl,mid+1,hi,rfl,by lia,h2,fun i Ej=>mono i mid (by lia) (by lia) hB,h4,by lia⟩
     | false=>
      rw[if_neg Bool.false_ne_true];refine kasC_pure ⟨rfl,rfl,lo,mid,rfl,by lia,by lia,h3,fun i a b=>?_,by lia⟩;cases Dz:CN key left k pa base i with
      | false=>rfl
      | true=>rw[mono mid i a b Dz] at hB;cases hB
   ·rintro c g_ s' ⟨e1,e2,lo,hi,rfl,h1,h2,h3,h4,h5⟩;rw[e1,e2];dsimp only;have e:lo=hi:=by lia
    subst e;exact kasC_pure (h lo h2 h3 h4)
 | false=>
  rw[if_neg Bool.false_ne_true];apply kasC_bind;apply kasC_range;have Ij:∀ last CQ,last<CQ->last<=hint->CN key left k pa base (hint - last)=false->(CQ >= hint+1\/CN key left k pa base (hint - CQ)=true)->
    hint+1 - min CQ (hint+1)<=hint - last/\hint - last<=m/\(∀ i,i<hint+1 - min CQ (hint+1)->CN key left k pa base i=true)/\(∀ i,hint - last<=i->i<m->CN key left k pa base i=false)/\hint - last - (hint+1 - min CQ (hint+1))<=m - 0:=fun last CQ a1 a2 a3 a4=>by
   refine⟨by lia,by lia,fun i hi=>?_,fun i h1 h2=>?_,by lia⟩
   ·rcases a4 with a4 | a4
    ·lia
    ·exact mono i (hint - CQ) (by lia) (by lia) a4
   ·cases Dz:CN key left k pa base i with
    | false=>rfl
    | true=>rw[mono (hint - last) i (by lia) h2 Dz] at a3;cases a3
  refine bz (fun x c g_ s'=>g_=st/\s'=s/\∃ last CQ,c=(none,last,CQ)/\last<CQ/\x<CQ/\last<=hint/\CN key left k pa base (hint - last)=false) ?_ _ 0 _ _ _ ?_ ⟨rfl,rfl,0,1,rfl,by lia,by lia,by lia,Nv⟩
  ·rintro x c g_ s' ⟨e1,e2,last,CQ,rfl,h1,h2,h3,h4⟩;rw[e1,e2];dsimp only;by_cases ho:CQ >= hint+1
   ·rw[if_pos ho];apply kasC_pure;dsimp only;have LH:=Ij last CQ h1 h3 h4 (.inl ho);apply kasC_bind;apply kasC_range;refine bz (fun x c g_ s'=>g_=st/\s'=s/\∃ lo hi,c=(none,lo,hi)/\lo<=hi/\hi<=m/\(∀ i,i<lo->CN key left k pa base i=true)/\(∀ i,hi<=i->i<m->CN key left k pa base i=false)/\hi - lo<=m - x) ?_ _ 0 _ _ _ ?_ ⟨rfl,rfl,_,_,rfl,LH⟩
    ·rintro x c g_ s' ⟨e1,e2,lo,hi,rfl,h1,h2,h3,h4,h5⟩;rw[e1,e2];dsimp only;by_cases EO:lo >= hi
     ·rw[if_pos EO];apply kasC_pure;dsimp only;have e:lo=hi:=by lia
      subst e;exact kasC_pure (h lo h2 h3 h4)
     ·rw[if_neg EO];have m1:lo<=lo+(hi - lo) / 2:=by lia
      have m2:lo+(hi - lo) / 2<hi:=by lia
      generalize lo+(hi - lo) / 2=mid at m1 m2 ⊢;refine kasC_bind (ask mid (by lia) _ ?_);dsimp only;cases hB:CN key left k pa base mid with
      | true=>
       rw[if_pos rfl];exact kasC_pure ⟨rfl,rfl,mid+1,hi,rfl,by lia,h2,fun i Ej=>mono i mid (by lia) (by lia) hB,h4,by lia⟩
      | false=>
       rw[if_neg Bool.false_ne_true];refine kasC_pure ⟨rfl,rfl,lo,mid,rfl,by lia,by lia,h3,fun i a b=>?_,by lia⟩;cases Dz:CN key left k pa base i with
       | false=>rfl
       | true=>rw[mono mid i a b Dz] at hB;cases hB
    ·rintro c g_ s' ⟨e1,e2,lo,hi,rfl,h1,h2,h3,h4,h5⟩;rw[e1,e2];dsimp only;have e:lo=hi:=by lia
     subst e;exact kasC_pure (h lo h2 h3 h4)
   ·rw[if_neg ho];refine kasC_bind (ask (hint - CQ) (by lia) _ ?_);dsimp only;cases hB:CN key left k pa base (hint - CQ) with
    | false=>
     rw[if_neg Bool.false_ne_true];exact kasC_pure ⟨rfl,rfl,CQ,2 * CQ+1,rfl,by lia,by lia,by lia,hB⟩
    | true=>
     rw[if_pos rfl];apply kasC_pure;dsimp only;have LH:=Ij last CQ h1 h3 h4 (.inr hB);apply kasC_bind;apply kasC_range;refine bz (fun x c g_ s'=>g_=st/\s'=s/\∃ lo hi,c=(none,lo,hi)/\lo<=hi/\hi<=m/\(∀ i,i<lo->CN key left k pa base i=true)/\(∀ i,hi<=i->i<m->CN key left k pa base i=false)/\hi - lo<=m - x) ?_ _ 0 _ _ _ ?_ ⟨rfl,rfl,_,_,rfl,LH⟩
     ·rintro x c g_ s' ⟨e1,e2,lo,hi,rfl,h1,h2,h3,h4,h5⟩;rw[e1,e2];dsimp only;by_cases EO:lo >= hi
      ·rw[if_pos EO];apply kasC_pure;dsimp only;have e:lo=hi:=by lia
       subst e;exact kasC_pure (h lo h2 h3 h4)
      ·rw[if_neg EO];have m1:lo<=lo+(hi - lo) / 2:=by lia
       have m2:lo+(hi - lo) / 2<hi:=by lia
       generalize lo+(hi - lo) / 2=mid at m1 m2 ⊢;refine kasC_bind (ask mid (by lia) _ ?_);dsimp only;cases hB:CN key left k pa base mid with
       | true=>
        rw[if_pos rfl];exact kasC_pure ⟨rfl,rfl,mid+1,hi,rfl,by lia,h2,fun i Ej=>mono i mid (by lia) (by lia) hB,h4,by lia⟩
       | false=>
        rw[if_neg Bool.false_ne_true];refine kasC_pure ⟨rfl,rfl,lo,mid,rfl,by lia,by lia,h3,fun i a b=>?_,by lia⟩;cases Dz:CN key left k pa base i with
        | false=>rfl
        | true=>rw[mono mid i a b Dz] at hB;cases hB
     ·rintro c g_ s' ⟨e1,e2,lo,hi,rfl,h1,h2,h3,h4,h5⟩;rw[e1,e2];dsimp only;have e:lo=hi:=by lia
      subst e;exact kasC_pure (h lo h2 h3 h4)
  ·rintro c g_ s' ⟨e1,e2,last,CQ,rfl,h1,h2,h3,h4⟩;rw[e1,e2];dsimp only;have LH:=Ij last CQ h1 h3 h4 (.inl (by lia));apply kasC_bind;apply kasC_range;refine bz (fun x c g_ s'=>g_=st/\s'=s/\∃ lo hi,c=(none,lo,hi)/\lo<=hi/\hi<=m/\(∀ i,i<lo->CN key left k pa base i=true)/\(∀ i,hi<=i->i<m->CN key left k pa base i=false)/\hi - lo<=m - x) ?_ _ 0 _ _ _ ?_ ⟨rfl,rfl,_,_,rfl,LH⟩
   ·rintro x c g_ s' ⟨e1,e2,lo,hi,rfl,h1,h2,h3,h4,h5⟩;rw[e1,e2];dsimp only;by_cases EO:lo >= hi
    ·rw[if_pos EO];apply kasC_pure;dsimp only;have e:lo=hi:=by lia
     subst e;exact kasC_pure (h lo h2 h3 h4)
    ·rw[if_neg EO];have m1:lo<=lo+(hi - lo) / 2:=by lia
     have m2:lo+(hi - lo) / 2<hi:=by lia
     generalize lo+(hi - lo) / 2=mid at m1 m2 ⊢;refine kasC_bind (ask mid (by lia) _ ?_);dsimp only;cases hB:CN key left k pa base mid with
     | true=>
      rw[if_pos rfl];exact kasC_pure ⟨rfl,rfl,mid+1,hi,rfl,by lia,h2,fun i Ej=>mono i mid (by lia) (by lia) hB,h4,by lia⟩
     | false=>
      rw[if_neg Bool.false_ne_true];refine kasC_pure ⟨rfl,rfl,lo,mid,rfl,by lia,by lia,h3,fun i a b=>?_,by lia⟩;cases Dz:CN key left k pa base i with
      | false=>rfl
      | true=>rw[mono mid i a b Dz] at hB;cases hB
   ·rintro c g_ s' ⟨e1,e2,lo,hi,rfl,h1,h2,h3,h4,h5⟩;rw[e1,e2];dsimp only;have e:lo=hi:=by lia
    subst e;exact kasC_pure (h lo h2 h3 h4)
end
section
variable{key:Nat->Int}
def CJ(key:Nat->Int)(l:List Nat):Prop:=l.Pairwise fun x y=>key x<=key y
structure OB(key:Nat->Int)(la lb:List Nat)(po:List Nat)(ia ib:Nat):Prop where
 perm:po.Perm (la.take ia++lb.take ib)
 sa:CJ key (po++la.drop ia)
 sb:CJ key (po++lb.drop ib)
 pa:ia+1<la.length
 pb:ib<lb.length
variable{l m:List Nat}
theorem bd:CJ key (l++m)↔CJ key l/\CJ key m/\∀ x∈l,∀ y∈m,key x<=key y:=List.pairwise_append
theorem fR(l:List Nat)(i k:Nat):l.take i++(l.drop i).take k=l.take (i+k):=by rw[List.take_add]
variable{la lb po:List Nat}{ia ib:Nat}
theorem fb(k:Nat)(perm:po.Perm (la.take ia++lb.take ib))(sa:CJ key (po++la.drop ia))(sb:CJ key (po++lb.drop ib))(h:∀ x∈(la.drop ia).take k,∀ y∈lb.drop ib,key x<=key y):
  (po++(la.drop ia).take k).Perm (la.take (ia+k)++lb.take ib)/\CJ key (po++(la.drop ia).take k++la.drop (ia+k))/\CJ key (po++(la.drop ia).take k++lb.drop ib):=by
 refine⟨?_,?_,?_⟩
 ·rw[<- fR la ia k];refine (perm.append_right _).trans ?_;rw[List.append_assoc,List.append_assoc];exact List.Perm.append_left _ perm_append_comm
 ·rw[List.append_assoc,<- drop_drop,take_append_drop];exact sa
 ·rw[List.append_assoc];have s1:=bd.mp sa;have s2:=bd.mp sb;refine bd.mpr ⟨s1.1,bd.mpr ⟨s1.2.1.sublist<|take_sublist _ _,s2.2.1,h⟩,fun x hx y hy=>?_⟩;rcases mem_append.mp hy with hy | hy
  ·exact s1.2.2 x hx y (mem_of_mem_take hy)
  ·exact s2.2.2 x hx y hy
theorem gL(k:Nat)(perm:po.Perm (la.take ia++lb.take ib))(sa:CJ key (po++la.drop ia))(sb:CJ key (po++lb.drop ib))(h:∀ x∈(lb.drop ib).take k,∀ y∈la.drop ia,key x<=key y):
  (po++(lb.drop ib).take k).Perm (la.take ia++lb.take (ib+k))/\CJ key (po++(lb.drop ib).take k++la.drop ia)/\CJ key (po++(lb.drop ib).take k++lb.drop (ib+k)):=by
 have:=fb (la:=lb) (lb:=la) k (perm.trans perm_append_comm) sb sa h;exact⟨this.1.trans perm_append_comm,this.2.2,this.2.1⟩
variable{i:Nat}
theorem bA(h:i<l.length):(l.drop i).take 1=[l.getD i 0]:=by
 rw[drop_eq_getElem_cons h,getD_eq_getElem?_getD,List.getElem?_eq_getElem h];rfl
variable{y:Nat}
theorem bU(h:y∈l.drop i):∃ j,i<=j/\j<l.length/\y=l.getD j 0:=by
 obtain⟨j,hj,e⟩:=mem_iff_getElem.mp h;have hl:=hj;rw[length_drop] at hl;exact⟨i+j,by lia,by lia,by rw[<- e,getElem_drop];simp[List.getD,show i+j<l.length by lia]⟩
variable{k:Nat}
theorem fc(h:y∈(l.drop i).take k):∃ j,j<k/\i+j<l.length/\y=l.getD (i+j) 0:=by
 obtain⟨j,hj,e⟩:=mem_iff_getElem.mp h;have hl:=hj;rw[length_take,length_drop] at hl;exact⟨j,by lia,by lia,by rw[<- e,getElem_take,getElem_drop];simp[List.getD,show i+j<l.length by lia]⟩
theorem fe(h:CJ key l){i j:Nat}(DY:i<=j)(hj:j<l.length):key (l.getD i 0)<=key (l.getD j 0):=by
 rcases Nat.lt_or_eq_of_le DY with DO | rfl
 ·have:=pairwise_iff_getElem.mp h i j (by lia) hj DO;simpa [List.getD,hj,show i<l.length by lia] using this
 ·exact Int.le_refl _
theorem oH(h:CJ key (l++m)):CJ key m:=(bd.mp h).2.1
theorem d0{j:Nat}(h:CJ key (po++l.drop i))(hj:i<=j)(Nw:j<=k)(hk:k<l.length):key (l.getD j 0)<=key (l.getD k 0):=by
 have:=fe (oH h) (i:=j - i) (j:=k - i) (by lia) (by rw[length_drop];lia);simpa [List.getD,getElem?_drop,show i+(j - i)=j by lia,show i+(k - i)=k by lia] using this
def EJ(key:Nat->Int)(it:Array Keyed)(la lb:List Nat)(out:Array Keyed):Prop:=∃ po:List Nat,out=(po.map<|kas_item it).toArray/\po.Perm (la++lb)/\CJ key po
variable{it:Array Keyed}
theorem ff(perm:po.Perm (la.take ia++lb.take ib))(sa:CJ key (po++la.drop ia))(sb:CJ key (po++lb.drop ib))(OC:ib=lb.length\/ia=la.length):
  EJ key it la lb ((po.map<|kas_item it).toArray++(la.map<|kas_item it).toArray.extract ia la.length++(lb.map<|kas_item it).toArray.extract ib lb.length):=by
 refine⟨po++la.drop ia++lb.drop ib,?_,?_,?_⟩
 ·apply ext';simp[map_drop,List.take_of_length_le]
 ·rw[List.append_assoc];refine (perm.append_right _).trans ?_;have:(la.take ia++lb.take ib++(la.drop ia++lb.drop ib)).Perm ((la.take ia++la.drop ia)++(lb.take ib++lb.drop ib)):=by
   rw[List.append_assoc,List.append_assoc];refine List.Perm.append_left _ ?_;rw[<- List.append_assoc,<- List.append_assoc];exact List.Perm.append_right _ perm_append_comm
  rw[take_append_drop,take_append_drop] at this;exact this
 ·rcases OC with e | e
  ·rw[e,List.drop_length,append_nil];exact sa
  ·rw[e,List.drop_length,append_nil];exact sb
theorem fg(perm:po.Perm (la.take ia++lb.take ib))(sa:CJ key (po++la.drop ia))(sb:CJ key (po++lb.drop ib))(Qo:ia+1=la.length)(top:∀ x∈lb,key x<=key (la.getD (la.length - 1) 0)):
  EJ key it la lb ((po.map<|kas_item it).toArray++(lb.map<|kas_item it).toArray.extract ib lb.length++(la.map<|kas_item it).toArray.extract ia la.length):=by
 refine⟨po++lb.drop ib++la.drop ia,?_,?_,?_⟩
 ·apply ext';simp[map_drop,List.take_of_length_le]
 ·rw[List.append_assoc];refine (perm.append_right _).trans ?_;have:(la.take ia++lb.take ib++(lb.drop ib++la.drop ia)).Perm ((la.take ia++la.drop ia)++(lb.take ib++lb.drop ib)):=by
   rw[List.append_assoc,List.append_assoc];refine List.Perm.append_left _ ?_;rw[<- List.append_assoc];exact perm_append_comm
  rw[take_append_drop,take_append_drop] at this;exact this
 ·refine bd.mpr ⟨sb,oH sa,fun x hx y hy=>?_⟩;rcases mem_append.mp hx with hx | hx
  ·exact (bd.mp sa).2.2 x hx y hy
  ·obtain⟨j,h1,h2,rfl⟩:=bU hy;have:j=la.length - 1:=by lia
   rw[this];exact top x (mem_of_mem_drop hx)
end
section
variable{prog:Program}{w:World}{A:Around}{E:Value->Shared->Prop}{κ:SortKind}{it:Array Keyed}{key:Nat->Int}{n:Nat}{s:Shared}
def oI:Array Keyed->Array Keyed->StateT SortSt Sem (Array Keyed):=sortPriv% PySem.Builtin.mergeLo
structure i_(KZ st:SortSt):Prop where
 k:kindOf st=kindOf KZ
 a:arrOf st=arrOf KZ
 p:pendingOf st=pendingOf KZ
 f:failedOf st=failedOf KZ
theorem i_.refl(st:SortSt):i_ st st:=⟨rfl,rfl,rfl,rfl⟩
theorem bW{σ α:Type}{M:Model}{m:StateT σ Sem α}{Q Q':α->σ->Shared->Prop}{st:σ}{s':Shared}(h:kasC M A E m Q' st s')(g:∀ a st s',Q' a st s'->Q a st s'):kasC M A E m Q st s':=
 wpAny_mono h (fun r s' x=>g r.1 r.2 s' x) fun _ _ e=>e
variable{l:List Nat}
theorem aP{i:Nat}(hi:i<l.length){st:SortSt}{Q:Keyed->SortSt->Shared->Prop}(h:Q (kas_item it<|l.getD i 0) st s):kasC (model prog w) A E (elem' (l.map<|kas_item it).toArray i) Q st s:=by
 rw[elem'_eq,show ((l.map<|kas_item it).toArray)[i]?=some (kas_item it<|l.getD i 0) by simp[List.getD,hi]];exact kasC_pure h
theorem ck(hl:∀ x∈l,x<n){i:Nat}(hi:i<l.length):l.getD i 0<n:=by
 rw[getD_eq_getElem?_getD,List.getElem?_eq_getElem hi];exact hl _ (getElem_mem hi)
theorem dF(l:List Nat)(i:Nat):l.toArray.getD i 0=l.getD i 0:=by simp[Array.getD,List.getD];split<;>simp_all
theorem kT(hc:bT n key (kas_cmp prog w A κ it) s){k:Nat}(hk:k<n){l:List Nat}(hl:∀ x∈l,x<n){base m hint:Nat}(hb:base+m<=l.length)(hh:hint<m)(mono:∀ i j,base<=i->i<=j->j<base+m->key (l.getD i 0)<=key (l.getD j 0)){st:SortSt}(n_:kindOf st=κ){Q:Option Nat->SortSt->Shared->Prop}(h:∀ r,r<=m->(∀ i,base<=i->i<base+r->key (l.getD i 0)<=key k)->(∀ i,base+r<=i->i<base+m->key k<key (l.getD i 0))->Q (some r) st s):
  kasC (model prog w) A E (je false (kas_item it k) (l.map<|kas_item it).toArray base m hint) Q st s:=by
 rw[<- List.map_toArray];refine oG hc hk (fun i hi=>by rw[dF];exact ck hl (by simpa using hi)) (by simpa using hb) hh (fun i j DY hj hB=>?_) n_ fun r hr a b=>h r hr (fun i h1 h2=>?_) (fun i h1 h2=>?_)
 ·simp only[CN,dF,false_eq_true,if_false,not_eq_true',decide_eq_false_iff_not,Int.not_lt] at hB ⊢;have:=mono (base+i) (base+j) (by lia) (by lia) (by lia);lia
 ·have:=a (i - base) (by lia);simp only[CN,dF,false_eq_true,if_false,not_eq_true',decide_eq_false_iff_not,Int.not_lt] at this
  rwa [show base+(i - base)=i by lia] at this
 ·have:=b (i - base) (by lia) (by lia);simp only[CN,dF,false_eq_true,if_false,Bool.not_eq_false',decide_eq_true_eq] at this
  rwa [show base+(i - base)=i by lia] at this
theorem gM(hc:bT n key (kas_cmp prog w A κ it) s){k:Nat}(hk:k<n){l:List Nat}(hl:∀ x∈l,x<n){base m hint:Nat}(hb:base+m<=l.length)(hh:hint<m)(mono:∀ i j,base<=i->i<=j->j<base+m->key (l.getD i 0)<=key (l.getD j 0)){st:SortSt}(n_:kindOf st=κ){Q:Option Nat->SortSt->Shared->Prop}(h:∀ r,r<=m->(∀ i,base<=i->i<base+r->key (l.getD i 0)<key k)->(∀ i,base+r<=i->i<base+m->key k<=key (l.getD i 0))->Q (some r) st s):
  kasC (model prog w) A E (je true (kas_item it k) (l.map<|kas_item it).toArray base m hint) Q st s:=by
 rw[<- List.map_toArray];refine oG hc hk (fun i hi=>by rw[dF];exact ck hl (by simpa using hi)) (by simpa using hb) hh (fun i j DY hj hB=>?_) n_ fun r hr a b=>h r hr (fun i h1 h2=>?_) (fun i h1 h2=>?_)
 ·simp only[CN,dF,if_true,decide_eq_true_eq] at hB ⊢;have:=mono (base+i) (base+j) (by lia) (by lia) (by lia);lia
 ·have:=a (i - base) (by lia);simp only[CN,dF,if_true,decide_eq_true_eq] at this
  rwa [show base+(i - base)=i by lia] at this
 ·have:=b (i - base) (by lia) (by lia);simp only[CN,dF,if_true,decide_eq_false_iff_not,Int.not_lt] at this
  rwa [show base+(i - base)=i by lia] at this
theorem aQ(po:List Nat)(y:Nat):(po.map<|kas_item it).toArray.push (kas_item it y)=((po++[y]).map<|kas_item it).toArray:=by simp
theorem bF(po l:List Nat)(i k:Nat):(po.map<|kas_item it).toArray++(l.map<|kas_item it).toArray.extract i (i+k)=((po++(l.drop i).take k).map<|kas_item it).toArray:=by
 apply ext';simp[map_drop,map_take,drop_take]
end
section
variable{prog:Program}{w:World}{A:Around}{E:Value->Shared->Prop}{κ:SortKind}{it:Array Keyed}{key:Nat->Int}{n:Nat}{s:Shared}
def FO(key:Nat->Int)(it:Array Keyed)(la lb:List Nat)(out:Array Keyed)(ia ib:Nat):Prop:=∃ po:List Nat,out=(po.map<|kas_item it).toArray/\OB key la lb po ia ib
theorem oJ{M:Model}{A:Around}{E:Value->Shared->Prop}{σ α:Type}{c:Nat->Prop}{dc:∀ g,Decidable (c g)}{a P:Nat->StateT σ Sem α}{Q:α->σ->Shared->Prop}{st:σ}{s:Shared}(x:Nat->Nat)(ha:∀ g,a g=P (x g))(H:∀ g,kasC M A E (P g) Q st s):∀ g,kasC M A E (if c g then a g else P g) Q st s:=by
 intro g;rw[ha];split
 ·exact H _
 ·exact H _
def JP(key:Nat->Int)(it:Array Keyed)(la lb:List Nat)(st:SortSt)(s:Shared): Option (Array Keyed)×Array Keyed×Nat×Nat×Nat->SortSt->Shared->Prop:=fun c g_ s'=>s=s'/\i_ st g_/\∃ CP p q r g,c=(some CP,p,q,r,g)/\EJ key it la lb CP
def JQ(key:Nat->Int)(it:Array Keyed)(la lb:List Nat)(st:SortSt)(s:Shared)(x:Nat):Option (Array Keyed)×Array Keyed×Nat×Nat×Nat->SortSt->Shared->Prop:=fun c g_ s'=>s=s'/\i_ st g_/\∃ o ia ib g,c=(none,o,ia,ib,g)/\FO key it la lb o ia ib/\x+1<=ia+ib
def GG(key:Nat->Int)(it:Array Keyed)(la lb:List Nat)(st:SortSt)(s:Shared)(x:Nat):Option (Array Keyed)×Array Keyed×Nat×Nat×Nat×Nat->SortSt->Shared->Prop:=fun c g_ s'=>s=s'/\i_ st g_/\((∃ CP p q r ac bc,c=(some CP,p,q,r,ac,bc)/\EJ key it la lb CP)\/∃ o ia ib ac bc,c=(none,o,ia,ib,ac,bc)/\FO key it la lb o ia ib/\x+2<=ia+ib)
def IU(key:Nat->Int)(it:Array Keyed)(la lb:List Nat)(st:SortSt)(s:Shared)(x y:Nat):Option (Array Keyed)×Array Keyed×Nat×Nat×Nat×Nat->SortSt->Shared->Prop:=fun c g_ s'=>s=s'/\i_ st g_/\∃ o ia ib ac bc,c=(none,o,ia,ib,ac,bc)/\FO key it la lb o ia ib/\x+1+y<=ia+ib
def Ev(key:Nat->Int)(it:Array Keyed)(la lb:List Nat)(st:SortSt)(s:Shared)(x:Nat):Option (Array Keyed)×Array Keyed×Nat×Nat×Nat×Nat×Nat->SortSt->Shared->Prop:=fun c g_ s'=>s=s'/\i_ st g_/\((∃ CP p q r g ac bc,c=(some CP,p,q,r,g,ac,bc)/\EJ key it la lb CP)\/∃ o ia ib g ac bc,c=(none,o,ia,ib,g,ac,bc)/\FO key it la lb o ia ib/\x+2<=ia+ib)
def Hs(key:Nat->Int)(it:Array Keyed)(la lb:List Nat)(st:SortSt)(s:Shared)(x y:Nat):Option (Array Keyed)×Array Keyed×Nat×Nat×Nat×Nat×Nat->SortSt->Shared->Prop:=fun c g_ s'=>s=s'/\i_ st g_/\∃ o ia ib g ac bc,c=(none,o,ia,ib,g,ac,bc)/\FO key it la lb o ia ib/\x+2<=ia+ib
variable{la lb:List Nat}{st g_:SortSt}{out p:Array Keyed}{q r g:Nat}
theorem JP.a{key:Nat->Int}{it:Array Keyed}{s:Shared}(h:i_ st g_)(m:EJ key it la lb out):JP key it la lb st s (some out,p,q,r,g) g_ s:=⟨rfl,h,_,_,_,_,_,rfl,m⟩
variable{x ia ib:Nat}{o:Array Keyed}
theorem JQ.k{key:Nat->Int}{it:Array Keyed}{s:Shared}(h:i_ st g_)(j:FO key it la lb o ia ib)(e:x+1<=ia+ib):JQ key it la lb st s x (none,o,ia,ib,g) g_ s:=⟨rfl,h,_,_,_,_,rfl,j,e⟩
variable{g2:Nat}
theorem GG.a{key:Nat->Int}{it:Array Keyed}{s:Shared}(h:i_ st g_)(m:EJ key it la lb out):GG key it la lb st s x (some out,p,q,r,g,g2) g_ s:=⟨rfl,h,.inl ⟨_,_,_,_,_,_,rfl,m⟩⟩
theorem GG.b{key:Nat->Int}{it:Array Keyed}{s:Shared}(h:i_ st g_)(j:FO key it la lb o ia ib)(e:x+2<=ia+ib):GG key it la lb st s x (none,o,ia,ib,g,g2) g_ s:=⟨rfl,h,.inr ⟨_,_,_,_,_,rfl,j,e⟩⟩
variable{y:Nat}
theorem IU.k{key:Nat->Int}{it:Array Keyed}{s:Shared}(h:i_ st g_)(j:FO key it la lb o ia ib)(e:x+1+y<=ia+ib):IU key it la lb st s x y (none,o,ia,ib,g,g2) g_ s:=⟨rfl,h,_,_,_,_,_,rfl,j,e⟩
variable{g3:Nat}
theorem Ev.a{key:Nat->Int}{it:Array Keyed}{s:Shared}(h:i_ st g_)(m:EJ key it la lb out):Ev key it la lb st s x (some out,p,q,r,g,g2,g3) g_ s:=⟨rfl,h,.inl ⟨_,_,_,_,_,_,_,rfl,m⟩⟩
theorem Ev.b{key:Nat->Int}{it:Array Keyed}{s:Shared}(h:i_ st g_)(j:FO key it la lb o ia ib)(e:x+2<=ia+ib):Ev key it la lb st s x (none,o,ia,ib,g,g2,g3) g_ s:=⟨rfl,h,.inr ⟨_,_,_,_,_,_,rfl,j,e⟩⟩
theorem Hs.k{key:Nat->Int}{it:Array Keyed}{s:Shared}(h:i_ st g_)(j:FO key it la lb o ia ib)(e:x+2<=ia+ib):Hs key it la lb st s x y (none,o,ia,ib,g,g2,g3) g_ s:=⟨rfl,h,_,_,_,_,_,_,rfl,j,e⟩
theorem bq{a b:Nat}(h:a=b):(a == b)=true:=by simp[h]
theorem DA{a b:Nat}(h:¬ a=b):¬ (a == b)=true:=by simp[h]
theorem wW(hc:bT n key (kas_cmp prog w A κ it) s){la lb:List Nat}(GY:∀ x∈la,x<n)(GZ:∀ x∈lb,x<n)(L5:CJ key la)(L6:CJ key lb)(h0:0<la.length)(h1:0<lb.length)(first:∀ x∈la,key (lb.getD 0 0)<=key x)(top:∀ x∈lb,key x<=key (la.getD (la.length - 1) 0)){st:SortSt}(n_:kindOf st=κ){Q:Array Keyed->SortSt->Shared->Prop}(h:∀ out g_,EJ key it la lb out->i_ st g_->Q out g_ s):
  kasC (model prog w) A E (oI (la.map<|kas_item it).toArray (lb.map<|kas_item it).toArray) Q st s:=by
 unfold oI;with_unfolding_all refine kasC_bind (kasC_lift<|wpAny_rule ?_);refine kasC_bind (aP h1 ?_);dsimp only;generalize L7:(List.map (kas_item it) la).toArray.size=za;obtain rfl:la.length=za:=by rw[<- L7];simp
 generalize L8:(List.map (kas_item it) lb).toArray.size=zb;obtain rfl:lb.length=zb:=by rw[<- L8];simp
 have D_:[lb.getD 0 0].Perm (la.take 0++lb.take 1):=by
  have:=bA (l:=lb) (i:=0) h1;simp only[drop_zero] at this;rw[this];exact List.Perm.refl _
 have Ik:CJ key ([lb.getD 0 0]++lb.drop 1):=by
  have:=bA (l:=lb) (i:=0) h1;simp only[drop_zero] at this;rw[<- this,take_append_drop];exact L6
 have Il:CJ key ([lb.getD 0 0]++la.drop 0):=bd.mpr ⟨pairwise_singleton _ _,by rw[drop_zero];exact L5,fun x hx y hy=>by
  rw[mem_singleton.mp hx];exact first y (by rwa [drop_zero] at hy)⟩
 have e0:#[kas_item it (lb.getD 0 0)]=([lb.getD 0 0].map<|kas_item it).toArray:=rfl;rw[e0];by_cases c1:1=lb.length
 ·rw[if_pos (bq c1)];exact kasC_pure (h _ _ (ff D_ Il Ik<|.inl c1)<|i_.refl st)
 rw[if_neg (DA c1)];by_cases c2:0+1=la.length
 ·rw[if_pos (bq c2)];exact kasC_pure (h _ _ (fg D_ Il Ik c2 top)<|i_.refl st)
 rw[if_neg (DA c2)];refine kasC_bind (kasC_get ?_);refine kasC_bind (bW (Q':=JP key it la lb st s) (kasC_range (bz (JQ key it la lb st s) ?step _ 0 _ _ _ ?fin (JQ.k (i_.refl st) ⟨_,rfl,D_,Il,Ik,by lia,by lia⟩ (by lia)))) ?after)
 case after=>
  rintro c g_ s' ⟨rfl,hs,CP,o,ia,ib,g,rfl,hm⟩;exact kasC_pure (h _ _ hm hs)
 case fin=>
  rintro c g_ s' ⟨rfl,hs,o,ia,ib,g,rfl,⟨po,rfl,m⟩,hx⟩;have:=m.pa;have:=m.pb;lia
 case step=>
  rintro x c g_ s' ⟨rfl,hs,o,ia,ib,g,rfl,hJ,hx⟩;dsimp only;refine kasC_bind (bW (Q':=GG key it la lb st s x)
   (kasC_range (bz (IU key it la lb st s x) ?Ga _ 0 _ _ _ ?Io (IU.k hs hJ (by lia)))) ?EY)
  case Io=>
   rintro c g_ s' ⟨rfl,hs,o,ia,ib,ac,bc,rfl,hJ,hx⟩;exact GG.b hs hJ (by lia)
  case Ga=>
   rintro y c g_ s' ⟨rfl,hs,o,ia,ib,ac,bc,rfl,⟨po,rfl,m⟩,hx⟩;have m1:=m.pa;have m2:=m.pb;have DM:kindOf g_=κ:=hs.k.trans n_;dsimp only;refine kasC_bind (aP m2 ?_);refine kasC_bind (aP (show ia<la.length by lia) ?_);refine kasC_bind (gK hc (ck GZ m2) (ck GY (show ia<la.length by lia)) DM ?_);dsimp only;by_cases hw:key (lb.getD ib 0)<key (la.getD ia 0)
   ·rw[if_pos (by simpa using hw)];refine kasC_bind (aP m2 ?_);have b1:=gL 1 m.perm m.sa m.sb (fun x hx y hy=>by
     rw[bA m2,mem_singleton] at hx;obtain⟨j,j1,j2,rfl⟩:=bU hy;have:=d0 m.sa (Nat.le_refl _) j1 j2;rw[hx];lia)
    rw[bA m2] at b1;rw[aQ];try dsimp only
    by_cases hz:ib+1=lb.length
    ·rw[if_pos (bq hz)];exact kasC_pure (GG.a hs<|ff b1.1 b1.2.1 b1.2.2<|.inl hz)
    ·rw[if_neg (DA hz)];have J':FO key it la lb ((po++[lb.getD ib 0]).map<|kas_item it).toArray ia (ib+1):=⟨_,rfl,b1.1,b1.2.1,b1.2.2,m1,by lia⟩;by_cases hg:bc+1 >= g
     ·rw[if_pos hg];exact kasC_pure (GG.b hs J' (by lia))
     ·rw[if_neg hg];exact kasC_pure (IU.k hs J' (by lia))
   ·rw[if_neg (by simpa using hw)];refine kasC_bind (aP (show ia<la.length by lia) ?_);have b1:=fb 1 m.perm m.sa m.sb (fun x hx y hy=>by
     rw[bA (show ia<la.length by lia),mem_singleton] at hx;obtain⟨j,j1,j2,rfl⟩:=bU hy;have:=d0 m.sb (Nat.le_refl _) j1 j2;rw[hx];lia)
    rw[bA (show ia<la.length by lia)] at b1;rw[aQ];try dsimp only
    by_cases hz:ia+1+1=la.length
    ·rw[if_pos (bq hz)];exact kasC_pure (GG.a hs<|fg b1.1 b1.2.1 b1.2.2 hz top)
    ·rw[if_neg (DA hz)];have J':FO key it la lb ((po++[la.getD ia 0]).map<|kas_item it).toArray (ia+1) ib:=⟨_,rfl,b1.1,b1.2.1,b1.2.2,by lia,m2⟩;by_cases hg:ac+1 >= g
     ·rw[if_pos hg];exact kasC_pure (GG.b hs J' (by lia))
     ·rw[if_neg hg];exact kasC_pure (IU.k hs J' (by lia))
  case EY=>
   rintro c g_ s' ⟨rfl,hs,⟨CP,o,ia,ib,ac,bc,rfl,hm⟩ | ⟨o,ia,ib,ac,bc,rfl,hJ,hx⟩⟩
   ·exact kasC_pure (JP.a hs hm)
   ·dsimp only;refine kasC_bind (kasC_lift<|wpAny_rule ?_);try dsimp only
    refine kasC_bind (bW (Q':=Ev key it la lb st s x)
     (kasC_range (bz (Hs key it la lb st s x) ?Gb _ 0 _ _ _ ?fin2 (Hs.k hs hJ (by lia)))) ?EZ)
    case fin2=>
     rintro c g_ s' ⟨rfl,hs,o,ia,ib,g,ac,bc,rfl,hJ,hx⟩;exact Ev.b hs hJ (by lia)
    case EZ=>
     rintro c g_ s' ⟨rfl,hs,⟨CP,o,ia,ib,g,ac,bc,rfl,hm⟩ | ⟨o,ia,ib,g,ac,bc,rfl,hJ,hx⟩⟩
     ·exact kasC_pure (JP.a hs hm)
     ·dsimp only;refine kasC_bind (kasC_modify ?_);exact kasC_pure (JQ.k ⟨hs.k,hs.a,hs.p,hs.f⟩ hJ (by lia))
    case Gb=>
     rintro y c g_ s' ⟨rfl,hs,o,ia,ib,g,ac,bc,rfl,⟨po,rfl,m⟩,hx⟩;have m1:=m.pa;have m2:=m.pb;dsimp only;revert g;refine oJ (fun g=>g - 1) ?ha ?_
     case ha=>exact fun g=>rfl
     intro g;refine kasC_bind (kasC_modify ?_);refine kasC_bind (aP m2 ?_);refine kasC_bind (kT hc (ck GZ m2) GY (base:=ia) (m:=la.length - ia) (hint:=0) (by lia) (by lia) (fun i j a b c=>d0 m.sa a b (by lia)) (by exact hs.k.trans n_) ?_);intro k K0 lo1 IV;dsimp only;by_cases JR:k > 0
     ·rw[if_pos JR];have p1:=fb k m.perm m.sa m.sb (fun x hx y hy=>by
       obtain⟨j,j0,j1,rfl⟩:=fc hx;obtain⟨j',a1,a2,rfl⟩:=bU hy;have:=lo1 (ia+j) (by lia) (by lia);have:=d0 m.sb (Nat.le_refl _) a1 a2;lia)
      by_cases hz:ia+k+1=la.length
      ·rw[if_pos (bq hz)];exact kasC_pure (Ev.a ⟨hs.k,hs.a,hs.p,hs.f⟩ (by rw[bF];exact fg p1.1 p1.2.1 p1.2.2 hz top))
      rw[if_neg (DA hz)];by_cases IW:ia+k=la.length
      ·rw[if_pos (bq IW)];exact kasC_pure (Ev.a ⟨hs.k,hs.a,hs.p,hs.f⟩ (by rw[bF];exact ff p1.1 p1.2.1 p1.2.2 (.inr IW)))
      rw[if_neg (DA IW)];have Ip:∀ i,ia+k<=i->i<la.length->key (lb.getD ib 0)<key (la.getD i 0):=fun i a b=>IV i a (by lia);refine kasC_bind (aP m2 ?_);have p2:=gL 1 p1.1 p1.2.1 p1.2.2 (fun x hx y hy=>by
       rw[bA m2,mem_singleton] at hx;obtain⟨j,j1,j2,rfl⟩:=bU hy;have:=Ip j j1 j2;rw[hx];lia)
      rw[bA m2] at p2;by_cases E1:ib+1=lb.length
      ·rw[if_pos (bq E1)];exact kasC_pure (Ev.a ⟨hs.k,hs.a,hs.p,hs.f⟩ (by rw[bF,aQ];exact ff p2.1 p2.2.1 p2.2.2 (.inl E1)))
      rw[if_neg (DA E1)];refine kasC_bind (aP (show ia+k<la.length by lia) ?_);refine kasC_bind (gM hc (ck GY (show ia+k<la.length by lia)) GZ (base:=ib+1) (m:=lb.length - (ib+1)) (hint:=0) (by lia) (by lia) (fun i j a b c=>d0 p2.2.2 a b (by lia)) (by exact hs.k.trans n_) ?_);intro k2 EK Gc Dz;dsimp only;by_cases Fz:k2 > 0
      ·rw[if_pos Fz];have p3:=gL k2 p2.1 p2.2.1 p2.2.2 (fun x hx y hy=>by
        obtain⟨j,j0,j1,rfl⟩:=fc hx;obtain⟨j',a1,a2,rfl⟩:=bU hy;have:=Gc (ib+1+j) (by lia) (by lia);have:=d0 p2.2.1 (Nat.le_refl _) a1 a2;lia)
       by_cases E2:ib+1+k2=lb.length
       ·rw[if_pos (bq E2)];exact kasC_pure (Ev.a ⟨hs.k,hs.a,hs.p,hs.f⟩ (by rw[bF,aQ,bF];exact ff p3.1 p3.2.1 p3.2.2 (.inl E2)))
       rw[if_neg (DA E2)];have E3:∀ i,ib+1+k2<=i->i<lb.length->key (la.getD (ia+k) 0)<=key (lb.getD i 0):=fun i a b=>Dz i a (by lia);refine kasC_bind (aP (show ia+k<la.length by lia) ?_);have p4:=fb 1 p3.1 p3.2.1 p3.2.2 (fun x hx y hy=>by
        rw[bA (show ia+k<la.length by lia),mem_singleton] at hx;obtain⟨j,j1,j2,rfl⟩:=bU hy;have:=E3 j j1 j2;rw[hx];exact this)
       rw[bA (show ia+k<la.length by lia)] at p4;by_cases Dx:ia+k+1+1=la.length
       ·rw[if_pos (bq Dx)];exact kasC_pure (Ev.a ⟨hs.k,hs.a,hs.p,hs.f⟩ (by rw[bF,aQ,bF,aQ];exact fg p4.1 p4.2.1 p4.2.2 Dx top))
       rw[if_neg (DA Dx)];by_cases hb:(decide (k<7) && decide (k2<7))=true
       ·rw[if_pos hb];exact kasC_pure (Ev.b ⟨hs.k,hs.a,hs.p,hs.f⟩ ⟨_,by rw[bF,aQ,bF,aQ],p4.1,p4.2.1,p4.2.2,by lia,by lia⟩ (by lia))
       ·rw[if_neg hb];exact kasC_pure (Hs.k ⟨hs.k,hs.a,hs.p,hs.f⟩ ⟨_,by rw[bF,aQ,bF,aQ],p4.1,p4.2.1,p4.2.2,by lia,by lia⟩ (by lia))
      ·rw[if_neg Fz];have p3:=p2;have E3:∀ i,ib+1<=i->i<lb.length->key (la.getD (ia+k) 0)<=key (lb.getD i 0):=fun i a b=>Dz i (by lia) (by lia);refine kasC_bind (aP (show ia+k<la.length by lia) ?_);have p4:=fb 1 p3.1 p3.2.1 p3.2.2 (fun x hx y hy=>by
        rw[bA (show ia+k<la.length by lia),mem_singleton] at hx;obtain⟨j,j1,j2,rfl⟩:=bU hy;have:=E3 j j1 j2;rw[hx];exact this)
       rw[bA (show ia+k<la.length by lia)] at p4;by_cases Dx:ia+k+1+1=la.length
       ·rw[if_pos (bq Dx)];exact kasC_pure (Ev.a ⟨hs.k,hs.a,hs.p,hs.f⟩ (by rw[bF,aQ,aQ];exact fg p4.1 p4.2.1 p4.2.2 Dx top))
       rw[if_neg (DA Dx)];by_cases hb:(decide (k<7) && decide (k2<7))=true
       ·rw[if_pos hb];exact kasC_pure (Ev.b ⟨hs.k,hs.a,hs.p,hs.f⟩ ⟨_,by rw[bF,aQ,aQ],p4.1,p4.2.1,p4.2.2,by lia,by lia⟩ (by lia))
       ·rw[if_neg hb];exact kasC_pure (Hs.k ⟨hs.k,hs.a,hs.p,hs.f⟩ ⟨_,by rw[bF,aQ,aQ],p4.1,p4.2.1,p4.2.2,by lia,by lia⟩ (by lia))
     ·rw[if_neg JR];have p1:po.Perm (la.take ia++lb.take ib)/\CJ key (po++la.drop ia)/\CJ key (po++lb.drop ib):=⟨m.perm,m.sa,m.sb⟩;have Ip:∀ i,ia<=i->i<la.length->key (lb.getD ib 0)<key (la.getD i 0):=fun i a b=>IV i (by lia) (by lia);refine kasC_bind (aP m2 ?_);have p2:=gL 1 p1.1 p1.2.1 p1.2.2 (fun x hx y hy=>by
       rw[bA m2,mem_singleton] at hx;obtain⟨j,j1,j2,rfl⟩:=bU hy;have:=Ip j j1 j2;rw[hx];lia)
      rw[bA m2] at p2;by_cases E1:ib+1=lb.length
      ·rw[if_pos (bq E1)];exact kasC_pure (Ev.a ⟨hs.k,hs.a,hs.p,hs.f⟩ (by rw[aQ];exact ff p2.1 p2.2.1 p2.2.2 (.inl E1)))
      rw[if_neg (DA E1)];refine kasC_bind (aP (show ia<la.length by lia) ?_);refine kasC_bind (gM hc (ck GY (show ia<la.length by lia)) GZ (base:=ib+1) (m:=lb.length - (ib+1)) (hint:=0) (by lia) (by lia) (fun i j a b c=>d0 p2.2.2 a b (by lia)) (by exact hs.k.trans n_) ?_);intro k2 EK Gc Dz;dsimp only;by_cases Fz:k2 > 0
      ·rw[if_pos Fz];have p3:=gL k2 p2.1 p2.2.1 p2.2.2 (fun x hx y hy=>by
        obtain⟨j,j0,j1,rfl⟩:=fc hx;obtain⟨j',a1,a2,rfl⟩:=bU hy;have:=Gc (ib+1+j) (by lia) (by lia);have:=d0 p2.2.1 (Nat.le_refl _) a1 a2;lia)
       by_cases E2:ib+1+k2=lb.length
       ·rw[if_pos (bq E2)];exact kasC_pure (Ev.a ⟨hs.k,hs.a,hs.p,hs.f⟩ (by rw[aQ,bF];exact ff p3.1 p3.2.1 p3.2.2 (.inl E2)))
       rw[if_neg (DA E2)];have E3:∀ i,ib+1+k2<=i->i<lb.length->key (la.getD (ia) 0)<=key (lb.getD i 0):=fun i a b=>Dz i a (by lia);refine kasC_bind (aP (show ia<la.length by lia) ?_);have p4:=fb 1 p3.1 p3.2.1 p3.2.2 (fun x hx y hy=>by
        rw[bA (show ia<la.length by lia),mem_singleton] at hx;obtain⟨j,j1,j2,rfl⟩:=bU hy;have:=E3 j j1 j2;rw[hx];exact this)
       rw[bA (show ia<la.length by lia)] at p4;by_cases Dx:ia+1+1=la.length
       ·rw[if_pos (bq Dx)];exact kasC_pure (Ev.a ⟨hs.k,hs.a,hs.p,hs.f⟩ (by rw[aQ,bF,aQ];exact fg p4.1 p4.2.1 p4.2.2 Dx top))
       rw[if_neg (DA Dx)];by_cases hb:(decide (k<7) && decide (k2<7))=true
       ·rw[if_pos hb];exact kasC_pure (Ev.b ⟨hs.k,hs.a,hs.p,hs.f⟩ ⟨_,by rw[aQ,bF,aQ],p4.1,p4.2.1,p4.2.2,by lia,by lia⟩ (by lia))
       ·rw[if_neg hb];exact kasC_pure (Hs.k ⟨hs.k,hs.a,hs.p,hs.f⟩ ⟨_,by rw[aQ,bF,aQ],p4.1,p4.2.1,p4.2.2,by lia,by lia⟩ (by lia))
      ·rw[if_neg Fz];have p3:=p2;have E3:∀ i,ib+1<=i->i<lb.length->key (la.getD (ia) 0)<=key (lb.getD i 0):=fun i a b=>Dz i (by lia) (by lia);refine kasC_bind (aP (show ia<la.length by lia) ?_);have p4:=fb 1 p3.1 p3.2.1 p3.2.2 (fun x hx y hy=>by
        rw[bA (show ia<la.length by lia),mem_singleton] at hx;obtain⟨j,j1,j2,rfl⟩:=bU hy;have:=E3 j j1 j2;rw[hx];exact this)
       rw[bA (show ia<la.length by lia)] at p4;by_cases Dx:ia+1+1=la.length
       ·rw[if_pos (bq Dx)];exact kasC_pure (Ev.a ⟨hs.k,hs.a,hs.p,hs.f⟩ (by rw[aQ,aQ];exact fg p4.1 p4.2.1 p4.2.2 Dx top))
       rw[if_neg (DA Dx)];by_cases hb:(decide (k<7) && decide (k2<7))=true
       ·rw[if_pos hb];exact kasC_pure (Ev.b ⟨hs.k,hs.a,hs.p,hs.f⟩ ⟨_,by rw[aQ,aQ],p4.1,p4.2.1,p4.2.2,by lia,by lia⟩ (by lia))
       ·rw[if_neg hb];exact kasC_pure (Hs.k ⟨hs.k,hs.a,hs.p,hs.f⟩ ⟨_,by rw[aQ,aQ],p4.1,p4.2.1,p4.2.2,by lia,by lia⟩ (by lia))
end
section
variable{prog:Program}{w:World}{A:Around}{E:Value->Shared->Prop}{κ:SortKind}{it:Array Keyed}{key:Nat->Int}{n:Nat}{s:Shared}
def oK:Array Keyed->Array Keyed->StateT SortSt Sem (Array Keyed):=sortPriv% PySem.Builtin.mergeHi
variable{l:List Nat}{i j:Nat}
theorem kU(DY:i<=j)(hj:j<=l.length):l.drop i=(l.take j).drop i++l.drop j:=by
 have e:l.drop i=(l.take j++l.drop j).drop i:=by rw[take_append_drop]
 rw[e,List.drop_append_of_le_length (by rw[length_take];lia)]
theorem wX(DY:i<=j):l.take i++(l.take j).drop i=l.take j:=by
 have:=take_append_drop i (l.take j)
 rwa [take_take,min_eq_left DY] at this
variable{la lb ro:List Nat}{na nb:Nat}
theorem fh(k:Nat)(hk:k<=na)(OD:na<=la.length)(perm:ro.Perm (la.drop na++lb.drop nb))(sa:CJ key (la.take na++ro))(sb:CJ key (lb.take nb++ro))(h:∀ x∈(la.take na).drop k,∀ y∈lb.take nb,key y<=key x):
  ((la.take na).drop k++ro).Perm (la.drop k++lb.drop nb)/\CJ key (la.take k++((la.take na).drop k++ro))/\CJ key (lb.take nb++((la.take na).drop k++ro)):=by
 refine⟨?_,?_,?_⟩
 ·rw[kU hk OD,List.append_assoc];exact List.Perm.append_left _ perm
 ·rw[<- List.append_assoc,wX hk];exact sa
 ·have s1:=bd.mp sa;have s2:=bd.mp sb;refine bd.mpr ⟨s2.1,bd.mpr ⟨s1.1.sublist<|drop_sublist _ _,s2.2.1,fun x hx y hy=>s1.2.2 x (mem_of_mem_drop hx) y hy⟩,fun x hx y hy=>?_⟩;rcases mem_append.mp hy with hy | hy
  ·exact h y hy x hx
  ·exact s2.2.2 x hx y hy
theorem gO(k:Nat)(hk:k<=nb)(OE:nb<=lb.length)(perm:ro.Perm (la.drop na++lb.drop nb))(sa:CJ key (la.take na++ro))(sb:CJ key (lb.take nb++ro))(h:∀ x∈(lb.take nb).drop k,∀ y∈la.take na,key y<=key x):
  ((lb.take nb).drop k++ro).Perm (la.drop na++lb.drop k)/\CJ key (la.take na++((lb.take nb).drop k++ro))/\CJ key (lb.take k++((lb.take nb).drop k++ro)):=by
 have:=fh (la:=lb) (lb:=la) k hk OE (perm.trans perm_append_comm) sb sa h;exact⟨this.1.trans perm_append_comm,this.2.2,this.2.1⟩
theorem bJ(h0:0<i)(h:i<=l.length):(l.take i).drop (i - 1)=[l.getD (i - 1) 0]:=by
 rw[drop_take,show i - (i - 1)=1 by lia];exact bA (by lia)
variable{y:Nat}
theorem cl(h:y∈l.take i):∃ j,j<i/\j<l.length/\y=l.getD j 0:=by
 have:=fc (i:=0) (k:=i) (y:=y) (l:=l) (by rwa [drop_zero]);obtain⟨j,a,b,e⟩:=this;exact⟨j,a,by lia,by rw[e];congr 1;lia⟩
variable{k:Nat}
theorem kW(h:y∈(l.take k).drop i):∃ j,i<=j/\j<k/\j<l.length/\y=l.getD j 0:=by
 rw[drop_take] at h;obtain⟨j,a,b,e⟩:=fc h;exact⟨i+j,by lia,by lia,b,e⟩
theorem d6(h:CJ key (l.take i++ro))(Nw:j<=k)(hk:k<i)(hl:k<l.length):key (l.getD j 0)<=key (l.getD k 0):=by
 have:=fe (bd.mp h).1 (i:=j) (j:=k) Nw (by rw[length_take];lia);simpa [List.getD,getElem?_take,show j<i by lia,hk] using this
theorem dG(perm:ro.Perm (la.drop na++lb.drop nb))(sa:CJ key (la.take na++ro))(sb:CJ key (lb.take nb++ro))(hz:na=0\/nb=0):
  EJ key it la lb ((la.map<|kas_item it).toArray.extract 0 na++(lb.map<|kas_item it).toArray.extract 0 nb++(ro.reverse.map<|kas_item it).toArray.reverse):=by
 refine⟨la.take na++lb.take nb++ro,?_,?_,?_⟩
 ·apply ext';simp[map_take]
 ·refine (List.Perm.append_left _ perm).trans ?_;have:(la.take na++lb.take nb++(la.drop na++lb.drop nb)).Perm ((la.take na++la.drop na)++(lb.take nb++lb.drop nb)):=by
   rw[List.append_assoc,List.append_assoc];refine List.Perm.append_left _ ?_;rw[<- List.append_assoc,<- List.append_assoc];exact List.Perm.append_right _ perm_append_comm
  rw[take_append_drop,take_append_drop] at this;exact this
 ·rcases hz with e | e
  ·rw[e,take_zero,List.nil_append];exact sb
  ·rw[e,take_zero,append_nil];exact sa
theorem fS(perm:ro.Perm (la.drop na++lb.drop nb))(sa:CJ key (la.take na++ro))(sb:CJ key (lb.take nb++ro))(hz:nb=1)(first:∀ x∈la,key (lb.getD 0 0)<=key x):
  EJ key it la lb ((lb.map<|kas_item it).toArray.extract 0 nb++(la.map<|kas_item it).toArray.extract 0 na++(ro.reverse.map<|kas_item it).toArray.reverse):=by
 refine⟨lb.take nb++la.take na++ro,?_,?_,?_⟩
 ·apply ext';simp[map_take]
 ·refine (List.Perm.append_left _ perm).trans ?_;have:(lb.take nb++la.take na++(la.drop na++lb.drop nb)).Perm ((la.take na++la.drop na)++(lb.take nb++lb.drop nb)):=by
   rw[List.append_assoc,<- List.append_assoc (la.take na),<- List.append_assoc (la.take na++la.drop na)];rw[<- List.append_assoc (lb.take nb)];exact List.Perm.append_right _ perm_append_comm
  rw[take_append_drop,take_append_drop] at this;exact this
 ·rw[List.append_assoc];refine bd.mpr ⟨(bd.mp sb).1,sa,fun x hx y hy=>?_⟩;rcases mem_append.mp hy with hy | hy
  ·obtain⟨j,h1,h2,rfl⟩:=cl hx;have:j=0:=by lia
   rw[this];exact first y (mem_of_mem_take hy)
  ·exact (bd.mp sb).2.2 x hx y hy
theorem aM(ro:List Nat)(y:Nat):(ro.reverse.map<|kas_item it).toArray.push (kas_item it y)=(([y]++ro).reverse.map<|kas_item it).toArray:=by simp
theorem bu(ro l:List Nat)(i k:Nat):(ro.reverse.map<|kas_item it).toArray++((l.map<|kas_item it).toArray.extract i k).reverse=(((l.take k).drop i++ro).reverse.map<|kas_item it).toArray:=by
 apply ext';simp[map_drop,map_take,drop_take]
structure OF(key:Nat->Int)(la lb:List Nat)(ro:List Nat)(na nb:Nat):Prop where
 perm:ro.Perm (la.drop na++lb.drop nb)
 sa:CJ key (la.take na++ro)
 sb:CJ key (lb.take nb++ro)
 pa:0<na
 pb:1<nb
 qa:na<=la.length
 qb:nb<=lb.length
def FP(key:Nat->Int)(it:Array Keyed)(la lb:List Nat)(out:Array Keyed)(na nb:Nat):Prop:=∃ ro:List Nat,out=(ro.reverse.map<|kas_item it).toArray/\OF key la lb ro na nb
end
section
variable{prog:Program}{w:World}{A:Around}{E:Value->Shared->Prop}{κ:SortKind}{it:Array Keyed}{key:Nat->Int}{n:Nat}{s:Shared}
def JS(key:Nat->Int)(it:Array Keyed)(la lb:List Nat)(st:SortSt)(s:Shared): Option (Array Keyed)×Nat×Nat×Array Keyed×Nat->SortSt->Shared->Prop:=fun c g_ s'=>s=s'/\i_ st g_/\∃ CP p q r g,c=(some CP,p,q,r,g)/\EJ key it la lb CP
def JT(key:Nat->Int)(it:Array Keyed)(la lb:List Nat)(st:SortSt)(s:Shared)(x:Nat):Option (Array Keyed)×Nat×Nat×Array Keyed×Nat->SortSt->Shared->Prop:=fun c g_ s'=>s=s'/\i_ st g_/\∃ na nb o g,c=(none,na,nb,o,g)/\FP key it la lb o na nb/\na+nb+x+1<=la.length+lb.length
def GH(key:Nat->Int)(it:Array Keyed)(la lb:List Nat)(st:SortSt)(s:Shared)(x:Nat):Option (Array Keyed)×Nat×Nat×Array Keyed×Nat×Nat->SortSt->Shared->Prop:=fun c g_ s'=>s=s'/\i_ st g_/\((∃ CP p q r ac bc,c=(some CP,p,q,r,ac,bc)/\EJ key it la lb CP)\/∃ na nb o ac bc,c=(none,na,nb,o,ac,bc)/\FP key it la lb o na nb/\na+nb+x+2<=la.length+lb.length)
def IX(key:Nat->Int)(it:Array Keyed)(la lb:List Nat)(st:SortSt)(s:Shared)(x y:Nat):Option (Array Keyed)×Nat×Nat×Array Keyed×Nat×Nat->SortSt->Shared->Prop:=fun c g_ s'=>s=s'/\i_ st g_/\∃ na nb o ac bc,c=(none,na,nb,o,ac,bc)/\FP key it la lb o na nb/\na+nb+x+1+y<=la.length+lb.length
def Ep(key:Nat->Int)(it:Array Keyed)(la lb:List Nat)(st:SortSt)(s:Shared)(x:Nat):Option (Array Keyed)×Nat×Nat×Array Keyed×Nat×Nat×Nat->SortSt->Shared->Prop:=fun c g_ s'=>s=s'/\i_ st g_/\((∃ CP p q r g ac bc,c=(some CP,p,q,r,g,ac,bc)/\EJ key it la lb CP)\/∃ na nb o g ac bc,c=(none,na,nb,o,g,ac,bc)/\FP key it la lb o na nb/\na+nb+x+2<=la.length+lb.length)
def Ht(key:Nat->Int)(it:Array Keyed)(la lb:List Nat)(st:SortSt)(s:Shared)(x y:Nat):Option (Array Keyed)×Nat×Nat×Array Keyed×Nat×Nat×Nat->SortSt->Shared->Prop:=fun c g_ s'=>s=s'/\i_ st g_/\∃ na nb o g ac bc,c=(none,na,nb,o,g,ac,bc)/\FP key it la lb o na nb/\na+nb+x+2<=la.length+lb.length
variable{la lb:List Nat}{st g_:SortSt}{out r:Array Keyed}{p q g:Nat}
theorem JS.a{key:Nat->Int}{it:Array Keyed}{s:Shared}(h:i_ st g_)(m:EJ key it la lb out):JS key it la lb st s (some out,p,q,r,g) g_ s:=⟨rfl,h,_,_,_,_,_,rfl,m⟩
variable{x na nb:Nat}{o:Array Keyed}
theorem JT.k{key:Nat->Int}{it:Array Keyed}{s:Shared}(h:i_ st g_)(j:FP key it la lb o na nb)(e:na+nb+x+1<=la.length+lb.length):JT key it la lb st s x (none,na,nb,o,g) g_ s:=⟨rfl,h,_,_,_,_,rfl,j,e⟩
variable{g2:Nat}
theorem GH.a{key:Nat->Int}{it:Array Keyed}{s:Shared}(h:i_ st g_)(m:EJ key it la lb out):GH key it la lb st s x (some out,p,q,r,g,g2) g_ s:=⟨rfl,h,.inl ⟨_,_,_,_,_,_,rfl,m⟩⟩
theorem GH.b{key:Nat->Int}{it:Array Keyed}{s:Shared}(h:i_ st g_)(j:FP key it la lb o na nb)(e:na+nb+x+2<=la.length+lb.length):GH key it la lb st s x (none,na,nb,o,g,g2) g_ s:=⟨rfl,h,.inr ⟨_,_,_,_,_,rfl,j,e⟩⟩
variable{y:Nat}
theorem IX.k{key:Nat->Int}{it:Array Keyed}{s:Shared}(h:i_ st g_)(j:FP key it la lb o na nb)(e:na+nb+x+1+y<=la.length+lb.length):IX key it la lb st s x y (none,na,nb,o,g,g2) g_ s:=⟨rfl,h,_,_,_,_,_,rfl,j,e⟩
variable{g3:Nat}
theorem Ep.a{key:Nat->Int}{it:Array Keyed}{s:Shared}(h:i_ st g_)(m:EJ key it la lb out):Ep key it la lb st s x (some out,p,q,r,g,g2,g3) g_ s:=⟨rfl,h,.inl ⟨_,_,_,_,_,_,_,rfl,m⟩⟩
theorem Ep.b{key:Nat->Int}{it:Array Keyed}{s:Shared}(h:i_ st g_)(j:FP key it la lb o na nb)(e:na+nb+x+2<=la.length+lb.length):Ep key it la lb st s x (none,na,nb,o,g,g2,g3) g_ s:=⟨rfl,h,.inr ⟨_,_,_,_,_,_,rfl,j,e⟩⟩
theorem Ht.k{key:Nat->Int}{it:Array Keyed}{s:Shared}(h:i_ st g_)(j:FP key it la lb o na nb)(e:na+nb+x+2<=la.length+lb.length):Ht key it la lb st s x y (none,na,nb,o,g,g2,g3) g_ s:=⟨rfl,h,_,_,_,_,_,_,rfl,j,e⟩
theorem wY(hc:bT n key (kas_cmp prog w A κ it) s){la lb:List Nat}(GY:∀ x∈la,x<n)(GZ:∀ x∈lb,x<n)(L5:CJ key la)(L6:CJ key lb)(h0:0<la.length)(h1:0<lb.length)(first:∀ x∈la,key (lb.getD 0 0)<=key x)(top:∀ x∈lb,key x<=key (la.getD (la.length - 1) 0)){st:SortSt}(n_:kindOf st=κ){Q:Array Keyed->SortSt->Shared->Prop}(h:∀ out g_,EJ key it la lb out->i_ st g_->Q out g_ s):
  kasC (model prog w) A E (oK (la.map<|kas_item it).toArray (lb.map<|kas_item it).toArray) Q st s:=by
 unfold oK;with_unfolding_all refine kasC_bind (kasC_lift<|wpAny_rule ?_);dsimp only;generalize L7:(List.map (kas_item it) la).toArray.size=za;obtain rfl:la.length=za:=by rw[<- L7];simp
 generalize L8:(List.map (kas_item it) lb).toArray.size=zb;obtain rfl:lb.length=zb:=by rw[<- L8];simp
 refine kasC_bind (aP (show la.length - 1<la.length by lia) ?_);try dsimp only
 have l1:=bJ h0 (Nat.le_refl _);rw[take_length] at l1;have D_:[la.getD (la.length - 1) 0].Perm (la.drop (la.length - 1)++lb.drop lb.length):=by
  rw[l1,List.drop_length];exact List.Perm.refl _
 have Il:CJ key (la.take (la.length - 1)++[la.getD (la.length - 1) 0]):=by
  rw[<- l1,take_append_drop];exact L5
 have Ik:CJ key (lb.take lb.length++[la.getD (la.length - 1) 0]):=bd.mpr ⟨by rw[take_length];exact L6,pairwise_singleton _ _,fun x hx y hy=>by
  rw[mem_singleton.mp hy];exact top x (by rwa [take_length] at hx)⟩
 have e0:#[kas_item it (la.getD (la.length - 1) 0)]=([la.getD (la.length - 1) 0].reverse.map<|kas_item it).toArray:=rfl;rw[e0];by_cases c1:la.length - 1=0
 ·rw[if_pos (bq c1)];exact kasC_pure (h _ _ (dG D_ Il Ik<|.inl c1)<|i_.refl st)
 rw[if_neg (DA c1)];by_cases c2:lb.length=1
 ·rw[if_pos (bq c2)];exact kasC_pure (h _ _ (fS D_ Il Ik c2 first)<|i_.refl st)
 rw[if_neg (DA c2)];refine kasC_bind (kasC_get ?_);refine kasC_bind (bW (Q':=JS key it la lb st s) (kasC_range (bz (JT key it la lb st s) ?step _ 0 _ _ _ ?fin (JT.k (i_.refl st) ⟨_,rfl,D_,Il,Ik,by lia,by lia,by lia,by lia⟩ (by lia)))) ?after)
 case after=>
  rintro c g_ s' ⟨rfl,hs,CP,o,ia,ib,g,rfl,hm⟩;exact kasC_pure (h _ _ hm hs)
 case fin=>
  rintro c g_ s' ⟨rfl,hs,na,nb,o,g,rfl,⟨po,rfl,m⟩,hx⟩;have:=m.pa;have:=m.pb;lia
 case step=>
  rintro x c g_ s' ⟨rfl,hs,na,nb,o,g,rfl,hJ,hx⟩;dsimp only;refine kasC_bind (bW (Q':=GH key it la lb st s x)
   (kasC_range (bz (IX key it la lb st s x) ?Ga _ 0 _ _ _ ?Io (IX.k hs hJ (by lia)))) ?EY)
  case Io=>
   rintro c g_ s' ⟨rfl,hs,na,nb,o,ac,bc,rfl,hJ,hx⟩;exact GH.b hs hJ (by lia)
  case Ga=>
   rintro y c g_ s' ⟨rfl,hs,na,nb,o,ac,bc,rfl,⟨po,rfl,m⟩,hx⟩;have m1:=m.pa;have m2:=m.pb;have m3:=m.qa;have m4:=m.qb;have DM:kindOf g_=κ:=hs.k.trans n_;dsimp only;refine kasC_bind (aP (show nb - 1<lb.length by lia) ?_);refine kasC_bind (aP (show na - 1<la.length by lia) ?_);refine kasC_bind (gK hc (ck GZ (show nb - 1<lb.length by lia)) (ck GY (show na - 1<la.length by lia)) DM ?_);dsimp only;by_cases hw:key (lb.getD (nb - 1) 0)<key (la.getD (na - 1) 0)
   ·rw[if_pos (by simpa using hw)];refine kasC_bind (aP (show na - 1<la.length by lia) ?_);have b1:=fh (na - 1) (by lia) m3 m.perm m.sa m.sb (fun x hx y hy=>by
     rw[bJ m1 m3,mem_singleton] at hx;obtain⟨j,j1,j2,rfl⟩:=cl hy;have:=d6 m.sb (show j<=nb - 1 by lia) (by lia) (by lia);rw[hx];lia)
    rw[bJ m1 m3] at b1;rw[aM];try dsimp only
    by_cases hz:na - 1=0
    ·rw[if_pos (bq hz)];exact kasC_pure (GH.a hs<|dG b1.1 b1.2.1 b1.2.2<|.inl hz)
    ·rw[if_neg (DA hz)];have J':FP key it la lb (([la.getD (na - 1) 0]++po).reverse.map<|kas_item it).toArray (na - 1) nb:=⟨_,rfl,b1.1,b1.2.1,b1.2.2,by lia,m2,by lia,m4⟩;by_cases hg:ac+1 >= g
     ·rw[if_pos hg];exact kasC_pure (GH.b hs J' (by lia))
     ·rw[if_neg hg];exact kasC_pure (IX.k hs J' (by lia))
   ·rw[if_neg (by simpa using hw)];refine kasC_bind (aP (show nb - 1<lb.length by lia) ?_);have b1:=gO (nb - 1) (by lia) m4 m.perm m.sa m.sb (fun x hx y hy=>by
     rw[bJ (by lia) m4,mem_singleton] at hx;obtain⟨j,j1,j2,rfl⟩:=cl hy;have:=d6 m.sa (show j<=na - 1 by lia) (by lia) (by lia);rw[hx];lia)
    rw[bJ (by lia) m4] at b1;rw[aM];try dsimp only
    by_cases hz:nb - 1=1
    ·rw[if_pos (bq hz)];exact kasC_pure (GH.a hs<|fS b1.1 b1.2.1 b1.2.2 hz first)
    ·rw[if_neg (DA hz)];have J':FP key it la lb (([lb.getD (nb - 1) 0]++po).reverse.map<|kas_item it).toArray na (nb - 1):=⟨_,rfl,b1.1,b1.2.1,b1.2.2,m1,by lia,m3,by lia⟩;by_cases hg:bc+1 >= g
     ·rw[if_pos hg];exact kasC_pure (GH.b hs J' (by lia))
     ·rw[if_neg hg];exact kasC_pure (IX.k hs J' (by lia))
  case EY=>
   rintro c g_ s' ⟨rfl,hs,⟨CP,o,ia,ib,ac,bc,rfl,hm⟩ | ⟨na,nb,o,ac,bc,rfl,hJ,hx⟩⟩
   ·exact kasC_pure (JS.a hs hm)
   ·try dsimp only
    refine kasC_bind (kasC_lift<|wpAny_rule ?_);try dsimp only
    refine kasC_bind (bW (Q':=Ep key it la lb st s x)
     (kasC_range (bz (Ht key it la lb st s x) ?Gb _ 0 _ _ _ ?fin2 (Ht.k hs hJ (by lia)))) ?EZ)
    case fin2=>
     rintro c g_ s' ⟨rfl,hs,na,nb,o,g,ac,bc,rfl,hJ,hx⟩;exact Ep.b hs hJ (by lia)
    case EZ=>
     rintro c g_ s' ⟨rfl,hs,⟨CP,o,ia,ib,g,ac,bc,rfl,hm⟩ | ⟨na,nb,o,g,ac,bc,rfl,hJ,hx⟩⟩
     ·exact kasC_pure (JS.a hs hm)
     ·try dsimp only
      refine kasC_bind (kasC_modify ?_);exact kasC_pure (JT.k ⟨hs.k,hs.a,hs.p,hs.f⟩ hJ (by lia))
    case Gb=>
     rintro y c g_ s' ⟨rfl,hs,na,nb,o,g,ac,bc,rfl,⟨po,rfl,m⟩,hx⟩;have m1:=m.pa;have m2:=m.pb;have m3:=m.qa;have m4:=m.qb;dsimp only;revert g;refine oJ (fun g=>g - 1) ?ha ?_
     case ha=>exact fun g=>rfl
     intro g;refine kasC_bind (kasC_modify ?_);refine kasC_bind (aP (show nb - 1<lb.length by lia) ?_);refine kasC_bind (kT hc (ck GZ (show nb - 1<lb.length by lia)) GY (base:=0) (m:=na) (hint:=na - 1) (by lia) (by lia) (fun i j a b c=>d6 m.sa b (by lia) (by lia)) (by exact hs.k.trans n_) ?_);intro k K0 lo1 IV;dsimp only;by_cases JR:na - k > 0
     ·rw[if_pos JR];have p1:=fh k (by lia) m3 m.perm m.sa m.sb (fun x hx y hy=>by
       obtain⟨j,j0,j1,j2,rfl⟩:=kW hx;obtain⟨j',a1,a2,rfl⟩:=cl hy;have:=IV j (by lia) (by lia);have:=d6 m.sb (show j'<=nb - 1 by lia) (by lia) (by lia);lia)
      by_cases hz:k=0
      ·rw[if_pos (bq hz)];exact kasC_pure (Ep.a ⟨hs.k,hs.a,hs.p,hs.f⟩ (by rw[bu];exact dG p1.1 p1.2.1 p1.2.2 (.inl hz)))
      rw[if_neg (DA hz)];have Ip:∀ i,i<k->key (la.getD i 0)<=key (lb.getD (nb - 1) 0):=fun i a=>lo1 i (by lia) (by lia);refine kasC_bind (aP (show nb - 1<lb.length by lia) ?_);have p2:=gO (nb - 1) (by lia) m4 p1.1 p1.2.1 p1.2.2 (fun x hx y hy=>by
       rw[bJ (by lia) m4,mem_singleton] at hx;obtain⟨j,j1,j2,rfl⟩:=cl hy;have:=Ip j j1;rw[hx];lia)
      rw[bJ (by lia) m4] at p2;by_cases E1:nb - 1=1
      ·rw[if_pos (bq E1)];exact kasC_pure (Ep.a ⟨hs.k,hs.a,hs.p,hs.f⟩ (by rw[bu,aM];exact fS p2.1 p2.2.1 p2.2.2 E1 first))
      rw[if_neg (DA E1)];refine kasC_bind (aP (show k - 1<la.length by lia) ?_);refine kasC_bind (gM hc (ck GY (show k - 1<la.length by lia)) GZ (base:=0) (m:=nb - 1) (hint:=nb - 1 - 1) (by lia) (by lia) (fun i j a b c=>d6 p2.2.2 b (by lia) (by lia)) (by exact hs.k.trans n_) ?_);intro k2 EK Gc Dz;dsimp only;by_cases Fz:nb - 1 - k2 > 0
      ·rw[if_pos Fz];have p3:=gO k2 (by lia) (show nb - 1<=lb.length by lia) p2.1 p2.2.1 p2.2.2 (fun x hx y hy=>by
        obtain⟨j,j0,j1,j2,rfl⟩:=kW hx;obtain⟨j',a1,a2,rfl⟩:=cl hy;have:=Dz j (by lia) (by lia);have:=d6 p2.2.1 (show j'<=k - 1 by lia) (by lia) (by lia);lia)
       by_cases E2:k2=1
       ·rw[if_pos (bq E2)];exact kasC_pure (Ep.a ⟨hs.k,hs.a,hs.p,hs.f⟩ (by rw[bu,aM,bu];exact fS p3.1 p3.2.1 p3.2.2 E2 first))
       rw[if_neg (DA E2)];by_cases Iq:k2=0
       ·rw[if_pos (bq Iq)];exact kasC_pure (Ep.a ⟨hs.k,hs.a,hs.p,hs.f⟩ (by rw[bu,aM,bu];exact dG p3.1 p3.2.1 p3.2.2 (.inr Iq)))
       rw[if_neg (DA Iq)];have E3:∀ i,i<k2->key (lb.getD i 0)<key (la.getD (k - 1) 0):=fun i a=>Gc i (by lia) (by lia);refine kasC_bind (aP (show k - 1<la.length by lia) ?_);have p4:=fh (k - 1) (by lia) (show k<=la.length by lia) p3.1 p3.2.1 p3.2.2 (fun x hx y hy=>by
        rw[bJ (by lia) (show k<=la.length by lia),mem_singleton] at hx;obtain⟨j,j1,j2,rfl⟩:=cl hy;have:=E3 j j1;rw[hx];lia)
       rw[bJ (by lia) (show k<=la.length by lia)] at p4;by_cases Dx:k - 1=0
       ·rw[if_pos (bq Dx)];exact kasC_pure (Ep.a ⟨hs.k,hs.a,hs.p,hs.f⟩ (by rw[bu,aM,bu,aM];exact dG p4.1 p4.2.1 p4.2.2 (.inl Dx)))
       rw[if_neg (DA Dx)];by_cases hb:(decide (na - k<7) && decide (nb - 1 - k2<7))=true
       ·rw[if_pos hb];exact kasC_pure (Ep.b ⟨hs.k,hs.a,hs.p,hs.f⟩ ⟨_,by rw[bu,aM,bu,aM],p4.1,p4.2.1,p4.2.2,by lia,by lia,by lia,by lia⟩ (by lia))
       ·rw[if_neg hb];exact kasC_pure (Ht.k ⟨hs.k,hs.a,hs.p,hs.f⟩ ⟨_,by rw[bu,aM,bu,aM],p4.1,p4.2.1,p4.2.2,by lia,by lia,by lia,by lia⟩ (by lia))
      ·rw[if_neg Fz];have p3:=p2;have E3:∀ i,i<nb - 1->key (lb.getD i 0)<key (la.getD (k - 1) 0):=fun i a=>Gc i (by lia) (by lia);refine kasC_bind (aP (show k - 1<la.length by lia) ?_);have p4:=fh (k - 1) (by lia) (show k<=la.length by lia) p3.1 p3.2.1 p3.2.2 (fun x hx y hy=>by
        rw[bJ (by lia) (show k<=la.length by lia),mem_singleton] at hx;obtain⟨j,j1,j2,rfl⟩:=cl hy;have:=E3 j j1;rw[hx];lia)
       rw[bJ (by lia) (show k<=la.length by lia)] at p4;by_cases Dx:k - 1=0
       ·rw[if_pos (bq Dx)];exact kasC_pure (Ep.a ⟨hs.k,hs.a,hs.p,hs.f⟩ (by rw[bu,aM,aM];exact dG p4.1 p4.2.1 p4.2.2 (.inl Dx)))
       rw[if_neg (DA Dx)];by_cases hb:(decide (na - k<7) && decide (nb - 1 - k2<7))=true
       ·rw[if_pos hb];exact kasC_pure (Ep.b ⟨hs.k,hs.a,hs.p,hs.f⟩ ⟨_,by rw[bu,aM,aM],p4.1,p4.2.1,p4.2.2,by lia,by lia,by lia,by lia⟩ (by lia))
       ·rw[if_neg hb];exact kasC_pure (Ht.k ⟨hs.k,hs.a,hs.p,hs.f⟩ ⟨_,by rw[bu,aM,aM],p4.1,p4.2.1,p4.2.2,by lia,by lia,by lia,by lia⟩ (by lia))
     ·rw[if_neg JR];have p1:po.Perm (la.drop na++lb.drop nb)/\CJ key (la.take na++po)/\CJ key (lb.take nb++po):=⟨m.perm,m.sa,m.sb⟩;have Ip:∀ i,i<na->key (la.getD i 0)<=key (lb.getD (nb - 1) 0):=fun i a=>lo1 i (by lia) (by lia);refine kasC_bind (aP (show nb - 1<lb.length by lia) ?_);have p2:=gO (nb - 1) (by lia) m4 p1.1 p1.2.1 p1.2.2 (fun x hx y hy=>by
       rw[bJ (by lia) m4,mem_singleton] at hx;obtain⟨j,j1,j2,rfl⟩:=cl hy;have:=Ip j j1;rw[hx];lia)
      rw[bJ (by lia) m4] at p2;by_cases E1:nb - 1=1
      ·rw[if_pos (bq E1)];exact kasC_pure (Ep.a ⟨hs.k,hs.a,hs.p,hs.f⟩ (by rw[aM];exact fS p2.1 p2.2.1 p2.2.2 E1 first))
      rw[if_neg (DA E1)];refine kasC_bind (aP (show na - 1<la.length by lia) ?_);refine kasC_bind (gM hc (ck GY (show na - 1<la.length by lia)) GZ (base:=0) (m:=nb - 1) (hint:=nb - 1 - 1) (by lia) (by lia) (fun i j a b c=>d6 p2.2.2 b (by lia) (by lia)) (by exact hs.k.trans n_) ?_);intro k2 EK Gc Dz;dsimp only;by_cases Fz:nb - 1 - k2 > 0
      ·rw[if_pos Fz];have p3:=gO k2 (by lia) (show nb - 1<=lb.length by lia) p2.1 p2.2.1 p2.2.2 (fun x hx y hy=>by
        obtain⟨j,j0,j1,j2,rfl⟩:=kW hx;obtain⟨j',a1,a2,rfl⟩:=cl hy;have:=Dz j (by lia) (by lia);have:=d6 p2.2.1 (show j'<=na - 1 by lia) (by lia) (by lia);lia)
       by_cases E2:k2=1
       ·rw[if_pos (bq E2)];exact kasC_pure (Ep.a ⟨hs.k,hs.a,hs.p,hs.f⟩ (by rw[aM,bu];exact fS p3.1 p3.2.1 p3.2.2 E2 first))
       rw[if_neg (DA E2)];by_cases Iq:k2=0
       ·rw[if_pos (bq Iq)];exact kasC_pure (Ep.a ⟨hs.k,hs.a,hs.p,hs.f⟩ (by rw[aM,bu];exact dG p3.1 p3.2.1 p3.2.2 (.inr Iq)))
       rw[if_neg (DA Iq)];have E3:∀ i,i<k2->key (lb.getD i 0)<key (la.getD (na - 1) 0):=fun i a=>Gc i (by lia) (by lia);refine kasC_bind (aP (show na - 1<la.length by lia) ?_);have p4:=fh (na - 1) (by lia) (show na<=la.length by lia) p3.1 p3.2.1 p3.2.2 (fun x hx y hy=>by
        rw[bJ (by lia) (show na<=la.length by lia),mem_singleton] at hx;obtain⟨j,j1,j2,rfl⟩:=cl hy;have:=E3 j j1;rw[hx];lia)
       rw[bJ (by lia) (show na<=la.length by lia)] at p4;by_cases Dx:na - 1=0
       ·rw[if_pos (bq Dx)];exact kasC_pure (Ep.a ⟨hs.k,hs.a,hs.p,hs.f⟩ (by rw[aM,bu,aM];exact dG p4.1 p4.2.1 p4.2.2 (.inl Dx)))
       rw[if_neg (DA Dx)];by_cases hb:(decide (na - k<7) && decide (nb - 1 - k2<7))=true
       ·rw[if_pos hb];exact kasC_pure (Ep.b ⟨hs.k,hs.a,hs.p,hs.f⟩ ⟨_,by rw[aM,bu,aM],p4.1,p4.2.1,p4.2.2,by lia,by lia,by lia,by lia⟩ (by lia))
       ·rw[if_neg hb];exact kasC_pure (Ht.k ⟨hs.k,hs.a,hs.p,hs.f⟩ ⟨_,by rw[aM,bu,aM],p4.1,p4.2.1,p4.2.2,by lia,by lia,by lia,by lia⟩ (by lia))
      ·rw[if_neg Fz];have p3:=p2;have E3:∀ i,i<nb - 1->key (lb.getD i 0)<key (la.getD (na - 1) 0):=fun i a=>Gc i (by lia) (by lia);refine kasC_bind (aP (show na - 1<la.length by lia) ?_);have p4:=fh (na - 1) (by lia) (show na<=la.length by lia) p3.1 p3.2.1 p3.2.2 (fun x hx y hy=>by
        rw[bJ (by lia) (show na<=la.length by lia),mem_singleton] at hx;obtain⟨j,j1,j2,rfl⟩:=cl hy;have:=E3 j j1;rw[hx];lia)
       rw[bJ (by lia) (show na<=la.length by lia)] at p4;by_cases Dx:na - 1=0
       ·rw[if_pos (bq Dx)];exact kasC_pure (Ep.a ⟨hs.k,hs.a,hs.p,hs.f⟩ (by rw[aM,aM];exact dG p4.1 p4.2.1 p4.2.2 (.inl Dx)))
       rw[if_neg (DA Dx)];by_cases hb:(decide (na - k<7) && decide (nb - 1 - k2<7))=true
       ·rw[if_pos hb];exact kasC_pure (Ep.b ⟨hs.k,hs.a,hs.p,hs.f⟩ ⟨_,by rw[aM,aM],p4.1,p4.2.1,p4.2.2,by lia,by lia,by lia,by lia⟩ (by lia))
       ·rw[if_neg hb];exact kasC_pure (Ht.k ⟨hs.k,hs.a,hs.p,hs.f⟩ ⟨_,by rw[aM,aM],p4.1,p4.2.1,p4.2.2,by lia,by lia,by lia,by lia⟩ (by lia))
end
section
variable{prog:Program}{w:World}{A:Around}{E:Value->Shared->Prop}{κ:SortKind}{it:Array Keyed}{key:Nat->Int}{n:Nat}{s:Shared}
theorem wZ{σ:Type}{M:Model}{Q:PUnit->σ->Shared->Prop}{st o_:σ}{s:Shared}(h:Q ⟨⟩ o_ s):kasC M A E (set o_:StateT σ Sem PUnit) Q st s:=by
 unfold kasC;rw[StateT.run_set];exact wpAny_pure h
theorem kX{α:Type}:∀ (l:List α) (arr:List α) (q j0 s0:Nat),q+l.length<=arr.length->q=s0+j0->((l.zipIdx j0).foldl (fun (a:Array α) (x:α×Nat)=>a.setIfInBounds (s0+x.2) x.1) arr.toArray)=(arr.take q++l++arr.drop (q+l.length)).toArray
 | [],arr,q,j0,s0,h,e=>by simp
 | x::l,arr,q,j0,s0,h,e=>by
  rw[length_cons] at h;rw[List.zipIdx_cons,foldl_cons];dsimp only;rw[<- e,List.setIfInBounds_toArray,kX l (arr.set q x) (q+1) (j0+1) s0 (by rw[length_set];lia) (by lia)];congr 1;have e1:(arr.set q x).take (q+1)=arr.take q++[x]:=by
   apply ext_getElem?;intro i;rw[getElem?_take,List.getElem?_append,length_take,getElem?_take,List.getElem?_set];by_cases h1:i<q
   ·rw[if_pos (by lia),if_neg (by lia),if_pos (by lia),if_pos h1]
   ·by_cases h2:i=q
    ·subst h2;rw[if_pos (by lia),if_pos rfl,if_pos (by lia),if_neg (by lia)];simp[show i - min i arr.length=0 by lia]
    ·rw[if_neg (by lia),if_neg (by lia)];rw[List.getElem?_eq_none];rw[length_singleton];lia
  have e2:(arr.set q x).drop (q+1+l.length)=arr.drop (q+(l.length+1)):=by
   apply ext_getElem?;intro i;rw[getElem?_drop,getElem?_drop,List.getElem?_set,if_neg (by lia)];congr 1;lia
  rw[e1,e2,length_cons,List.append_assoc,List.append_assoc,List.append_assoc];rfl
theorem oM{LA LB po:List Nat}{k m:Nat}(sA:CJ key LA)(sB:CJ key LB)(hb:0<LB.length)(ha:0<LA.length)(h1:∀ x∈LA.take k,key x<=key (LB.getD 0 0))(h4:∀ x∈LB.drop m,key (LA.getD (LA.length - 1) 0)<=key x)(hp:po.Perm (LA.drop k++LB.take m))(sp:CJ key po):CJ key (LA.take k++po++LB.drop m)/\(LA.take k++po++LB.drop m).Perm (LA++LB):=by
 have b0:∀ y∈LB,key (LB.getD 0 0)<=key y:=fun y hy=>by
  obtain⟨j,_,hj,rfl⟩:=bU (i:=0) (l:=LB) (by rwa [drop_zero]);exact fe sB (zero_le _) hj
 have aL:∀ x∈LA,key x<=key (LA.getD (LA.length - 1) 0):=fun x hx=>by
  obtain⟨j,_,hj,rfl⟩:=bU (i:=0) (l:=LA) (by rwa [drop_zero]);exact fe sA (by lia) (by lia)
 have cA:CJ key (LA.take k++LA.drop k):=by rwa [take_append_drop]
 have cB:CJ key (LB.take m++LB.drop m):=by rwa [take_append_drop]
 have cA:=bd.mp cA;have cB:=bd.mp cB;refine⟨bd.mpr ⟨bd.mpr ⟨cA.1,sp,fun x hx y hy=>?_⟩,cB.2.1,fun x hx y hy=>?_⟩,?_⟩
 ·rcases mem_append.mp (hp.mem_iff.mp hy) with hy | hy
  ·exact cA.2.2 x hx y hy
  ·exact Int.le_trans (h1 x hx) (b0 y<|mem_of_mem_take hy)
 ·rcases mem_append.mp hx with hx | hx
  ·exact Int.le_trans (h1 x hx) (b0 y<|mem_of_mem_drop hy)
  ·rcases mem_append.mp (hp.mem_iff.mp hx) with hx | hx
   ·exact Int.le_trans (aL x<|mem_of_mem_drop hx) (h4 y hy)
   ·exact cB.2.2 x hx y hy
 ·refine (List.Perm.append_right _<|List.Perm.append_left _ hp).trans ?_;rw[<- List.append_assoc,take_append_drop,List.append_assoc,take_append_drop]
theorem w9(hc:bT n key (kas_cmp prog w A κ it) s){lp:List Nat}(Hu:∀ x∈lp,x<n){i sa na nb pw pw2:Nat}{st:SortSt}(n_:PyProof.Rows.kindOf st=κ)(L9:arrOf st=(lp.map<|kas_item it).toArray)(hf:failedOf st=none)(hi:(pendingOf st)[i]?=some (sa,na,pw))(hj:(pendingOf st)[i+1]?=some (sa+na,nb,pw2))(ha:0<na)(hb:0<nb)(hz:sa+na+nb<=lp.length)(sA:CJ key ((lp.drop sa).take na))(sB:CJ key ((lp.drop<|sa+na).take nb)){Q:Bool->SortSt->Shared->Prop}(h:∀ mid g_,PyProof.Rows.kindOf g_=κ->failedOf g_=none->pendingOf g_=((pendingOf st).setIfInBounds i (sa,na+nb,pw)).eraseIdxIfInBounds (i+1)->mid.Perm ((lp.drop sa).take<|na+nb)->CJ key mid->
   arrOf g_=((lp.take sa++mid++lp.drop (sa+(na+nb))).map<|kas_item it).toArray->Q true g_ s):
  kasC (model prog w) A E (mergeAt' i) Q st s:=by
 have lA:((lp.drop sa).take na).length=na:=by rw[length_take,length_drop];lia
 have lB:((lp.drop<|sa+na).take nb).length=nb:=by rw[length_take,length_drop];lia
 have IY:∀ j,j<na->((lp.drop sa).take na).getD j 0=lp.getD (sa+j) 0:=fun j hj=>by simp[List.getD,getElem?_take,getElem?_drop,hj]
 have gtB:∀ j,j<nb->((lp.drop<|sa+na).take nb).getD j 0=lp.getD (sa+na+j) 0:=fun j hj=>by simp[List.getD,getElem?_take,getElem?_drop,hj]
 have eW:(lp.drop sa).take na++(lp.drop<|sa+na).take nb=(lp.drop sa).take (na+nb):=by rw[<- drop_drop,fR]
 have G0:lp.take sa++(lp.drop sa).take (na+nb)++lp.drop (sa+(na+nb))=lp:=by rw[fR,take_append_drop]
 have gA:∀ i j,sa<=i->i<=j->j<sa+na->key (lp.getD i 0)<=key (lp.getD j 0):=fun i j a b c=>by
  have:=fe sA (i:=i - sa) (j:=j - sa) (by lia) (by lia)
  rwa [IY _ (by lia),IY _ (by lia),show sa+(i - sa)=i by lia,show sa+(j - sa)=j by lia] at this
 have gB:∀ i j,sa+na<=i->i<=j->j<sa+na+nb->key (lp.getD i 0)<=key (lp.getD j 0):=fun i j a b c=>by
  have:=fe sB (i:=i - (sa+na)) (j:=j - (sa+na)) (by lia) (by lia)
  rwa [gtB _ (by lia),gtB _ (by lia),show sa+na+(i - (sa+na))=i by lia,show sa+na+(j - (sa+na))=j by lia] at this
 have mA:∀ x∈(lp.drop sa).take na,∃ j,sa<=j/\j<sa+na/\x=lp.getD j 0:=fun x hx=>by
  obtain⟨j,j0,j1,rfl⟩:=fc hx;exact⟨sa+j,by lia,by lia,rfl⟩
 have mB:∀ x∈(lp.drop<|sa+na).take nb,∃ j,sa+na<=j/\j<sa+na+nb/\x=lp.getD j 0:=fun x hx=>by
  obtain⟨j,j0,j1,rfl⟩:=fc hx;exact⟨sa+na+j,by lia,by lia,rfl⟩
 unfold mergeAt';with_unfolding_all refine kasC_bind (kasC_get ?_);simp only[hi,hj,L9];refine kasC_bind (wZ ?_);refine kasC_bind (aP (show sa+na<lp.length by lia) ?_);refine kasC_bind (kT hc (ck Hu (show sa+na<lp.length by lia)) Hu (base:=sa) (m:=na) (hint:=0) (by lia) ha gA (by exact n_) ?_);intro k K0 lo1 IV;dsimp only;by_cases c1:na - k=0
 ·rw[if_pos (by simpa using c1)];refine kasC_pure (h _ _ (by exact n_) (by exact hf) rfl (List.Perm.refl _) ?_ ?_)
  ·rw[<- eW];refine bd.mpr ⟨sA,sB,fun x hx y hy=>?_⟩;obtain⟨j,j1,j2,rfl⟩:=mA x hx;obtain⟨j',j3,j4,rfl⟩:=mB y hy;have:=lo1 j j1 (by lia);have:=gB (sa+na) j' (by lia) j3 j4;lia
  ·rw[G0]
 rw[if_neg (by simpa using c1)];rw[show sa+k+(na - k) - 1=sa+na - 1 by lia];refine kasC_bind (aP (show sa+na - 1<lp.length by lia) ?_);refine kasC_bind (gM hc (ck Hu (show sa+na - 1<lp.length by lia)) Hu (base:=sa+na) (m:=nb) (hint:=nb - 1) (by lia) (by lia) gB (by exact n_) ?_);intro DE EK Gc Dz;dsimp only;by_cases c2:DE=0
 ·rw[if_pos (by simpa using c2)];refine kasC_pure (h _ _ (by exact n_) (by exact hf) rfl (List.Perm.refl _) ?_ ?_)
  ·rw[<- eW];refine bd.mpr ⟨sA,sB,fun x hx y hy=>?_⟩;obtain⟨j,j1,j2,rfl⟩:=mA x hx;obtain⟨j',j3,j4,rfl⟩:=mB y hy;have:=Dz j' (by lia) j4;have:=gA j (sa+na - 1) j1 (by lia) (by lia);lia
  ·rw[G0]
 rw[if_neg (by simpa using c2)];have eX:(lp.map<|kas_item it).toArray.extract (sa+k) (sa+na)=((((lp.drop sa).take na).drop k).map<|kas_item it).toArray:=by
  apply ext';simp only[List.extract_toArray,List.extract_eq_drop_take,map_drop,map_take];rw[drop_take,drop_drop,show sa+na - (sa+k)=na - k by lia]
 have eY:(lp.map<|kas_item it).toArray.extract (sa+na) (sa+na+DE)=((((lp.drop<|sa+na).take nb).take DE).map<|kas_item it).toArray:=by
  apply ext';simp only[List.extract_toArray,List.extract_eq_drop_take,map_drop,map_take];rw[take_take,min_eq_left EK,show sa+na+DE - (sa+na)=DE by lia]
 rw[eX,eY];have h1:∀ x∈((lp.drop sa).take na).take k,key x<=key (((lp.drop<|sa+na).take nb).getD 0 0):=fun x hx=>by
  rw[gtB 0 hb];obtain⟨j,j0,j1,rfl⟩:=cl hx;rw[IY j (by lia)];exact lo1 _ (by lia) (by lia)
 have h4:∀ x∈((lp.drop<|sa+na).take nb).drop DE,key (((lp.drop sa).take na).getD (((lp.drop sa).take na).length - 1) 0)<=key x:=fun x hx=>by
  rw[lA,IY _ (by lia)];obtain⟨j,j0,j1,rfl⟩:=bU hx;rw[gtB j (by lia),show sa+(na - 1)=sa+na - 1 by lia];exact Dz _ (by lia) (by lia)
 have f1:∀ x∈((lp.drop sa).take na).drop k,key ((((lp.drop<|sa+na).take nb).take DE).getD 0 0)<=key x:=fun x hx=>by
  rw[show (((lp.drop<|sa+na).take nb).take DE).getD 0 0=((lp.drop<|sa+na).take nb).getD 0 0 by simp only[List.getD,getElem?_take,if_pos (show 0<DE by lia)],gtB 0 hb];obtain⟨j,j0,j1,rfl⟩:=bU hx;rw[IY j (by lia)];have:=IV (sa+j) (by lia) (by lia);rw[Nat.add_zero];lia
 have l2:(((lp.drop sa).take na).drop k).length=na - k:=by rw[length_drop,lA]
 have l3:(((lp.drop<|sa+na).take nb).take DE).length=DE:=by rw[length_take,lB];lia
 have f2:∀ x∈((lp.drop<|sa+na).take nb).take DE,key x<=key ((((lp.drop sa).take na).drop k).getD ((((lp.drop sa).take na).drop k).length - 1) 0):=fun x hx=>by
  rw[l2,show (((lp.drop sa).take na).drop k).getD (na - k - 1) 0=((lp.drop sa).take na).getD (na - 1) 0 by simp only[List.getD,getElem?_drop,show k+(na - k - 1)=na - 1 by lia],IY _ (by lia),show sa+(na - 1)=sa+na - 1 by lia];obtain⟨j,j0,j1,rfl⟩:=cl hx;rw[gtB j (by lia)];have:=Gc (sa+na+j) (by lia) (by lia);lia
 have u1:∀ x∈((lp.drop sa).take na).drop k,x<n:=fun x hx=>Hu x (mem_of_mem_drop<|mem_of_mem_take<|mem_of_mem_drop hx);have u2:∀ x∈((lp.drop<|sa+na).take nb).take DE,x<n:=fun x hx=>Hu x (mem_of_mem_drop<|mem_of_mem_take<|mem_of_mem_take hx);by_cases c3:na - k<=DE
 ·rw[if_pos c3];refine kasC_bind (wW hc u1 u2 (sA.sublist<|drop_sublist _ _) (sB.sublist<|take_sublist _ _) (by lia) (by lia) f1 f2 (by exact n_) ?_);intro out g_ hM G7;obtain⟨po,rfl,EQ,Ir⟩:=hM;have Gd:=oM (key:=key) sA sB (by lia) (by lia) h1 h4 EQ Ir;refine kasC_bind (kasC_modify ?_);refine kasC_bind (kasC_get ?_);refine kasC_pure ?_;have e:failedOf g_=none:=G7.f.trans hf;show Q (failedOf g_).isNone _ s;rw[e];refine h (((lp.drop sa).take na).take k++po++((lp.drop<|sa+na).take nb).drop DE) _ (G7.k.trans n_) (by first | rfl | exact e) (by exact G7.p) (by rw[<- eW];exact Gd.2) Gd.1 ?_;have ea:arrOf g_=(lp.map<|kas_item it).toArray:=G7.a;have pl:po.length=na - k+DE:=by rw[EQ.length_eq,length_append,l2,l3]
  have L':=kX (po.map<|kas_item it) (lp.map<|kas_item it) (sa+k) 0 (sa+k) (by rw[length_map,length_map,pl];lia) rfl;show List.foldl (fun a x=>a.setIfInBounds (sa+k+x.2) x.1) (arrOf g_) (po.map<|kas_item it).toArray.toList.zipIdx=_;rw[ea];refine L'.trans ?_;rw[length_map,pl,<- map_take,<- map_drop,<- map_append,<- map_append];congr 2;have q1:lp.take (sa+k)=lp.take sa++((lp.drop sa).take na).take k:=by
   rw[take_take,min_eq_left K0,fR]
  have q2:lp.drop (sa+k+(na - k+DE))=((lp.drop<|sa+na).take nb).drop DE++lp.drop (sa+(na+nb)):=by
   have:=kU (l:=lp.drop (sa+na)) (i:=DE) (j:=nb) EK (by rw[length_drop];lia);rw[drop_drop,drop_drop] at this;rw[show sa+k+(na - k+DE)=sa+na+DE by lia,this,show sa+na+nb=sa+(na+nb) by lia]
  rw[q1,q2];simp only[List.append_assoc]
 ·rw[if_neg c3];refine kasC_bind (wY hc u1 u2 (sA.sublist<|drop_sublist _ _) (sB.sublist<|take_sublist _ _) (by lia) (by lia) f1 f2 (by exact n_) ?_);intro out g_ hM G7;obtain⟨po,rfl,EQ,Ir⟩:=hM;have Gd:=oM (key:=key) sA sB (by lia) (by lia) h1 h4 EQ Ir;refine kasC_bind (kasC_modify ?_);refine kasC_bind (kasC_get ?_);refine kasC_pure ?_;have e:failedOf g_=none:=G7.f.trans hf;show Q (failedOf g_).isNone _ s;rw[e];refine h (((lp.drop sa).take na).take k++po++((lp.drop<|sa+na).take nb).drop DE) _ (G7.k.trans n_) (by first | rfl | exact e) (by exact G7.p) (by rw[<- eW];exact Gd.2) Gd.1 ?_;have ea:arrOf g_=(lp.map<|kas_item it).toArray:=G7.a;have pl:po.length=na - k+DE:=by rw[EQ.length_eq,length_append,l2,l3]
  have L':=kX (po.map<|kas_item it) (lp.map<|kas_item it) (sa+k) 0 (sa+k) (by rw[length_map,length_map,pl];lia) rfl;show List.foldl (fun a x=>a.setIfInBounds (sa+k+x.2) x.1) (arrOf g_) (po.map<|kas_item it).toArray.toList.zipIdx=_;rw[ea];refine L'.trans ?_;rw[length_map,pl,<- map_take,<- map_drop,<- map_append,<- map_append];congr 2;have q1:lp.take (sa+k)=lp.take sa++((lp.drop sa).take na).take k:=by
   rw[take_take,min_eq_left K0,fR]
  have q2:lp.drop (sa+k+(na - k+DE))=((lp.drop<|sa+na).take nb).drop DE++lp.drop (sa+(na+nb)):=by
   have:=kU (l:=lp.drop (sa+na)) (i:=DE) (j:=nb) EK (by rw[length_drop];lia);rw[drop_drop,drop_drop] at this;rw[show sa+k+(na - k+DE)=sa+na+DE by lia,this,show sa+na+nb=sa+(na+nb) by lia]
  rw[q1,q2];simp only[List.append_assoc]
end
section
variable{prog:Program}{w:World}{A:Around}{E:Value->Shared->Prop}{κ:SortKind}{it:Array Keyed}{key:Nat->Int}{n:Nat}{s:Shared}{pend:Array (Nat×Nat×Nat)}
structure Hd(κ:SortKind)(it:Array Keyed)(pend:Array (Nat×Nat×Nat))(st:SortSt)(p:Array Nat):Prop where
 k:PyProof.Rows.kindOf st=κ
 a:arrOf st=p.map (kas_item it)
 p:pendingOf st=pend
 f:failedOf st=none
theorem gP(hc:bT n key (kas_cmp prog w A κ it) s){p:Array Nat}(hp:Rg n p){i j:Nat}(hi:i<n)(hj:j<n){st:SortSt}(H:Hd κ it pend st p){Q:Option Bool->SortSt->Shared->Prop}(h:Q (some<|decide (x_ key p i<x_ key p j)) st s):
  kasC (model prog w) A E (ltAt' i j) Q st s:=by
 have el:∀ i,i<n->(p.map<|kas_item it)[i]?=some (kas_item it<|p.getD i 0):=fun i hi=>by
  have:i<p.size:=by rw[hp.size];exact hi
  simp[Array.getD,this]
 rw[ltAt'_eq];refine kasC_bind (kasC_get ?_);rw[H.a];dsimp only;rw[elem'_eq,elem'_eq,el i hi,el j hj];refine kasC_bind (kasC_pure ?_);refine kasC_bind (kasC_pure ?_);exact gK hc (hp.lt hi) (hp.lt hj) H.k h
variable{p:Array Nat}{st:SortSt}
theorem xa(H:Hd κ it pend st p){i j:Nat}{Q:Unit->SortSt->Shared->Prop}(h:∀ g_,Hd κ it pend g_ (kas_rev p i j)->Q () g_ s):kasC (model prog w) A E (reverseSlice' i j) Q st s:=by
 rw[reverseSlice'_eq];refine kasC_modify (h _ ⟨H.k,?_,H.p,H.f⟩);show mirror (arrOf st) i j ((j - i) / 2)=_;rw[H.a];exact kas_swaps_map (kas_item it) (fun k=>i+k) (fun k=>j - 1 - k) _ p
theorem xb(H:Hd κ it pend st p){i j:Nat}{Q:Unit->SortSt->Shared->Prop}(h:∀ g_,Hd κ it pend g_ (bubble p i<|i - j)->Q () g_ s):kasC (model prog w) A E (moveDown' i j) Q st s:=by
 rw[moveDown'_eq];refine kasC_modify (h _ ⟨H.k,?_,H.p,H.f⟩);show bubble (arrOf st) i (i - j)=_;rw[H.a];exact kas_swaps_map (kas_item it) (fun k=>i - k) (fun k=>i - k - 1) _ p
theorem gQ{σ β:Type}{M:Model}{f:Nat->β->StateT σ Sem (ForInStep β)}{Q:β->σ->Shared->Prop}(I:Nat->β->σ->Shared->Prop)(B:Nat)(step:∀ x c st s',x<B->I x c st s'->kasC M A E (f x c) (fun r o_ s2=>match r with | .yield c'=>I (x+1) c' o_ s2 | .done c'=>Q c' o_ s2) st s'):∀ (m a:Nat) (c:β) (st:σ) (s':Shared),a+m<=B->(∀ c st s',I (a+m) c st s'->Q c st s')->I a c st s'->
   kasC M A E (forIn (range' a m) c f) Q st s'
 | 0,a,c,st,s',hB,fin,h=>by
  show kasC M A E (forIn ([]:List Nat) c f) Q st s';exact kasC_nil (fin c st s' h)
 | m+1,a,c,st,s',hB,fin,h=>by
  show kasC M A E (forIn (a::range' (a+1) m) c f) Q st s';refine kasC_cons (wpAny_mono (step a c st s' (by lia) h) (fun r s2 h'=>?_) fun _ _ e=>e);obtain⟨r,o_⟩:=r;cases r with
  | done c'=>exact h'
  | yield c'=>exact gQ I B step m (a+1) c' o_ s2 (by lia) (fun c st s' hi=>fin c st s' (by rw[show a+(m+1)=a+1+m by lia];exact hi)) h'
theorem xc(hc:bT n key (kas_cmp prog w A κ it) s)(inj:∀ i j,i<n->j<n->key i=key j->i=j){p:Array Nat}(hp:Rg n p){lo Df:Nat}(h1:1<=Df)(hz:lo+Df<=n){st:SortSt}(H:Hd κ it pend st p){Q:Option Nat->SortSt->Shared->Prop}(h:∀ m p' g_,1<=m->m<=Df->Rg n p'->Hd κ it pend g_ p'->(∀ i,i<lo->p'[i]?=p[i]?)->(∀ j,lo+1<=j->j<lo+m->x_ key p' (j - 1)<=x_ key p' j)->Q (some m) g_ s):
  kasC (model prog w) A E (countRun' lo Df) Q st s:=by
 unfold countRun';have asc:∀ (q:Array Nat) (r_:SortSt) (a:Nat),Rg n q->Hd κ it pend r_ q->1<=a->a<=Df->(∀ j,lo+1<=j->j<lo+a->x_ key q (j - 1)<=x_ key q j)->
   kasC (model prog w) A E (forIn [a:Df] ((none:Option (Option Nat)),a) fun x c=>do
    let r <- ltAt' (lo+c.2) (lo+c.2 - 1)
    match r with
    | some G8=>if G8=true then pure (ForInStep.done (none,c.2)) else pure (ForInStep.yield (none,c.2+1))
    | x=>pure<|ForInStep.done (some none,c.2))
    (fun c g_ s'=>s=s'/\r_=g_/\∃ m,c=(none,m)/\a<=m/\m<=Df/\(∀ j,lo+1<=j->j<lo+m->x_ key q (j - 1)<=x_ key q j)/\(m=Df\/x_ key q (lo+m)<x_ key q (lo+m - 1))) r_ s:=fun q r_ a hq H1 a1 a2 a3=>by
  refine kasC_range (gQ (fun x c g_ s'=>s=s'/\r_=g_/\c=(none,x)/\a<=x/\∀ j,lo+1<=j->j<lo+x->x_ key q (j - 1)<=x_ key q j) Df ?_ _ _ _ _ _ (by lia) ?_ ⟨rfl,rfl,rfl,Nat.le_refl _,a3⟩)
  ·rintro x c g_ s' hx ⟨rfl,rfl,rfl,x1,x2⟩;dsimp only;refine kasC_bind (gP hc hq (by lia) (by lia) H1 ?_);dsimp only;by_cases hk:x_ key q (lo+x)<x_ key q (lo+x - 1)
   ·rw[if_pos (by simpa using hk)];exact kasC_pure ⟨rfl,rfl,x,rfl,x1,by lia,x2,.inr hk⟩
   ·rw[if_neg (by simpa using hk)];refine kasC_pure ⟨rfl,rfl,rfl,by lia,fun j j1 j2=>?_⟩;by_cases e:j=lo+x
    ·subst e;lia
    ·exact x2 j j1 (by lia)
  ·rintro c g_ s' ⟨rfl,rfl,rfl,x1,x2⟩;rw[show a+(Df - a)=Df by lia] at x2 ⊢;exact⟨rfl,rfl,Df,rfl,by lia,Nat.le_refl _,x2,.inl rfl⟩
 with_unfolding_all refine kasC_bind (bW (asc p st 1 hp H (Nat.le_refl _) h1 fun j a b=>by lia) ?_);rintro c g_ s' ⟨rfl,rfl,m,rfl,m1,m2,m3,m4⟩;dsimp only;by_cases e:m=Df
 ·rw[if_pos (by simpa using e)];exact kasC_pure (h m p _ m1 m2 hp H (fun _ _=>rfl) m3)
 rw[if_neg (by simpa using e)];have L_:x_ key p (lo+m)<x_ key p (lo+m - 1):=m4.resolve_left e;by_cases e1:m > 1
 ·rw[if_pos e1];refine kasC_bind (gP hc hp (by lia) (by lia) H ?_);dsimp only;have:∀ d,1<=d->d<m->x_ key p lo<x_ key p (lo+d):=fun d=>by
   induction d with
   | zero=>intro x;lia
   | succ d ih=>
    intro _ hd;have a:=m3 (lo+(d+1)) (by lia) (by lia);rw[show lo+(d+1) - 1=lo+d by lia] at a;have b:=hp.ne inj (show lo+d<lo+(d+1) by lia) (by lia);by_cases z:d=0
    ·subst z;rw[Nat.add_zero] at a b;lia
    ·have:=ih (by lia) (by lia);lia
  have hr:=this (m - 1) (by lia) (by lia);rw[show lo+(m - 1)=lo+m - 1 by lia] at hr;rw[if_pos (by simpa using hr)];exact kasC_pure (h m p _ m1 m2 hp H (fun _ _=>rfl) m3)
 rw[if_neg e1];obtain rfl:m=1:=by lia
 refine kasC_bind (kasC_lift<|wpAny_rule ?_);refine kasC_bind (bW (Q':=fun c g_ s'=>s=s'/\st=g_/\∃ m,c=(none,m,0)/\2<=m/\m<=Df/\∀ j,lo+1<=j->j<lo+m->x_ key p j<x_ key p (j - 1))
  (kasC_range (gQ (fun x c g_ s'=>s=s'/\st=g_/\c=(none,x,0)/\2<=x/\∀ j,lo+1<=j->j<lo+x->x_ key p j<x_ key p (j - 1)) Df ?d1 _ _ _ _ _ (by lia) ?d2 ⟨rfl,rfl,rfl,Nat.le_refl _,fun j j1 j2=>by
   obtain rfl:j=lo+1:=by lia
   exact L_⟩)) ?d3)
 case d1=>
  rintro x c g_ s' hx ⟨rfl,rfl,rfl,x1,x2⟩;dsimp only;refine kasC_bind (gP hc hp (by lia) (by lia) H ?_);dsimp only;by_cases hk:x_ key p (lo+x)<x_ key p (lo+x - 1)
  ·rw[if_pos (by simpa using hk),if_neg (by lia)];refine kasC_pure ⟨rfl,rfl,rfl,by lia,fun j j1 j2=>?_⟩;by_cases e:j=lo+x
   ·subst e;exact hk
   ·exact x2 j j1 (by lia)
  ·rw[if_neg (by simpa using hk)];refine kasC_bind (gP hc hp (by lia) (by lia) H ?_);dsimp only;have b:=hp.ne inj (show lo+x - 1<lo+x by lia) (by lia);rw[if_pos (by rw[decide_eq_true_eq];lia)];exact kasC_pure ⟨rfl,rfl,x,rfl,x1,by lia,x2⟩
 case d2=>
  rintro c g_ s' ⟨rfl,rfl,rfl,x1,x2⟩;rw[show 1+1+(Df - (1+1))=Df by lia] at x2 ⊢;exact⟨rfl,rfl,Df,rfl,by lia,Nat.le_refl _,x2⟩
 case d3=>
  rintro c g_ s' ⟨rfl,rfl,k,rfl,k1,k2,k3⟩;dsimp only;rw[if_neg (by lia)];refine kasC_bind (xa H ?_);intro o_ H2;have GX:=hp.rev lo (lo+k);have g:∀ i,(kas_rev p lo<|lo+k)[i]?=if lo<=i/\i<lo+k then p[lo+(lo+k) - 1 - i]? else p[i]?:=fun i=>by
   unfold kas_rev;rw[getElem?_mirror_all (by rw[hp.size];lia)]
  have ky:∀ i,lo<=i->i<lo+k->x_ key (kas_rev p lo<|lo+k) i=x_ key p (lo+(lo+k) - 1 - i):=fun i a b=>fQ (by rw[g,if_pos ⟨a,b⟩]);refine kasC_bind (bW (asc (kas_rev p lo<|lo+k) o_ k GX H2 (by lia) k2 fun j j1 j2=>?_) ?_)
  ·rw[ky _ (by lia) (by lia),ky _ (by lia) (by lia)];have:=k3 (lo+(lo+k) - 1 - (j - 1)) (by lia) (by lia);rw[show lo+(lo+k) - 1 - (j - 1) - 1=lo+(lo+k) - 1 - j by lia] at this;lia
  ·rintro c g_ s' ⟨rfl,rfl,m',rfl,q1,q2,q3,q4⟩;dsimp only;exact kasC_pure (h m' _ _ (by lia) q2 GX H2 (fun i hi=>by rw[g,if_neg (by lia)]) q3)
end
section
variable{prog:Program}{w:World}{A:Around}{E:Value->Shared->Prop}{κ:SortKind}{it:Array Keyed}{key:Nat->Int}{n:Nat}{s:Shared}{pend:Array (Nat×Nat×Nat)}
def b6(key:Nat->Int)(p:Array Nat)(lo m:Nat):Prop:=∀ i j,lo<=i->i<=j->j<lo+m->x_ key p i<=x_ key p j
theorem oN{p:Array Nat}{lo m:Nat}(h:∀ j,lo+1<=j->j<lo+m->x_ key p (j - 1)<=x_ key p j):b6 key p lo m:=by
 intro i j hi DY hj;obtain⟨d,rfl⟩:∃ d,j=i+d:=⟨j - i,by lia⟩;clear DY;induction d with
 | zero=>exact Int.le_refl _
 | succ d ih=>
  have a:=ih (by lia);have b:=h (i+(d+1)) (by lia) hj;rw[show i+(d+1) - 1=i+d by lia] at b;lia
theorem xf(hc:bT n key (kas_cmp prog w A κ it) s){p:Array Nat}(hp:Rg n p){lo m Hv:Nat}(hz:lo+m<=n)(h1:1<=Hv)(hm:Hv<=m)(up:b6 key p lo Hv){st:SortSt}(H:Hd κ it pend st p){Q:Bool->SortSt->Shared->Prop}(h:∀ p' g_,Rg n p'->Hd κ it pend g_ p'->(∀ i,i<lo->p'[i]?=p[i]?)->b6 key p' lo m->Q true g_ s):
  kasC (model prog w) A E (binarySort' lo m Hv) Q st s:=by
 rw[binarySort'_eq];rw[show max Hv 1=Hv by lia];with_unfolding_all refine kasC_bind (bW (Q':=fun c g_ s'=>s=s'/\c=(none,())/\∃ q,Rg n q/\Hd κ it pend g_ q/\(∀ i,i<lo->q[i]?=p[i]?)/\b6 key q lo m)
  (kasC_range (gQ (fun x c g_ s'=>s=s'/\c=(none,())/\1<=x/\∃ q,Rg n q/\Hd κ it pend g_ q/\(∀ i,i<lo->q[i]?=p[i]?)/\b6 key q lo x) m ?step _ _ _ _ _ (by lia) ?fin ⟨rfl,rfl,h1,p,hp,H,fun _ _=>rfl,up⟩)) ?after)
 case after=>
  rintro c g_ s' ⟨rfl,rfl,q,q1,q2,q3,q4⟩;exact kasC_pure (h q _ q1 q2 q3 q4)
 case fin=>
  rintro c g_ s' ⟨rfl,rfl,x1,q,q1,q2,q3,q4⟩;rw[show Hv+(m - Hv)=m by lia] at q4;exact⟨rfl,rfl,q,q1,q2,q3,q4⟩
 case step=>
  rintro k c g_ s' hk ⟨rfl,rfl,k1,q,hq,H',fr,up⟩;dsimp only;have L0:∀ i,lo<=i->i<lo+0->x_ key q i<=x_ key q (lo+k):=fun i a b=>by lia
  have R0:∀ i,lo+k<=i->i<lo+k->x_ key q (lo+k)<=x_ key q i:=fun i a b=>by lia
  refine kasC_bind (bW (Q':=fun c o_ s'=>s=s'/\g_=o_/\∃ l r,c=(none,l,r)/\l<=k/\(∀ i,lo<=i->i<lo+l->x_ key q i<=x_ key q (lo+k))/\(∀ i,lo+l<=i->i<lo+k->x_ key q (lo+k)<=x_ key q i))
   (kasC_range (gQ (fun x c o_ s'=>s=s'/\g_=o_/\∃ l r,c=(none,l,r)/\l<=r/\r<=k/\r - l<=k - x/\(∀ i,lo<=i->i<lo+l->x_ key q i<=x_ key q (lo+k))/\(∀ i,lo+r<=i->i<lo+k->x_ key q (lo+k)<=x_ key q i)) k ?s2 _ _ _ _ _ (by lia) ?f2 ⟨rfl,rfl,0,k,rfl,by lia,by lia,by lia,L0,R0⟩)) ?a2)
  case f2=>
   rintro c o_ s' ⟨rfl,rfl,l,r,rfl,b1,b2,b3,b4,b5⟩;exact⟨rfl,rfl,l,r,rfl,by lia,b4,fun i x y=>b5 i (by lia) y⟩
  case s2=>
   rintro x c o_ s' hx ⟨rfl,rfl,l,r,rfl,b1,b2,b3,b4,b5⟩;dsimp only;by_cases e:l >= r
   ·rw[if_pos e];exact kasC_pure ⟨rfl,rfl,l,r,rfl,by lia,b4,fun i x y=>b5 i (by lia) y⟩
   rw[if_neg e];have m1:l<=(l+r) / 2:=by lia
   have m2:(l+r) / 2<r:=by lia
   have m3:(l+r) / 2 - l<=k - (x+1):=by lia
   have m4:r - ((l+r) / 2+1)<=k - (x+1):=by lia
   generalize (l+r) / 2=mid at m1 m2 m3 m4 ⊢;refine kasC_bind (gP hc hq (by lia) (by lia) H' ?_);dsimp only;by_cases EK:x_ key q (lo+k)<x_ key q (lo+mid)
   ·rw[if_pos (by simpa using EK)];refine kasC_pure ⟨rfl,rfl,l,mid,rfl,m1,by lia,m3,b4,fun i x y=>?_⟩;have:=up (lo+mid) i (by lia) x y;lia
   ·rw[if_neg (by simpa using EK)];refine kasC_pure ⟨rfl,rfl,mid+1,r,rfl,by lia,b2,m4,fun i x y=>?_,b5⟩;have:=up i (lo+mid) x (by lia) (by lia);lia
  case a2=>
   rintro c o_ s' ⟨rfl,rfl,l,r,rfl,b1,b4,b5⟩;dsimp only;refine kasC_bind (xb H' ?_);intro Dy H3;have g:∀ i,(bubble q (lo+k)<|lo+k - (lo+l))[i]?=if i=lo+l then q[lo+k]? else if lo+l<i/\i<=lo+k then q[i - 1]? else q[i]?:=fun i=>by
    have:=getElem?_bubble (xs:=q) (src:=lo+k) (by rw[hq.size];lia) (lo+k - (lo+l)) (by lia) i
    rwa [show lo+k - (lo+k - (lo+l))=lo+l by lia] at this
   have ky:∀ i,x_ key (bubble q (lo+k)<|lo+k - (lo+l)) i=if i=lo+l then x_ key q (lo+k) else if lo+l<i/\i<=lo+k then x_ key q (i - 1) else x_ key q i:=fun i=>by
    have g:=g i;by_cases e:i=lo+l
    ·rw[if_pos e] at g ⊢;exact fQ g
    ·rw[if_neg e] at g ⊢;by_cases e2:lo+l<i/\i<=lo+k
     ·rw[if_pos e2] at g ⊢;exact fQ g
     ·rw[if_neg e2] at g ⊢;exact fQ g
   refine kasC_pure ⟨rfl,rfl,by lia,_,hq.Oz _ _,H3,fun i hi=>by rw[g,if_neg (by lia),if_neg (by lia)];exact fr i hi,oN fun j x y=>?_⟩;rw[ky,ky];by_cases c1:j - 1=lo+l
   ·rw[if_pos c1,if_neg (by lia),if_pos (by lia)];exact b5 (j - 1) (by lia) (by lia)
   ·rw[if_neg c1];by_cases c2:j=lo+l
    ·rw[if_pos c2,if_neg (by lia)];exact b4 (j - 1) (by lia) (by lia)
    ·rw[if_neg c2];by_cases c3:lo+l<j - 1
     ·rw[if_pos (by lia),if_pos (by lia)];exact up _ _ (by lia) (by lia) (by lia)
     ·rw[if_neg (by lia),if_neg (by lia)];exact up _ _ (by lia) (by lia) (by lia)
end
section
variable{prog:Program}{w:World}{A:Around}{E:Value->Shared->Prop}{κ:SortKind}{it:Array Keyed}{key:Nat->Int}{n:Nat}{s:Shared}{pend:Array (Nat×Nat×Nat)}
def aK(key:Nat->Int)(p:Array Nat):Nat->List (Nat×Nat×Nat)->Nat->Prop
 | a,[],b=>a=b
 | a,(x,l,_)::t,b=>x=a/\0<l/\b6 key p x l/\aK key p (a+l) t b
variable{p:Array Nat}
theorem aK.le:∀ {t:List (Nat×Nat×Nat)}{a b:Nat},aK key p a t b->a+t.length<=b
 | [],a,b,h=>by rw[show b=a from h.symm];exact Nat.le_refl _
 | (x,l,_)::t,a,b,h=>by
  have:=h.2.2.2.le;have:=h.2.1;rw[length_cons];lia
theorem aK.congr{q:Array Nat}:∀ {t:List (Nat×Nat×Nat)}{a b:Nat},aK key p a t b->(∀ i,a<=i->i<b->x_ key q i=x_ key p i)->aK key q a t b
 | [],a,b,h,_=>h
 | (x,l,_)::t,a,b,h,g=>by
  have:=h.2.2.2.le;obtain⟨rfl,h2,h3,h4⟩:=h;refine⟨rfl,h2,fun i j hi DY hj=>?_,h4.congr fun i a b=>g i (by lia) b⟩;rw[g i hi (by lia),g j (by lia) (by lia)];exact h3 i j hi DY hj
theorem aK.app{p:Array Nat}:∀ {t u:List (Nat×Nat×Nat)}{a b:Nat},aK key p a (t++u) b↔∃ c,aK key p a t c/\aK key p c u b
 | [],u,a,b=>⟨fun h=>⟨a,rfl,h⟩,fun ⟨c,e,h⟩=>by rw[show a=c from e];exact h⟩
 | (x,l,z)::t,u,a,b=>by
  show (x=a/\0<l/\b6 key p x l/\aK key p (a+l) (t++u) b)↔_;rw[aK.app];constructor
  ·rintro⟨h1,h2,h3,c,h4,h5⟩;exact⟨c,⟨h1,h2,h3,h4⟩,h5⟩
  ·rintro⟨c,⟨h1,h2,h3,h4⟩,h5⟩;exact⟨h1,h2,h3,c,h4,h5⟩
theorem xg{α:Type}{l:List α}{i:Nat}(h:i+1<l.length):∃ l1 x y l2,l=l1++x::y::l2/\l1.length=i:=by
 refine⟨l.take i,l[i]'(by lia),l[i+1],l.drop<|i+2,?_,by rw[length_take];lia⟩;have e1:=drop_eq_getElem_cons (l:=l) (i:=i) (by lia);have e2:=drop_eq_getElem_cons (l:=l) (i:=i+1) h;rw[<- e2,<- e1,take_append_drop]
theorem K1(l:List Nat)(i:Nat):x_ key l.toArray i=key (l.getD i 0):=by unfold x_;rw[dF]
theorem kY(hc:bT n key (kas_cmp prog w A κ it) s){p:Array Nat}(hp:Rg n p){st:SortSt}(H:Hd κ it pend st p){lo i:Nat}(hi:i+1<pend.size)(R:aK key p 0 pend.toList lo)(On:lo<=n){Q:Bool->SortSt->Shared->Prop}(h:∀ DB p' g_,Rg n p'->Hd κ it DB g_ p'->DB.size+1=pend.size->aK key p' 0 DB.toList lo->(∀ i,lo<=i->x_ key p' i=x_ key p i)->Q true g_ s):kasC (model prog w) A E (mergeAt' i) Q st s:=by
 obtain⟨l1,⟨sa,na,pw⟩,⟨sb,nb,pw2⟩,l2,e,rfl⟩:=xg (l:=pend.toList) (i:=i) (by simpa using hi);rw[e] at R;obtain⟨c,R1,rfl,OG,A1,rfl,OH,A2,R2⟩:=aK.app.mp R;have b2:=R2.le;have pe:pend=(l1++(sa,na,pw)::(sa+na,nb,pw2)::l2).toArray:=by rw[<- e]
 have OI:p.size=n:=hp.size;have OJ:∀ x∈p.toList,x<n:=fun x hx=>mem_range.mp (hp.mem_iff.mp hx);have gk:∀ i,x_ key p i=key (p.toList.getD i 0):=fun i=>K1 p.toList i;have pl:p.toList.length=n:=by rw[length_toList,OI]
 have Hw:∀ a m,a+m<=n->b6 key p a m->CJ key ((p.toList.drop a).take m):=fun a m hz h=>by
  refine pairwise_iff_getElem.mpr fun i j hi hj DY=>?_;have Ej:=hi;have Hx:=hj;rw[length_take,length_drop,pl] at Ej Hx;have:=h (a+i) (a+j) (by lia) (by lia) (by lia);rw[gk,gk] at this;rw[getElem_take,getElem_drop,getElem_take,getElem_drop];rw[getD_eq_getElem?_getD,getD_eq_getElem?_getD,List.getElem?_eq_getElem (by lia),List.getElem?_eq_getElem (by lia)] at this;exact this
 refine w9 hc (lp:=p.toList) OJ (i:=l1.length) (sa:=sa) (na:=na) (nb:=nb) (pw:=pw) (pw2:=pw2) H.k (by rw[H.a];apply ext';simp) H.f (by rw[H.p,pe];simp) (by rw[H.p,pe];simp) OG OH (by lia) (Hw _ _ (by lia) A1) (Hw _ _ (by lia) A2) ?_;intro mid g_ k1 f1 p1 m1 m2 a1;have ml:mid.length=na+nb:=by rw[m1.length_eq,length_take,length_drop,pl];lia
 have G0:p.toList.take sa++(p.toList.drop sa).take (na+nb)++p.toList.drop (sa+(na+nb))=p.toList:=by rw[fR,take_append_drop]
 have GX:Rg n (p.toList.take sa++mid++p.toList.drop (sa+(na+nb))).toArray:=by
  show (p.toList.take sa++mid++p.toList.drop (sa+(na+nb))).Perm (range n);refine List.Perm.trans (List.Perm.append_right _<|List.Perm.append_left _ m1) ?_;rw[G0];exact hp
 have tl:(p.toList.take sa).length=sa:=by rw[length_take,pl];lia
 have OK:∀ i,i<sa->x_ key (p.toList.take sa++mid++p.toList.drop (sa+(na+nb))).toArray i=x_ key p i:=fun i hi=>by
  rw[K1,gk];congr 1;rw[getD_eq_getElem?_getD,getD_eq_getElem?_getD,List.append_assoc,getElem?_append_left (by lia),getElem?_take,if_pos hi]
 have Nx:∀ i,sa+(na+nb)<=i->x_ key (p.toList.take sa++mid++p.toList.drop (sa+(na+nb))).toArray i=x_ key p i:=fun i hi=>by
  rw[K1,gk];congr 1;rw[getD_eq_getElem?_getD,getD_eq_getElem?_getD,getElem?_append_right (by rw[length_append];lia),getElem?_drop,length_append,tl,ml];congr 2;lia
 have Ny:∀ i,sa<=i->i<sa+(na+nb)->x_ key (p.toList.take sa++mid++p.toList.drop (sa+(na+nb))).toArray i=key (mid.getD (i - sa) 0):=fun i h1 h2=>by
  rw[K1];congr 1;rw[getD_eq_getElem?_getD,getD_eq_getElem?_getD,List.append_assoc,getElem?_append_right (by lia),tl,getElem?_append_left (by lia)]
 have OL:((l1++(sa,na,pw)::(sa+na,nb,pw2)::l2).toArray.setIfInBounds l1.length (sa,na+nb,pw)).eraseIdxIfInBounds (l1.length+1)=(l1++(sa,na+nb,pw)::l2).toArray:=by
  rw[List.setIfInBounds_toArray,List.set_append_right _ _<|Nat.le_refl _,Nat.sub_self,List.set_cons_zero];rw[List.eraseIdxIfInBounds_toArray,List.eraseIdx_append_of_length_le (by lia),show l1.length+1 - l1.length=1 by lia];rfl
 refine h ((l1++(sa,na+nb,pw)::l2).toArray) _ g_ GX ⟨k1,by rw[a1];apply ext';simp,by rw[p1,H.p,pe,OL],f1⟩ (by rw[pe];simp;lia) ?_ (fun i hi=>Nx i (by lia));have OM:aK key p (sa+(na+nb)) l2 lo:=by rw[<- add_assoc];exact R2
 refine aK.app.mpr ⟨sa,R1.congr fun i _ b=>OK i b,rfl,by lia,fun i j h1 h2 h3=>?_,OM.congr fun i a b=>Nx i a⟩
 ·rw[Ny i h1 (by lia),Ny j (by lia) h3];exact fe m2 (by lia) (by lia)
end
section
variable{prog:Program}{w:World}{A:Around}{E:Value->Shared->Prop}{κ:SortKind}{it:Array Keyed}{key:Nat->Int}{n:Nat}{s:Shared}{pend:Array (Nat×Nat×Nat)}
variable{p:Array Nat}
theorem aK.same:∀ {t u:List (Nat×Nat×Nat)}{a b:Nat},aK key p a t b->(t.map fun x=>(x.1,x.2.1))=(u.map fun x=>(x.1,x.2.1))->aK key p a u b
 | [],[],a,b,h,_=>h
 | [],_::_,a,b,h,e=>by cases e
 | _::_,[],a,b,h,e=>by cases e
 | (x,l,z)::t,(x',l',z')::u,a,b,h,e=>by
  rw[map_cons,map_cons] at e;injection e with e1 e2;injection e1 with e3 e4;dsimp only at e3 e4;subst e3;subst e4;exact⟨h.1,h.2.1,h.2.2.1,h.2.2.2.same e2⟩
theorem oO(xs:Array (Nat×Nat×Nat))(i z:Nat):(xs.toList.map fun x=>(x.1,x.2.1))=((xs.modify i fun x=>(x.1,x.2.1,z)).toList.map fun x=>(x.1,x.2.1)):=by
 apply ext_getElem?;intro j;rw[List.getElem?_map,List.getElem?_map,getElem?_toList,getElem?_toList,Array.getElem?_modify];split
 ·rw[Option.map_map];rfl
 ·rfl
theorem b6.congr{q:Array Nat}{lo m:Nat}(h:b6 key p lo m)(g:∀ i,lo<=i->x_ key q i=x_ key p i):b6 key q lo m:=fun i j a b c=>by
 rw[g i a,g j (by lia)];exact h i j a b c
variable{Q:Unit->SortSt->Shared->Prop}
theorem xh(hc:bT n key (kas_cmp prog w A κ it) s)(inj:∀ i j,i<n->j<n->key i=key j->i=j)(h2:2<=n)(hG:∀ p' g_,Rg n p'->Up key p' n->arrOf g_=p'.map (kas_item it)->failedOf g_=none->Q () g_ s):kasC (model prog w) A E sortRuns' Q (kas_st κ it (range n).toArray) s:=by
 rw[sortRuns'_eq];refine kasC_bind (kasC_get ?_);dsimp only;have hsz:(arrOf<|kas_st κ it (range n).toArray).size=n:=by
  show ((range n).toArray.map<|kas_item it).size=n;simp
 simp only[hsz];refine kasC_bind (bW (Q':=fun c g_ s'=>s=s'/\c=(none,n)/\∃ pend p,Rg n p/\Hd κ it pend g_ p/\aK key p 0 pend.toList n)
  (kasC_range (bz (fun x c g_ s'=>s=s'/\∃ lo pend p,c=(none,lo)/\x<=lo/\lo<=n/\Rg n p/\Hd κ it pend g_ p/\aK key p 0 pend.toList lo) ?step _ 0 _ _ _ ?fin ⟨rfl,0,#[],(range n).toArray,rfl,Nat.le_refl _,by lia,List.Perm.refl _,⟨rfl,rfl,rfl,rfl⟩,rfl⟩)) ?after)
 case fin=>
  rintro c g_ s' ⟨rfl,lo,pend,p,rfl,a,b,d,e,f⟩;have:lo=n:=by lia
  subst this;exact⟨rfl,rfl,pend,p,d,e,f⟩
 case after=>
  rintro c g_ s' ⟨rfl,rfl,pend,p,hp,H,R⟩;dsimp only;refine kasC_bind (bW (Q':=fun c g_ s'=>s=s'/\c=(none,())/\∃ p,Rg n p/\Up key p n/\arrOf g_=p.map (kas_item it)/\failedOf g_=none)
   (kasC_range (bz (fun x c g_ s'=>s=s'/\c=(none,())/\∃ pend p,Rg n p/\Hd κ it pend g_ p/\aK key p 0 pend.toList n/\pend.size+x<=n) ?s2 _ 0 _ _ _ ?f2 ⟨rfl,rfl,pend,p,hp,H,R,by have:=R.le;rw[length_toList] at this;lia⟩)) ?a2)
  case a2=>
   rintro c g_ s' ⟨rfl,rfl,p,a,b,c,d⟩;exact kasC_pure (hG p _ a b c d)
  case f2=>
   rintro c g_ s' ⟨rfl,rfl,pend,p,hp,H,R,hx⟩;have e:pend.toList=[]:=List.eq_nil_of_length_eq_zero (by rw[length_toList];lia);rw[e] at R;have:0=n:=R;lia
  case s2=>
   rintro x c g_ s' ⟨rfl,rfl,pend,p,hp,H,R,hx⟩;refine kasC_bind (kasC_get ?_);by_cases e:(pendingOf g_).size<=1
   ·rw[if_pos e];refine kasC_pure ⟨rfl,rfl,p,hp,?_,H.a,H.f⟩;rw[H.p] at e;have el:pend.toList.length<=1:=by rw[length_toList];exact e
    match hl:pend.toList,el with
    | [],_=>
     rw[hl] at R;have:0=n:=R;lia
    | [(x,l,z)],_=>
     rw[hl] at R;obtain⟨rfl,_,a3,a4⟩:=R;have:0+l=n:=a4;exact fun i j DY hj=>a3 i j (zero_le _) DY (by lia)
    | _::_::_,h=>exact absurd h (by simp)
   ·rw[if_neg e];rw[H.p] at e;have ON:∀ idx,idx+1<pend.size->kasC (model prog w) A E (mergeAt' idx) (fun b o_ s2=>b=true/\s=s2/\∃ pend p,Rg n p/\Hd κ it pend o_ p/\aK key p 0 pend.toList n/\pend.size+(x+1)<=n) g_ s:=fun idx Ma=>
     kY hc hp H Ma R (Nat.le_refl _) fun DB p' JU a b c d fr=>⟨rfl,rfl,DB,p',a,b,d,by lia⟩;refine kasC_bind (bW (ON _ ?_) ?_)
    ·rw[H.p];have:∀ (c:Prop) [Decidable c],(if c then pend.size - 2 - 1 else pend.size - 2)+1<pend.size:=fun c _=>by split<;>lia
     exact this _
    ·rintro b o_ s2 ⟨rfl,rfl,hh⟩;rw[if_neg (by decide)];exact kasC_pure ⟨rfl,rfl,hh⟩
 case step=>
  rintro x c g_ s' ⟨rfl,lo,pend,p,rfl,x1,x2,hp,H,R⟩;dsimp only;by_cases c1:lo >= n
  ·rw[if_pos c1];have:lo=n:=by lia
   subst this;exact kasC_pure ⟨rfl,rfl,pend,p,hp,H,R⟩
  rw[if_neg c1];refine kasC_bind (xc hc inj hp (by lia) (by lia) H ?_);intro m p1 r_ m1 m2 G9 H1 OO A1;have A1:=oN A1;have R1:aK key p1 0 pend.toList lo:=R.congr fun i _ b=>fQ (OO i b);dsimp only;by_cases c2:m<minRun' n n 0
  ·rw[if_pos c2];refine kasC_bind (kasC_lift<|wpAny_rule ?_);have mm:m<=min (n - lo) (minRun' n n 0):=by lia
   have mn:min (n - lo) (minRun' n n 0)<=n - lo:=by lia
   generalize min (n - lo) (minRun' n n 0)=Ew at mm mn ⊢;refine kasC_bind (xf hc G9 (by lia) m1 mm A1 H1 ?_);intro p2 o_ Fx H2 OP A2;have R2:aK key p2 0 pend.toList lo:=R1.congr fun i _ b=>fQ (OP i b);rw[if_neg (by decide)];refine kasC_bind (kasC_get ?_);rcases OQ:(pendingOf o_).back? with _ | ⟨s1,n1,z1⟩
   ·dsimp only;refine kasC_bind (kasC_modify ?_);refine kasC_pure ⟨rfl,lo+Ew,pend.push (lo,Ew,0),p2,rfl,by lia,by lia,Fx,⟨H2.k,H2.a,by show (pendingOf o_).push _=_;rw[H2.p],H2.f⟩,?_⟩;rw[toList_push];exact aK.app.mpr ⟨lo,R2,rfl,by lia,A2,rfl⟩
   ·dsimp only;refine kasC_bind (bW (Q':=fun c g_ s'=>s=s'/\c=(none,())/\∃ pend p,Rg n p/\Hd κ it pend g_ p/\aK key p 0 pend.toList lo/\b6 key p lo (Ew))
     (kasC_range<|bz (fun x c g_ s'=>s=s'/\c=(none,())/\∃ pend p,Rg n p/\Hd κ it pend g_ p/\aK key p 0 pend.toList lo/\b6 key p lo (Ew)) ?_ _ 0 _ _ _ (fun _ _ _ z=>z) ⟨rfl,rfl,pend,p2,Fx,H2,R2,A2⟩) ?_)
    ·rintro y c g_ s' ⟨rfl,rfl,pend,p,hp,H,R,A⟩;refine kasC_bind (kasC_get ?_);by_cases e:(pendingOf g_).size > 1
     ·rw[if_pos e];rcases hg:(pendingOf g_)[(pendingOf g_).size - 2]? with _ | ⟨a,b,JV⟩
      ·dsimp only;exact kasC_pure ⟨rfl,rfl,pend,p,hp,H,R,A⟩
      ·dsimp only;split
       ·exact kasC_pure ⟨rfl,rfl,pend,p,hp,H,R,A⟩
       ·refine kasC_bind (kY hc hp H (by rw[H.p] at e ⊢;lia) R (by lia) ?_);intro DB p' JU a b c d fr;rw[if_neg (by decide)];exact kasC_pure ⟨rfl,rfl,DB,p',a,b,d,A.congr fr⟩
     ·rw[if_neg e];dsimp only;exact kasC_pure ⟨rfl,rfl,pend,p,hp,H,R,A⟩
    ·rintro c g_ s' ⟨rfl,rfl,pend,p,hp,H,R,A⟩;dsimp only;refine kasC_bind (kasC_modify ?_);refine kasC_bind (kasC_modify ?_);refine kasC_pure ⟨rfl,lo+Ew,(pend.modify (pend.size - 1) _).push (lo,Ew,0),p,rfl,by lia,by lia,hp,⟨H.k,H.a,by show ((pendingOf g_).modify ((pendingOf g_).size - 1) _).push _=_;rw[H.p],H.f⟩,?_⟩;rw[toList_push];exact aK.app.mpr ⟨lo,R.same<|oO _ _ _,rfl,by lia,A,rfl⟩
  ·rw[if_neg c2];have Fx:=G9;have H2:=H1;have R2:=R1;have A2:=A1;revert Fx H2 R2 A2;generalize p1=p2;generalize r_=o_;intro Fx H2 R2 A2;refine kasC_bind (kasC_get ?_);rcases OQ:(pendingOf o_).back? with _ | ⟨s1,n1,z1⟩
   ·dsimp only;refine kasC_bind (kasC_modify ?_);refine kasC_pure ⟨rfl,lo+m,pend.push (lo,m,0),p2,rfl,by lia,by lia,Fx,⟨H2.k,H2.a,by show (pendingOf o_).push _=_;rw[H2.p],H2.f⟩,?_⟩;rw[toList_push];exact aK.app.mpr ⟨lo,R2,rfl,by lia,A2,rfl⟩
   ·dsimp only;refine kasC_bind (bW (Q':=fun c g_ s'=>s=s'/\c=(none,())/\∃ pend p,Rg n p/\Hd κ it pend g_ p/\aK key p 0 pend.toList lo/\b6 key p lo (m))
     (kasC_range<|bz (fun x c g_ s'=>s=s'/\c=(none,())/\∃ pend p,Rg n p/\Hd κ it pend g_ p/\aK key p 0 pend.toList lo/\b6 key p lo (m)) ?_ _ 0 _ _ _ (fun _ _ _ z=>z) ⟨rfl,rfl,pend,p2,Fx,H2,R2,A2⟩) ?_)
    ·rintro y c g_ s' ⟨rfl,rfl,pend,p,hp,H,R,A⟩;refine kasC_bind (kasC_get ?_);by_cases e:(pendingOf g_).size > 1
     ·rw[if_pos e];rcases hg:(pendingOf g_)[(pendingOf g_).size - 2]? with _ | ⟨a,b,JV⟩
      ·dsimp only;exact kasC_pure ⟨rfl,rfl,pend,p,hp,H,R,A⟩
      ·dsimp only;split
       ·exact kasC_pure ⟨rfl,rfl,pend,p,hp,H,R,A⟩
       ·refine kasC_bind (kY hc hp H (by rw[H.p] at e ⊢;lia) R (by lia) ?_);intro DB p' JU a b c d fr;rw[if_neg (by decide)];exact kasC_pure ⟨rfl,rfl,DB,p',a,b,d,A.congr fr⟩
     ·rw[if_neg e];dsimp only;exact kasC_pure ⟨rfl,rfl,pend,p,hp,H,R,A⟩
    ·rintro c g_ s' ⟨rfl,rfl,pend,p,hp,H,R,A⟩;dsimp only;refine kasC_bind (kasC_modify ?_);refine kasC_bind (kasC_modify ?_);refine kasC_pure ⟨rfl,lo+m,(pend.modify (pend.size - 1) _).push (lo,m,0),p,rfl,by lia,by lia,hp,⟨H.k,H.a,by show ((pendingOf g_).modify ((pendingOf g_).size - 1) _).push _=_;rw[H.p],H.f⟩,?_⟩;rw[toList_push];exact aK.app.mpr ⟨lo,R.same<|oO _ _ _,rfl,by lia,A,rfl⟩
theorem xi(hc:bT n key (kas_cmp prog w A κ it) s)(inj:∀ i j,i<n->j<n->key i=key j->i=j)(h2:2<=n)(up:n<1001\/∀ j,1<=j->j<n->key (j - 1)<=key j)(hG:∀ p' g_,Rg n p'->Up key p' n->arrOf g_=p'.map (kas_item it)->failedOf g_=none->Q () g_ s):kasC (model prog w) A E sortRuns' Q (kas_st κ it (range n).toArray) s:=xh hc inj h2 hG
end
end L2
namespace L2
open PySem PySem.Spec PyProof.Rows
section
variable{X:Cx}{pins:List (Addr×Obj)}{σ:St}{H:Hp}{s:Shared}{h':Heap}
variable{ch:List Addr}{t':Nat}
theorem Inv.JW{T:Addr}{xs:List V}(I:Inv X pins σ H s)(DP:∀ b∈ch,cZ X pins H b)(k:∀ b o,b∉ch->s.heap.get? b=some o->h'.get? b=some o)(hT:s.heap.objs.size<=T)(new:a0 X.prog X.w (upd H T<|.tup xs) h' T (.tup xs)):Inv X pins σ (upd H T<|.tup xs) { s with heap:=h',toks:=t' }:=by
 have fT:H T=none:=I.l_.fresh hT;have nT:∀ b o,s.heap.get? b=some o->b≠T:=fun b o e=>ne_of_lt (lt_of_lt_of_le (Heap.lt_size e) hT);have nc:∀ b u,H b=some u->b∉ch:=fun b u e z=>by rw[(DP b z).1] at e;cases e
 refine I.step (g':=s.gens) (d':=s.drawn) (ch:=ch) (fun b hb=>⟨(DP b hb).2.2.2.1,(DP b hb).2.1,(DP b hb).2.2.2.2.1,(DP b hb).2.2.2.2.2⟩) (fun b o _ _ hc e _=>k b o hc e) (fun b o _ _ hc e _=>⟨o.slots,k b o hc e⟩)
  (fun b o _ e n=>by rw[aw (nT b o e)];exact n) (fun b o hc e=>⟨o,k b o hc e⟩) (fun b ys e=>by rw[aw (bS e fT)];exact e) (fun b o u e=>by rw[aw (bS e fT)];exact e)
  (fun b ps e=>⟨#[],by rw[aw (bS e fT),e];simp⟩) (fun m hm=>?_) (fun a o e=>?_) I.bare
 ·obtain⟨o,es,ep,ho,r⟩:=hm;exact⟨o,es,ep,k _ o (fun z=>(DP _ z).2.1 rfl) ho,r⟩
 ·by_cases ha:a=T
  ·subst ha;rw[aW] at e;cases e;exact new
  ·rw[aw ha] at e;refine (I.l_ a o e).Dc (fun b u hb q=>k b u ?_ q) (fun b q=>by rw[aw (bS q fT)];exact q) fun b ys q=>by rw[aw (bS q fT)];exact q
   rcases hb with z | z
   ·rw[z];exact nc a o e
   ·exact nc b _ z
theorem Inv.JX(I:Inv X pins σ H s)(DP:∀ b∈ch,cZ X pins H b)(k:∀ b o,b∉ch->s.heap.get? b=some o->h'.get? b=some o):Inv X pins σ H { s with heap:=h',toks:=t' }:=by
 have nc:∀ b u,H b=some u->b∉ch:=fun b u e z=>by rw[(DP b z).1] at e;cases e
 refine I.step (g':=s.gens) (d':=s.drawn) (ch:=ch) (fun b hb=>⟨(DP b hb).2.2.2.1,(DP b hb).2.1,(DP b hb).2.2.2.2.1,(DP b hb).2.2.2.2.2⟩) (fun b o _ _ hc e _=>k b o hc e) (fun b o _ _ hc e _=>⟨o.slots,k b o hc e⟩)
  (fun b o _ _ n=>n) (fun b o hc e=>⟨o,k b o hc e⟩) (fun b ys e=>e) (fun b o u e=>e) (fun b ps e=>⟨#[],by rw[e];simp⟩) (fun m hm=>?_) (fun a o e=>?_) I.bare
 ·obtain⟨o,es,ep,ho,r⟩:=hm;exact⟨o,es,ep,k _ o (fun z=>(DP _ z).2.1 rfl) ho,r⟩
 ·refine (I.l_ a o e).Dc (fun b u hb q=>k b u ?_ q) (fun b q=>q) fun b ys q=>q;rcases hb with z | z
  ·rw[z];exact nc a o e
  ·exact nc b _ z
end
section
variable{prog:Program}{w:World}{A:Around}{E:Value->Shared->Prop}{s:Shared}
variable{it t:Addr}{i:Nat}{items:Array Value}{Q:Value->Shared->Prop}
theorem kZ{x:Value}(hit:s.heap.IsTupleIter it t i)(ht:s.heap.IsTuple t items)(hx:items[i]?=some x)(q:∀ h',h'.IsTupleIter it t (i+1)->Heap.SameBut it s.heap h'->Q x { s with heap:=h' }):wpAny (model prog w) A (Builtin.SmallTypes.nextOf<|.ref it) Q E s:=by
 obtain⟨o,f1,f2,f3⟩:=id hit;obtain⟨ol,g1,_,nl,g2⟩:=ht;unfold Builtin.SmallTypes.nextOf;refine wpAny_bind (wpAny_callSpecial?_slot (name:=Str.ofString "__next__") hit.typeIs F.slot_tuple_iterator_next<|wpAny_call_entry F.slot_tuple_iterator_next hit.typeIs F.entry_tuple_iterator_next ?z<|F.args_tuple_iterator_next_1 _)
 case z=>
  show wpAny _ _ (field (.ref it) 0 >>= _) _ _ s;refine wpAny_bind (wpAny_field f1 f3 (x:=.ref t) rfl ?_);show wpAny _ _ (if (Value.ref t == Value.none)=true then _ else _) _ _ s;rw[if_neg (show ¬ (Value.ref t == Value.none)=true by intro z;cases z)];show wpAny _ _ (field (.ref it) 1 >>= _) _ _ s;refine wpAny_bind (wpAny_field f1 f3 (x:=.int i 0) rfl ?_);show wpAny _ _ (seqItems? (.ref t) >>= _) _ _ s;refine wpAny_bind (wpAny_seqItems g1 g2 ?_);simp only[toNat_natCast,hx];refine wpAny_bind (wpAny_setField f1 f3 (by simp) (wpAny_pure ⟨x,rfl,wpAny_pure (q _ ⟨_,Heap.get?_update_self _ f1<|Obj.isFreed_of_fields<|Obj.data_mapFields f3 _,(Obj.cls_mapFields ..).trans f2,by rw[Obj.data_mapFields f3];simp[rawInt]⟩<|Heap.SameBut.update ..)⟩))
theorem oP(hh:A.handled=none)(hit:s.heap.IsTupleIter it t i)(ht:s.heap.IsTuple t items)(hx:items[i]?=none)(q:∀ h' e,Heap.ExtBut it s.heap h'->(∃ o,h'.get? e=some o/\o.cls=.type "StopIteration")->E (.ref e) { s with heap:=h' }):wpAny (model prog w) A (Builtin.SmallTypes.nextOf<|.ref it) Q E s:=by
 obtain⟨o,f1,f2,f3⟩:=id hit;obtain⟨ol,g1,_,nl,g2⟩:=ht;unfold Builtin.SmallTypes.nextOf;refine wpAny_bind (wpAny_callSpecial?_slot (name:=Str.ofString "__next__") hit.typeIs F.slot_tuple_iterator_next<|wpAny_call_entry F.slot_tuple_iterator_next hit.typeIs F.entry_tuple_iterator_next ?z<|F.args_tuple_iterator_next_1 _)
 case z=>
  show wpAny _ _ (field (.ref it) 0 >>= _) _ _ s;refine wpAny_bind (wpAny_field f1 f3 (x:=.ref t) rfl ?_);show wpAny _ _ (if (Value.ref t == Value.none)=true then _ else _) _ _ s;rw[if_neg (show ¬ (Value.ref t == Value.none)=true by intro z;cases z)];show wpAny _ _ (field (.ref it) 1 >>= _) _ _ s;refine wpAny_bind (wpAny_field f1 f3 (x:=.int i 0) rfl ?_);show wpAny _ _ (seqItems? (.ref t) >>= _) _ _ s;refine wpAny_bind (wpAny_seqItems g1 g2 ?_);simp only[toNat_natCast,hx];refine wpAny_bind (wpAny_rule (wpAny_bind (wpAny_setField f1 f3 (by simp) ?_)));show wpAny _ _ (newExc (.type "StopIteration") [] >>= _) _ _ _;apply wpAny_bind;simp only[newExc,newTuple];refine wpAny_bind (wpAny_newObj_type (wpAny_bind (m:=firstArgMember _ _) (wpAny_of_eq (a:=Value.none) (by first | rfl | (simp only[firstArgMember];rfl)) (wpAny_newObj_type ?_ (by size_fits)))) (by size_fits));simp only[raiseNew];apply wpAny_bind;apply wpAny_handled;rw[show A.in1.handled=none from hh];refine wpAny_bind (m:=pure _) (wpAny_pure<|wpAny_throw ?_);exact q _ _ (((Heap.SameBut.update ..).extBut.push _).push _) ⟨_,Heap.get?_push_size _ rfl,rfl⟩
end
section
variable{prog:Program}{w:World}{A:Around}{E:Value->Shared->Prop}{s:Shared}
variable{h h':Heap}{a:Addr}
theorem cz{t:Addr}{i:Nat}(x:h.IsTupleIter a t i)(k:∀ o,h.get? a=some o->h'.get? a=some o):h'.IsTupleIter a t i:=let ⟨o,e,r⟩:=x;⟨o,k o e,r⟩
variable{xs:Array Value}
theorem fU(x:h.IsTuple a xs)(k:∀ o,h.get? a=some o->h'.get? a=some o):h'.IsTuple a xs:=let ⟨o,e,r⟩:=x;⟨o,k o e,r⟩
variable{a b:Value}{k1 k2:Nat}{ys:Array Value}
theorem xj{z TI TO i1 i2 l1 l2:Addr}{x y:Value}{Q:Value->Shared->Prop}(D:ZipApart z TI TO i1 i2 l1 l2)(hz:IsZip s.heap z TI TO .none)(Mb:IsPair s.heap TI (.ref i1) (.ref i2))(Mc:IsPair s.heap TO a b)(h1:s.heap.IsTupleIter i1 l1 k1)(h2:s.heap.IsTupleIter i2 l2 k2)(Iu:s.heap.IsTuple l1 xs)(IS:s.heap.IsTuple l2 ys)(hx:xs[k1]?=some x)(hy:ys[k2]?=some y)(hQ:∀ h',IsZip h' z TI TO (rawInt s.heap.objs.size)->IsPair h' TO x y->h'.IsTupleIter i1 l1 (k1+1)->h'.IsTupleIter i2 l2 (k2+1)->IsPair h' s.heap.objs.size x y->
   (∀ c o,c≠z->c≠TO->c≠i1->c≠i2->s.heap.get? c=some o->h'.get? c=some o)->Q (.ref s.heap.objs.size) { s with heap:=h' }):
  wpAny (model prog w) A (Builtin.«zip.__next__» ⟨[.ref z],[]⟩) (fun fin s'=>∃ v,fin=.done (.ret v)/\Q v s') E s:=by
 show wpAny _ _ (field (.ref z) 2 >>= _) _ _ _;refine wpAny_bind (wpAny_field hz rfl (x:=.bool false) rfl ?_);show wpAny _ _ (field (.ref z) 3 >>= _) _ _ _;refine wpAny_bind (wpAny_field hz rfl (x:=.ref TI) rfl<|wpAny_bind<|wpAny_seqItems Mb rfl ?_);show wpAny _ _ (Builtin.SmallTypes.ownedTupleIsFree (.ref z) >>= _) _ _ _;apply wpAny_bind;unfold Builtin.SmallTypes.ownedTupleIsFree;refine wpAny_bind (wpAny_field hz rfl (x:=.none) rfl<|wpAny_pure ?_);simp only[if_true];refine wpAny_bind (wpAny_rule (wpAny_bind (wpAny_field hz rfl (x:=.ref TO) rfl (wpAny_bind (wpAny_setField_rec hz (by simp) fun j1 z1 s1=>?_)))));replace z1:IsZip j1 z TI TO .ellipsis:=z1;apply wpAny_bind;simp only[List.zipIdx_cons,List.zipIdx_nil,forIn_cons,List.forIn_nil];refine wpAny_bind (wpAny_bind<|wpAny_onRaise ?_);show wpAny _ _ (Builtin.SmallTypes.nextOf (.ref i1) >>= _) _ _ _;refine wpAny_bind (kZ (s:={ s with heap:=j1 }) (cz h1 fun o e=>s1.extBut _ o D.i1z e) (fU Iu fun o e=>s1.extBut _ o D.l1z e) hx fun j2 a2 s2=>wpAny_pure ?_);have o2:IsPair j2 TO a b:=s2.extBut _ _ D.TOi1 (s1.extBut _ _ D.TOz Mc);refine wpAny_bind (wpAny_seqItems (s:={ s with heap:=j2 }) o2 rfl<|wpAny_bind<|wpAny_updateSeq_pair (s:={ s with heap:=j2 }) o2 fun j3 o3 s3=>?_);replace o3:IsPair j3 TO x b:=o3;refine wpAny_bind (wpAny_letGo<|wpAny_pure<|wpAny_bind<|wpAny_bind<|wpAny_onRaise ?_);show wpAny _ _ (Builtin.SmallTypes.nextOf (.ref i2) >>= _) _ _ _;refine wpAny_bind (kZ (s:={ s with heap:=j3 }) (cz h2 fun o e=>s3.extBut _ o D.TOi2.symm<|s2.extBut _ o D.i12.symm<|s1.extBut _ o D.i2z e) (fU IS fun o e=>s3.extBut _ o D.l2TO<|s2.extBut _ o D.l2i1<|s1.extBut _ o D.l2z e) hy fun j4 a4 s4=>wpAny_pure ?_);have o4:IsPair j4 TO x b:=s4.extBut _ _ D.TOi2 o3;refine wpAny_bind (wpAny_seqItems (s:={ s with heap:=j4 }) o4 rfl<|wpAny_bind<|wpAny_updateSeq_pair (s:={ s with heap:=j4 }) o4 fun j5 o5 s5=>?_);replace o5:IsPair j5 TO x y:=o5;refine wpAny_bind (wpAny_letGo<|wpAny_pure<|wpAny_pure<|wpAny_bind<|wpAny_seqItems (s:={ s with heap:=j5 }) o5 rfl<|wpAny_bind<|wpAny_newTuple ?_);have hsz:j5.objs.size=s.heap.objs.size:=by rw[s5.1,s4.1,s3.1,s2.1,s1.1]
 have z5:IsZip j5 z TI TO .ellipsis:=s5.extBut _ _ D.TOz.symm (s4.extBut _ _ D.i2z.symm<|s3.extBut _ _ D.TOz.symm<|s2.extBut _ _ D.i1z.symm z1);have k5:∀ c o,c≠z->c≠TO->c≠i1->c≠i2->s.heap.get? c=some o->j5.get? c=some o:=fun c o c1 c2 c3 c4 e=>s5.extBut _ _ c2 (s4.extBut _ _ c4<|s3.extBut _ _ c2<|s2.extBut _ _ c3<|s1.extBut _ _ c1 e);have b1:j5.IsTupleIter i1 l1 (k1+1):=cz a2 fun o e=>s5.extBut _ o D.TOi1.symm (s4.extBut _ o D.i12<|s3.extBut _ o D.TOi1.symm e);have b2:j5.IsTupleIter i2 l2 (k2+1):=cz a4 fun o e=>s5.extBut _ o D.TOi2.symm e;have Nz:z<j5.objs.size:=Heap.lt_size z5;show wpAny _ _ (Builtin.SmallTypes.ownedTupleHandOut (.ref z) (.ref j5.objs.size) >>= _) _ _ _;apply wpAny_bind;unfold Builtin.SmallTypes.ownedTupleHandOut;have z6:IsZip (j5.push { cls:=.type "tuple",data:=.seq #[x,y] }) z TI TO .ellipsis:=Heap.get?_push_of_some _ z5;refine wpAny_bind (wpAny_setField_rec z6 (by simp) fun j7 z7 s7=>?_);replace z7:IsZip j7 z TI TO (rawInt j5.objs.size):=z7;refine wpAny_setField_rec z7 (by simp) fun j8 z8 s8=>?_;replace z8:IsZip j8 z TI TO (rawInt j5.objs.size):=z8;have up:∀ c o,c≠z->j5.get? c=some o->j8.get? c=some o:=fun c o c1 e=>s8.extBut _ _ c1 (s7.extBut _ _ c1<|Heap.get?_push_of_some _ e);have t8:IsPair j8 j5.objs.size x y:=s8.extBut _ _ (ne_of_gt Nz) (s7.extBut _ _ (ne_of_gt Nz)<|Heap.get?_push_size _ rfl);rw[hsz] at z8 t8;refine wpAny_pure ⟨_,rfl,?_⟩;show Q (.ref j5.objs.size) _;rw[hsz];exact hQ j8 z8 (up _ _ D.TOz o5) (cz b1 fun o e=>up _ o D.i1z e) (cz b2 fun o e=>up _ o D.i2z e) t8 fun c o c1 c2 c3 c4 e=>up c o c1 (k5 c o c1 c2 c3 c4 e)
theorem xk{z TI TO i1 i2 l1 l2:Addr}{Q:PySem.Fin->Shared->Prop}(hh:A.handled=none)(D:ZipApart z TI TO i1 i2 l1 l2)(hz:IsZip s.heap z TI TO .none)(Mb:IsPair s.heap TI (.ref i1) (.ref i2))(Mc:IsPair s.heap TO a b)(h1:s.heap.IsTupleIter i1 l1 k1)(h2:s.heap.IsTupleIter i2 l2 k2)(Iu:s.heap.IsTuple l1 xs)(IS:s.heap.IsTuple l2 ys)(EC:xs[k1]?=none\/ys[k2]?=none)(hE:∀ h' e,(∀ c o,c≠z->c≠TO->c≠i1->c≠i2->s.heap.get? c=some o->h'.get? c=some o)->(∃ o,h'.get? e=some o/\o.cls=.type "StopIteration")->E (.ref e) { s with heap:=h' }):
  wpAny (model prog w) A (Builtin.«zip.__next__» ⟨[.ref z],[]⟩) Q E s:=by
 show wpAny _ _ (field (.ref z) 2 >>= _) _ _ _;refine wpAny_bind (wpAny_field hz rfl (x:=.bool false) rfl ?_);show wpAny _ _ (field (.ref z) 3 >>= _) _ _ _;refine wpAny_bind (wpAny_field hz rfl (x:=.ref TI) rfl<|wpAny_bind<|wpAny_seqItems Mb rfl ?_);show wpAny _ _ (Builtin.SmallTypes.ownedTupleIsFree (.ref z) >>= _) _ _ _;apply wpAny_bind;unfold Builtin.SmallTypes.ownedTupleIsFree;refine wpAny_bind (wpAny_field hz rfl (x:=.none) rfl<|wpAny_pure ?_);simp only[if_true];refine wpAny_bind (wpAny_rule (wpAny_bind (wpAny_field hz rfl (x:=.ref TO) rfl (wpAny_bind (wpAny_setField_rec hz (by simp) fun j1 z1 s1=>?_)))));replace z1:IsZip j1 z TI TO .ellipsis:=z1;apply wpAny_bind;simp only[List.zipIdx_cons,List.zipIdx_nil,forIn_cons,List.forIn_nil];refine wpAny_bind (wpAny_bind<|wpAny_onRaise ?_);show wpAny _ _ (Builtin.SmallTypes.nextOf (.ref i1) >>= _) _ _ _;cases hx:xs[k1]? with
 | none=>
  refine wpAny_bind (oP (s:={ s with heap:=j1 }) hh (cz h1 fun o e=>s1.extBut _ o D.i1z e) (fU Iu fun o e=>s1.extBut _ o D.l1z e) hx fun j2 e s2 ⟨oe,e1,e2⟩=>?_);have z2:IsZip j2 z TI TO .ellipsis:=s2 _ _ D.i1z.symm z1;have ez:e≠z:=fun q=>by subst q;rw[z2] at e1;cases e1;simp at e2
  refine wpAny_setField_rec z2 (by simp) fun j3 _ s3=>hE j3 e (fun c o c1 _ c3 _ q=>s3.extBut _ _ c1<|s2 _ _ c3<|s1.extBut _ _ c1 q) ⟨oe,s3.extBut _ _ ez e1,e2⟩
 | some x=>
  have hy:ys[k2]?=none:=by
   rcases EC with h | h
   ·rw[hx] at h;cases h
   ·exact h
  refine wpAny_bind (kZ (s:={ s with heap:=j1 }) (cz h1 fun o e=>s1.extBut _ o D.i1z e) (fU Iu fun o e=>s1.extBut _ o D.l1z e) hx fun j2 a2 s2=>wpAny_pure ?_);have o2:IsPair j2 TO a b:=s2.extBut _ _ D.TOi1 (s1.extBut _ _ D.TOz Mc);refine wpAny_bind (wpAny_seqItems (s:={ s with heap:=j2 }) o2 rfl<|wpAny_bind<|wpAny_updateSeq_pair (s:={ s with heap:=j2 }) o2 fun j3 o3 s3=>?_);refine wpAny_bind (wpAny_letGo<|wpAny_pure<|wpAny_bind<|wpAny_bind<|wpAny_onRaise ?_);show wpAny _ _ (Builtin.SmallTypes.nextOf (.ref i2) >>= _) _ _ _;refine wpAny_bind (oP (s:={ s with heap:=j3 }) hh (cz h2 fun o e=>s3.extBut _ o D.TOi2.symm<|s2.extBut _ o D.i12.symm<|s1.extBut _ o D.i2z e) (fU IS fun o e=>s3.extBut _ o D.l2TO<|s2.extBut _ o D.l2i1<|s1.extBut _ o D.l2z e) hy fun j4 e s4 ⟨oe,e1,e2⟩=>?_);have z4:IsZip j4 z TI TO .ellipsis:=s4 _ _ D.i2z.symm (s3.extBut _ _ D.TOz.symm<|s2.extBut _ _ D.i1z.symm z1);have ez:e≠z:=fun q=>by subst q;rw[z4] at e1;cases e1;simp at e2
  refine wpAny_setField_rec z4 (by simp) fun j5 _ s5=>hE j5 e (fun c o c1 c2 c3 c4 q=>s5.extBut _ _ c1<|s4 _ _ c4<|s3.extBut _ _ c2<|s2.extBut _ _ c3<|s1.extBut _ _ c1 q) ⟨oe,s5.extBut _ _ ez e1,e2⟩
end
variable{s:Shared}{r':R2}{caps fx fix:List Nat}{own ps:List Str}{iter tg c e b a:Expr}{body:List Stmt}{E:Ends}{st:Stmt}{j n ek:Nat}{σ1 σ:St}{fd:FuncData}{vs xs:List V}{ds:List Im}{C B A R F2 F1 F' G F:List Addr}{Q:VK}{x:Str}{r es:List Expr}{t':TT}{X:Cx}{H2 H1 H' H:Hp}{v:V}{p:Addr}{pos:Pos}{K:PySem.W.Frag}
def Ge(h:Heap)(l1 l2:Addr):Heap:=((((h.push { cls:=.type "tuple_iterator",data:=.fields #[.ref l1,.int 0 0] }).push { cls:=.type "tuple_iterator",data:=.fields #[.ref l2,.int 0 0] }).push
 { cls:=.type "tuple",data:=.seq #[.ref h.objs.size,.ref (h.push { cls:=.type "tuple_iterator",data:=.fields #[.ref l1,.int 0 0] }).objs.size] }).push { cls:=.type "tuple",data:=.seq #[.none,.none] })
theorem xl(l1 l2 : Addr)(xs ys : Array Value):
    Meets (Builtin.«zip.__new__» ⟨[.type "zip", .ref l1, .ref l2], []⟩) (fun _ R s => s.heap.IsTuple l1 xs /\ s.heap.IsTuple l2 ys /\
      R (.ok<|.ret<|.ref (Ge s.heap l1 l2).objs.size) { s with heap := (Ge s.heap l1 l2).push { cls := .type "zip", data := .fields #[.none, .bool false, .bool false, .ref ((s.heap.push { cls := .type "tuple_iterator", data := .fields #[.ref l1, .int 0 0] }).push { cls := .type "tuple_iterator", data := .fields #[.ref l2, .int 0 0] }).objs.size,
        .ref (((s.heap.push { cls := .type "tuple_iterator", data := .fields #[.ref l1, .int 0 0] }).push { cls := .type "tuple_iterator", data := .fields #[.ref l2, .int 0 0] }).push
  { cls := .type "tuple", data := .seq #[.ref s.heap.objs.size, .ref (s.heap.push { cls := .type "tuple_iterator", data := .fields #[.ref l1, .int 0 0] }).objs.size] }).objs.size] } }) :=
  .of_wp fun prog w A R s h => by
    obtain ⟨hp, g, d, tk, os⟩ := s;obtain ⟨q1, q2, h⟩ := h;have JY := sub_zip;have m1 : Heap.IsTuple (Shared.heap ⟨hp, g, d, tk, os⟩) l1 xs := q1;have m2 : Heap.IsTuple (Shared.heap ⟨hp.push { cls := .type "tuple_iterator", data := .fields #[.ref l1, .int 0 0] }, g, d, tk, os⟩) l2 ys := fU q2 fun o e => Heap.get?_push_of_some _ e
    wp_walk using wpAny_pyIter_tuple m1, wpAny_pyIter_tuple m2
    exact ⟨_, rfl, h⟩
def K2(K:PySem.W.Frag)(a b:Addr):It:=
 ⟨fun i H=>∃ xs ys x y,A_ K H a xs/\A_ K H b ys/\xs[i]?=some x/\ys[i]?=some y,
  fun i H v H'=>∃ T x y,H T=none/\v=.ref T/\H'=upd H T (.tup [x,y])/\(∀ xs,A_ K H a xs->xs[i]?=some x)/\(∀ ys,A_ K H b ys->ys[i]?=some y),
  fun i H=>∃ xs ys,A_ K H a xs/\A_ K H b ys/\(xs.length<=i\/ys.length<=i)⟩
def oQ(a b z TI TO i1 i2:Addr)(i:Nat)(h:Heap):Prop:=IsZip h z TI TO .none/\IsPair h TI (.ref i1) (.ref i2)/\(∃ p q,IsPair h TO p q)/\h.IsTupleIter i1 a i/\h.IsTupleIter i2 b i
theorem xm{P:Program}{w:World}(a b z TI TO i1 i2:Addr)(D:ZipApart z TI TO i1 i2 a b):
  Turn P w K (.Tuple es ek pos) (K2 K a b) [z,TI,TO,i1,i2] z (oQ a b z TI TO i1 i2) where
 mem:=by simp
 obj:=fun i h st c hc=>by
  obtain⟨h1,h2,⟨p,q,h3⟩,⟨o4,e4,_,d4⟩,⟨o5,e5,_,d5⟩⟩:=st;simp only[mem_cons,mem_nil_iff,or_false] at hc;rcases hc with rfl | rfl | rfl | rfl | rfl
  ·exact⟨_,h1,fun v e=>by cases e⟩
  ·exact⟨_,h2,fun v e=>by cases e⟩
  ·exact⟨_,h3,fun v e=>by cases e⟩
  ·exact⟨_,e4,fun v e=>by rw[d4] at e;cases e⟩
  ·exact⟨_,e5,fun v e=>by rw[d5] at e;cases e⟩
 keep:=fun i h h' st k=>by
  obtain⟨h1,h2,⟨p,q,h3⟩,h4,h5⟩:=st;exact⟨k z (by simp) _ h1,k TI (by simp) _ h2,⟨p,q,k TO (by simp) _ h3⟩,cz h4 fun o e=>k i1 (by simp) o e,cz h5 fun o e=>k i2 (by simp) o e⟩
 item:=by
  intro X hP hw hK hc i pins s σ H E I hf st hg;subst hP hw hK;obtain⟨xs,ys,x,y,q1,q2,x1,y1⟩:=hg;obtain⟨f_,rv,p,hz⟩:=I.tuple q1;obtain⟨Eo,K3,p2,IW⟩:=I.tuple q2;obtain⟨u,hu,ru⟩:=rv.get x1;obtain⟨u2,OR,OS⟩:=K3.get y1;have there:=st;obtain⟨h1,h2,⟨pa,pb,h3⟩,h4,h5⟩:=st;have hT:s.TypeIs (.ref z) "zip" := ⟨_,h1,rfl⟩;unfold pyNext;refine wpAny_bind (wpAny_attempt (wpAny_callSpecial?_slot (name:=Str.ofString "__next__") hT F.slot_zip_next (wpAny_call_entry F.slot_zip_next hT F.entry_zip_next
   (xj (Q:=fun v s'=>wpAny (model X.prog X.w) X.A (pure<|some v) (fun r s1=>∃ u,r=some u/\wpAny (model X.prog X.w) X.A (letOwnedTupleGo (.Tuple es ek pos) (.ref z) u) (fun _ s2=>∃ x H',Inv X pins σ H' s2/\aq x u/\(K2 X.K a b).Jy i H x H'/\oQ a b z TI TO i1 i2 (i+1) s2.heap/\∀ b∈[z,TI,TO,i1,i2],H' b=none) E s1) E s')
    D h1 h2 h3 h4 h5 (show s.heap.IsTuple a f_.toArray from p) (show s.heap.IsTuple b Eo.toArray from p2) (x:=u) (y:=u2) (by simpa using hu) (by simpa using OR) fun h' g1 g2 g3 g4 g5 kk=>wpAny_pure ⟨_,rfl,?_⟩) (F.args_zip_next_1 _))));refine wpAny_letOwnedTupleGo_zip g1 fun IZ OT sb=>?_;have lt:∀ c∈[z,TI,TO,i1,i2],c<s.heap.objs.size:=fun c hc=>by
   obtain⟨h1,h2,⟨p,q,h3⟩,⟨o4,e4,_⟩,⟨o5,e5,_⟩⟩:=there;simp only[mem_cons,mem_nil_iff,or_false] at hc;rcases hc with rfl | rfl | rfl | rfl | rfl
   ·exact Heap.lt_size h1
   ·exact Heap.lt_size h2
   ·exact Heap.lt_size h3
   ·exact Heap.lt_size e4
   ·exact Heap.lt_size e5
  have kp:∀ c o,c∉[z,TI,TO,i1,i2]->s.heap.get? c=some o->IZ.get? c=some o:=fun c o hc e=>by
   simp only[mem_cons,mem_nil_iff,or_false,not_or] at hc;exact sb.extBut _ _ hc.1 (kk c o hc.1 hc.2.2.1 hc.2.2.2.1 hc.2.2.2.2 e)
  have zT:s.heap.objs.size≠z:=ne_of_gt (lt z (by simp));have fT:H s.heap.objs.size=none:=I.l_.fresh (Nat.le_refl _);refine⟨.ref s.heap.objs.size,upd H s.heap.objs.size<|.tup [x,y],I.JW (t':=s.toks) hf kp (Nat.le_refl _) ⟨by show 2<=sizeLine;decide,[u,u2],.cons ru<|.cons OS .nil,?_⟩,rfl,⟨_,x,y,fT,rfl,rfl,fun zs hz=>?_,fun zs hz=>?_⟩,?_,fun c hc=>?_⟩
  ·exact⟨_,sb.extBut _ _ zT g5,rfl,0,rfl⟩
  ·rw[I.DG hz q1];exact x1
  ·rw[I.DG hz q2];exact y1
  ·exact⟨OT,sb.extBut _ _ D.TIz<|kk _ _ D.TIz D.TITO D.TIi1 D.TIi2 h2,⟨_,_,sb.extBut _ _ D.TOz g2⟩,cz g3 fun o e=>sb.extBut _ o D.i1z e,cz g4 fun o e=>sb.extBut _ o D.i2z e⟩
  ·rw[aw (ne_of_lt<|lt c hc)];exact (hf c hc).1
 done:=by
  intro X hP hw hK hc i pins s σ H E I hf st hg;subst hP hw hK;obtain⟨xs,ys,q1,q2,EC⟩:=hg;obtain⟨f_,rv,p,hz⟩:=I.tuple q1;obtain⟨Eo,K3,p2,IW⟩:=I.tuple q2;obtain⟨h1,h2,⟨pa,pb,h3⟩,h4,h5⟩:=st;have hT:s.TypeIs (.ref z) "zip" := ⟨_,h1,rfl⟩;have l1:=rv.length;have l2:=K3.length;unfold pyNext;refine wpAny_bind (wpAny_attempt (wpAny_callSpecial?_slot (name:=Str.ofString "__next__") hT F.slot_zip_next (wpAny_call_entry F.slot_zip_next hT F.entry_zip_next
   (xk (I.ok.hd hc) D h1 h2 h3 h4 h5 (show s.heap.IsTuple a f_.toArray from p) (show s.heap.IsTuple b Eo.toArray from p2) (by
    rcases EC with h | h
    ·exact .inl (by simp;lia)
    ·exact .inr (by simp;lia)) fun h' e kk ⟨o,ho,I_⟩=>?_) (F.args_zip_next_1 _))))
  refine wpAny_bind (wpAny_isInstance (T := "StopIteration") (b:=true) ⟨o,ho,I_⟩ isSubtype_stop<|wpAny_pure ⟨rfl,I.JX (t':=s.toks) hf fun c o hc e=>?_⟩);simp only[mem_cons,mem_nil_iff,or_false,not_or] at hc;exact kk c o hc.1 hc.2.2.1 hc.2.2.2.1 hc.2.2.2.2 e
 self:=fun _ _ _ _ _ st h=>wpAny_pyIter_zip st.1 h
section
variable{X:Cx}
def xn(K:PySem.W.Frag)(ta:TA):TI:=fun σ H R=>ta σ H fun vs H1=>∃ a b,vs=[.ref a,.ref b]/\(∃ xs,A_ K H1 a xs)/\(∃ ys,A_ K H1 b ys)/\R (K2 K a b) H1
theorem xo{ta:TA}{p:Pos}{ps:Pos}(hg:Gl X "zip")(hm:X.mg "zip" = none)(ha:PA X [a,b] ta)(hs:starEach [a,b] X.env=[(false,eval a X.env),(false,eval b X.env)]:=by rfl)(G':starEach [b] X.env=[(false,eval b X.env)]:=by rfl):
  PI X (.Tuple es ek ps) (.Call (.Name "zip" p) [a,b] [] pos) (xn X.K ta):=by
 intro pins s σ H R I h;refine Call_ (eU I hg hm boot_zip (PyProof.Rows.callWith_type1 (u_ (ha pos pins s σ H _ I h) fun us s1 ⟨vs,H1,I1,r1,q1⟩=>?_) (by rw[hs,G']) (by rw[G'];rfl)));obtain⟨l1,l2,e,⟨xs,hx⟩,⟨ys,hy⟩,q⟩:=q1;subst e;cases r1 with
 | cons r rr=>
  cases rr with
  | cons r' rr=>
   cases rr;cases r;cases r';obtain⟨f_,rv,p,hz⟩:=I1.tuple hx;obtain⟨Eo,K3,p2,IW⟩:=I1.tuple hy;have L_:l1<s1.heap.objs.size:=by obtain⟨o,e,_⟩:=p;exact Heap.lt_size e
   have OU:l2<s1.heap.objs.size:=by obtain⟨o,e,_⟩:=p2;exact Heap.lt_size e
   refine callType_new F.called_zip (by decide) (F.typeCall_zip_2 _ _) (F.newCall_zip_2 _ _) (fun obj=>F.args_object_init_3 obj _ _) F.entry_zip_new (xl l1 l2 f_.toArray Eo.toArray) ⟨p,p2,?_⟩;have z1:(s1.heap.push { cls:=.type "tuple_iterator",data:=.fields #[.ref l1,.int 0 0] }).objs.size=s1.heap.objs.size+1:=Heap.size_push ..;have z2:((s1.heap.push { cls:=.type "tuple_iterator",data:=.fields #[.ref l1,.int 0 0] }).push { cls:=.type "tuple_iterator",data:=.fields #[.ref l2,.int 0 0] }).objs.size=s1.heap.objs.size+2:=by rw[Heap.size_push,z1]
   have z3:(((s1.heap.push { cls:=.type "tuple_iterator",data:=.fields #[.ref l1,.int 0 0] }).push { cls:=.type "tuple_iterator",data:=.fields #[.ref l2,.int 0 0] }).push
    { cls:=.type "tuple",data:=.seq #[.ref s1.heap.objs.size,.ref (s1.heap.push { cls:=.type "tuple_iterator",data:=.fields #[.ref l1,.int 0 0] }).objs.size] }).objs.size=s1.heap.objs.size+3:=by rw[Heap.size_push,z2]
   have z4:(Ge s1.heap l1 l2).objs.size=s1.heap.objs.size+4:=by unfold Ge;rw[Heap.size_push,z3]
   show _/\_;refine⟨⟨_,Heap.get?_push_size _ rfl,rfl⟩,wpAny_pyIter_zip (TI:=s1.heap.objs.size+2) (TO:=s1.heap.objs.size+3) (f0:=.none) ?_ ?_⟩
   ·rw[z2,z3];exact Heap.get?_push_size _ rfl
   ·rw[z2,z3,z4];have g5:((Ge s1.heap l1 l2).push { cls:=.type "zip",data:=.fields #[.none,.bool false,.bool false,.ref<|s1.heap.objs.size+2,.ref<|s1.heap.objs.size+3] }).get? (s1.heap.objs.size+4)=some { cls:=.type "zip",data:=.fields #[.none,.bool false,.bool false,.ref<|s1.heap.objs.size+2,.ref<|s1.heap.objs.size+3] }:=by rw[<- z4];exact Heap.get?_push_size _ rfl
    have g4:((Ge s1.heap l1 l2).push { cls:=.type "zip",data:=.fields #[.none,.bool false,.bool false,.ref<|s1.heap.objs.size+2,.ref<|s1.heap.objs.size+3] }).get? (s1.heap.objs.size+3)=some { cls:=.type "tuple",data:=.seq #[.none,.none] }:=by
     rw[<- z3];exact Heap.get?_push_of_some _ (Heap.get?_push_size _ rfl)
    have g3:((Ge s1.heap l1 l2).push { cls:=.type "zip",data:=.fields #[.none,.bool false,.bool false,.ref<|s1.heap.objs.size+2,.ref<|s1.heap.objs.size+3] }).get? (s1.heap.objs.size+2)=some { cls:=.type "tuple",data:=.seq #[.ref s1.heap.objs.size,.ref<|s1.heap.objs.size+1] }:=by
     rw[<- z2,<- z1];exact Heap.get?_push_of_some _ (Heap.get?_push_of_some _<|Heap.get?_push_size _ rfl)
    have g2:((Ge s1.heap l1 l2).push { cls:=.type "zip",data:=.fields #[.none,.bool false,.bool false,.ref<|s1.heap.objs.size+2,.ref<|s1.heap.objs.size+3] }).get? (s1.heap.objs.size+1)=some { cls:=.type "tuple_iterator",data:=.fields #[.ref l2,.int 0 0] }:=by
     rw[<- z1];exact Heap.get?_push_of_some _ (Heap.get?_push_of_some _<|Heap.get?_push_of_some _<|Heap.get?_push_size _ rfl)
    have g1:((Ge s1.heap l1 l2).push { cls:=.type "zip",data:=.fields #[.none,.bool false,.bool false,.ref<|s1.heap.objs.size+2,.ref<|s1.heap.objs.size+3] }).get? s1.heap.objs.size=some { cls:=.type "tuple_iterator",data:=.fields #[.ref l1,.int 0 0] }:=
     Heap.get?_push_of_some _ (Heap.get?_push_of_some _<|Heap.get?_push_of_some _<|Heap.get?_push_of_some _<|Heap.get?_push_size _ rfl);have kp:∀ c o,s1.heap.get? c=some o->((Ge s1.heap l1 l2).push { cls:=.type "zip",data:=.fields #[.none,.bool false,.bool false,.ref<|s1.heap.objs.size+2,.ref<|s1.heap.objs.size+3] }).get? c=some o:=fun c o e=>
     Heap.get?_push_of_some _ (Heap.get?_push_of_some _<|Heap.get?_push_of_some _<|Heap.get?_push_of_some _<|Heap.get?_push_of_some _ e);generalize ((Ge s1.heap l1 l2).push { cls:=.type "zip",data:=.fields #[.none,.bool false,.bool false,.ref<|s1.heap.objs.size+2,.ref<|s1.heap.objs.size+3] })=h5 at g1 g2 g3 g4 g5 kp ⊢;have D:ZipApart (s1.heap.objs.size+4) (s1.heap.objs.size+2) (s1.heap.objs.size+3) s1.heap.objs.size (s1.heap.objs.size+1) l1 l2:=PySem.W.ktu_apart _ _ _ L_ OU;refine⟨_,_,_,_,H1,rfl,I1.kept (t':=s1.toks) kp,xm l1 l2 _ _ _ _ _ D,⟨g5,g3,⟨_,_,g4⟩,⟨_,g1,rfl,rfl⟩,⟨_,g2,rfl,rfl⟩⟩,fun c hc=>?_,q⟩;have:s1.heap.objs.size<=c:=by
     simp only[mem_cons,mem_nil_iff,or_false] at hc;rcases hc with rfl | rfl | rfl | rfl | rfl
     ·exact le_add_right _ _
     ·exact le_add_right _ _
     ·exact le_add_right _ _
     ·exact Nat.le_refl _
     ·exact le_add_right _ _
    exact I1.GP this (I1.l_.fresh this)
end
def oR(K:PySem.W.Frag)(H:Hp)(x:V)(T:String)(b:Bool):Prop:=
 (∃ i,x=.int i/\((T = "int" /\ b=true)\/(T = "tuple" /\ b=false)\/(T = "str" /\ b=false)\/(T = "bool" /\ b=false)\/(T = "list" /\ b=false)))\/
 (∃ i,x=.bl i/\((T = "bool" /\ b=true)\/(T = "int" /\ b=true)\/(T = "tuple" /\ b=false)\/(T = "str" /\ b=false)\/(T = "list" /\ b=false)))\/
 (∃ i,x=.str i/\((T = "str" /\ b=true)\/(T = "int" /\ b=false)\/(T = "tuple" /\ b=false)\/(T = "bool" /\ b=false)\/(T = "list" /\ b=false)))\/
 (∃ a xs,x=.ref a/\A_ K H a xs/\((T = "tuple" /\ b=true)\/(T = "int" /\ b=false)\/(T = "str" /\ b=false)\/(T = "bool" /\ b=false)\/(T = "list" /\ b=false)))\/
 (∃ a xs,x=.ref a/\CT K H a xs/\((T = "list" /\ b=true)\/(T = "int" /\ b=false)\/(T = "str" /\ b=false)\/(T = "bool" /\ b=false)\/(T = "tuple" /\ b=false)))
section
variable{X:Cx}
theorem xp:aX X (.builtin "isinstance") (fun xs H Q=>∃ x T b,xs=[x,.ty T]/\oR X.K H x T b/\Q (.bl b) H):=by
 intro pins s σ H xs us Q I r h;obtain⟨x,T,b,rfl,hi,q⟩:=h;cases r with
 | cons r rr=>
  cases rr with
  | cons r' rr=>
   cases rr;cases r';have f0:∀ {b:Bool},Q (.bl b) H->EP X pins σ Q (.bool b) s:=fun {b} q=>⟨.bl b,H,I,rfl,q⟩;have f1:∀ {b:Bool},Q (.bl b) H->EP X pins σ Q (.bool b) { s with toks:=s.toks+1 }:=fun {b} q=>⟨.bl b,H,I.tok _,rfl,q⟩;rcases hi with ⟨i,rfl,hi⟩ | ⟨i,rfl,hi⟩ | ⟨i,rfl,hi⟩ | ⟨a,xs,rfl,hs,hi⟩ | ⟨a,xs,rfl,hs,hi⟩
   ·obtain⟨t,rfl⟩:=r;rcases hi with ⟨rfl,rfl⟩ | ⟨rfl,rfl⟩ | ⟨rfl,rfl⟩ | ⟨rfl,rfl⟩ | ⟨rfl,rfl⟩
    ·exact IsiPair.int_int (f0 q)
    ·exact IsiPair.int_tuple (f1 q)
    ·exact IsiPair.int_str (f1 q)
    ·exact IsiPair.int_bool (f1 q)
    ·exact IsiPair.int_list (f1 q)
   ·cases r;rcases hi with ⟨rfl,rfl⟩ | ⟨rfl,rfl⟩ | ⟨rfl,rfl⟩ | ⟨rfl,rfl⟩ | ⟨rfl,rfl⟩
    ·exact IsiPair.bool_bool (f0 q)
    ·exact IsiPair.bool_int (f0 q)
    ·exact IsiPair.bool_tuple (f1 q)
    ·exact IsiPair.bool_str (f1 q)
    ·exact IsiPair.bool_list (f1 q)
   ·obtain⟨t,rfl⟩:=r;rcases hi with ⟨rfl,rfl⟩ | ⟨rfl,rfl⟩ | ⟨rfl,rfl⟩ | ⟨rfl,rfl⟩ | ⟨rfl,rfl⟩
    ·exact IsiPair.str_str (f0 q)
    ·exact IsiPair.str_int (f1 q)
    ·exact IsiPair.str_tuple (f1 q)
    ·exact IsiPair.str_bool (f1 q)
    ·exact IsiPair.str_list (f1 q)
   ·cases r;obtain⟨f_,rv,⟨o,ho,hc,_⟩,hz⟩:=I.tuple hs;rcases hi with ⟨rfl,rfl⟩ | ⟨rfl,rfl⟩ | ⟨rfl,rfl⟩ | ⟨rfl,rfl⟩ | ⟨rfl,rfl⟩
    ·exact IsiPair.tuple_tuple ho hc (f0 q)
    ·exact IsiPair.tuple_int ho hc (f1 q)
    ·exact IsiPair.tuple_str ho hc (f1 q)
    ·exact IsiPair.tuple_bool ho hc (f1 q)
    ·exact IsiPair.tuple_list ho hc (f1 q)
   ·cases r;obtain⟨f_,rv,p,hz⟩:=I.list hs;obtain⟨o,ho,hc,_⟩:=p.isList;rcases hi with ⟨rfl,rfl⟩ | ⟨rfl,rfl⟩ | ⟨rfl,rfl⟩ | ⟨rfl,rfl⟩ | ⟨rfl,rfl⟩
    ·exact IsiPair.list_list ho hc (f0 q)
    ·exact IsiPair.list_int ho hc (f1 q)
    ·exact IsiPair.list_str ho hc (f1 q)
    ·exact IsiPair.list_bool ho hc (f1 q)
    ·exact IsiPair.list_tuple ho hc (f1 q)
theorem oT:∀ {bs:List Bool}{us:List Value},ak (bs.map V.bl) us->∀ (i:Nat) (v:Value),us[i]?=some v->∃ b,bs[i]?=some b/\v=Value.bool b:=by
 intro bs us r i v h;have hl:=r.length;rw[length_map] at hl;have hi:i<bs.length:=by rw[hl];exact (List.getElem?_eq_some_iff.mp h).1
 obtain⟨u,hu,ru⟩:=r.get (i:=i) (x:=V.bl bs[i]) (by simp[hi]);rw[h] at hu;cases hu;exact⟨bs[i],by simp[hi],ru⟩
theorem xq(hc:X.calm=true):aX X (.builtin "all") (fun xs H Q=>∃ l bs,xs=[.ref l]/\H l=some (.lst<|List.map V.bl bs)/\Q (.bl<|bs.all id) H):=by
 intro pins s σ H xs us Q I r h;obtain⟨l,bs,rfl,hl,q⟩:=h;obtain⟨u,rfl,ru⟩:=ci r;cases ru;obtain⟨z,f_,n,rv,e⟩:=I.l_ l _ hl;have JZ:s.heap.IsList l f_.toArray:=⟨_,e,rfl,n,rfl⟩;refine call_all_walk (wpAny_pyIter_list JZ ⟨s.heap.objs.size,[s.heap.objs.size,l],[s.heap.objs.size],f_.toArray.size,_,_,fun i=>(bs[i]?).getD true,rfl,Walks.list (A:=X.A.in1) (I.ok.hd hc) _ l (ne_of_lt<|Heap.lt_size e) f_.toArray,
  ⟨⟨_,Heap.get?_push_size _ rfl,rfl,rfl⟩,JZ.push _⟩,fun i v s' Q' E' hP hQ=>?_,fun h' tk hk=>?_⟩)
 ·obtain⟨b,eb,rfl⟩:=oT rv i v (by simpa using hP);simp only[eb,getD_some] at hQ;exact wpAny_truthy_bool hQ
 ·have el:f_.toArray.size=bs.length:=by
   have:=rv.length;rw[length_map] at this;rw[size_toArray,this]
  rw[el,LSm.range_all];exact⟨.bl _,H,I.kept<|LSm.kept_iter hk,rfl,q⟩
theorem xr:Dg X (binaryOp .Mult) (rI IntMulOk fun i j=>.int<|i * j):=KQ fun _ _ _ _ _ _ _ hc q=>mul_int q hc
end
inductive Vl where
 | im (d:Im)
 | jk
 | fz (ds:List Im)
 | lst (ds:List Im)
 | dK (kvs:List (Key×Im))
 | dT (kvs:List (List Im×Im))
 | DH (xs:List Vl)
 | K4 (ks:List (List Im)) (xs:List Vl)
 | Ja (xs:List Vl)
 | obj (C:Addr) (ns:List Str) (xs:List Vl)
variable{op:List Vl->Option Vl}{f:Vl->Vl->Option Vl}{o:Option Vl}{d:Vl}
abbrev SD:=List (Option Vl)
variable{D' D:SD}{h:List Vl->SD->Option SD}
abbrev Ek{κ:Type}(H:Hp):List (κ×Im)->List (κ×V)->Prop:=Paired fun p q=>p.1=q.1/\CL H p.2 q.2
theorem Ek.mono{κ:Type}{l:List (κ×Im)}{m:List (κ×V)}(t:Fq H H')(h:Ek H l m):Ek H' l m:=Paired.GL h fun _ _ z=>⟨z.1,z.2.mono t⟩
structure y_(H H':Hp):Prop where
 tup:Fq H H'
 Da:∀ a o u,H a=some (.Da o u)->H' a=some (.Da o u)
mutual
def Own(H:Hp):Vl->V->List Addr->Prop
 | .im d,v,F=>CL H d v/\F=[]
 | .jk,_,F=>F=[]
 | .fz ds,v,F=>∃ a xs o,v=.ref a/\H a=some (.Da o<|.lst xs)/\aj H ds xs/\F=[]
 | .lst ds,v,F=>∃ a xs,v=.ref a/\H a=some (.lst xs)/\aj H ds xs/\F=[a]
 | .dK kvs,v,F=>∃ a Dh,v=.ref a/\H a=some (.dK Dh)/\Ek H kvs Dh/\F=[a]
 | .dT kvs,v,F=>∃ a Dh,v=.ref a/\H a=some (.dT Dh)/\Ek H kvs Dh/\F=[a]
 | .DH ds,v,F=>∃ a xs G,v=.ref a/\H a=some (.lst xs)/\aH H ds xs G/\F=a::G
 | .K4 ks ds,v,F=>∃ a Dh G,v=.ref a/\H a=some (.dT Dh)/\Dh.map (·.1)=ks/\aH H ds (Dh.map (·.2)) G/\F=a::G
 | .Ja ds,v,F=>∃ a xs,v=.ref a/\H a=some (.tup xs)/\aH H ds xs F
 | .obj C ns ds,v,F=>∃ a dx fs G,v=.ref a/\H a=some (.ins C dx fs)/\fs.map (·.1)=ns/\aH H ds (fs.map (·.2)) G/\F=a::G
def aH(H:Hp):List Vl->List V->List Addr->Prop
 | [],vs,F=>vs=[]/\F=[]
 | d::ds,vs,F=>∃ v r F1 F2,vs=v::r/\Own H d v F1/\aH H ds r F2/\F=F1++F2
end
mutual
theorem Own.mono{H H':Hp}(t:y_ H H'):∀ {d:Vl}{v:V}{F:List Addr},Own H d v F->(∀ a∈F,∀ o,H a=some o->H' a=some o)->Own H' d v F
 | .im d,v,F,h,_=>⟨h.1.mono t.tup,h.2⟩
 | .jk,v,F,h,_=>h
 | .fz ds,v,F,h,_=>by
  obtain⟨a,xs,o,rfl,h1,h2,rfl⟩:=h;exact⟨a,xs,o,rfl,t.Da _ _ _ h1,h2.mono t.tup,rfl⟩
 | .lst ds,v,F,h,k=>by
  obtain⟨a,xs,rfl,h1,h2,rfl⟩:=h;exact⟨a,xs,rfl,k a (.head _) _ h1,h2.mono t.tup,rfl⟩
 | .dK kvs,v,F,h,k=>by
  obtain⟨a,xs,rfl,h1,h2,rfl⟩:=h;exact⟨a,xs,rfl,k a (.head _) _ h1,h2.mono t.tup,rfl⟩
 | .dT kvs,v,F,h,k=>by
  obtain⟨a,xs,rfl,h1,h2,rfl⟩:=h;exact⟨a,xs,rfl,k a (.head _) _ h1,h2.mono t.tup,rfl⟩
 | .DH ds,v,F,h,k=>by
  obtain⟨a,xs,G,rfl,h1,h2,rfl⟩:=h;exact⟨a,xs,G,rfl,k a (.head _) _ h1,aH.mono t h2 fun b hb=>k b<|.tail _ hb,rfl⟩
 | .K4 ks ds,v,F,h,k=>by
  obtain⟨a,xs,G,rfl,h1,hk,h2,rfl⟩:=h;exact⟨a,xs,G,rfl,k a (.head _) _ h1,hk,aH.mono t h2 fun b hb=>k b<|.tail _ hb,rfl⟩
 | .Ja ds,v,F,h,k=>by
  obtain⟨a,xs,rfl,h1,h2⟩:=h;exact⟨a,xs,rfl,t.tup a xs h1,aH.mono t h2 k⟩
 | .obj C ns ds,v,F,h,k=>by
  obtain⟨a,dx,fs,G,rfl,h1,hk,h2,rfl⟩:=h;exact⟨a,dx,fs,G,rfl,k a (.head _) _ h1,hk,aH.mono t h2 fun b hb=>k b<|.tail _ hb,rfl⟩
theorem aH.mono{H H':Hp}(t:y_ H H'):∀ {ds:List Vl}{vs:List V}{F:List Addr},aH H ds vs F->(∀ a∈F,∀ o,H a=some o->H' a=some o)->aH H' ds vs F
 | [],vs,F,h,_=>h
 | d::ds,vs,F,h,k=>by
  obtain⟨v,r,F1,F2,rfl,h1,h2,rfl⟩:=h;exact⟨v,r,F1,F2,rfl,Own.mono t h1 fun a ha=>k a<|mem_append_left _ ha,aH.mono t h2 fun a ha=>k a<|mem_append_right _ ha,rfl⟩
end
def ER(H:Hp)(a:Addr):Prop:=∃ o,H a=some o/\(∀ xs,o≠.tup xs)/\∀ p u,o≠.Da p u
mutual
theorem Own.chg{H:Hp}:∀ {d:Vl}{v:V}{F:List Addr},Own H d v F->∀ a∈F,ER H a
 | .im d,v,F,h,a,ha=>by rw[h.2] at ha;cases ha
 | .jk,v,F,h,a,ha=>by rw[show F=[] from h] at ha;cases ha
 | .fz ds,v,F,h,b,hb=>by
  obtain⟨a,xs,o,rfl,h1,h2,rfl⟩:=h;cases hb
 | .lst ds,v,F,h,b,hb=>by
  obtain⟨a,xs,rfl,h1,h2,rfl⟩:=h;rw[mem_singleton.mp hb];exact⟨_,h1,(fun _ e=>by cases e),(fun _ _ e=>by cases e)⟩
 | .dK kvs,v,F,h,b,hb=>by
  obtain⟨a,xs,rfl,h1,h2,rfl⟩:=h;rw[mem_singleton.mp hb];exact⟨_,h1,(fun _ e=>by cases e),(fun _ _ e=>by cases e)⟩
 | .dT kvs,v,F,h,b,hb=>by
  obtain⟨a,xs,rfl,h1,h2,rfl⟩:=h;rw[mem_singleton.mp hb];exact⟨_,h1,(fun _ e=>by cases e),(fun _ _ e=>by cases e)⟩
 | .DH ds,v,F,h,b,hb=>by
  obtain⟨a,xs,G,rfl,h1,h2,rfl⟩:=h;rcases mem_cons.mp hb with rfl | hb
  ·exact⟨_,h1,(fun _ e=>by cases e),(fun _ _ e=>by cases e)⟩
  ·exact aH.chg h2 b hb
 | .K4 ks ds,v,F,h,b,hb=>by
  obtain⟨a,xs,G,rfl,h1,hk,h2,rfl⟩:=h;rcases mem_cons.mp hb with rfl | hb
  ·exact⟨_,h1,(fun _ e=>by cases e),(fun _ _ e=>by cases e)⟩
  ·exact aH.chg h2 b hb
 | .Ja ds,v,F,h,b,hb=>by
  obtain⟨a,xs,rfl,h1,h2⟩:=h;exact aH.chg h2 b hb
 | .obj C ns ds,v,F,h,b,hb=>by
  obtain⟨a,dx,fs,G,rfl,h1,hk,h2,rfl⟩:=h;rcases mem_cons.mp hb with rfl | hb
  ·exact⟨_,h1,(fun _ e=>by cases e),(fun _ _ e=>by cases e)⟩
  ·exact aH.chg h2 b hb
theorem aH.chg{H:Hp}:∀ {ds:List Vl}{vs:List V}{F:List Addr},aH H ds vs F->∀ a∈F,ER H a
 | [],vs,F,h,a,ha=>by rw[h.2] at ha;cases ha
 | d::ds,vs,F,h,a,ha=>by
  obtain⟨v,r,F1,F2,rfl,h1,h2,rfl⟩:=h;rcases mem_append.mp ha with ha | ha
  ·exact Own.chg h1 a ha
  ·exact aH.chg h2 a ha
end
theorem aH.length:∀ {ds:List Vl}{vs:List V}{F:List Addr},aH H ds vs F->ds.length=vs.length
 | [],vs,F,h=>by rw[h.1];rfl
 | d::ds,vs,F,h=>by
  obtain⟨v,r,F1,F2,rfl,h1,h2,rfl⟩:=h;rw[length_cons,length_cons,h2.length]
theorem aj.length:∀ {ds:List Im}{vs:List V},aj H ds vs->ds.length=vs.length
 | [],vs,h=>by rw[show vs=[] from h];rfl
 | d::ds,vs,h=>by
  obtain⟨v,r,rfl,h1,h2⟩:=h;rw[length_cons,length_cons,h2.length]
def d7(H:Hp):Option Vl->Option V->List Addr->Prop
 | none,_,F=>F=[]
 | some d,x,F=>∃ v,x=some v/\Own H d v F
def ai(H:Hp):SD->St->List Addr->Prop
 | [],σ,F=>σ=[]/\F=[]
 | o::D,σ,F=>∃ x r F1 F2,σ=x::r/\d7 H o x F1/\ai H D r F2/\F=F1++F2
structure m_(H:Hp)(F:List Addr)(H':Hp)(F':List Addr):Prop where
 keep:∀ a o,H a=some o->a∉F->H' a=some o
 sub:∀ a∈F',a∈F\/H a=none
 nd:F'.Nodup
 tup:y_ H H'
 grow:∀ a o,H a=some o->∃ o',H' a=some o'
theorem d7.mono(t:y_ H H'):∀ {o:Option Vl}{x:Option V}{F:List Addr},d7 H o x F->(∀ a∈F,∀ o,H a=some o->H' a=some o)->d7 H' o x F
 | none,_,_,h,_=>h
 | some d,x,F,h,k=>by
  obtain⟨v,rfl,h⟩:=h;exact⟨v,rfl,h.mono t k⟩
theorem ai.mono{H H':Hp}(t:y_ H H'):∀ {D:SD}{σ:St}{F:List Addr},ai H D σ F->(∀ a∈F,∀ o,H a=some o->H' a=some o)->ai H' D σ F
 | [],σ,F,h,_=>h
 | o::D,σ,F,h,k=>by
  obtain⟨x,r,F1,F2,rfl,h1,h2,rfl⟩:=h;exact⟨x,r,F1,F2,rfl,h1.mono t fun a ha=>k a<|mem_append_left _ ha,ai.mono t h2 fun a ha=>k a<|mem_append_right _ ha,rfl⟩
theorem d7.chg:∀ {o:Option Vl}{x:Option V}{F:List Addr},d7 H o x F->∀ a∈F,ER H a
 | none,_,F,h,a,ha=>by rw[show F=[] from h] at ha;cases ha
 | some d,x,F,h,a,ha=>by
  obtain⟨v,rfl,h⟩:=h;exact h.chg a ha
theorem ai.chg{H:Hp}:∀ {D:SD}{σ:St}{F:List Addr},ai H D σ F->∀ a∈F,ER H a
 | [],σ,F,h,a,ha=>by rw[h.2] at ha;cases ha
 | o::D,σ,F,h,a,ha=>by
  obtain⟨x,r,F1,F2,rfl,h1,h2,rfl⟩:=h;rcases mem_append.mp ha with ha | ha
  ·exact h1.chg a ha
  ·exact ai.chg h2 a ha
theorem ai.len{H:Hp}:∀ {D:SD}{σ:St}{F:List Addr},ai H D σ F->D.length=σ.length
 | [],σ,F,h=>by rw[h.1];rfl
 | o::D,σ,F,h=>by
  obtain⟨x,r,F1,F2,rfl,h1,h2,rfl⟩:=h;rw[length_cons,length_cons,ai.len h2]
def Vl.cp:Vl->Bool
 | .im _=>true
 | .fz _=>true
 | _=>false
theorem Own.cp(h:Own H d v F)(c:d.cp=true):F=[]:=by
 cases d with
 | im d=>exact h.2
 | fz ds=>obtain⟨a,xs,o,rfl,h1,h2,rfl⟩:=h;rfl
 | _=>cases c
theorem ai.out{H:Hp}:∀ {D:SD}{σ:St}{F:List Addr}{i:Nat}{d:Vl},ai H D σ F->D[i]?=some (some d)->∃ v F1 F2,σ[i]?=some (some v)/\Own H d v F1/\ai H (D.set i<|some .jk) σ F2/\(F2++F1).Perm F
 | [],σ,F,i,d,h,e=>by simp at e
 | o::D,σ,F,0,d,h,e=>by
  obtain⟨x,r,F1,F2,rfl,h1,h2,rfl⟩:=h;simp at e;subst e;obtain⟨v,rfl,h1⟩:=h1;exact⟨v,F1,F2,rfl,h1,⟨some v,r,[],F2,rfl,⟨v,rfl,rfl⟩,h2,rfl⟩,perm_append_comm⟩
 | o::D,σ,F,i+1,d,h,e=>by
  obtain⟨x,r,F1,F2,rfl,h1,h2,rfl⟩:=h;obtain⟨v,G1,G2,g1,g2,g3,g4⟩:=ai.out (i:=i) h2 (by simpa using e);refine⟨v,G1,F1++G2,by simpa using g1,g2,⟨x,r,F1,G2,rfl,h1,g3,rfl⟩,?_⟩;rw[List.append_assoc];exact List.Perm.append_left _ g4
theorem ai.put{H:Hp}:∀ {D:SD}{σ:St}{F:List Addr}{i:Nat}{d:Vl}{v:V}{G:List Addr},ai H D σ F->Own H d v G->i<D.length->∃ F1 F2,ai H (D.set i<|some d) (σ.set i<|some v) F1/\(F1++F2).Perm (F++G)
 | [],σ,F,i,d,v,G,h,w,l=>by simp at l
 | o::D,σ,F,0,d,v,G,h,w,l=>by
  obtain⟨x,r,F1,F2,rfl,h1,h2,rfl⟩:=h;refine⟨G++F2,F1,⟨some v,r,G,F2,rfl,⟨v,rfl,w⟩,h2,rfl⟩,?_⟩;refine perm_append_comm.trans ?_;rw[List.append_assoc];exact List.Perm.append_left _ perm_append_comm
 | o::D,σ,F,i+1,d,v,G,h,w,l=>by
  obtain⟨x,r,F1,F2,rfl,h1,h2,rfl⟩:=h;obtain⟨G1,G2,g1,g2⟩:=ai.put (i:=i) h2 w (by simpa using l);refine⟨F1++G1,G2,⟨x,_,F1,G1,rfl,h1,g1,rfl⟩,?_⟩;rw[List.append_assoc,List.append_assoc];exact List.Perm.append_left _ g2
theorem ai.cp{i:Nat}(h:ai H D σ F)(e:D[i]?=some (some d))(c:d.cp=true):∃ v,σ[i]?=some (some v)/\Own H d v []:=by
 obtain⟨v,F1,F2,g1,g2,_⟩:=h.out e;obtain rfl:=g2.cp c;exact⟨v,g1,g2⟩
theorem xt{i:Nat}(h:σ[i]?=some (some v)):σ.set i (some v)=σ:=by
 refine ext_getElem? fun j=>?_;by_cases e:i=j
 ·subst e;rw[h,List.getElem?_set_self (List.getElem?_eq_some_iff.mp h).1]
 ·rw[getElem?_set_ne e]
theorem ai.back{i:Nat}(h:ai H D σ F)(w:Own H d v G)(hv:σ[i]?=some (some v)):∃ F1 F2,ai H (D.set i<|some d) σ F1/\(F1++F2).Perm (F++G):=by
 have l:i<D.length:=by rw[h.len];exact (List.getElem?_eq_some_iff.mp hv).1
 obtain⟨F1,F2,h1,h2⟩:=h.put (i:=i) w l;rw[xt hv] at h1;exact⟨F1,F2,h1,h2⟩
theorem y_.of(f:gI H H')(g:∀ a o u,H a=some (.Da o u)->H' a=some (.Da o u)):y_ H H':=⟨⟨f,g⟩,g⟩
theorem xu(H:Hp):y_ H H:=⟨⟨fun _ _ e=>e,fun _ _ _ e=>e⟩,fun _ _ _ e=>e⟩
theorem y_.trans(a:y_ H H1)(b:y_ H1 H2):y_ H H2:=⟨⟨fun x xs e=>b.tup.t x xs<|a.tup.t x xs e,fun x o u e=>b.Da x o u<|a.Da x o u e⟩,fun x o u e=>b.Da x o u<|a.Da x o u e⟩
theorem m_.refl(h:F'.Nodup)(s:∀ a∈F',a∈F):m_ H F H F':=⟨fun _ _ e _=>e,fun a ha=>.inl<|s a ha,h,xu H,fun _ o e=>⟨o,e⟩⟩
theorem m_.perm(h:F.Nodup)(p:F'.Perm F):m_ H F H F':=m_.refl ((p.nodup_iff).mpr h) fun a ha=>p.mem_iff.mp ha
theorem m_.trans(a:m_ H F H1 (F1++R))(b:m_ H1 F1 H2 F2)(cr:∀ x∈R,ER H1 x):m_ H F H2 (F2++R):=by
 have nd:=nodup_append.mp a.nd;have al:∀ x∈F2,x∉R:=fun x hx hr=>by
  rcases b.sub x hx with h | h
  ·exact nd.2.2 x h x hr rfl
  ·obtain⟨o,e,_⟩:=cr x hr;rw[e] at h;cases h
 refine⟨fun x o e hx=>?_,fun x hx=>?_,nodup_append.mpr ⟨b.nd,nd.2.1,fun x hx y hy e=>al x hx<|e ▸ hy⟩,a.tup.trans b.tup,fun x o e=>let ⟨o',e'⟩:=a.grow x o e;b.grow x o' e'⟩
 ·refine b.keep x o (a.keep x o e hx) fun h1=>?_;rcases a.sub x (mem_append_left _ h1) with h | h
  ·exact hx h
  ·rw[e] at h;cases h
 ·rcases mem_append.mp hx with hx | hx
  ·rcases b.sub x hx with h | h
   ·exact a.sub x (mem_append_left _ h)
   ·refine .inr ?_;cases e:H x with
    | none=>rfl
    | some o=>
     obtain⟨o',e'⟩:=a.grow x o e;rw[e'] at h;cases h
  ·exact a.sub x (mem_append_right _ hx)
theorem aB.tupS(s:aB H H'):y_ H H':=⟨⟨fun a xs e=>s a _ e,fun a o u e=>s a _ e⟩,fun a o u e=>s a _ e⟩
theorem xv{a b:Addr}{o u:HO}(e:H b=some o)(h:H a=none):L2.upd H a u b=some o:=by rw[aw (bS e h)];exact e
theorem aB.upd(s:aB H H'){a:Addr}{o:HO}(h:H' a=none):aB H (L2.upd H' a o):=fun b u e=>xv (s b u e) h
abbrev M(α:Type):=SD->Option (α×SD)
variable{ge:M Vl}{gc k:M Bool}
inductive Opd where
 | sl (i:Nat)
 | vl (d:Vl)
variable{gb ga:M Opd}{g:M (List Opd)}
def rsl(D:SD):Opd->Option Vl
 | .sl i=>(D[i]?).getD none
 | .vl d=>some d
def b7(H:Hp)(σ:St):Opd->V->List Addr->Prop
 | .sl i,v,R=>σ[i]?=some (some v)/\R=[]
 | .vl d,v,R=>Own H d v R
def tV(g:M Vl):TE:=fun σ H Q=>∃ D F r D',ai H D σ F/\F.Nodup/\g D=some (r,D')/\∀ v H' F' R,ai H' D' σ F'->Own H' r v R->m_ H F H' (F'++R)->Q v H'
def tO(g:M Opd):TE:=fun σ H Q=>∃ D F r D',ai H D σ F/\F.Nodup/\g D=some (r,D')/\∀ v H' F' R,ai H' D' σ F'->b7 H' σ r v R->m_ H F H' (F'++R)->Q v H'
def FQ(g:M Bool):TT:=fun σ H Q=>∃ D F b D',ai H D σ F/\F.Nodup/\g D=some (b,D')/\∀ H' F',ai H' D' σ F'->m_ H F H' F'->Q b H'
def VE(X:Cx)(e:Expr)(g:M Vl):Prop:=∀ ⦃p⦄,Ly X e (tV g) p
def VO(X:Cx)(e:Expr)(g:M Opd):Prop:=∀ ⦃p⦄,Ly X e (tO g) p
def VT(X:Cx)(e:Expr)(g:M Bool):Prop:=∀ ⦃p⦄,M_ X e (FQ g) p
theorem aR{t t':TE}(h:PE X e t)(i:∀ σ H Q,t' σ H Q->t σ H Q):PE X e t':=fun pins s σ H Q I hw=>h pins s σ H Q I (i σ H Q hw)
theorem k7{t:TT}(h:PT X e t)(i:∀ σ H Q,t' σ H Q->t σ H Q):PT X e t':=fun pins s σ H Q I hw=>h pins s σ H Q I (i σ H Q hw)
theorem b7.mono{r:Opd}(h:b7 H σ r v R)(t:y_ H H')(k:∀ a∈R,∀ o,H a=some o->H' a=some o):b7 H' σ r v R:=by
 cases r with
 | sl i=>exact h
 | vl d=>exact Own.mono t h k
theorem b7.chg{r:Opd}(h:b7 H σ r v R):∀ a∈R,ER H a:=by
 cases r with
 | sl i=>intro a ha;rw[h.2] at ha;cases ha
 | vl d=>exact Own.chg h
def DS(H:Hp)(d:Vl)(v:V):Prop:=∃ R,Own H d v R
theorem b7.read{r:Opd}(h:b7 H σ r v R)(st:ai H D σ F)(e:rsl D r=some d):DS H d v:=by
 cases r with
 | vl d'=>cases e;exact⟨R,h⟩
 | sl i=>
  have e':D[i]?=some (some d):=by
   have:(D[i]?).getD none=some d:=e;cases q:D[i]? with
   | none=>rw[q] at this;cases this
   | some o=>rw[q] at this;rw[show o=some d from this]
  obtain⟨v',F1,F2,g1,g2,_⟩:=st.out e';rw[h.1] at g1;cases g1;exact⟨F1,g2⟩
@[simp] def bK(i:Nat):M Vl:=fun D=>match D[i]? with
 | some (some d)=>if d.cp=true then some (d,D) else some (d,D.set i<|some .jk)
 | _=>none
def eC(d:Im):M Vl:=fun D=>some (.im d,D)
@[simp] def oSl(i:Nat):M Opd:=fun D=>match D[i]? with
 | some (some _)=>some (.sl i,D)
 | _=>none
@[simp] def oV(g:M Vl):M Opd:=fun D=>(g D).map fun p=>(.vl p.1,p.2)
section
variable{X:Cx}
variable{i:Nat}
theorem dj(h:PE X e (dE i)):VE X e (bK i):=by
 refine aR h fun σ H Q ⟨D,F,r,D',st,nd,hg,q⟩=>?_;unfold bK at hg;split at hg
 ·rename_i d hd;split at hg
  ·rename_i hc;cases hg;obtain⟨v,h1,h2⟩:=st.cp hd hc;exact⟨v,h1,q v H F [] st h2 (by rw[append_nil];exact m_.perm nd (List.Perm.refl _))⟩
  ·cases hg;obtain⟨v,F1,F2,h1,h2,h3,h4⟩:=st.out hd;exact⟨v,h1,q v H F2 F1 h3 h2<|m_.perm nd h4⟩
 ·cases hg
theorem xw(h:PE X e (dE i)):VO X e (oSl i):=by
 refine aR h fun σ H Q ⟨D,F,r,D',st,nd,hg,q⟩=>?_;unfold oSl at hg;split at hg
 ·rename_i d hd;cases hg;obtain⟨v,F1,F2,h1,h2,h3,h4⟩:=st.out hd;exact⟨v,h1,q v H F [] st ⟨h1,rfl⟩ (by rw[append_nil];exact m_.perm nd (List.Perm.refl _))⟩
 ·cases hg
theorem ab{g:M Vl}(h:VE X e g):VO X e (oV g):=by
 refine aR h fun σ H Q ⟨D,F,r,D',st,nd,hg,q⟩=>?_;unfold oV at hg;obtain⟨⟨r',D1⟩,h1,h2⟩:=map_eq_some_iff.mp hg;cases h2;exact⟨D,F,r',_,st,nd,h1,q⟩
theorem fV{d:Im}(h:PE X e (tC v))(hd:∀ H,CL H d v):VE X e (eC d):=by
 refine aR h fun σ H Q ⟨D,F,r,D',st,nd,hg,q⟩=>?_;cases hg;exact q v H F [] st ⟨hd H,rfl⟩ (by rw[append_nil];exact m_.perm nd (List.Perm.refl _))
theorem cQ{i:Int}{j pos}:VE X (.Constant (.int i) j pos) (eC<|.int i):=fV tU fun _=>rfl
theorem bL{b:Bool}{j pos}:VE X (.Constant (.bool b) j pos) (eC<|.bl b):=fV tW fun _=>rfl
theorem xx{j pos}:VE X (.Constant .none j pos) (eC .j_):=fV tX fun _=>rfl
theorem xy{j pos}:VE X (.Constant (.str x) j pos) (eC<|.str x):=fV tY fun _=>rfl
theorem two{D1 D2:SD}{x y:Opd}{K:V->V->Hp->Prop}(st:ai H D σ F)(nd:F.Nodup)(ha:ga D=some (x,D1))(hb:gb D1=some (y,D2))(k:∀ v u H' F' R1 R2,ai H' D2 σ F'->b7 H' σ x v R1->b7 H' σ y u R2->m_ H F H' ((F'++R2)++R1)->K v u H'):tO ga σ H fun v H1=>tO gb σ H1 fun u H2=>K v u H2:=by
 refine⟨D,F,x,D1,st,nd,ha,fun v H1 F1 R1 r_ o1 s1=>⟨D1,F1,y,D2,r_,(nodup_append.mp s1.nd).1,hb,fun u H2 F2 R2 o_ o2 s2=>?_⟩⟩;refine k v u H2 F2 R1 R2 o_ (o1.mono s2.tup fun a ha o e=>s2.keep a o e fun h=>?_) o2 (s1.trans s2 o1.chg);exact (nodup_append.mp s1.nd).2.2 a h a ha rfl
theorem m_.new{R':List Addr}(a:m_ H F H1 (F1++R))(s:aB H1 H2)(nd:R'.Nodup)(fr:∀ x∈R',H1 x=none)(c:∀ x∈F1,ER H1 x):m_ H F H2 (F1++R'):=by
 refine⟨fun x o e hx=>s _ _<|a.keep x o e hx,fun x hx=>?_,nodup_append.mpr ⟨(nodup_append.mp a.nd).1,nd,fun x hx y hy e=>?_⟩,a.tup.trans s.tupS,fun x o e=>let ⟨o',e'⟩:=a.grow x o e;⟨o',s _ _ e'⟩⟩
 ·rcases mem_append.mp hx with hx | hx
  ·exact a.sub x (mem_append_left _ hx)
  ·refine .inr ?_;cases e:H x with
   | none=>rfl
   | some o=>
    obtain⟨o',e'⟩:=a.grow x o e;rw[fr x hx] at e';cases e'
 ·subst e;obtain⟨o,e,_⟩:=c x hx;rw[fr x hy] at e;cases e
def DT(X:Cx)(f:Value->Value->Sem Value)(op:Vl->Vl->Option Vl):Prop:=
 Dg X f fun x y H Q=>∃ d1 d2 d,DS H d1 x/\DS H d2 y/\op d1 d2=some d/\∀ v H' R,aB H H'->Own H' d v R->R.Nodup->(∀ a∈R,H a=none)->Q v H'
@[simp] def ad(op:Vl->Vl->Option Vl)(ga gb:M Opd):M Vl:=fun D=>(ga D).bind fun p=>(gb p.2).bind fun q=>(rsl q.2 p.1).bind fun d1=>(rsl q.2 q.1).bind fun d2=>(op d1 d2).map fun d=>(d,q.2)
theorem jf{op:Vl->Vl->Option Vl}(h:tV (ad op ga gb) σ H Q):
  tO ga σ H fun x H1=>tO gb σ H1 fun y H2=>∃ d1 d2 d,DS H2 d1 x/\DS H2 d2 y/\op d1 d2=some d/\∀ v H' R,aB H2 H'->Own H' d v R->R.Nodup->(∀ a∈R,H2 a=none)->Q v H':=by
 obtain⟨D,F,r,D',st,nd,hg,q⟩:=h;unfold ad at hg;obtain⟨⟨x,D1⟩,ha,hg⟩:=bind_eq_some_iff.mp hg;obtain⟨⟨y,D2⟩,hb,hg⟩:=bind_eq_some_iff.mp hg;obtain⟨d1,h1,hg⟩:=bind_eq_some_iff.mp hg;obtain⟨d2,h2,hg⟩:=bind_eq_some_iff.mp hg;obtain⟨d,h3,hg⟩:=map_eq_some_iff.mp hg;cases hg;refine two st nd ha hb fun v u H2 F2 R1 R2 o_ o1 o2 s2=>⟨d1,d2,_,o1.read o_ h1,o2.read o_ h2,h3,fun w H3 R s3 ow Jb fr=>?_⟩;rw[List.append_assoc] at s2;exact q w H3 F2 R (o_.mono s3.tupS fun a _ o e=>s3 a o e) ow (s2.new s3 Jb fr o_.chg)
theorem ao{op:Operator}(ho:DT X (binaryOp op) f)(ha:VO X a ga)(hb:VO X b gb):VE X (.BinOp a op b pos) (ad f ga gb):=
 aR (uV ho ha hb) fun _ _ _ h=>jf h
variable{op:CmpOp}
theorem b8(ho:DT X (compareOp op) f)(ha:VO X a ga)(hb:VO X b gb)(hm:behindInMarks op b=false):VE X (.Compare a [op] [b] pos) (ad f ga gb):=
 aR (ve ho ha hb hm) fun _ _ _ h=>jf h
theorem xz(ho:Fw X (fun x y H Q=>∃ d1 d2 d,DS H d1 x/\DS H d2 y/\f d1 d2=some d/\∀ v H' R,aB H H'->Own H' d v R->R.Nodup->(∀ a∈R,H a=none)->Q v H'))(ha:VO X a ga)(hb:VO X b gb)(hs:kL b):VE X (.Subscript a b pos) (ad f ga gb):=
 aR (vV ho ha hb hs) fun _ _ _ h=>jf h
@[simp] def asB:Vl->Option Bool
 | .im (.bl b)=>some b
 | _=>none
@[simp] def kB(g:M Vl):M Bool:=fun D=>(g D).bind fun p=>(asB p.1).map fun b=>(b,p.2)
theorem jg{b:Bool}(h:asB d=some b):d=.im (.bl b):=by
 unfold asB at h;split at h
 ·cases h;rfl
 ·cases h
theorem cn(ho:DT X (compareOp op) f)(ha:VO X a ga)(hb:VO X b gb)(hm:behindInMarks op b=false):VT X (.Compare a [op] [b] pos) (kB<|ad f ga gb):=by
 refine k7 (vg ho ha hb hm) fun σ H Q ⟨D,F,c,D',st,nd,hg,q⟩=>?_;refine jf ⟨D,F,.im<|.bl c,D',st,nd,?_,fun v H' F' R g_ ow s=>⟨c,ow.1,q H' F' g_ (by rw[ow.2,append_nil] at s;exact s)⟩⟩;obtain⟨p,h1,h2⟩:=bind_eq_some_iff.mp hg;obtain⟨c',h3,h4⟩:=map_eq_some_iff.mp h2;cases h4;rw[h1,<- jg h3]
@[simp] def cC(g:M Bool):M Bool:=fun D=>(g D).map fun p=>(!p.1,p.2)
variable{g:M Bool}
theorem jh(h:VT X a g):VT X (.UnaryOp .Not a pos) (cC g):=by
 refine k7 (uc h) fun σ H Q ⟨D,F,c,D',st,nd,hg,q⟩=>?_;obtain⟨p,h1,h2⟩:=map_eq_some_iff.mp hg;cases h2;exact⟨D,F,p.1,_,st,nd,h1,q⟩
@[simp] def bM(g h:M Bool):M Bool:=fun D=>(g D).bind fun p=>if p.1=true then h p.2 else some (false,p.2)
@[simp] def kOr(g h:M Bool):M Bool:=fun D=>(g D).bind fun p=>if p.1=true then some (true,p.2) else h p.2
variable{Q:Bool->Hp->Prop}{h:M Bool}
theorem oU(w:FQ (bM g h) σ H Q):nz (FQ g) (FQ h) σ H Q:=by
 obtain⟨D,F,c,D',st,nd,hg,q⟩:=w;obtain⟨⟨b,D1⟩,h1,h2⟩:=bind_eq_some_iff.mp hg;refine⟨D,F,b,D1,st,nd,h1,fun H1 F1 r_ s1=>?_⟩;cases b with
 | true=>
  rw[if_pos rfl];rw[if_pos rfl] at h2;exact⟨D1,F1,c,D',r_,s1.nd,h2,fun H2 F2 o_ s2=>q H2 F2 o_ (by
   have:=m_.trans (R:=[]) (by rw[append_nil];exact s1) s2 (fun x hx=>nomatch hx)
   rwa [append_nil] at this)⟩
 | false=>
  rw[if_neg Bool.false_ne_true] at h2 ⊢;cases h2;exact q H1 F1 r_ s1
theorem oW(w:FQ (kOr g h) σ H Q):Nd (FQ g) (FQ h) σ H Q:=by
 obtain⟨D,F,c,D',st,nd,hg,q⟩:=w;obtain⟨⟨b,D1⟩,h1,h2⟩:=bind_eq_some_iff.mp hg;refine⟨D,F,b,D1,st,nd,h1,fun H1 F1 r_ s1=>?_⟩;cases b with
 | false=>
  rw[if_neg Bool.false_ne_true] at h2 ⊢;exact⟨D1,F1,c,D',r_,s1.nd,h2,fun H2 F2 o_ s2=>q H2 F2 o_ (by
   have:=m_.trans (R:=[]) (by rw[append_nil];exact s1) s2 (fun x hx=>nomatch hx)
   rwa [append_nil] at this)⟩
 | true=>
  rw[if_pos rfl] at h2 ⊢;cases h2;exact q H1 F1 r_ s1
def VW(X:Cx)(e:Expr)(g:M Bool):Prop:=∀ ⦃p⦄,Na X e (FQ g) p
theorem oX{t:TT}(h:PW X e t)(i:∀ σ H Q,t' σ H Q->t σ H Q):PW X e t':=fun wh pins s σ H Q I hw=>h wh pins s σ H Q I (i σ H Q hw)
theorem oY(h:VT X a g):VW X (.BoolOp .And [a] pos) g:=t6 h
theorem k8(h:VT X a g):VW X (.BoolOp .Or [a] pos) g:=t7 h
theorem oZ(h:VT X a g)(hb:VW X (.BoolOp .And (b::r) pos) k):VW X (.BoolOp .And (a::b::r) pos) (bM g k):=oX (t9 h hb) fun _ _ _ w=>oU w
theorem k9(h:VT X a g)(hb:VW X (.BoolOp .Or (b::r) pos) k):VW X (.BoolOp .Or (a::b::r) pos) (kOr g k):=oX (ua h hb) fun _ _ _ w=>oW w
theorem VW.vt(h:VW X e g):VT X e g:=PW.pt h
@[simp] def eB(g:M Bool):M Vl:=fun D=>(g D).map fun p=>(.im<|.bl p.1,p.2)
theorem gR(h:VE X e (eB g)):PE X e fun σ H Q=>FQ g σ H fun b H'=>Q (.bl b) H':=by
 refine aR h fun σ H Q ⟨D,F,c,D',st,nd,hg,q⟩=>⟨D,F,.im<|.bl c,D',st,nd,by unfold eB;rw[hg];rfl,fun v H' F' R g_ ow s=>?_⟩;rw[show v=.bl c from ow.1];exact q H' F' g_ (by rw[ow.2,append_nil] at s;exact s)
theorem lg(h:PE X e fun σ H Q=>FQ g σ H fun b H'=>Q (.bl b) H'):VE X e (eB g):=by
 refine aR h fun σ H Q ⟨D,F,r,D',st,nd,hg,q⟩=>?_;obtain⟨p,h1,h2⟩:=map_eq_some_iff.mp hg;cases h2;exact⟨D,F,p.1,_,st,nd,h1,fun H' F' g_ s=>q _ H' F' [] g_ ⟨rfl,rfl⟩ (by rw[append_nil];exact s)⟩
theorem bB{g:M Vl}(h:VE X e g):VE X e (eB<|kB g):=by
 refine aR h fun σ H Q ⟨D,F,r,D',st,nd,hg,q⟩=>?_;obtain⟨p,h1,h2⟩:=map_eq_some_iff.mp hg;obtain⟨p',h3,h4⟩:=bind_eq_some_iff.mp h1;obtain⟨c,h5,h6⟩:=map_eq_some_iff.mp h4;cases h6;cases h2;exact⟨D,F,p'.1,_,st,nd,h3,by rw[jg h5];exact q⟩
theorem pc(h:VE X a (eB g)):VE X (.UnaryOp .Not a pos) (eB<|cC g):=by
 refine lg (aR (uj<|gR h) fun σ H Q ⟨D,F,c,D',st,nd,hg,q⟩=>?_);obtain⟨p,h1,h2⟩:=map_eq_some_iff.mp hg;cases h2;exact⟨D,F,p.1,_,st,nd,h1,fun H' F' g_ s=>⟨_,rfl,q H' F' g_ s⟩⟩
theorem fi{op}{g:M Vl}(h:VE X a g):VE X (.BoolOp op [a] pos) g:=ug h
theorem d8(h:VE X a (eB g))(hb:VE X (.BoolOp .And (b::r) pos) (eB k)):VE X (.BoolOp .And (a::b::r) pos) (eB<|bM g k):=by
 refine lg (aR (uh (gR h)<|gR hb) fun σ H Q w=>?_);have:=oU w;obtain⟨D,F,c,D',st,nd,hg,q⟩:=this;exact⟨D,F,c,D',st,nd,hg,fun H' F' g_ s=>⟨c,rfl,q H' F' g_ s⟩⟩
theorem pd(h:VE X a (eB g))(hb:VE X (.BoolOp .Or (b::r) pos) (eB k)):VE X (.BoolOp .Or (a::b::r) pos) (eB<|kOr g k):=by
 refine lg (aR (ui (gR h)<|gR hb) fun σ H Q w=>?_);have:=oW w;obtain⟨D,F,c,D',st,nd,hg,q⟩:=this;exact⟨D,F,c,D',st,nd,hg,fun H' F' g_ s=>⟨c,rfl,q H' F' g_ s⟩⟩
theorem m_.seq(a:m_ H F H1 F1)(b:m_ H1 F1 H2 F2):m_ H F H2 F2:=by
 have:=m_.trans (R:=[]) (by rw[append_nil];exact a) b (fun x hx=>nomatch hx)
 rwa [append_nil] at this
end
def dk(H:Hp)(σ:St):List Opd->List V->List Addr->Prop
 | [],vs,R=>vs=[]/\R=[]
 | o::os,vs,R=>∃ v r R1 R2,vs=v::r/\b7 H σ o v R1/\dk H σ os r R2/\R=R1++R2
def tA(g:M (List Opd)):TA:=fun σ H Q=>∃ D F r D',ai H D σ F/\F.Nodup/\g D=some (r,D')/\∀ vs H' F' R,ai H' D' σ F'->dk H' σ r vs R->m_ H F H' (F'++R)->Q vs H'
def VA(X:Cx)(es:List Expr)(g:M (List Opd)):Prop:=∀ ⦃p⦄,Nb X es (tA g) p
theorem pf{t t':TA}(h:PA X es t)(i:∀ σ H Q,t' σ H Q->t σ H Q):PA X es t':=fun pos pins s σ H Q I hw=>h pos pins s σ H Q I (i σ H Q hw)
def aNil:M (List Opd):=fun D=>some ([],D)
@[simp] def aa(g:M Opd)(h:M (List Opd)):M (List Opd):=fun D=>(g D).bind fun p=>(h p.2).map fun q=>(p.1::q.1,q.2)
theorem m_.Du(s:m_ H F H' A)(p:A.Perm B):m_ H F H' B:=⟨s.keep,fun a ha=>s.sub a<|p.mem_iff.mpr ha,(p.nodup_iff).mp s.nd,s.tup,s.grow⟩
theorem m_.less(s:m_ H F H' A)(p:(B++C).Perm A):m_ H F H' B:=
 ⟨s.keep,fun a ha=>s.sub a<|p.mem_iff.mp<|mem_append_left _ ha,(nodup_append.mp<|(p.nodup_iff).mpr s.nd).1,s.tup,s.grow⟩
section
variable{X:Cx}
theorem fj:VA X [] aNil:=by
 refine pf nN fun σ H Q ⟨D,F,r,D',st,nd,hg,q⟩=>?_;cases hg;exact q [] H F [] st ⟨rfl,rfl⟩ (by rw[append_nil];exact m_.perm nd (List.Perm.refl _))
theorem ah{g:M Opd}{h:M (List Opd)}(he:VO X e g)(hr:VA X es h)(hs:starEach (e::es) X.env=(false,eval e X.env)::starEach es X.env:=by rfl):VA X (e::es) (aa g h):=by
 refine pf (kJ he hr hs) fun σ H Q ⟨D,F,r,D',st,nd,hg,q⟩=>?_;obtain⟨⟨x,D1⟩,h1,h2⟩:=bind_eq_some_iff.mp hg;obtain⟨⟨ys,D2⟩,h3,h4⟩:=map_eq_some_iff.mp h2;cases h4;refine⟨D,F,x,D1,st,nd,h1,fun v H1 F1 R1 r_ o1 s1=>⟨D1,F1,ys,_,r_,(nodup_append.mp s1.nd).1,h3,fun vs H2 F2 R2 o_ o2 s2=>?_⟩⟩;refine q (v::vs) H2 F2 (R1++R2) o_ ⟨v,vs,R1,R2,rfl,o1.mono s2.tup fun a ha o e=>s2.keep a o e fun h=>?_,o2,rfl⟩ ((s1.trans s2 o1.chg).Du ?_)
 ·exact (nodup_append.mp s1.nd).2.2 a h a ha rfl
 ·rw[List.append_assoc];exact List.Perm.append_left _ perm_append_comm
end
def bN(D:SD):List Opd->Option (List Vl)
 | []=>some []
 | o::os=>(rsl D o).bind fun d=>(bN D os).map fun ds=>d::ds
def d9(H:Hp):List Vl->List V->Prop
 | [],vs=>vs=[]
 | d::ds,vs=>∃ v r,vs=v::r/\DS H d v/\d9 H ds r
theorem dk.read{H:Hp}{D:SD}{σ:St}{F:List Addr}(st:ai H D σ F):∀ {os:List Opd}{vs:List V}{R:List Addr}{ds:List Vl},dk H σ os vs R->bN D os=some ds->d9 H ds vs
 | [],_,_,_,h,e=>by cases e;exact h.1
 | o::os,_,_,_,h,e=>by
  obtain⟨v,r,R1,R2,rfl,h1,h2,rfl⟩:=h;obtain⟨d,e1,e2⟩:=bind_eq_some_iff.mp e;obtain⟨ds,e3,e4⟩:=map_eq_some_iff.mp e2;cases e4;exact⟨v,r,rfl,h1.read st e1,dk.read st h2 e3⟩
def aY:List Opd->SD->Option (List Vl×SD)
 | [],D=>some ([],D)
 | .vl d::os,D=>(aY os D).map fun p=>(d::p.1,p.2)
 | .sl i::os,D=>(bK i D).bind fun p=>(aY os p.2).map fun q=>(p.1::q.1,q.2)
theorem pg{i:Nat}(st:ai H D σ F)(h:bK i D=some (d,D')):∃ v F1 R,σ[i]?=some (some v)/\Own H d v R/\ai H D' σ F1/\(F1++R).Perm F:=by
 unfold bK at h;split at h
 ·rename_i e hd;split at h
  ·rename_i hc;cases h;obtain⟨v,h1,h2⟩:=st.cp hd hc;exact⟨v,F,[],h1,h2,st,by rw[append_nil]⟩
  ·cases h;obtain⟨v,F1,F2,h1,h2,h3,h4⟩:=st.out hd;exact⟨v,F2,F1,h1,h2,h3,h4⟩
 ·cases h
theorem dl:(A++(B++C)).Perm (B++(A++C)):=by
 rw[<- List.append_assoc,<- List.append_assoc];exact List.Perm.append_right _ perm_append_comm
theorem fk{H:Hp}{σ:St}:∀ {os:List Opd}{vs:List V}{R F:List Addr}{D D':SD}{ds:List Vl},ai H D σ F->dk H σ os vs R->aY os D=some (ds,D')->∃ F1 R1,ai H D' σ F1/\aH H ds vs R1/\(F1++R1).Perm (F++R)
 | [],_,_,F,_,_,_,st,h,e=>by
  cases e;exact⟨F,[],st,⟨h.1,rfl⟩,by rw[h.2]⟩
 | .vl d::os,_,_,F,D,_,_,st,h,e=>by
  obtain⟨v,r,R1,R2,rfl,h1,h2,rfl⟩:=h;rw[aY] at e;obtain⟨p,e3,e4⟩:=map_eq_some_iff.mp e;cases e4;obtain⟨F1,R3,g1,g2,g3⟩:=fk (D':=p.2) (ds:=p.1) st h2 e3;exact⟨F1,R1++R3,g1,⟨v,r,R1,R3,rfl,h1,g2,rfl⟩,dl.trans<|(List.Perm.append_left _ g3).trans dl⟩
 | .sl i::os,_,_,F,D,_,_,st,h,e=>by
  obtain⟨v,r,R1,R2,rfl,⟨h1,rfl⟩,h2,rfl⟩:=h;rw[aY] at e;obtain⟨⟨d,D1⟩,e1,e2⟩:=bind_eq_some_iff.mp e;obtain⟨p,e3,e4⟩:=map_eq_some_iff.mp e2;cases e4;obtain⟨v',F1,R3,g1,g2,g3,g4⟩:=pg st e1;rw[h1] at g1;cases g1;obtain⟨F2,R4,k1,k2,k3⟩:=fk (D':=p.2) (ds:=p.1) g3 h2 e3;refine⟨F2,R3++R4,k1,⟨v,r,R3,R4,rfl,g2,k2,rfl⟩,dl.trans<|(List.Perm.append_left _ k3).trans ?_⟩;rw[<- List.append_assoc];exact List.Perm.append_right _ (perm_append_comm.trans g4)
@[simp] def wb:List Opd->List Vl->SD->SD
 | .sl i::os,d::ds,D=>wb os ds (match D[i]? with | some (some .jk)=>D.set i (some d) | _=>D)
 | .vl _::os,_::ds,D=>wb os ds D
 | _,_,D=>D
theorem ji{H H0:Hp}{σ:St}:∀ {os:List Opd}{ds:List Vl}{vs:List V}{R F S:List Addr}{D:SD},ai H D σ F->dk H0 σ os vs S->aH H ds vs R->∃ F1 R1,ai H (wb os ds D) σ F1/\(F1++R1).Perm (F++R)
 | [],ds,_,R,F,_,D,st,_,_=>⟨F,R,by unfold wb;exact st,List.Perm.refl _⟩
 | .vl _::os,[],_,R,F,_,D,st,_,_=>⟨F,R,by unfold wb;exact st,List.Perm.refl _⟩
 | .sl _::os,[],_,R,F,_,D,st,_,_=>⟨F,R,by unfold wb;exact st,List.Perm.refl _⟩
 | .vl _::os,d::ds,_,R,F,_,D,st,h,w=>by
  obtain⟨v,r,S1,S2,rfl,h1,h2,rfl⟩:=h;obtain⟨v',r',R1,R2,e,w1,w2,rfl⟩:=w;cases e;obtain⟨F1,R3,g1,g2⟩:=ji (D:=D) st h2 w2;refine⟨F1,R1++R3,by rw[wb];exact g1,dl.trans<|(List.Perm.append_left _ g2).trans dl⟩
 | .sl i::os,d::ds,_,R,F,_,D,st,h,w=>by
  obtain⟨v,r,S1,S2,rfl,⟨h1,_⟩,h2,rfl⟩:=h;obtain⟨v',r',R1,R2,e,w1,w2,rfl⟩:=w;cases e;rw[wb];split
  ·obtain⟨F1,G,g1,g2⟩:=st.back w1 h1;obtain⟨F2,R3,k1,k2⟩:=ji g1 h2 w2;refine⟨F2,R3++G,k1,?_⟩;rw[<- List.append_assoc,<- List.append_assoc];refine (List.Perm.append_right _ k2).trans ?_;rw[List.append_assoc];refine (List.Perm.append_left _ perm_append_comm).trans ?_;rw[<- List.append_assoc];exact List.Perm.append_right _ g2
  ·obtain⟨F1,R3,g1,g2⟩:=ji st h2 w2;exact⟨F1,R1++R3,g1,dl.trans<|(List.Perm.append_left _ g2).trans dl⟩
def ims:List Vl->Option (List Im)
 | []=>some []
 | .im d::ds=>(ims ds).map fun r=>d::r
 | _::_=>none
@[simp] def mkT(ds:List Vl):Vl:=match ims ds with
 | some is=>.im (.tup is)
 | none=>.Ja ds
@[simp] def mkL(ds:List Vl):Vl:=match ims ds with
 | some is=>.lst is
 | none=>.DH ds
theorem lh{H:Hp}:∀ {ds:List Vl}{vs:List V}{R:List Addr}{is:List Im},aH H ds vs R->ims ds=some is->aj H is vs/\R=[]
 | [],_,_,_,h,e=>by cases e;exact h
 | .im d::ds,_,_,_,h,e=>by
  obtain⟨v,r,R1,R2,rfl,⟨h1,rfl⟩,h2,rfl⟩:=h;rw[ims] at e;obtain⟨p,e3,e4⟩:=map_eq_some_iff.mp e;cases e4;obtain⟨g1,rfl⟩:=lh h2 e3;exact⟨⟨v,r,rfl,h1,g1⟩,rfl⟩
 | .jk::_,_,_,_,_,e=>by rw[ims] at e;cases e;all_goals (intro _ z;cases z)
 | .fz _::_,_,_,_,_,e=>by rw[ims] at e;cases e;all_goals (intro _ z;cases z)
 | .lst _::_,_,_,_,_,e=>by rw[ims] at e;cases e;all_goals (intro _ z;cases z)
 | .dK _::_,_,_,_,_,e=>by rw[ims] at e;cases e;all_goals (intro _ z;cases z)
 | .dT _::_,_,_,_,_,e=>by rw[ims] at e;cases e;all_goals (intro _ z;cases z)
 | .DH _::_,_,_,_,_,e=>by rw[ims] at e;cases e;all_goals (intro _ z;cases z)
 | .K4 _ _::_,_,_,_,_,e=>by rw[ims] at e;cases e;all_goals (intro _ z;cases z)
 | .Ja _::_,_,_,_,_,e=>by rw[ims] at e;cases e;all_goals (intro _ z;cases z)
 | .obj _ _ _::_,_,_,_,_,e=>by rw[ims] at e;cases e;all_goals (intro _ z;cases z)
@[simp] def ay(g:M (List Opd)):M Vl:=fun D=>(g D).bind fun p=>(aY p.1 p.2).bind fun q=>if q.1.length<=100000 then some (mkT q.1,q.2) else none
@[simp] def aT(g:M (List Opd)):M Vl:=fun D=>(g D).bind fun p=>(aY p.1 p.2).bind fun q=>if q.1.length<=100000 then some (mkL q.1,q.2) else none
theorem xA{ds:List Vl}(s:aB H H')(h:aH H ds vs R)(e:H' p=some (.tup vs)):∃ R',Own H' (mkT ds) (.ref p) R'/\R'=R:=by
 unfold mkT;split
 ·rename_i is hi;obtain⟨g1,rfl⟩:=lh h hi;exact⟨[],⟨⟨p,vs,rfl,e,g1.mono s.tupS.tup⟩,rfl⟩,rfl⟩
 ·exact⟨R,⟨p,vs,rfl,e,h.mono s.tupS fun a _ o q=>s a o q⟩,rfl⟩
theorem xB{ds:List Vl}(s:aB H H')(h:aH H ds vs R)(e:H' p=some (.lst vs)):Own H' (mkL ds) (.ref p) (p::R):=by
 unfold mkL;split
 ·rename_i is hi;obtain⟨g1,rfl⟩:=lh h hi;exact⟨p,vs,rfl,e,g1.mono s.tupS.tup,rfl⟩
 ·exact⟨p,vs,R,rfl,e,h.mono s.tupS fun a _ o q=>s a o q,rfl⟩
theorem fm(h:n<=100000):n<=sizeLine:=Nat.le_trans h (by decide)
theorem m_.add{o:HO}(a:m_ H F H1 A)(fr:H1 p=none)(c:∀ x∈A,ER H1 x):m_ H F (upd H1 p o) (A++[p]):=by
 have s:aB H1 (upd H1 p o):=(aB.refl H1).upd fr;have:=m_.new (R:=[]) (R':=[p]) (by rw[append_nil];exact a) s (pairwise_singleton _ _) (fun x hx=>by rw[mem_singleton.mp hx];exact fr) c;exact this
theorem m_.same(a:m_ H F H1 A)(s:aB H1 H2):m_ H F H2 A:=
 ⟨fun x o e hx=>s _ _<|a.keep x o e hx,a.sub,a.nd,a.tup.trans s.tupS,fun x o e=>let ⟨o',e'⟩:=a.grow x o e;⟨o',s _ _ e'⟩⟩
section
variable{X:Cx}
theorem aJ{x1}(h:VA X es g):VE X (.Tuple es x1 pos) (ay g):=by
 refine aR (vA h) fun σ H Q ⟨D,F,r,D',st,nd,hg,q⟩=>?_;obtain⟨⟨os,D1⟩,h1,h2⟩:=bind_eq_some_iff.mp hg;obtain⟨⟨ds,D2⟩,h3,h4⟩:=bind_eq_some_iff.mp h2;refine⟨D,F,os,D1,st,nd,h1,fun vs H1 F1 R1 r_ o1 s1=>?_⟩;obtain⟨F2,R2,o_,ow,pm⟩:=fk r_ o1 h3;split at h4
 ·rename_i hl;cases h4;have DW:vs.length<=100000:=by rw[<- ow.length];exact hl
  refine⟨fm DW,fun p hp=>?_⟩;have s:aB H1 (upd H1 p<|.tup vs):=(aB.refl H1).upd hp;obtain⟨R',g1,rfl⟩:=xA s ow aW;exact q _ _ F2 R' (o_.mono s.tupS fun a _ o e=>s a o e) g1 ((s1.Du pm.symm).same s)
 ·cases h4
theorem bm(h:VA X es g):VE X (.List es pos) (aT g):=by
 refine aR (vB h) fun σ H Q ⟨D,F,r,D',st,nd,hg,q⟩=>?_;obtain⟨⟨os,D1⟩,h1,h2⟩:=bind_eq_some_iff.mp hg;obtain⟨⟨ds,D2⟩,h3,h4⟩:=bind_eq_some_iff.mp h2;refine⟨D,F,os,D1,st,nd,h1,fun vs H1 F1 R1 r_ o1 s1=>?_⟩;obtain⟨F2,R2,o_,ow,pm⟩:=fk r_ o1 h3;split at h4
 ·rename_i hl;cases h4;have DW:vs.length<=100000:=by rw[<- ow.length];exact hl
  refine⟨fm DW,fun p hp=>?_⟩;have s:aB H1 (upd H1 p<|.lst vs):=(aB.refl H1).upd hp;have g1:=xB s ow (p:=p) aW;refine q _ _ F2 (p::R2) (o_.mono s.tupS fun a _ o e=>s a o e) g1 (((s1.Du pm.symm).add hp fun x hx=>?_).Du ?_)
  ·rcases mem_append.mp hx with hx | hx
   ·exact o_.chg x hx
   ·exact ow.chg x hx
  ·rw[List.append_assoc];exact List.Perm.append_left _ perm_append_comm
 ·cases h4
def cD(X:Cx)(f:Value)(op:List Vl->Option Vl):Prop:=
 aX X f fun xs H Q=>∃ ds d,d9 H ds xs/\op ds=some d/\∀ v H' R,aB H H'->Own H' d v R->R.Nodup->(∀ a∈R,H a=none)->Q v H'
@[simp] def az(op:List Vl->Option Vl)(g:M (List Opd)):M Vl:=fun D=>(g D).bind fun p=>(bN p.2 p.1).bind fun ds=>(op ds).map fun d=>(d,p.2)
theorem ph(h:tV (az op g) σ H Q):
  tA g σ H fun xs H1=>∃ ds d,d9 H1 ds xs/\op ds=some d/\∀ v H' R,aB H1 H'->Own H' d v R->R.Nodup->(∀ a∈R,H1 a=none)->Q v H':=by
 obtain⟨D,F,r,D',st,nd,hg,q⟩:=h;obtain⟨⟨os,D1⟩,h1,h2⟩:=bind_eq_some_iff.mp hg;obtain⟨ds,h3,h4⟩:=bind_eq_some_iff.mp h2;obtain⟨d,h5,h6⟩:=map_eq_some_iff.mp h4;cases h6;refine⟨D,F,os,D1,st,nd,h1,fun vs H1 F1 R1 r_ o1 s1=>⟨ds,_,o1.read r_ h3,h5,fun v H2 R s2 ow Jb fr=>?_⟩⟩;exact q v H2 F1 R (r_.mono s2.tupS fun a _ o e=>s2 a o e) ow (s1.new s2 Jb fr r_.chg)
variable{p:Pos}
theorem aZ{id:String}(hc:cD X (.builtin id) op)(hg:Gl X x)(hm:X.mg x=none)(hv:bootBuiltins x=some (.builtin id))(ha:VA X (e::es) g)(hn:x ≠ "__name__" := by decide)(Fv:(x == ("__debug__" : Str))=false:=by decide)(he:starEach (e::es) X.env=(false,eval e X.env)::starEach es X.env:=by rfl)(Eh:(backTo pos<|starEach es X.env).any (·.1)=false:=by rfl):
  VE X (.Call (.Name x p) (e::es) [] pos) (az op g):=aR (nV hc hg hm hv ha hn Fv he Eh) fun _ _ _ h=>ph h
theorem fo{T:String}(hc:cD X (.type T) op)(hg:Gl X x)(hm:X.mg x=none)(hv:bootBuiltins x=some (.type T))(ha:VA X (e::es) g)(hn:x ≠ "__name__" := by decide)(Fv:(x == ("__debug__" : Str))=false:=by decide)(he:starEach (e::es) X.env=(false,eval e X.env)::starEach es X.env:=by rfl)(Eh:(backTo pos<|starEach es X.env).any (·.1)=false:=by rfl):
  VE X (.Call (.Name x p) (e::es) [] pos) (az op g):=aR (vF hc hg hm hv ha hn Fv he Eh) fun _ _ _ h=>ph h
abbrev Fn:=List Vl->Option (Vl×List Vl)
def Gf(n:Nat)(G:Fn):Sp:=fun vs H Q _=>vs.length=n/\∃ ds F r outs,aH H ds vs F/\F.Nodup/\G ds=some (r,outs)/\∀ v H' R R',Own H' r v R->aH H' outs vs R'->m_ H F H' (R++R')->Q v H'
@[simp] def au(n:Nat)(G:Fn)(g:M (List Opd)):M Vl:=fun D=>(g D).bind fun p=>if p.1.length=n then (aY p.1 p.2).bind fun q=>(G q.1).map fun r=>(r.1,wb p.1 r.2 q.2) else none
theorem dk.length{H:Hp}{σ:St}:∀ {os:List Opd}{vs:List V}{R:List Addr},dk H σ os vs R->os.length=vs.length
 | [],_,_,h=>by rw[h.1];rfl
 | o::os,_,_,h=>by
  obtain⟨v,r,R1,R2,rfl,h1,h2,rfl⟩:=h;rw[length_cons,length_cons,dk.length h2]
theorem pi{G:Fn}{E:XK}(h:tV (au n G g) σ H Q):kK (Gf n G) [] E (tA g) σ H Q:=by
 obtain⟨D,F,r,D',st,nd,hg,q⟩:=h;obtain⟨⟨os,D1⟩,h1,h2⟩:=bind_eq_some_iff.mp hg;split at h2
 ·rename_i hn;obtain⟨⟨ds,D2⟩,h3,h4⟩:=bind_eq_some_iff.mp h2;obtain⟨⟨r',outs⟩,h5,h6⟩:=map_eq_some_iff.mp h4;cases h6;refine⟨D,F,os,D1,st,nd,h1,fun vs H1 F1 R1 r_ o1 s1=>?_⟩;obtain⟨F2,R2,o_,ow,pm⟩:=fk r_ o1 h3;have s2:=s1.Du (pm.symm.trans perm_append_comm);rw[append_nil];refine⟨by rw[<- o1.length];exact hn,ds,R2,_,outs,ow,(nodup_append.mp s2.nd).1,h5,fun v H3 R R' w1 w2 s3=>?_⟩;have s4:=s2.trans s3 o_.chg;have K5:∀ a∈F2,a∉R2:=fun a ha hb=>(nodup_append.mp s2.nd).2.2 a hb a ha rfl;have Dy:ai H3 D2 σ F2:=o_.mono s3.tup fun a ha o e=>s3.keep a o e (K5 a ha);obtain⟨F3,R3,DJ,J0⟩:=ji Dy o1 w2;refine q v H3 F3 R DJ w1 (s4.less (C:=R3) ?_);refine List.Perm.trans ?_ perm_append_comm;rw[List.append_assoc];refine (List.Perm.append_left _ perm_append_comm).trans ?_;rw[<- List.append_assoc];refine (List.Perm.append_right _ J0).trans ?_;rw[List.append_assoc];exact List.Perm.append_left _ perm_append_comm
 ·cases h2
end
section
variable{X:Cx}
variable{k:Nat}
theorem xC{G:Fn}{f:Addr}{p:Pos}(F:Dw X.prog X.w X.K X.mg X.base Fi k f fd ps (Gf n G))(hr:CM k X.A)(hg:Gl X x)(hm:X.mg x=some (.ref f))(hk:PySem.W.keepIn X.K (.ref f)=true)(hb:cP X.K fd ps [])(ha:VA X (e::es) g)(Fv:(x == ("__debug__" : Str))=false:=by decide)(he:starEach (e::es) X.env=(false,eval e X.env)::starEach es X.env:=by rfl)(Eh:(backTo pos<|starEach es X.env).any (·.1)=false:=by rfl):
  VE X (.Call (.Name x p) (e::es) [] pos) (au n G g):=aR (vC F hr hg hm hk hb .nil oz ha Fv he Eh) fun _ _ _ h=>pi h
inductive Fl where
 | nx | rt (d:Vl) | bk | ct
abbrev MS:=SD->Option (Fl×SD)
def aF(fix:List Nat)(σ σ':St):Prop:=σ'.length=σ.length/\∀ i∈fix,σ'[i]?=σ[i]?
theorem aF.refl:aF fix σ σ:=⟨rfl,fun _ _=>rfl⟩
theorem aF.trans{σ2:St}(a:aF fix σ σ1)(b:aF fix σ1 σ2):aF fix σ σ2:=⟨b.1.trans a.1,fun i hi=>(b.2 i hi).trans<|a.2 i hi⟩
theorem aF.set{v:Option V}(h:j∉fix):aF fix σ (σ.set j v):=⟨length_set,fun i hi=>getElem?_set_ne fun e=>h (by rw[e];exact hi)⟩
def J1(fix:List Nat)(E:Ends)(σ:St)(H:Hp)(F:List Addr)(D':SD):Fl->Prop
 | .nx=>∀ σ' H' F',aF fix σ σ'->ai H' D' σ' F'->m_ H F H' F'->E.nx σ' H'
 | .bk=>∀ σ' H' F',aF fix σ σ'->ai H' D' σ' F'->m_ H F H' F'->E.bk σ' H'
 | .ct=>∀ σ' H' F',aF fix σ σ'->ai H' D' σ' F'->m_ H F H' F'->E.ct σ' H'
 | .rt d=>∀ v σ' H' F' R,aF fix σ σ'->ai H' D' σ' F'->Own H' d v R->m_ H F H' (F'++R)->E.rt v H'
def tS(fix:List Nat)(g:MS):TS:=fun E σ H=>∃ D F fl D',ai H D σ F/\F.Nodup/\g D=some (fl,D')/\J1 fix E σ H F D' fl
def VS(X:Cx)(fix:List Nat)(st:Stmt)(g:MS):Prop:=∀ ⦃p⦄,Nc X st (tS fix g) p
def Gh(X:Cx)(fix:List Nat)(K6:List Stmt)(g:MS):Prop:=∀ ⦃p⦄,nu X K6 (tS fix g) p
variable{t':TS}
theorem dH{t:TS}(h:PS X st t)(i:∀ E σ H,t' E σ H->t E σ H):PS X st t':=fun pins s σ H D I hw=>h pins s σ H D I (i D σ H hw)
theorem pj{st:List Stmt}{t:TS}(h:EW X st t)(i:∀ E σ H,t' E σ H->t E σ H):EW X st t':=fun pins s σ H D I hw=>h pins s σ H D I (i D σ H hw)
theorem J1.on{fl:Fl}(h:J1 fix E σ H F D' fl)(fx:aF fix σ σ1)(s:m_ H F H1 F1):J1 fix E σ1 H1 F1 D' fl:=by
 cases fl with
 | nx=>exact fun σ' H' F' f st s'=>h σ' H' F' (fx.trans f) st (s.seq s')
 | bk=>exact fun σ' H' F' f st s'=>h σ' H' F' (fx.trans f) st (s.seq s')
 | ct=>exact fun σ' H' F' f st s'=>h σ' H' F' (fx.trans f) st (s.seq s')
 | rt d=>exact fun v σ' H' F' R f st ow s'=>h v σ' H' F' R (fx.trans f) st ow (s.seq s')
def sNil:MS:=fun D=>some (.nx,D)
@[simp] def am(g h:MS):MS:=fun D=>(g D).bind fun p=>match p.1 with
 | .nx=>h p.2
 | fl=>some (fl,p.2)
theorem cS:Gh X fix [] sNil:=by
 refine pj ul fun E σ H ⟨D,F,fl,D',st,nd,hg,q⟩=>?_;cases hg;exact q σ H F aF.refl st (m_.perm nd<|List.Perm.refl _)
variable{g:MS}
theorem aE(h:VS X fix st g):Gh X fix [st] g:=uo h
theorem xD{h:MS}(w:tS fix (am g h) E σ H):nA (tS fix g) (tS fix h) E σ H:=by
 obtain⟨D,F,fl,D',st,nd,hg,q⟩:=w;obtain⟨⟨f1,D1⟩,h1,h2⟩:=bind_eq_some_iff.mp hg;cases f1 with
 | nx=>exact⟨D,F,.nx,D1,st,nd,h1,fun σ' H' F' fx g_ s=>⟨D1,F',fl,D',g_,s.nd,h2,q.on fx s⟩⟩
 | bk=>cases h2;exact⟨D,F,.bk,D1,st,nd,h1,q⟩
 | ct=>cases h2;exact⟨D,F,.ct,D1,st,nd,h1,q⟩
 | rt d=>cases h2;exact⟨D,F,.rt d,D1,st,nd,h1,q⟩
theorem ar{K6:List Stmt}{h:MS}(h1:VS X fix st g)(h2:Gh X fix K6 h):Gh X fix (st::K6) (am g h):=pj (um h1 h2) fun _ _ _ w=>xD w
@[simp] def ed(g:M Vl):MS:=fun D=>(g D).map fun p=>(.nx,p.2)
variable{g:M Vl}
theorem jj(h:VE X e g)(hs:swapsWith e none pos.line X.env=pure false:=by rfl):VS X fix (.Expr e pos) (ed g):=by
 refine dH (ur h hs) fun E σ H ⟨D,F,fl,D',st,nd,hg,q⟩=>?_;obtain⟨⟨r,D1⟩,h1,h2⟩:=map_eq_some_iff.mp hg;cases h2;exact⟨D,F,r,_,st,nd,h1,fun v H' F' R g_ ow s=>q σ H' F' aF.refl g_<|s.less<|List.Perm.refl _⟩
@[simp] def aU(g:M Vl):MS:=fun D=>(g D).map fun p=>(.rt p.1,p.2)
theorem be(h:VE X e g):VS X fix (.Return (some e) pos) (aU g):=by
 refine dH (uu h) fun E σ H ⟨D,F,fl,D',st,nd,hg,q⟩=>?_;obtain⟨⟨r,D1⟩,h1,h2⟩:=map_eq_some_iff.mp hg;cases h2;exact⟨D,F,r,_,st,nd,h1,fun v H' F' R g_ ow s=>q v σ H' F' R aF.refl g_ ow s⟩
@[simp] def sIf(c:M Bool)(a b:MS):MS:=fun D=>(c D).bind fun p=>if p.1=true then a p.2 else b p.2
variable{gb:MS}
theorem cU{a b:List Stmt}{ga:MS}(hc:VT X c gc)(ha:Gh X fix a ga)(hb:Gh X fix b gb):VS X fix (.If c a b pos) (sIf gc ga gb):=by
 refine dH (ux hc ha hb) fun E σ H ⟨D,F,fl,D',st,nd,hg,q⟩=>?_;obtain⟨⟨t,D1⟩,h1,h2⟩:=bind_eq_some_iff.mp hg;refine⟨D,F,t,D1,st,nd,h1,fun H1 F1 r_ s1=>?_⟩;cases t with
 | true=>
  rw[if_pos rfl] at h2 ⊢;exact⟨D1,F1,fl,D',r_,s1.nd,h2,q.on aF.refl s1⟩
 | false=>
  rw[if_neg Bool.false_ne_true] at h2 ⊢;exact⟨D1,F1,fl,D',r_,s1.nd,h2,q.on aF.refl s1⟩
@[simp] def aA(i:Nat)(g:M Vl):MS:=fun D=>(g D).bind fun p=>if i<p.2.length then some (.nx,p.2.set i<|some p.1) else none
variable{i:Nat}
theorem aI{pos':Pos}(hN:X.N.Nodup)(hi:X.N[i]?=some x)(hx:Loc X.env.scope x)(he:VE X e g)(hf:i∉fix)(hs:swapsWith e (some<|.Name x pos') pos.line X.env=pure false:=by rfl)(HS:X.fn x=true\/X.env.scope.names.lookup x=some .local:=by first | exact .inl rfl | exact .inr rfl | assumption):VS X fix (.Assign [.Name x pos'] e pos) (aA i g):=by
 refine dH (uI hN hi hx he hs HS) fun E σ H ⟨D,F,fl,D',st,nd,hg,q⟩=>?_;obtain⟨⟨r,D1⟩,h1,h2⟩:=bind_eq_some_iff.mp hg;split at h2
 ·rename_i hl;cases h2;refine⟨D,F,r,_,st,nd,h1,fun v H1 F1 R r_ ow s1=>?_⟩;obtain⟨F2,R2,o_,pm⟩:=r_.put (i:=i) ow hl;exact q _ H1 F2 (aF.set hf) o_ (s1.less pm)
 ·cases h2
abbrev MG:=Vl->SD->Option SD
def tG(fix:List Nat)(g:MG):TG:=fun v σ H Q=>∃ D F d R D',ai H D σ F/\Own H d v R/\(F++R).Nodup/\g d D=some D'/\∀ σ' H' F',aF fix σ σ'->ai H' D' σ' F'->m_ H (F++R) H' F'->Q σ' H'
def VG(X:Cx)(fix:List Nat)(e:Expr)(g:MG):Prop:=∀ ⦃p⦄,Nf X e (tG fix g) p
theorem lj{t t':TG}(h:PG X e t)(i:∀ v σ H Q,t' v σ H Q->t v σ H Q):PG X e t':=fun pins s σ H x v Q I r hw=>h pins s σ H x v Q I r (i x σ H Q hw)
@[simp] def gN(i:Nat):MG:=fun d D=>if i<D.length then some (D.set i<|some d) else none
theorem bC(hN:X.N.Nodup)(hi:X.N[i]?=some x)(hx:Loc X.env.scope x)(hf:i∉fix)(HS:X.fn x=true\/X.env.scope.names.lookup x=some .local:=by first | exact .inl rfl | exact .inr rfl | assumption):VG X fix (.Name x pos) (gN i):=by
 refine lj (uy hN hi hx HS) fun v σ H Q ⟨D,F,d,R,D',st,ow,nd,hg,q⟩=>?_;unfold gN at hg;split at hg
 ·rename_i hl;cases hg;obtain⟨F2,R2,o_,pm⟩:=st.put (i:=i) ow hl;exact q _ H F2 (aF.set hf) o_ ((m_.perm nd<|List.Perm.refl _).less pm)
 ·cases hg
def OV(fix:List Nat)(g:List Vl->SD->Option SD):GE:=fun vs σ H Q=>∃ D F ds R D',ai H D σ F/\aH H ds vs R/\(F++R).Nodup/\g ds D=some D'/\∀ σ' H' F',aF fix σ σ'->ai H' D' σ' F'->m_ H (F++R) H' F'->Q σ' H'
def K7(X:Cx)(fix:List Nat)(es:List Expr)(g:List Vl->SD->Option SD):Prop:=∀ ⦃p⦄,nE X es (OV fix g) p
@[simp] def gNil':List Vl->SD->Option SD
 | [],D=>some D
 | _,_=>none
@[simp] def c6(g:MG)(h:List Vl->SD->Option SD):List Vl->SD->Option SD
 | d::ds,D=>(g d D).bind (h ds)
 | _,_=>none
theorem pk{t t':GE}(h:IP X es t)(i:∀ v σ H Q,t' v σ H Q->t v σ H Q):IP X es t':=fun pins s σ H xs vs Q I r hw=>h pins s σ H xs vs Q I r (i xs σ H Q hw)
theorem ll:K7 X fix [] gNil':=by
 refine pk uA fun vs σ H Q ⟨D,F,ds,R,D',st,ow,nd,hg,q⟩=>?_;cases ds with
 | cons d ds=>cases hg
 | nil=>
  cases hg;exact⟨ow.1,q σ H F aF.refl st<|(m_.perm nd<|List.Perm.refl _).less<|List.Perm.refl _⟩
theorem fW{g:MG}(h1:VG X fix e g)(h2:K7 X fix es h)(hs:(assignEach (e::es) X.env).map (·.2)=assign e X.env::(assignEach es X.env).map (·.2):=by rfl):K7 X fix (e::es) (c6 g h):=by
 refine pk (uB h1 h2 hs) fun vs σ H Q ⟨D,F,ds,R,D',st,ow,nd,hg,q⟩=>?_;cases ds with
 | nil=>cases hg
 | cons d ds=>
  obtain⟨v,r,R1,R2,rfl,w1,w2,rfl⟩:=ow;obtain⟨D1,g1,g2⟩:=bind_eq_some_iff.mp (show (g d D).bind (h ds)=some D' from hg);have Gi:((F++R1)++R2).Nodup:=by rw[List.append_assoc];exact nd
  refine⟨v,r,rfl,D,F,d,R1,D1,st,w1,(nodup_append.mp Gi).1,g1,fun σ1 H1 F1 fx r_ s1=>?_⟩;have K5:∀ a∈R2,a∉F++R1:=fun a ha hb=>(nodup_append.mp Gi).2.2 a hb a ha rfl;have Md:aH H1 ds r R2:=w2.mono s1.tup fun a ha o e=>s1.keep a o e (K5 a ha);have s2:m_ H (F++(R1++R2)) H1 (F1++R2):=by
   refine⟨fun a o e ha=>s1.keep a o e fun h=>ha ?_,fun a ha=>?_,nodup_append.mpr ⟨s1.nd,(nodup_append.mp Gi).2.1,fun a ha b hb e=>?_⟩,s1.tup,s1.grow⟩
   ·rw[<- List.append_assoc];exact mem_append_left _ h
   ·rcases mem_append.mp ha with ha | ha
    ·rcases s1.sub a ha with h | h
     ·left;rw[<- List.append_assoc];exact mem_append_left _ h
     ·exact .inr h
    ·left;rw[<- List.append_assoc];exact mem_append_right _ ha
   ·subst e;rcases s1.sub a ha with h | h
    ·exact K5 a hb h
    ·obtain⟨o,e,_⟩:=w2.chg a hb;rw[e] at h;cases h
  exact⟨D1,F1,ds,R2,D',r_,Md,s2.nd,g2,fun σ2 H2 F2 OW o_ s3=>q σ2 H2 F2 (fx.trans OW) o_<|s2.seq s3⟩
@[simp] def gT(n:Nat)(h:List Vl->SD->Option SD):MG:=fun d D=>match d with
 | .im (.tup is)=>if is.length=n then h (is.map .im) D else none
 | .Ja ds=>if ds.length=n then h ds D else none
 | _=>none
theorem pq{H:Hp}:∀ {is:List Im}{vs:List V},aj H is vs->aH H (is.map .im) vs []
 | [],vs,h=>⟨h,rfl⟩
 | d::is,vs,h=>by
  obtain⟨v,r,rfl,h1,h2⟩:=h;exact⟨v,r,[],[],rfl,⟨h1,rfl⟩,pq h2,rfl⟩
theorem lm(hc:X.calm=true)(hs:K7 X fix es h)(hn:(assignEach es X.env).length=n:=by rfl)(GO:(assignEach es X.env).findIdx? (·.1)=none:=by rfl):VG X fix (.Tuple es k pos) (gT n h):=by
 refine lj (uE hc hs hn GO) fun v σ H Q ⟨D,F,d,R,D',st,ow,nd,hg,q⟩=>?_;unfold gT at hg;split at hg
 ·rename_i is;split at hg
  ·rename_i hl;obtain⟨⟨a,xs,rfl,h1,h2⟩,rfl⟩:=ow;exact⟨a,xs,rfl,A_.of h1,by rw[<- h2.length];exact hl,D,F,_,[],D',st,pq h2,nd,hg,q⟩
  ·cases hg
 ·rename_i ds;split at hg
  ·rename_i hl;obtain⟨a,xs,rfl,h1,h2⟩:=ow;exact⟨a,xs,rfl,A_.of h1,by rw[<- h2.length];exact hl,D,F,_,R,D',st,h2,nd,hg,q⟩
  ·cases hg
 ·cases hg
@[simp] def cE(g:M Vl)(h:MG):MS:=fun D=>(g D).bind fun p=>(h p.1 p.2).map fun D'=>(.nx,D')
theorem ee{h:MG}(he:VE X e g)(hg:VG X fix tg h)(hs:swapsWithSole [tg] e pos.line X.env=pure false:=by rfl)(hw:swappedStores [tg] e X.env=pure none:=by rfl)(h1:(assignEach [tg] X.env).map (·.2)=[assign tg X.env]:=by rfl):VS X fix (.Assign [tg] e pos) (cE g h):=by
 refine dH (uH he hg hs hw h1) fun E σ H ⟨D,F,fl,D',st,nd,Er,q⟩=>?_;obtain⟨⟨r,D1⟩,g1,g2⟩:=bind_eq_some_iff.mp Er;obtain⟨D2,g3,g4⟩:=map_eq_some_iff.mp g2;cases g4;exact⟨D,F,r,D1,st,nd,g1,fun v H1 F1 R r_ ow s1=>⟨D1,F1,r,R,_,r_,ow,s1.nd,g3,fun σ' H' F' fx g_ s2=>q σ' H' F' fx g_<|s1.seq s2⟩⟩
@[simp] def eg(i j:Nat)(g:M (List Opd)):MS:=fun D=>(g D).bind fun p=>(aY p.1 p.2).bind fun q=>match q.1 with
 | [d1,d2]=>if i<q.2.length/\j<q.2.length then some (.nx,(q.2.set i<|some d1).set j<|some d2) else none
 | _=>none
theorem lq{y:Str}{g:M (List Opd)}{px py pt:Pos}{kt k2 HV}(hc:X.calm=true)(hN:X.N.Nodup)(hi:X.N[i]?=some x)(hj:X.N[j]?=some y)(DY:i≠j)(hx:X.env.scope.names.lookup x=some .local)(hy:X.env.scope.names.lookup y=some .local)(ha:VA X [a,b] g)(OX:i∉fix)(OY:j∉fix)(hw:swappedStores [.Tuple [.Name x px,.Name y py] kt pt] (.Tuple [a,b] k2 HV) X.env=pure (some [x,y]))(hs:swapsWithSole [.Tuple [.Name x px,.Name y py] kt pt] (.Tuple [a,b] k2 HV) pos.line X.env=pure false:=by rfl):
  VS X fix (.Assign [.Tuple [.Name x px,.Name y py] kt pt] (.Tuple [a,b] k2 HV) pos) (eg i j g):=by
 refine dH (uK hc hN hi hj DY hx hy ha hw hs) fun E σ H ⟨D,F,fl,D',st,nd,hg,q⟩=>?_;obtain⟨⟨os,D1⟩,h1,h2⟩:=bind_eq_some_iff.mp hg;obtain⟨⟨ds,D2⟩,h3,h4⟩:=bind_eq_some_iff.mp h2;refine⟨D,F,os,D1,st,nd,h1,fun vs H1 F1 R1 r_ o1 s1=>?_⟩;obtain⟨F2,R2,o_,ow,pm⟩:=fk r_ o1 h3;dsimp only at h4;split at h4
 ·rename_i d1 d2 e;split at h4
  ·rename_i hl;cases h4;obtain⟨v,r,A,B,rfl,w1,w2,rfl⟩:=ow;obtain⟨u,r',A',B',rfl,w3,⟨rfl,rfl⟩,rfl⟩:=w2;obtain⟨F3,G3,Dy,J2⟩:=o_.put (i:=i) w1 hl.1;obtain⟨F4,G4,DJ,J0⟩:=Dy.put (i:=j) w3 (by rw[length_set];exact hl.2);refine⟨v,u,rfl,q _ H1 F4 ((aF.set OX).trans<|aF.set OY) DJ<|(s1.Du pm.symm).less (C:=G4++G3) ?_⟩;rw[<- List.append_assoc,append_nil,<- List.append_assoc];refine (List.Perm.append_right G3 J0).trans ?_;rw[List.append_assoc];refine (List.Perm.append_left F3 perm_append_comm).trans ?_;rw[<- List.append_assoc];exact List.Perm.append_right _ J2
  ·cases h4
 ·cases h4
def dm(c:M Bool)(b:MS):Nat->MS
 | 0=>fun _=>none
 | n+1=>fun D=>(c D).bind fun p=>if p.1=true then (b p.2).bind fun q=>match q.1 with
  | .nx=>dm c b n q.2
  | .ct=>dm c b n q.2
  | .bk=>some (.nx,q.2)
  | .rt d=>some (.rt d,q.2) else some (.nx,p.2)
theorem pz(n:Nat)(hp:PassesOwn (model X.prog X.w) X.A X.env X.xe)(hc:VT X c gc)(hb:Gh X fix body gb):VS X fix (.While c body [] pos) (dm gc gb n):=by
 refine dH (uM hp hc hb) fun E σ H ⟨D,F,fl,D',st,nd,hg,q⟩=>?_;refine⟨fun m σ' H'=>∃ Dd F',ai H' Dd σ' F'/\aF fix σ σ'/\m_ H F H' F'/\dm gc gb m Dd=some (fl,D'),⟨n,D,F,st,aF.refl,m_.perm nd<|List.Perm.refl _,hg⟩,?_⟩;rintro m σ1 H1 ⟨D1,F1,r_,J3,s1,w⟩;cases m with
 | zero=>cases w
 | succ m=>
  rw[dm] at w;obtain⟨⟨t,D2⟩,w1,w2⟩:=bind_eq_some_iff.mp w;refine⟨D1,F1,t,D2,r_,s1.nd,w1,fun H2 F2 o_ s2=>?_⟩;cases t with
  | false=>
   rw[if_neg Bool.false_ne_true] at w2 ⊢;cases w2;exact q σ1 H2 F2 J3 o_ (s1.seq s2)
  | true=>
   rw[if_pos rfl] at w2 ⊢;obtain⟨⟨f,D3⟩,w3,w4⟩:=bind_eq_some_iff.mp w2;refine⟨fun σ' H'=>∃ Dd F',ai H' Dd σ' F'/\aF fix σ σ'/\m_ H F H' F'/\dm gc gb m Dd=some (fl,D'),fun σ' H' h=>⟨m,lt_succ_self m,h⟩,D2,F2,f,D3,o_,s2.nd,w3,?_⟩;cases f with
   | nx=>exact fun σ' H' F' fx g_ s'=>⟨D3,F',g_,J3.trans fx,(s1.seq s2).seq s',w4⟩
   | ct=>exact fun σ' H' F' fx g_ s'=>⟨D3,F',g_,J3.trans fx,(s1.seq s2).seq s',w4⟩
   | bk=>
    cases w4;exact fun σ' H' F' fx g_ s'=>q σ' H' F' (J3.trans fx) g_ ((s1.seq s2).seq s')
   | rt d=>
    cases w4;exact fun v σ' H' F' R fx g_ ow s'=>q v σ' H' F' R (J3.trans fx) g_ ow ((s1.seq s2).seq s')
structure ES(J:It)(H:Hp)(R:List Addr)(ds:List Im):Prop where
 go:∀ H',y_ H H'->(∀ a∈R,∀ o,H a=some o->H' a=some o)->∀ (i:Nat) (d:Im),ds[i]?=some d->J.go i H'/\∀ x Hy,J.Jy i H' x Hy->aB H' Hy/\CL Hy d x
 stop:∀ H',y_ H H'->(∀ a∈R,∀ o,H a=some o->H' a=some o)->J.stop ds.length H'
def gS(H:Hp)(σ:St)(R:List Addr):Option (Nat×Vl)->Prop
 | none=>True
 | some (i,d)=>∃ v,σ[i]?=some (some v)/\Own H d v R
def tI(g:M (List Im×Option (Nat×Vl))):TI:=fun σ H Rk=>∃ D F r D',ai H D σ F/\F.Nodup/\g D=some (r,D')/\∀ J H' F' R,ai H' D' σ F'->ES J H' R r.1->gS H' σ R r.2->(∀ a∈R,ER H' a)->m_ H F H' (F'++R)->Rk J H'
def VI(X:Cx)(tg iter:Expr)(g:M (List Im×Option (Nat×Vl))):Prop:=∀ ⦃p⦄,Nh X tg iter (tI g) p
theorem lr{t t':TI}(h:PI X tg iter t)(i:∀ σ H R,t' σ H R->t σ H R):PI X tg iter t':=fun pins s σ H R I hw=>h pins s σ H R I (i σ H R hw)
def ba(tg:MG)(b:MS):List Im->MS
 | []=>fun D=>some (.nx,D)
 | x::r=>fun D=>(tg (.im x) D).bind fun D1=>(b D1).bind fun q=>match q.1 with
  | .nx=>ba tg b r q.2
  | .ct=>ba tg b r q.2
  | .bk=>some (.nx,q.2)
  | .rt d=>some (.rt d,q.2)
@[simp] def rst:Option (Nat×Vl)->SD->SD
 | none,D=>D
 | some (i,d),D=>match D[i]? with
  | some (some .jk)=>D.set i (some d)
  | _=>D
@[simp] def b9(g:M (List Im×Option (Nat×Vl)))(tg:MG)(b:MS):MS:=fun D=>(g D).bind fun p=>(ba tg b p.1.1 p.2).map fun q=>(q.1,rst p.1.2 q.2)
theorem ls{o:Option (Nat×Vl)}(st:ai H D σ F)(h:gS H σ R o):∃ F1 G,ai H (rst o D) σ F1/\(F1++G).Perm (F++R):=by
 cases o with
 | none=>exact⟨F,R,st,List.Perm.refl _⟩
 | some p=>
  obtain⟨i,d⟩:=p;obtain⟨v,h1,h2⟩:=h;unfold rst;dsimp only;split
  ·exact st.back h2 h1
  ·exact⟨F,R,st,List.Perm.refl _⟩
def fq(fx:List Nat):Option (Nat×Vl)->Prop
 | none=>True
 | some (i,_)=>i∈fx
theorem xE{g:M (List Im×Option (Nat×Vl))}{gt:MG}(hp:PassesOwn (model X.prog X.w) X.A X.env X.xe)(hc:X.calm=true)(hi:VI X tg iter g)(hg:VG X fx tg gt)(hb:Gh X fx body gb)(hf:∀ i∈fix,i∈fx)(hs:∀ D r D',g D=some (r,D')->fq fx r.2)(K8:PS X (.For tg iter body [] pos) (nF (tI g) (tG fx gt)<|tS fx gb)):VS X fix (.For tg iter body [] pos) (b9 g gt gb):=by
 refine dH K8 fun E σ H ⟨D,F,fl,D',st,nd,Er,q⟩=>?_;obtain⟨⟨⟨ds,o⟩,D1⟩,h1,h2⟩:=bind_eq_some_iff.mp Er;obtain⟨⟨f,D2⟩,h3,h4⟩:=map_eq_some_iff.mp h2;cases h4;refine⟨D,F,(ds,o),D1,st,nd,h1,fun J H1 F1 R r_ it ln cR s1=>?_⟩;have OZ:fq fx o:=hs D _ _ h1;have Iv:=nodup_append.mp s1.nd;have keepR:∀ {H2:Hp}{F2:List Addr},m_ H1 F1 H2 F2->∀ a∈R,∀ u,H1 a=some u->H2 a=some u:=fun s a ha u e=>s.keep a u e fun h=>Iv.2.2 a h a ha rfl;have J4:∀ {H2:Hp}{F2:List Addr}{σ2:St},m_ H1 F1 H2 F2->aF fx σ σ2->gS H2 σ2 R o:=fun {H2 F2 σ2} s f=>by
  cases o with
  | none=>trivial
  | some p=>
   obtain⟨i,d⟩:=p;obtain⟨v,e1,e2⟩:=ln;exact⟨v,(f.2 i OZ).trans e1,e2.mono s.tup<|keepR s⟩
 have NA:∀ {σ2:St},aF fx σ σ2->aF fix σ σ2:=fun f=>⟨f.1,fun i hi=>f.2 i<|hf i hi⟩;have leave:∀ {σ2:St}{H2:Hp}{F2:List Addr}{D2:SD},J1 fix E σ H F (rst o D2) .nx->aF fx σ σ2->ai H2 D2 σ2 F2->m_ H1 F1 H2 F2->E.nx σ2 H2:=fun {σ2 H2 F2 D2} q f o_ s2=>by
  obtain⟨F3,G,Dy,pm⟩:=ls o_ (J4 s2 f);exact q σ2 H2 F3 (NA f) Dy ((s1.trans s2 cR).less pm)
 refine⟨fun i m σ' H'=>m+i=ds.length/\∃ Dd F',aF fx σ σ'/\ai H' Dd σ' F'/\m_ H1 F1 H' F'/\ba gt gb (ds.drop i) Dd=some (f,D2),⟨ds.length,rfl,D1,F1,aF.refl,r_,m_.perm Iv.1<|List.Perm.refl _,h3⟩,?_⟩;rintro i m σ' H' ⟨hm,Dd,F',J5,g_,s',hw⟩;by_cases DO:i<ds.length
 ·obtain⟨Me,hy⟩:=it.go H' s'.tup (keepR s') i ds[i] (by simp[DO]);rw[drop_eq_getElem_cons DO,ba] at hw;obtain⟨D3,w1,w2⟩:=bind_eq_some_iff.mp hw;obtain⟨⟨f2,D4⟩,w3,w4⟩:=bind_eq_some_iff.mp w2;refine .inr ⟨Me,fun σ2 H2=>(m - 1)+(i+1)=ds.length/\∃ Dd F',aF fx σ σ2/\ai H2 Dd σ2 F'/\m_ H1 F1 H2 F'/\ba gt gb (ds.drop<|i+1) Dd=some (f,D2),fun σ2 H2 h=>⟨m - 1,by lia,h⟩,fun x H2 hx=>?_⟩;obtain⟨sm,Mf⟩:=hy x H2 hx;have o_:=g_.mono sm.tupS fun a _ o e=>sm a o e;have s2:=s'.same sm;refine⟨Dd,F',.im ds[i],[],D3,o_,⟨Mf,rfl⟩,by rw[append_nil];exact s2.nd,w1,fun σ3 H3 F3 G_ Dy sg=>?_⟩;have s3:m_ H1 F1 H3 F3:=s2.seq (by rw[append_nil] at sg;exact sg);refine⟨D3,F3,f2,D4,Dy,s3.nd,w3,?_⟩;cases f2 with
  | nx=>exact fun σ4 H4 F4 Iw DJ s4=>⟨by lia,D4,F4,(J5.trans G_).trans Iw,DJ,s3.seq s4,w4⟩
  | ct=>exact fun σ4 H4 F4 Iw DJ s4=>⟨by lia,D4,F4,(J5.trans G_).trans Iw,DJ,s3.seq s4,w4⟩
  | bk=>
   cases w4;exact fun σ4 H4 F4 Iw DJ s4=>leave q ((J5.trans G_).trans Iw) DJ (s3.seq s4)
  | rt d=>
   cases w4;intro v σ4 H4 F4 R4 Iw DJ O0 s4;have s5:=s3.seq s4;have f5:=(J5.trans G_).trans Iw;obtain⟨F5,G5,DQ,Ha⟩:=ls (R:=R) DJ (J4 s5 f5);refine q v σ4 H4 F5 R4 (NA f5) DQ O0 ((s1.trans s5 cR).less (C:=G5) ?_);rw[List.append_assoc];refine (List.Perm.append_left F5 perm_append_comm).trans ?_;rw[<- List.append_assoc];refine (List.Perm.append_right R4 Ha).trans ?_;rw[List.append_assoc,List.append_assoc];exact List.Perm.append_left _ perm_append_comm
 ·have hi:i=ds.length:=by lia
  subst hi;refine .inl ⟨it.stop H' s'.tup<|keepR s',?_⟩;rw[drop_of_length_le (Nat.le_refl _)] at hw;cases hw;exact leave q J5 g_ s'
end
section
variable{X:Cx}
variable{gt:MG}
theorem ej{g:M (List Im×Option (Nat×Vl))}{gb:MS}(hp:PassesOwn (model X.prog X.w) X.A X.env X.xe)(hc:X.calm=true)(hi:VI X tg iter g)(hg:VG X fx tg gt)(hb:Gh X fx body gb)(hf:∀ i∈fix,i∈fx)(hs:∀ D r D',g D=some (r,D')->fq fx r.2)(O1:∀ x,foldedSetIterable iter X.env x=pure x:=by intro _;rfl):VS X fix (.For tg iter body [] pos) (b9 g gt gb):=
 xE hp hc hi hg hb hf hs (uT hp hc hi hg hb O1)
def O2(K:PySem.W.Frag)(tl:TE):TI:=fun σ H R=>tl σ H fun x H1=>∃ a,x=.ref a/\(((∃ xs,CT K H1 a xs)/\R (Jz K a) H1)\/((∃ xs,A_ K H1 a xs)/\R (KM K a) H1))
variable{l:Expr}
theorem xF{tl:TE}(hl:PE X l tl):PI X tg l (O2 X.K tl):=by
 intro pins s σ H R I h;refine u_ (hl pins s σ H _ I h) fun v s1 ⟨x,H1,I1,r1,q1⟩=>?_;obtain⟨a,e,q⟩:=q1;subst e;cases r1;rcases q with ⟨⟨xs,hq⟩,q⟩ | ⟨⟨xs,hq⟩,q⟩
 ·obtain⟨f_,rv,p,hz⟩:=I1.list hq;refine wpAny_pyIter_list p.isList ?_;refine⟨s1.heap.objs.size,[s1.heap.objs.size],_,_,H1,rfl,I1.kept (t':=s1.toks) fun b o e=>Heap.get?_push_of_some _ e,uN a _,⟨_,Heap.get?_push_size _ rfl,rfl,rfl⟩,fun b hb=>?_,q⟩;have e:b=s1.heap.objs.size:=by simpa using hb
  subst e;exact I1.GP (Nat.le_refl _) (I1.l_.fresh<|Nat.le_refl _)
 ·obtain⟨f_,rv,p,hz⟩:=I1.tuple hq;refine wpAny_pyIter_tuple (show s1.heap.IsTuple a f_.toArray from p) ?_;refine⟨s1.heap.objs.size,[s1.heap.objs.size],_,_,H1,rfl,I1.kept (t':=s1.toks) fun b o e=>Heap.get?_push_of_some _ e,uO a _,⟨_,Heap.get?_push_size _ rfl,rfl,rfl⟩,fun b hb=>?_,q⟩;have e:b=s1.heap.objs.size:=by simpa using hb
  subst e;exact I1.GP (Nat.le_refl _) (I1.l_.fresh<|Nat.le_refl _)
theorem aj.get{H:Hp}:∀ {ds:List Im}{vs:List V}{i:Nat}{d:Im},aj H ds vs->ds[i]?=some d->∃ v,vs[i]?=some v/\CL H d v
 | [],_,_,_,_,e=>by simp at e
 | d::ds,_,0,_,h,e=>by
  obtain⟨v,r,rfl,h1,h2⟩:=h;simp at e;subst e;exact⟨v,rfl,h1⟩
 | d::ds,_,i+1,_,h,e=>by
  obtain⟨v,r,rfl,h1,h2⟩:=h;obtain⟨u,g1,g2⟩:=aj.get (i:=i) h2 (by simpa using e);exact⟨u,by simpa using g1,g2⟩
variable{a:Addr}
theorem xG(h:H a=some (.lst xs))(hd:aj H ds xs):ES (Jz K a) H [a] ds where
 go:=fun H' t k i d e=>by
  obtain⟨v,g1,g2⟩:=hd.get e;have h':=CT.of (K:=K) (k a (.head _) _ h);refine⟨⟨xs,v,h',g1⟩,fun x Hy ⟨e1,e2⟩=>?_⟩;subst e1;rw[e2 xs h'] at g1;cases g1;exact⟨aB.refl _,g2.mono t.tup⟩
 stop:=fun H' t k=>⟨xs,CT.of<|k a (.head _) _ h,by rw[<- hd.length];exact Nat.le_refl _⟩
theorem xH{o:Obj}(h:H a=some (.Da o<|.lst xs))(hd:aj H ds xs):ES (Jz K a) H [] ds where
 go:=fun H' t k i d e=>by
  obtain⟨v,g1,g2⟩:=hd.get e;have h':CT K H' a xs:=.inl (.inr ⟨o,t.Da _ _ _ h⟩);refine⟨⟨xs,v,h',g1⟩,fun x Hy ⟨e1,e2⟩=>?_⟩;subst e1;rw[e2 xs h'] at g1;cases g1;exact⟨aB.refl _,g2.mono t.tup⟩
 stop:=fun H' t k=>⟨xs,.inl<|.inr ⟨o,t.Da _ _ _ h⟩,by rw[<- hd.length];exact Nat.le_refl _⟩
theorem xI(h:H a=some (.tup xs))(hd:aj H ds xs):ES (KM K a) H [] ds where
 go:=fun H' t k i d e=>by
  obtain⟨v,g1,g2⟩:=hd.get e;have h':=A_.of (K:=K) (t.tup a _ h);refine⟨⟨xs,v,h',g1⟩,fun x Hy ⟨e1,e2⟩=>?_⟩;subst e1;rw[e2 xs h'] at g1;cases g1;exact⟨aB.refl _,g2.mono t.tup⟩
 stop:=fun H' t k=>⟨xs,A_.of<|t.tup a _ h,by rw[<- hd.length];exact Nat.le_refl _⟩
abbrev MI:=M (List Im×Option (Nat×Vl))
@[simp] def dq(d:Vl):Option (List Im):=match d with
 | .im (.tup ds)=>some ds
 | .lst ds=>some ds
 | .fz ds=>some ds
 | _=>none
@[simp] def bn(g:M Opd):MI:=fun D=>(g D).bind fun p=>match p.1 with
 | .vl d=>(dq d).map fun ds=>((ds,none),p.2)
 | .sl i=>(bK i p.2).bind fun q=>(dq q.1).map fun ds=>((ds,if q.1.cp=true then none else some (i,q.1)),q.2)
theorem pA(w:Own H d v R)(e:dq d=some ds):
  ∃ a,v=.ref a/\(((∃ xs,CT K H a xs)/\ES (Jz K a) H R ds)\/((∃ xs,A_ K H a xs)/\ES (KM K a) H R ds)):=by
 unfold dq at e;split at e
 ·cases e;obtain⟨⟨a,xs,rfl,h1,h2⟩,rfl⟩:=w;exact⟨a,rfl,.inr ⟨⟨xs,A_.of h1⟩,xI h1 h2⟩⟩
 ·cases e;obtain⟨a,xs,rfl,h1,h2,rfl⟩:=w;exact⟨a,rfl,.inl ⟨⟨xs,CT.of h1⟩,xG h1 h2⟩⟩
 ·cases e;obtain⟨a,xs,o,rfl,h1,h2,rfl⟩:=w;exact⟨a,rfl,.inl ⟨⟨xs,.inl<|.inr ⟨o,h1⟩⟩,xH h1 h2⟩⟩
 ·cases e
theorem dJ{g:M Opd}(h:VO X l g):VI X tg l (bn g):=by
 refine lr (xF h) fun σ H Rk ⟨D,F,r,D',st,nd,hg,q⟩=>?_;obtain⟨⟨x,D1⟩,h1,h2⟩:=bind_eq_some_iff.mp hg;refine⟨D,F,x,D1,st,nd,h1,fun v H1 F1 R r_ o1 s1=>?_⟩;cases x with
 | vl d=>
  obtain⟨ds,h3,h4⟩:=map_eq_some_iff.mp h2;cases h4;obtain⟨a,rfl,hh⟩:=pA (K:=X.K) o1 h3;refine⟨a,rfl,?_⟩;rcases hh with ⟨hx,it⟩ | ⟨hx,it⟩
  ·exact .inl ⟨hx,q _ H1 F1 R r_ it trivial (Own.chg o1) s1⟩
  ·exact .inr ⟨hx,q _ H1 F1 R r_ it trivial (Own.chg o1) s1⟩
 | sl i=>
  obtain⟨⟨d,D2⟩,h3,h4⟩:=bind_eq_some_iff.mp h2;obtain⟨ds,h5,h6⟩:=map_eq_some_iff.mp h4;cases h6;obtain⟨v',F2,R2,g1,g2,g3,g4⟩:=pg r_ h3;obtain⟨o1,rfl⟩:=o1;rw[o1] at g1;cases g1;rw[append_nil] at s1;have s2:=s1.Du g4.symm;obtain⟨a,rfl,hh⟩:=pA (K:=X.K) g2 h5;have ln:gS H1 σ R2 (if d.cp=true then none else some (i,d)):=by
   split
   ·trivial
   ·exact⟨_,o1,g2⟩
  refine⟨a,rfl,?_⟩;rcases hh with ⟨hx,it⟩ | ⟨hx,it⟩
  ·exact .inl ⟨hx,q _ H1 F2 R2 g3 it ln g2.chg s2⟩
  ·exact .inr ⟨hx,q _ H1 F2 R2 g3 it ln g2.chg s2⟩
theorem xJ{g:M Vl}:∀ D r D',bn (oV g) D=some (r,D')->fq fx r.2:=by
 intro D r D' h;obtain⟨⟨x,D1⟩,h1,h2⟩:=bind_eq_some_iff.mp h;unfold oV at h1;obtain⟨p,h3,h4⟩:=map_eq_some_iff.mp h1;cases h4;obtain⟨ds,h5,h6⟩:=map_eq_some_iff.mp h2;cases h6
 trivial
variable{i:Nat}
theorem lu(hi:i∈fx):∀ D r D',bn (oSl i) D=some (r,D')->fq fx r.2:=by
 intro D r D' h;obtain⟨⟨x,D1⟩,h1,h2⟩:=bind_eq_some_iff.mp h;unfold oSl at h1;split at h1
 ·cases h1;obtain⟨⟨d,D2⟩,h3,h4⟩:=bind_eq_some_iff.mp h2;obtain⟨ds,h5,h6⟩:=map_eq_some_iff.mp h4;cases h6;show fq fx (if d.cp=true then none else some (i,d));split
  ·trivial
  ·exact hi
 ·cases h1
def ca(lo:Int)(n:Nat):List Im:=(range n).map fun (k:Nat)=>Im.int (lo+(k:Int))
theorem xK{lo:Int}:ES (KN lo n) H [] (ca lo n) where
 go:=fun H' t k i d e=>by
  have hi:i<n:=by
   have:=(List.getElem?_eq_some_iff.mp e).1
   rwa [ca,length_map,length_range] at this
  refine⟨hi,fun x Hy ⟨e1,e2⟩=>?_⟩;subst e1;rw[ca,List.getElem?_map,List.getElem?_range hi] at e;cases e;exact⟨aB.refl _,e2⟩
 stop:=fun H' t k=>by
  show n<=_;rw[ca,length_map,length_range];exact Nat.le_refl _
def jl(i:Int):Prop := -1000000<=i/\i<=1000000
instance (i:Int):Decidable (jl i):=inferInstanceAs (Decidable<|_/\_)
@[simp] def iR1(g:M (List Opd)):MI:=fun D=>(g D).bind fun p=>(bN p.2 p.1).bind fun ds=>match ds with
 | [.im (.int j)]=>if jl j then some ((ca 0 j.toNat,none),p.2) else none
 | _=>none
theorem lv{d:Im}(h:d9 H [.im d] vs):∃ v,vs=[v]/\CL H d v:=by
 obtain⟨v,r,rfl,⟨R,h1,_⟩,h2⟩:=h;cases (show r=[] from h2);exact⟨v,rfl,h1⟩
theorem xL{d e:Im}(h:d9 H [.im d,.im e] vs):∃ v u,vs=[v,u]/\CL H d v/\CL H e u:=by
 obtain⟨v,r,rfl,⟨R,h1,_⟩,h2⟩:=h;obtain⟨u,rfl,h3⟩:=lv h2;exact⟨v,u,rfl,h1,h3⟩
theorem jm{a:Expr}{p:Pos}(hg:Gl X "range")(hm:X.mg "range" = none)(ha:VA X [a] g)(hs:starEach [a] X.env=[(false,eval a X.env)]:=by rfl):VI X tg (.Call (.Name "range" p) [a] [] pos) (iR1 g):=by
 refine lr (uS hg hm ha hs) fun σ H Rk ⟨D,F,r,D',st,nd,Er,q⟩=>?_;obtain⟨⟨os,D1⟩,h1,h2⟩:=bind_eq_some_iff.mp Er;obtain⟨ds,h3,h4⟩:=bind_eq_some_iff.mp h2;refine⟨D,F,os,D1,st,nd,h1,fun vs H1 F1 R1 r_ o1 s1=>?_⟩;have rd:=o1.read r_ h3;split at h4
 ·rename_i j;split at h4
  ·rename_i hj;cases h4;obtain⟨v,rfl,e⟩:=lv rd;cases (show v=.int j from e);exact⟨j,rfl,by have:=hj.1;lia,by have:=hj.2;lia,q _ H1 F1 [] r_ xK trivial (fun a ha=>nomatch ha) (by rw[append_nil];exact s1.less (List.Perm.refl _))⟩
  ·cases h4
 ·cases h4
theorem jn:∀ D r D',iR1 g D=some (r,D')->fq fx r.2:=by
 intro D r D' h;obtain⟨⟨os,D1⟩,h1,h2⟩:=bind_eq_some_iff.mp h;obtain⟨ds,h3,h4⟩:=bind_eq_some_iff.mp h2;split at h4
 ·split at h4
  ·cases h4;trivial
  ·cases h4
 ·cases h4
def K9(X:Cx)(ifs:List Expr)(g:M Bool):Prop:=∀ ⦃p⦄,oD X ifs (FQ g) p
def kYes:M Bool:=fun D=>some (true,D)
theorem jo:K9 X [] kYes:=by
 intro pins s σ H Q I ⟨D,F,b,D',st,nd,hg,q⟩;cases hg;exact wM pins s σ H Q I (q H F st<|m_.perm nd<|List.Perm.refl _)
theorem pB{g:M Bool}(h:VT X c g):K9 X [c] g:=wN h
@[simp] def dr(caps:List Nat)(D:SD):SD:=caps.map fun i=>D.getD i none
def dt:List Nat->SD->SD
 | [],D=>D
 | i::r,D=>dt r (match D[i]? with | some (some _)=>D.set i (some .jk) | _=>D)
@[simp] def cF:List Nat->SD->SD->SD
 | i::r,o::C,D=>cF r C (D.set i o)
 | _,_,D=>D
def bX(own : Nat)(tg : MG)(c : M Bool)(e : M Vl): List Im -> List Im -> SD -> Option (List Im × SD)
  | [], acc, C => some (acc, C)
  | x :: r, acc, C => (tg (.im x)<|List.replicate own none ++ C).bind fun D1 => (c D1).bind fun p => if p.1 = true then (e p.2).bind fun q => match q.1 with
      | .im d => if acc.length < 100000 then bX own tg c e r (acc ++ [d]) (q.2.drop own) else none
      | _ => none
    else bX own tg c e r acc (p.2.drop own)
@[simp] def bv(own:Nat)(caps:List Nat)(gi:MI)(tg:MG)(c:M Bool)(e:M Vl):M Vl:=fun D=>(gi D).bind fun p=>(bX own tg c e p.1.1 []<|dr caps p.2).map fun q=>(.lst q.1,rst p.1.2<|cF caps q.2 p.2)
def gU(own n:Nat):List Nat:=(range n).map (·+own)
theorem xM(h:D[i]?=some o):D.getD i none=o:=by rw[getD_eq_getElem?_getD,h];rfl
theorem ai.void(st:ai H D σ F)(i:Nat):∃ F1 F2,ai H (match D[i]? with | some (some _)=>D.set i (some .jk) | _=>D) σ F1/\d7 H (D.getD i none) (σ.getD i none) F2/\(F1++F2).Perm F:=by
 split
 ·rename_i d hd;obtain⟨v,F1,F2,h1,h2,h3,h4⟩:=st.out hd;refine⟨F2,F1,h3,?_,h4⟩;rw[xM hd,getD_eq_getElem?_getD,h1];exact⟨v,rfl,h2⟩
 ·rename_i hn;refine⟨F,[],st,?_,by rw[append_nil]⟩;have:D.getD i none=none:=by
   rw[getD_eq_getElem?_getD];cases e:D[i]? with
   | none=>rfl
   | some o=>
    cases o with
    | none=>rfl
    | some d=>exact absurd e (hn d)
  rw[this];exact rfl
theorem pC{H:Hp}{σ:St}:∀ {caps:List Nat}{D:SD}{F:List Addr},caps.Nodup->ai H D σ F->∃ F1 F2,ai H (dt caps D) σ F1/\ai H (dr caps D) (caps.map fun i=>σ.getD i none) F2/\(F1++F2).Perm F
 | [],D,F,_,st=>⟨F,[],st,⟨rfl,rfl⟩,by rw[append_nil]⟩
 | i::r,D,F,nd,st=>by
  obtain⟨F1,F2,h1,h2,h3⟩:=st.void i;have hn:=nodup_cons.mp nd;obtain⟨F3,F4,g1,g2,g3⟩:=pC (caps:=r) hn.2 h1;refine⟨F3,F2++F4,g1,⟨_,_,F2,F4,rfl,h2,?_,rfl⟩,dl.trans<|(List.Perm.append_left _ g3).trans<|perm_append_comm.trans h3⟩;have e:dr r (match D[i]? with | some (some _)=>D.set i (some .jk) | _=>D)=dr r D:=by
   unfold dr;refine List.map_congr_left fun j hj=>?_;split
   ·rw[getD_eq_getElem?_getD,getD_eq_getElem?_getD,getElem?_set_ne];rintro rfl;exact hn.1 hj
   ·rfl
  rw[e] at g2;exact g2
theorem ai.Mg(st:ai H D σ F)(h:d7 H o (σ.getD i none) G):∃ F1 F2,ai H (D.set i o) σ F1/\(F1++F2).Perm (F++G):=by
 cases o with
 | some d=>
  obtain⟨v,e,w⟩:=h;refine st.back w ?_;rw[getD_eq_getElem?_getD] at e;cases q:σ[i]? with
  | none=>rw[q] at e;cases e
  | some x=>rw[q] at e;rw[show x=some v from e]
 | none=>
  cases (show G=[] from h);rw[append_nil];by_cases hi:i<D.length
  ·cases q:D[i]? with
   | none=>exact absurd (List.getElem?_eq_none_iff.mp q) (by lia)
   | some x=>
    cases x with
    | none=>
     refine⟨F,[],?_,by rw[append_nil]⟩;have:D.set i none=D:=by
      refine ext_getElem? fun j=>?_;by_cases e:i=j
      ·subst e;rw[q,List.getElem?_set_self hi]
      ·rw[getElem?_set_ne e]
     rw[this];exact st
    | some d=>
     obtain⟨v,F1,F2,h1,h2,h3,h4⟩:=st.out q;have gen:∀ {D:SD}{σ:St}{F:List Addr}{i:Nat},ai H D σ F->∃ F1 F2,ai H (D.set i none) σ F1/\(F1++F2).Perm F:=by
      intro D;induction D with
      | nil=>intro σ F i st;exact⟨F,[],by simpa using st,by rw[append_nil]⟩
      | cons o D ih=>
       intro σ F i st;obtain⟨x,r,A,B,rfl,s1,s2,rfl⟩:=st;cases i with
       | zero=>exact⟨B,A,⟨x,r,[],B,rfl,rfl,s2,rfl⟩,perm_append_comm⟩
       | succ i=>
        obtain⟨C,E,c1,c2⟩:=ih (i:=i) s2;refine⟨A++C,E,⟨x,r,A,C,rfl,s1,c1,rfl⟩,?_⟩;rw[List.append_assoc];exact List.Perm.append_left _ c2
     exact gen st
  ·refine⟨F,[],?_,by rw[append_nil]⟩;rw[List.set_eq_of_length_le (by lia)];exact st
theorem pE{H:Hp}{σ:St}:∀ {caps:List Nat}{C D:SD}{F G:List Addr},ai H D σ F->ai H C (caps.map fun i=>σ.getD i none) G->∃ F1 F2,ai H (cF caps C D) σ F1/\(F1++F2).Perm (F++G)
 | [],C,D,F,G,st,_=>⟨F,G,by cases C<;>exact st,List.Perm.refl _⟩
 | i::r,[],D,F,G,st,h=>⟨F,G,st,List.Perm.refl _⟩
 | i::r,o::C,D,F,G,st,h=>by
  obtain⟨x,t,G1,G2,e,h1,h2,rfl⟩:=h;cases e;obtain⟨F1,A,g1,g2⟩:=st.Mg h1;obtain⟨F2,B,k1,k2⟩:=pE (caps:=r) (C:=C) g1 h2;refine⟨F2,B++A,k1,?_⟩;rw[<- List.append_assoc,<- List.append_assoc];refine (List.Perm.append_right A k2).trans ?_;rw[List.append_assoc];refine (List.Perm.append_left F1 perm_append_comm).trans ?_;rw[<- List.append_assoc];exact List.Perm.append_right _ g2
theorem xN:∀ {caps:List Nat}{C D:SD},caps.length=C.length->caps.Nodup->cF caps C (dt caps D)=cF caps C D:=by
 have comm:∀ {r:List Nat}{C D:SD}{i:Nat}{o:Option Vl},i∉r->cF r C (D.set i o)=(cF r C D).set i o:=by
  intro r;induction r with
  | nil=>intro C D i o _;cases C<;>rfl
  | cons j r ih=>
   intro C D i o h;cases C with
   | nil=>rfl
   | cons c C=>
    have hj:i≠j:=fun e=>h (by rw[e];exact .head _);show cF r C ((D.set i o).set j c)=(cF r C<|D.set j c).set i o;rw[set_comm _ _ hj,ih fun z=>h<|.tail _ z]
 have Gj:∀ {r:List Nat}{D:SD}{i:Nat}{o:Option Vl},i∉r->dt r (D.set i o)=(dt r D).set i o:=by
  intro r;induction r with
  | nil=>intro D i o _;rfl
  | cons j r ih=>
   intro D i o h;have hj:i≠j:=fun e=>h (by rw[e];exact .head _);show dt r (match (D.set i o)[j]? with | some (some _)=>(D.set i o).set j (some .jk) | _=>D.set i o)=(dt r (match D[j]? with | some (some _)=>D.set j (some .jk) | _=>D)).set i o;rw[getElem?_set_ne hj];cases D[j]? with
   | none=>exact ih fun z=>h (.tail _ z)
   | some q=>
    cases q with
    | none=>exact ih fun z=>h (.tail _ z)
    | some d=>
     show dt r ((D.set i o).set j<|some .jk)=_;rw[set_comm _ _ hj];exact ih fun z=>h (.tail _ z)
 intro caps;induction caps with
 | nil=>intro C D _ _;cases C<;>rfl
 | cons i r ih=>
  intro C D hl nd;have hn:=nodup_cons.mp nd;cases C with
  | nil=>cases hl
  | cons c C=>
   have DW:r.length=C.length:=by simpa using hl
   show cF r C ((dt r (match D[i]? with | some (some _)=>D.set i (some .jk) | _=>D)).set i c)=cF r C (D.set i c);split
   ·rw[Gj hn.1,set_set,<- Gj hn.1,ih DW hn.2]
   ·rw[<- Gj hn.1,ih DW hn.2]
theorem pF{H:Hp}{D:SD}{r:St}{F:List Addr}(h:ai H D r F):∀ {own:List Str},ai H (List.replicate own.length none++D) (own.map (fun _=>none)++r) F
 | []=>h
 | x::own=>⟨none,_,[],F,rfl,rfl,pF h (own:=own),rfl⟩
theorem lx{H:Hp}:∀ {n:Nat}{D:SD}{σ:St}{F:List Addr},ai H D σ F->∃ F1 F2,ai H (D.drop n) (σ.drop n) F1/\(F1++F2).Perm F
 | 0,D,σ,F,h=>⟨F,[],h,by rw[append_nil]⟩
 | n+1,[],σ,F,h=>by
  cases h.1;exact⟨[],F,⟨rfl,rfl⟩,List.Perm.refl _⟩
 | n+1,o::D,σ,F,h=>by
  obtain⟨x,r,A,B,rfl,h1,h2,rfl⟩:=h;obtain⟨F1,F2,g1,g2⟩:=lx (n:=n) h2;exact⟨F1,F2++A,g1,by rw[<- List.append_assoc];exact (List.Perm.append_right A g2).trans perm_append_comm⟩
theorem m_.both(a:m_ H F H1 (F1++R)):m_ H F H1 F1:=a.less (List.Perm.refl _)
theorem aj.snoc:∀ {ds:List Im}{vs:List V}{d:Im}{v:V},aj H ds vs->CL H d v->aj H (ds++[d]) (vs++[v])
 | [],vs,d,v,h,w=>by cases (show vs=[] from h);exact⟨v,[],rfl,w,rfl⟩
 | e::ds,vs,d,v,h,w=>by
  obtain⟨u,r,rfl,h1,h2⟩:=h;exact⟨u,r++[v],rfl,h1,h2.snoc w⟩
variable{gi:MI}
theorem pG(nd:caps.Nodup)(h:tV (bv own.length caps gi gt gc ge) σ H Q):
  jd own caps (tI gi) (fun _=>tG (gU own.length caps.length) gt) (fun _=>FQ gc) (fun _=>tV ge) σ H Q:=by
 obtain⟨D,F,r,D',st,O3,Er,q⟩:=h;obtain⟨⟨⟨xs,o⟩,D1⟩,h1,h2⟩:=bind_eq_some_iff.mp Er;obtain⟨⟨ds,C'⟩,h3,h4⟩:=map_eq_some_iff.mp h2;cases h4;refine⟨D,F,(xs,o),D1,st,O3,h1,fun J H1 F1 R r_ it ln cR s1 Y=>?_⟩;obtain⟨Fo,Fc,so,sc,pm⟩:=pC nd r_;have s2:m_ H F H1 (Fc++(Fo++R)):=s1.Du (by
  refine (List.Perm.append_right R pm.symm).trans ?_;rw[List.append_assoc];exact dl)
 have EU:=nodup_append.mp s2.nd;have cO:∀ x∈Fo++R,ER H1 x:=fun x hx=>by
  rcases mem_append.mp hx with hx | hx
  ·exact so.chg x hx
  ·exact cR x hx
 have Fk:∀ {H2:Hp}{F2:List Addr},m_ H1 Fc H2 F2->∀ a∈Fo++R,∀ u,H1 a=some u->H2 a=some u:=fun s a ha u e=>s.keep a u e fun h=>EU.2.2 a h a ha rfl;refine⟨fun i m ys H'=>m+i=xs.length/\∃ acc C Ix,ai H' C (caps.map fun i=>σ.getD i none) Ix/\C.length=caps.length/\m_ H1 Fc H' Ix/\aj H' acc ys/\bX own.length gt gc ge (xs.drop i) acc C=some (ds,C'),
  ⟨xs.length,rfl,[],dr caps D1,Fc,sc,by rw[dr,length_map],m_.perm EU.1<|List.Perm.refl _,rfl,h3⟩,?_⟩;rintro i m ys H' ⟨hm,acc,C,Ix,sC,lC,s',K',hw⟩;by_cases DO:i<xs.length
 ·obtain⟨Me,hy⟩:=it.go H' s'.tup (fun a ha=>Fk s' a<|mem_append_right _ ha) i xs[i] (by simp[DO]);rw[drop_eq_getElem_cons DO,bX] at hw;obtain⟨D3,w1,w2⟩:=bind_eq_some_iff.mp hw;obtain⟨⟨b,D4⟩,w3,w4⟩:=bind_eq_some_iff.mp w2;refine .inr ⟨Me,fun NB H2=>(m - 1)+(i+1)=xs.length/\∃ acc C Ix,ai H2 C (caps.map fun i=>σ.getD i none) Ix/\C.length=caps.length/\m_ H1 Fc H2 Ix/\aj H2 acc NB/\bX own.length gt gc ge (xs.drop<|i+1) acc C=some (ds,C'),fun NB H2 h=>⟨m - 1,by lia,h⟩,fun x H2 hx=>?_⟩;obtain⟨sm,Mf⟩:=hy x H2 hx;have O4:=sC.mono sm.tupS fun a _ o e=>sm a o e;have NC:=s'.same sm;have Hb:=K'.mono sm.tupS.tup;refine⟨List.replicate own.length none++C,Ix,.im xs[i],[],D3,pF O4,⟨Mf,rfl⟩,by rw[append_nil];exact NC.nd,w1,fun σ3 H3 F3 G_ Dy sg=>⟨fun j v hj=>?_,?_⟩⟩
  ·
   have hlen:own.length<=j:=by
    by_cases O5:j<own.length
    ·rw[c5,getElem?_append_left (by simpa using O5),List.getElem?_map] at hj;cases e:own[j]? with
     | none=>rw[e] at hj;cases hj
     | some z=>rw[e] at hj;cases hj
    ·lia
   have O6:j<own.length+caps.length:=by
    have:=(List.getElem?_eq_some_iff.mp hj).1
    rwa [c5,length_append,length_map,length_map] at this
   have hm:j∈gU own.length caps.length:=mem_map.mpr ⟨j - own.length,mem_range.mpr (by lia),by lia⟩;exact (G_.2 j hm).trans hj
  ·have s3:m_ H1 Fc H3 F3:=NC.seq (by rw[append_nil] at sg;exact sg);have Hb:=Hb.mono sg.tup.tup;have Gk:σ3.drop own.length=caps.map fun i=>σ.getD i none:=by
    have Qq:=Dy.len;refine ext_getElem? fun j=>?_;by_cases hj:j<caps.length
    ·have hm:j+own.length∈gU own.length caps.length:=mem_map.mpr ⟨j,mem_range.mpr hj,rfl⟩;have:=G_.2 _ hm;rw[getElem?_drop,add_comm,this,c5,getElem?_append_right (by simp),length_map,Nat.add_sub_cancel]
    ·have l1:σ3.length<=own.length+caps.length:=by
      rw[G_.1,c5,length_append,length_map,length_map];exact Nat.le_refl _
     rw[List.getElem?_eq_none (by rw[length_drop];lia),List.getElem?_eq_none (by rw[length_map];lia)]
   have lσ:σ3.length=own.length+caps.length:=by rw[G_.1,c5,length_append,length_map,length_map]
   refine⟨D3,F3,b,D4,Dy,s3.nd,w3,fun H4 F4 DJ s4=>?_⟩;have s5:=s3.seq s4;dsimp only at w4 ⊢;cases b with
   | false=>
    rw[if_neg Bool.false_ne_true] at w4 ⊢;obtain⟨F5,G5,DQ,Ha⟩:=lx (n:=own.length) DJ;rw[Gk] at DQ;exact⟨by lia,acc,D4.drop own.length,F5,DQ,by rw[length_drop,DJ.len,lσ];lia,s5.less Ha,Hb.mono s4.tup.tup,w4⟩
   | true=>
    rw[if_pos rfl] at w4 ⊢;obtain⟨⟨v,D5⟩,w5,w6⟩:=bind_eq_some_iff.mp w4;dsimp only at w6;split at w6
    ·rename_i d;split at w6
     ·rename_i hl;refine⟨D4,F4,.im d,D5,DJ,s5.nd,w5,fun u H5 F5 R5 DQ ow s6=>?_⟩;obtain⟨iu,rfl⟩:=ow;rw[append_nil] at s6;have D9:=(Hb.mono s4.tup.tup).mono s6.tup.tup;refine⟨Nat.lt_of_le_of_lt (show ys.length<=100000 by rw[<- D9.length];lia) (by decide),?_⟩;obtain⟨F6,G6,ND,O7⟩:=lx (n:=own.length) DQ;rw[Gk] at ND;exact⟨by lia,acc++[d],D5.drop own.length,F6,ND,by rw[length_drop,DQ.len,lσ];lia,(s5.seq s6).less O7,D9.snoc iu,w6⟩
     ·cases w6
    ·cases w6
 ·have hi:i=xs.length:=by lia
  subst hi;refine .inl ⟨it.stop H' s'.tup<|fun a ha=>Fk s' a<|mem_append_right _ ha,fun Dn NE=>?_⟩;rw[drop_of_length_le (Nat.le_refl _),bX] at hw;cases hw;have O8:ai H' (dt caps D1) σ Fo:=so.mono s'.tup fun a ha=>Fk s' a (mem_append_left _ ha);obtain⟨F4,G4,DJ,J0⟩:=pE O8 sC;rw[xN (by rw[lC]) nd] at DJ;have O9:gS H' σ R o:=by
   cases o with
   | none=>trivial
   | some p=>
    obtain⟨i,d⟩:=p;obtain⟨v,e1,e2⟩:=ln;exact⟨v,e1,e2.mono s'.tup fun a ha=>Fk s' a<|mem_append_right _ ha⟩
  obtain⟨F5,G5,DQ,Ha⟩:=ls (R:=R) DJ O9;have sm:aB H' (upd H' Dn<|.lst ys):=(aB.refl H').upd NE;have s5:m_ H F H' F5:=(s2.trans s' cO).less (C:=G5++G4) (by
   rw[<- List.append_assoc];refine (List.Perm.append_right G4 Ha).trans ?_;rw[List.append_assoc];refine (List.Perm.append_left F4 perm_append_comm).trans ?_;rw[<- List.append_assoc];refine (List.Perm.append_right R J0).trans ?_;rw[List.append_assoc];exact dl)
  exact q _ _ F5 [Dn] (DQ.mono sm.tupS fun a _ o e=>sm a o e) ⟨Dn,ys,rfl,aW,K'.mono sm.tupS.tup,rfl⟩ (s5.add NE DQ.chg)
theorem jp{elt:Expr}{ifs:List Expr}{scope:Scope}(hc:X.calm=true)(S:q_ X scope own caps)(nd:caps.Nodup)(hi:VI X tg iter gi)(hg:∀ Y,VG (X.EB (bx X own caps) scope Y) (gU own.length caps.length) tg gt)(ht:∀ Y,K9 (X.EB (bx X own caps) scope Y) ifs gc)(he:∀ Y,VE (X.EB (bx X own caps) scope Y) elt ge)(hs:∀ x,foldedSetIterable iter X.env x=pure x:=by intro _;rfl):VE X (.ListComp elt [⟨tg,iter,ifs,0⟩] scope pos) (bv own.length caps gi gt gc ge):=
 aR (wQ hc S hi hg ht he hs) fun σ H Q h=>pG nd h
end
@[simp] def cV(fix:List Nat):List Vl->SD->Nat->List Vl
 | d::ds,o::D,j=>(if d.cp=true then d else if j∈fix then o.getD .jk else .jk)::cV fix ds D (j+1)
 | d::ds,[],j=>(if d.cp=true then d else .jk)::cV fix ds [] (j+1)
 | [],_,_=>[]
@[simp] def bb(n m:Nat)(fix:List Nat)(g:MS):Fn:=fun ds=>if ds.length=n then match g (ds.map some++List.replicate (m - n) none) with
 | some (.rt r,D)=>some (r,cV fix ds D 0)
 | some (.nx,D)=>some (.im .j_,cV fix ds D 0)
 | _=>none else none
theorem pH{H:Hp}:∀ {ds:List Vl}{vs:List V}{F:List Addr}{m:Nat},aH H ds vs F->ai H (ds.map some++List.replicate m none) (vs.map some++List.replicate m none) F
 | [],vs,F,m,h=>by
  obtain⟨rfl,rfl⟩:=h;show ai H (List.replicate m none) (List.replicate m none) [];induction m with
  | zero=>exact⟨rfl,rfl⟩
  | succ m ih=>exact⟨none,_,[],[],rfl,rfl,ih,rfl⟩
 | d::ds,vs,F,m,h=>by
  obtain⟨v,r,F1,F2,rfl,h1,h2,rfl⟩:=h;exact⟨some v,_,F1,F2,rfl,⟨v,rfl,h1⟩,pH h2,rfl⟩
theorem ly{H H':Hp}{fix:List Nat}(t:y_ H H'):∀ {ds:List Vl}{vs:List V}{F0:List Addr}{D:SD}{σ:St}{F:List Addr}{j0:Nat},aH H ds vs F0->ai H' D σ F->(∀ (j:Nat) (v:V),(j0+j)∈fix->vs[j]?=some v->σ[j]?=some (some v))->
  ∃ R G,aH H' (cV fix ds D j0) vs R/\(R++G).Perm F
 | [],vs,F0,D,σ,F,j0,h,st,_=>⟨[],F,by unfold cV;exact⟨h.1,rfl⟩,List.Perm.refl _⟩
 | d::ds,vs,F0,[],σ,F,j0,h,st,k=>by
  obtain⟨v,r,A,B,rfl,h1,h2,rfl⟩:=h;obtain⟨rfl,rfl⟩:=st;obtain⟨R,G,g1,g2⟩:=ly (D:=[]) (σ:=[]) (F:=[]) (j0:=j0+1) t h2 ⟨rfl,rfl⟩ fun j v hj hv=>by
   have:=k (j+1) v (by rw[show j0+(j+1)=j0+1+j by lia];exact hj) (by simpa using hv);simp at this
  rw[cV];refine⟨R,G,⟨v,r,[],R,rfl,?_,g1,rfl⟩,g2⟩;split
  ·rename_i hc;have:=h1.mono t fun a ha=>by rw[h1.cp hc] at ha;cases ha
   rw[h1.cp hc] at this;exact this
  ·exact rfl
 | d::ds,vs,F0,o::D,σ,F,j0,h,st,k=>by
  obtain⟨v,r,A,B,rfl,h1,h2,rfl⟩:=h;obtain⟨x,s,C,E,rfl,s1,s2,rfl⟩:=st;obtain⟨R,G,g1,g2⟩:=ly (D:=D) (σ:=s) (j0:=j0+1) t h2 s2 fun j v hj hv=>by
   have:=k (j+1) v (by rw[show j0+(j+1)=j0+1+j by lia];exact hj) (by simpa using hv);simpa using this
  rw[cV];split
  ·rename_i hc;have hm:=h1.mono t fun a ha=>by rw[h1.cp hc] at ha;cases ha
   rw[h1.cp hc] at hm;refine⟨R,G++C,⟨v,r,[],R,rfl,hm,g1,rfl⟩,?_⟩;rw[<- List.append_assoc];exact (List.Perm.append_right C g2).trans perm_append_comm
  ·split
   ·rename_i hf;have hx:x=some v:=by
     have:=k 0 v hf rfl;simpa using this
    subst hx;cases o with
    | none=>
     refine⟨R,G++C,⟨v,r,[],R,rfl,rfl,g1,rfl⟩,?_⟩;rw[<- List.append_assoc];exact (List.Perm.append_right C g2).trans perm_append_comm
    | some e=>
     obtain⟨v',e1,w⟩:=s1;cases e1;refine⟨C++R,G,⟨v,r,C,R,rfl,w,g1,rfl⟩,?_⟩;rw[List.append_assoc];exact List.Perm.append_left _ g2
   ·refine⟨R,G++C,⟨v,r,[],R,rfl,rfl,g1,rfl⟩,?_⟩;rw[<- List.append_assoc];exact (List.Perm.append_right C g2).trans perm_append_comm
section
variable{P:Program}{w:World}{K:PySem.W.Frag}{mg:Str->Option Value}{base:Heap}
theorem O'{qual:Str}{f:Addr}{N:List Str}{k:Nat}{g:MS}(F:Fj K x qual st f fd)(S:k_ N ps (aD st))(hn:ps.length=n)(NF:∀ i∈fix,i<n)(hb:∀ (z_:Value) (A:Around) (outer:List Env) (s:Shared) (H:Hp) (E:XK),CM k (A.deeper<|envOfC qual (aD st) s.heap.objs.size f z_)->Gh (dY Fi P w K mg base N qual (aD st) f z_ A outer s H E).IO fix (cy st) g):
  Dw P w K mg base Fi (k+1) f fd ps (Gf n<|bb n N.length fix g):=by
 refine F.ok S (fun vs H Q E h=>h.1.trans hn.symm) (fun z_ A outer s H vs Q E hr h=>⟨_,hb z_ A outer s H E hr,?_⟩);obtain⟨hl,ds,F0,r,outs,ow,nd,hg,q⟩:=h;have Jc:ds.length=n:=ow.length.trans hl;unfold bb at hg;rw[if_pos Jc] at hg;have st:=pH (m:=N.length - n) ow;have es:dh N vs=vs.map some++List.replicate (N.length - n) none:=by unfold dh;rw[hl]
 rw[es];have fin:∀ {σ':St}{H':Hp}{F':List Addr}{D':SD}{v:V}{R:List Addr},cV fix ds D' 0=outs->aF fix (vs.map some++List.replicate (N.length - n) none) σ'->ai H' D' σ' F'->Own H' r v R->m_ H F0 H' (F'++R)->Q v H':=fun {σ' H' F' D' v R} eo fx g_ wr s'=>by
  obtain⟨R2,G,g1,g2⟩:=ly (fix:=fix) (j0:=0) s'.tup ow g_ fun j v hj hv=>by
   rw[Nat.zero_add] at hj;rw[fx.2 j hj,getElem?_append_left (by rw[length_map];exact (List.getElem?_eq_some_iff.mp hv).1),List.getElem?_map,hv];rfl
  rw[eo] at g1;refine q v H' R R2 wr g1 (s'.less (C:=G) ?_);rw[List.append_assoc];exact (List.Perm.append_left R g2).trans perm_append_comm
 split at hg
 ·rename_i r' D' e;cases hg;exact⟨_,F0,.rt r,D',st,nd,e,fun v σ' H' F' R fx g_ wr s'=>fin rfl fx g_ wr s'⟩
 ·rename_i D' e;cases hg;exact⟨_,F0,.nx,D',st,nd,e,fun σ' H' F' fx g_ s'=>fin rfl fx g_ ⟨rfl,rfl⟩ (by rw[append_nil];exact s')⟩
 ·cases hg
end
def Out(H:Hp)(d:Vl)(Q:VK):Prop:=∀ v H' R,aB H H'->Own H' d v R->R.Nodup->(∀ a∈R,H a=none)->Q v H'
theorem Out.NG{d:Im}(q:Out H (.im d) Q)(s:aB H H')(h:CL H' d v):Q v H':=q v H' [] s ⟨h,rfl⟩ nodup_nil (fun a ha=>nomatch ha)
theorem Out.i{d:Im}(q:Out H (.im d) Q)(h:CL H d v):Q v H:=q.NG (aB.refl H) h
theorem Out.l(q:Out H (.lst ds) Q)(hp:H p=none)(h:aj H ds xs):Q (.ref p) (upd H p<|.lst xs):=by
 have s:aB H (upd H p<|.lst xs):=(aB.refl H).upd hp;exact q _ _ [p] s ⟨p,xs,rfl,aW,h.mono s.tupS.tup,rfl⟩ (pairwise_singleton _ _) fun a ha=>by rw[mem_singleton.mp ha];exact hp
theorem Out.t(q:Out H (.im<|.tup ds) Q)(hp:H p=none)(h:aj H ds xs):Q (.ref p) (upd H p<|.tup xs):=by
 have s:aB H (upd H p<|.tup xs):=(aB.refl H).upd hp;exact q.NG s ⟨p,xs,rfl,aW,h.mono s.tupS.tup⟩
section
variable{X:Cx}
theorem Dg.imp{f:Value->Value->Sem Value}{r:R2}(h:Dg X f r)(i:∀ x y H Q,r' x y H Q->r x y H Q):Dg X f r':=fun pins s σ H x y v u Q I rx ry hh=>h pins s σ H x y v u Q I rx ry (i x y H Q hh)
theorem aX.imp{f:Value}{r r':List V->Hp->VK->Prop}(h:aX X f r)(i:∀ xs H Q,r' xs H Q->r xs H Q):aX X f r':=fun pins s σ H xs us Q I rx hh=>h pins s σ H xs us Q I rx (i xs H Q hh)
theorem Fw.imp{r:R2}(h:Fw X r)(i:∀ x y H Q,r' x y H Q->r x y H Q):Fw X r':=fun e1 e2 pins s σ H x y v u Q I rx ry hh=>h e1 e2 pins s σ H x y v u Q I rx ry (i x y H Q hh)
theorem DS.i{d:Im}(h:DS H (.im d) v):CL H d v:=h.elim fun _ w=>w.1
end
abbrev Op2:=Vl->Vl->Option Vl
@[simp] def cG(C:Int->Int->Bool)(g:Int->Int->Im):Op2:=fun a b=>match a,b with
 | .im (.int i),.im (.int j)=>if C i j=true then some (.im<|g i j) else none
 | _,_=>none
theorem pI{C:Int->Int->Bool}{g:Int->Int->Im}{a b:Vl}(h:cG C g a b=some d):∃ i j,a=.im (.int i)/\b=.im (.int j)/\C i j=true/\d=.im (g i j):=by
 unfold cG at h;split at h
 ·rename_i i j;split at h
  ·rename_i hc;cases h;exact⟨i,j,rfl,rfl,hc,rfl⟩
  ·cases h
 ·cases h
section
variable{X:Cx}
variable{f:Value->Value->Sem Value}{g:Int->Int->V}{h:Int->Int->Im}
theorem jq{C:Int->Int->Prop}{B:Int->Int->Bool}(o:Dg X f (rI C g))(hB:∀ i j,B i j=true->C i j)(hg:∀ H i j,CL H (h i j)<|g i j):DT X f (cG B h):=
 o.imp fun x y H Q ⟨d1,d2,d,r1,r2,e,q⟩=>by
  obtain⟨i,j,rfl,rfl,hc,rfl⟩:=pI e;exact⟨i,j,r1.i,r2.i,hB i j hc,Out.i q<|hg H i j⟩
theorem gW(o:Dg X f (GQ g))(hg:∀ H i j,CL H (h i j)<|g i j):DT X f (cG (fun _ _=>true) h):=
 o.imp fun x y H Q ⟨d1,d2,d,r1,r2,e,q⟩=>by
  obtain⟨i,j,rfl,rfl,hc,rfl⟩:=pI e;exact⟨i,j,r1.i,r2.i,Out.i q<|hg H i j⟩
@[simp] def vSub:Op2:=cG (fun _ _=>true) fun i j=>.int (i - j)
def bO(i j:Int):Bool:=!(decide (Builtin.Int.intBits i > shortFactorBits) && decide (Builtin.Int.intBits j > shortFactorBits) && Builtin.Int.intTooBig (Builtin.Int.intBits i+Builtin.Int.intBits j))
@[simp] def vMul:Op2:=cG bO fun i j=>.int (i * j)
@[simp] def vDiv:Op2:=cG (fun _ j=>decide (0<j/\j<1073741824)) fun i j=>.int (i / j)
@[simp] def vMod:Op2:=cG (fun _ j=>decide (0<j)) fun i j=>.int (i % j)
@[simp] def vPow:Op2:=cG (fun i j=>decide (0<=j/\j<=1000000/\i.natAbs<2 ^ 64)) fun i j=>.int (i ^ j.toNat)
@[simp] def vLt:Op2:=cG (fun _ _=>true) fun i j=>.bl (decide (i<j))
@[simp] def vLe:Op2:=cG (fun _ _=>true) fun i j=>.bl (decide (i<=j))
@[simp] def vGt:Op2:=cG (fun _ _=>true) fun i j=>.bl (decide (j<i))
@[simp] def vGe:Op2:=cG (fun _ _=>true) fun i j=>.bl (decide (j<=i))
theorem du:DT X (binaryOp .Sub) vSub:=gW u0 fun _ _ _=>rfl
theorem c7:DT X (binaryOp .Mult) vMul:=jq xr (fun i j h=>by unfold bO at h;unfold IntMulOk;rw[not_eq_true'] at h;rw[h];exact Bool.false_ne_true) fun _ _ _=>rfl
theorem jr:DT X (binaryOp .FloorDiv) vDiv:=jq u3 (fun i j h=>show 0<j/\j<1073741824 from of_decide_eq_true h) fun _ _ _=>rfl
theorem dL:DT X (binaryOp .Mod) vMod:=jq u4 (fun i j h=>of_decide_eq_true h) fun _ _ _=>rfl
theorem js:DT X (binaryOp .Pow) vPow:=jq u5 (fun i j h=>show 0<=j/\j<=1000000/\i.natAbs<2 ^ 64 from of_decide_eq_true h) fun _ _ _=>rfl
theorem xO:DT X (compareOp .Lt) vLt:=gW u8 fun _ _ _=>rfl
theorem jt:DT X (compareOp .LtE) vLe:=gW u9 fun _ _ _=>rfl
theorem lD:DT X (compareOp .Gt) vGt:=gW va fun _ _ _=>rfl
theorem xP:DT X (compareOp .GtE) vGe:=gW vb fun _ _ _=>rfl
theorem xQ:Dg X (binaryOp .Add) (fun x y H Q=>∃ a b ys,x=.ref a/\y=.ref b/\A_ X.K H a []/\A_ X.K H b ys/\Q (.ref b) H):=by
 intro pins s σ H x y v u Q I rx ry h;obtain⟨a,b,ys,rfl,rfl,ha,hb,q⟩:=h;cases rx;cases ry;obtain⟨f_,r1,p1,_⟩:=I.tuple ha;obtain⟨Eo,r2,p2,_⟩:=I.tuple hb;have e:f_=[]:=r1.DR.mpr rfl;subst e;obtain⟨⟨cls,dd,data,sl⟩,ho,hc,n,hd⟩:=id p1;obtain⟨⟨LK,IQ,data2,IR⟩,HZ,JC,n2,hd2⟩:=id p2;simp only at hc hd JC hd2;subst hc hd JC hd2;exact concat_meets ⟨_,ho,rfl⟩ ⟨_,HZ,rfl⟩ noFill_tuple_add seq_tuple_add PySem.F.slot_tuple_add PySem.F.entry_tuple_add (PySem.F.args_tuple_add_2 _ _) (tuple_addW0 a b _ _ n n2 dd IQ sl IR rfl) ⟨ho,HZ,.ref b,H,I,rfl,q⟩
@[simp] def vAdd:Op2:=fun a b=>match a,b with
 | .im (.int i),.im (.int j)=>some (.im<|.int<|i+j)
 | .im (.tup x),.im (.tup y)=>if x.length+y.length<=100000 then some (.im<|.tup<|x++y) else none
 | .lst x,.lst y=>if x.length+y.length<=100000 then some (.lst<|x++y) else none
 | .im (.str x),.im (.str y)=>if x.length+y.length<=100000 then some (.im<|.str<|x++y) else none
 | _,_=>none
theorem aj.app:∀ {a b:List Im}{x y:List V},aj H a x->aj H b y->aj H (a++b) (x++y)
 | [],b,x,y,h,k=>by cases (show x=[] from h);exact k
 | d::a,b,x,y,h,k=>by
  obtain⟨v,r,rfl,h1,h2⟩:=h;exact⟨v,r++y,rfl,h1,h2.app k⟩
theorem aj.nil{H:Hp}{a:List Im}(h:aj H a []):a=[]:=by
 cases a with
 | nil=>rfl
 | cons d a=>obtain⟨_,_,e,_⟩:=h;cases e
theorem aS:DT X (binaryOp .Add) vAdd:=by
 refine (uZ.or<|xQ.or<|vU.or<|wv.or vn).imp fun x y H Q ⟨d1,d2,d,r1,r2,e,q⟩=>?_;unfold vAdd at e;split at e
 ·cases e;exact .inl ⟨_,_,r1.i,r2.i,Out.i q rfl⟩
 ·rename_i a b;split at e
  ·rename_i hl;cases e;obtain⟨p,xs,rfl,h1,h2⟩:=r1.i;obtain⟨p',ys,rfl,h3,h4⟩:=r2.i;refine .inr ?_;by_cases hx:xs=[]
   ·subst hx;cases h2.nil;exact .inl ⟨p,p',ys,rfl,rfl,A_.of h1,A_.of h3,Out.i q ⟨p',ys,rfl,h3,h4⟩⟩
   ·refine .inr (.inl ⟨p,p',xs,ys,rfl,rfl,A_.of h1,A_.of h3,hx,fm (by rw[<- h2.length,<- h4.length];exact hl),fun hy=>?_,fun hy n hn=>Out.t q hn<|h2.app h4⟩);subst hy;cases h4.nil;rw[append_nil] at q;exact Out.i q ⟨p,xs,rfl,h1,h2⟩
  ·cases e
 ·rename_i a b;split at e
  ·rename_i hl;cases e;obtain⟨_,p,xs,rfl,h1,h2,_⟩:=r1;obtain⟨_,p',ys,rfl,h3,h4,_⟩:=r2;exact .inr (.inr (.inr (.inl ⟨p,p',xs,ys,rfl,rfl,h1,h3,fm (by rw[<- h2.length,<- h4.length];exact hl),fun n hn=>Out.l q hn<|h2.app h4⟩)))
  ·cases e
 ·rename_i a b;split at e
  ·rename_i hl;cases e;exact .inr (.inr<|.inr<|.inr ⟨a,b,r1.i,r2.i,fm hl,Out.i q rfl⟩)
  ·cases e
 ·cases e
theorem xR(n:Nat){A:Around}{x y:Im}{u v:Value}(kx:Im.pl n x=true)(ky:Im.pl n y=true)(hu:A.units+n+2<cLine)(hx:Dq s.heap x u)(hy:Dq s.heap y v):SeqAt.RcAt A s u v (av x y):=by
 cases x with
 | j_=>
  cases (show u=.none from hx);cases y with
  | j_=>cases (show v=.none from hy);exact SeqAt.RcAt.none_none
  | bl b=>cases (show v=.bool b from hy);exact SeqAt.RcAt.none_bool b
  | int j=>obtain⟨t,rfl⟩:=hy;exact SeqAt.RcAt.none_int j t
  | str z=>obtain⟨t,rfl⟩:=hy;exact SeqAt.RcAt.none_str z t
  | tup ds=>obtain⟨a,o,items,m,rfl,h1,h2,h3,_⟩:=hy;exact SeqAt.RcAt.none_tuple ⟨o,h1,h2,m,h3⟩ (by lia)
  | fn a=>cases n<;>cases ky
  | fl a=>cases n<;>cases ky
  | fd=>cases n<;>cases ky
 | bl b=>
  cases (show u=.bool b from hx);cases y with
  | j_=>cases (show v=.none from hy);exact SeqAt.RcAt.bool_none b
  | bl c=>cases (show v=.bool c from hy);exact SeqAt.RcAt.bool_bool b c
  | int j=>obtain⟨t,rfl⟩:=hy;exact SeqAt.RcAt.bool_int b j t
  | str z=>obtain⟨t,rfl⟩:=hy;exact SeqAt.RcAt.bool_str b z t
  | tup ds=>obtain⟨a,o,items,m,rfl,h1,h2,h3,_⟩:=hy;exact SeqAt.RcAt.bool_tuple b ⟨o,h1,h2,m,h3⟩ (by lia)
  | fn a=>cases n<;>cases ky
  | fl a=>cases n<;>cases ky
  | fd=>cases n<;>cases ky
 | int i=>
  obtain⟨t0,rfl⟩:=hx;cases y with
  | j_=>cases (show v=.none from hy);exact SeqAt.RcAt.int_none i t0
  | bl c=>cases (show v=.bool c from hy);exact SeqAt.RcAt.int_bool i t0 c
  | int j=>obtain⟨t,rfl⟩:=hy;exact SeqAt.RcAt.int_int i t0 j t
  | str z=>obtain⟨t,rfl⟩:=hy;exact SeqAt.RcAt.int_str i t0 z t
  | tup ds=>obtain⟨a,o,items,m,rfl,h1,h2,h3,_⟩:=hy;exact SeqAt.RcAt.int_tuple i t0 ⟨o,h1,h2,m,h3⟩ (by lia)
  | fn a=>cases n<;>cases ky
  | fl a=>cases n<;>cases ky
  | fd=>cases n<;>cases ky
 | str i=>
  obtain⟨t0,rfl⟩:=hx;cases y with
  | j_=>cases (show v=.none from hy);exact SeqAt.RcAt.str_none i t0
  | bl c=>cases (show v=.bool c from hy);exact SeqAt.RcAt.str_bool i t0 c
  | int j=>obtain⟨t,rfl⟩:=hy;exact SeqAt.RcAt.str_int i t0 j t
  | str z=>obtain⟨t,rfl⟩:=hy;exact SeqAt.RcAt.str_str i t0 z t
  | tup ds=>obtain⟨a,o,items,m,rfl,h1,h2,h3,_⟩:=hy;exact SeqAt.RcAt.str_tuple i t0 ⟨o,h1,h2,m,h3⟩ (by lia)
  | fn a=>cases n<;>cases ky
  | fl a=>cases n<;>cases ky
  | fd=>cases n<;>cases ky
 | fn a=>cases n<;>cases kx
 | fl a=>cases n<;>cases kx
 | fd=>cases n<;>cases kx
 | tup ds=>
  cases n with
  | zero=>cases kx
  | succ n=>
  obtain⟨a,o,items,m,rfl,h1,h2,h3,h4⟩:=hx;have ta:s.heap.IsTuple a items:=⟨o,h1,h2,m,h3⟩;cases y with
  | j_=>cases (show v=.none from hy);exact SeqAt.RcAt.tuple_none ta (by lia)
  | bl c=>cases (show v=.bool c from hy);exact SeqAt.RcAt.tuple_bool c ta (by lia)
  | int j=>obtain⟨t,rfl⟩:=hy;exact SeqAt.RcAt.tuple_int j t ta (by lia)
  | str z=>obtain⟨t,rfl⟩:=hy;exact SeqAt.RcAt.tuple_str z t ta (by lia)
  | fn a=>cases ky
  | fl a=>cases ky
  | fd=>cases ky
  | tup es=>
   obtain⟨b,o',w_,m',rfl,g1,g2,g3,g4⟩:=hy;have tb:s.heap.IsTuple b w_:=⟨o',g1,g2,m',g3⟩;have l1:=h4.length;have l2:=g4.length;have l3:items.toList.length=items.size:=by simp
   have l4:w_.toList.length=w_.size:=by simp
   rw[l3] at l1;rw[l4] at l2;have q:=SeqAt.RcAt.tuples (A:=A) (e:=fun j=>av (ds.getD j .j_)<|es.getD j .j_) ta tb (by lia) fun j j1 j2=>by
    obtain⟨d1,e1,r1⟩:=h4.get (j:=j) (v:=items[j]) (by rw[getElem?_toList];simp[j1]);obtain⟨d2,e2,r2⟩:=g4.get (j:=j) (v:=w_[j]) (by rw[getElem?_toList];simp[j2]);rw[getD_eq_getElem?_getD,e1,getD_eq_getElem?_getD,e2];exact cN n (cY kx e1) (cY ky e2) (by show A.units+1+n+1<cLine;lia) r1 r2
   rw[<- l1,<- l2,gH (ds:=ds) (es:=es) (fun j x y a b=>by rw[getD_eq_getElem?_getD,a,getD_eq_getElem?_getD,b];rfl)] at q;rw[av];exact q
@[simp] def vEq:Op2:=fun a b=>match a,b with
 | .im x,.im y=>if (Im.pl 8 x && Im.pl 8 y)=true then some (.im<|.bl<|av x y) else none
 | .lst x,.lst y=>if (Im.pls 8 x && Im.pls 8 y)=true then some (.im<|.bl<|bj x y) else none
 | _,_=>none
theorem lE:∀ {x y:List Im},x.length≠y.length->bj x y=false
 | [],[],h=>absurd rfl h
 | [],_::_,_=>rfl
 | _::_,[],_=>rfl
 | a::x,b::y,h=>by
  rw[bj,lE (fun e=>h (by rw[length_cons,length_cons,e])),Bool.and_false]
theorem fX{pins:List (Addr×Obj)}(I:Inv X pins σ H s){a:Addr}{xs:List V}{ds:List Im}(h1:H a=some (.lst xs))(h2:aj H ds xs):∃ f_:List Value,s.heap.IsList a f_.toArray/\aG s.heap ds f_/\f_.length=ds.length:=by
 obtain⟨z,f_,n,rv,e⟩:=I.l_ a _ h1;have:=h2.Ei I.l_ rv;exact⟨f_,⟨_,e,rfl,n,rfl⟩,this,this.length.symm⟩
theorem dv(hu:X.A.units+20<cLine):DT X (compareOp .Eq) vEq:=by
 intro pins s σ H x y v u Q I rx ry ⟨d1,d2,d,r1,r2,e,q⟩;unfold vEq at e;split at e
 ·rename_i a b;split at e
  ·rename_i hp;cases e;rw[and_eq_true] at hp;exact xR 8 hp.1 hp.2 (by lia) (r1.i.Ei I.l_ rx) (r2.i.Ei I.l_ ry) X.prog X.w _ _ ⟨.bl _,H,I,rfl,Out.i q rfl⟩
  ·cases e
 ·rename_i a b;split at e
  ·rename_i hp;cases e;rw[and_eq_true] at hp;obtain⟨_,p,xs,rfl,h1,h2,_⟩:=r1;obtain⟨_,p',ys,rfl,h3,h4,_⟩:=r2;cases rx;cases ry;obtain⟨i1,l1,v1,n1⟩:=fX I h1 h2;obtain⟨i2,l2,v2,n2⟩:=fX I h3 h4;by_cases hl:a.length=b.length
   ·have:=SeqAt.RcAt.lists (A:=X.A) (e:=fun j=>av (a.getD j .j_)<|b.getD j .j_) l1 l2 (by rw[size_toArray,size_toArray,n1,n2];exact hl) (by lia) fun j j1 j2=>by
     obtain⟨d1,e1,r1⟩:=v1.get (j:=j) (v:=i1.toArray[j]) (by simp at j1;simp[j1]);obtain⟨d2,e2,r2⟩:=v2.get (j:=j) (v:=i2.toArray[j]) (by simp at j2;simp[j2]);rw[getD_eq_getElem?_getD,e1,getD_eq_getElem?_getD,e2];exact cN 8 (cY hp.1 e1) (cY hp.2 e2) (by show X.A.units+1+8+1<cLine;lia) r1 r2
    refine this X.prog X.w _ _ ⟨.bl _,H,I,rfl,?_⟩;have e5:=gH (ds:=a) (es:=b) (e:=fun j=>av (a.getD j .j_)<|b.getD j .j_) (fun j x y a b=>by rw[getD_eq_getElem?_getD,a,getD_eq_getElem?_getD,b];rfl);rw[<- hl,Nat.min_self,beq_self_eq_true,Bool.and_true] at e5;rw[size_toArray,n1,e5];exact Out.i q rfl
   ·refine SeqAt.RcAt.lists_lengths (A:=X.A) l1 l2 (by rw[size_toArray,size_toArray,n1,n2];simpa using hl) (by lia) X.prog X.w _ _ ⟨.bl _,H,I,rfl,?_⟩;rw[lE hl] at q;exact Out.i q rfl
  ·cases e
 ·cases e
end
section
variable{X:Cx}
theorem xS(n:Nat){A:Around}{x y:Im}{u v:Value}(kx:Im.pl n x=true)(ky:Im.pl n y=true)(hu:A.units+n+2<cLine)(hx:Dq s.heap x u)(hy:Dq s.heap y v):SeqAt.RcNeAt A s u v (!av x y):=by
 cases x with
 | j_=>
  cases (show u=.none from hx);cases y with
  | j_=>cases (show v=.none from hy);exact SeqAt.RcNeAt.none_none
  | bl b=>cases (show v=.bool b from hy);exact SeqAt.RcNeAt.none_bool b
  | int j=>obtain⟨t,rfl⟩:=hy;exact SeqAt.RcNeAt.none_int j t
  | str z=>obtain⟨t,rfl⟩:=hy;exact SeqAt.RcNeAt.none_str z t
  | tup ds=>obtain⟨a,o,items,m,rfl,h1,h2,h3,_⟩:=hy;exact SeqAt.RcNeAt.none_tuple ⟨o,h1,h2,m,h3⟩ (by lia)
  | fn a=>cases n<;>cases ky
  | fl a=>cases n<;>cases ky
  | fd=>cases n<;>cases ky
 | bl b=>
  cases (show u=.bool b from hx);cases y with
  | j_=>cases (show v=.none from hy);exact SeqAt.RcNeAt.bool_none b
  | bl c=>cases (show v=.bool c from hy);exact SeqAt.RcNeAt.bool_bool b c
  | int j=>obtain⟨t,rfl⟩:=hy;exact SeqAt.RcNeAt.bool_int b j t
  | str z=>obtain⟨t,rfl⟩:=hy;exact SeqAt.RcNeAt.bool_str b z t
  | tup ds=>obtain⟨a,o,items,m,rfl,h1,h2,h3,_⟩:=hy;exact SeqAt.RcNeAt.bool_tuple b ⟨o,h1,h2,m,h3⟩ (by lia)
  | fn a=>cases n<;>cases ky
  | fl a=>cases n<;>cases ky
  | fd=>cases n<;>cases ky
 | int i=>
  obtain⟨t0,rfl⟩:=hx;cases y with
  | j_=>cases (show v=.none from hy);exact SeqAt.RcNeAt.int_none i t0
  | bl c=>cases (show v=.bool c from hy);exact SeqAt.RcNeAt.int_bool i t0 c
  | int j=>obtain⟨t,rfl⟩:=hy;exact SeqAt.RcNeAt.int_int i t0 j t
  | str z=>obtain⟨t,rfl⟩:=hy;exact SeqAt.RcNeAt.int_str i t0 z t
  | tup ds=>obtain⟨a,o,items,m,rfl,h1,h2,h3,_⟩:=hy;exact SeqAt.RcNeAt.int_tuple i t0 ⟨o,h1,h2,m,h3⟩ (by lia)
  | fn a=>cases n<;>cases ky
  | fl a=>cases n<;>cases ky
  | fd=>cases n<;>cases ky
 | str i=>
  obtain⟨t0,rfl⟩:=hx;cases y with
  | j_=>cases (show v=.none from hy);exact SeqAt.RcNeAt.str_none i t0
  | bl c=>cases (show v=.bool c from hy);exact SeqAt.RcNeAt.str_bool i t0 c
  | int j=>obtain⟨t,rfl⟩:=hy;exact SeqAt.RcNeAt.str_int i t0 j t
  | str z=>obtain⟨t,rfl⟩:=hy;exact SeqAt.RcNeAt.str_str i t0 z t
  | tup ds=>obtain⟨a,o,items,m,rfl,h1,h2,h3,_⟩:=hy;exact SeqAt.RcNeAt.str_tuple i t0 ⟨o,h1,h2,m,h3⟩ (by lia)
  | fn a=>cases n<;>cases ky
  | fl a=>cases n<;>cases ky
  | fd=>cases n<;>cases ky
 | fn a=>cases n<;>cases kx
 | fl a=>cases n<;>cases kx
 | fd=>cases n<;>cases kx
 | tup ds=>
  cases n with
  | zero=>cases kx
  | succ n=>
  obtain⟨a,o,items,m,rfl,h1,h2,h3,h4⟩:=hx;have ta:s.heap.IsTuple a items:=⟨o,h1,h2,m,h3⟩;cases y with
  | j_=>cases (show v=.none from hy);exact SeqAt.RcNeAt.tuple_none ta (by lia)
  | bl c=>cases (show v=.bool c from hy);exact SeqAt.RcNeAt.tuple_bool c ta (by lia)
  | int j=>obtain⟨t,rfl⟩:=hy;exact SeqAt.RcNeAt.tuple_int j t ta (by lia)
  | str z=>obtain⟨t,rfl⟩:=hy;exact SeqAt.RcNeAt.tuple_str z t ta (by lia)
  | fn a=>cases ky
  | fl a=>cases ky
  | fd=>cases ky
  | tup es=>
   obtain⟨b,o',w_,m',rfl,g1,g2,g3,g4⟩:=hy;have tb:s.heap.IsTuple b w_:=⟨o',g1,g2,m',g3⟩;have l1:=h4.length;have l2:=g4.length;have l3:items.toList.length=items.size:=by simp
   have l4:w_.toList.length=w_.size:=by simp
   rw[l3] at l1;rw[l4] at l2;have q:=SeqAt.RcNeAt.tuples (A:=A) (e:=fun j=>av (ds.getD j .j_)<|es.getD j .j_) ta tb (by lia) fun j j1 j2=>by
    obtain⟨d1,e1,r1⟩:=h4.get (j:=j) (v:=items[j]) (by rw[getElem?_toList];simp[j1]);obtain⟨d2,e2,r2⟩:=g4.get (j:=j) (v:=w_[j]) (by rw[getElem?_toList];simp[j2]);rw[getD_eq_getElem?_getD,e1,getD_eq_getElem?_getD,e2];exact cN n (cY kx e1) (cY ky e2) (by show A.units+1+n+1<cLine;lia) r1 r2
   rw[<- l1,<- l2,gH (ds:=ds) (es:=es) (fun j x y a b=>by rw[getD_eq_getElem?_getD,a,getD_eq_getElem?_getD,b];rfl)] at q;rw[av];exact q
@[simp] def vNe:Op2:=fun a b=>match a,b with
 | .im x,.im y=>if (Im.pl 8 x && Im.pl 8 y)=true then some (.im<|.bl<|!av x y) else none
 | .lst x,.lst y=>if (Im.pls 8 x && Im.pls 8 y)=true then some (.im<|.bl<|!bj x y) else none
 | _,_=>none
theorem gX(hu:X.A.units+20<cLine):DT X (compareOp .NotEq) vNe:=by
 intro pins s σ H x y v u Q I rx ry ⟨d1,d2,d,r1,r2,e,q⟩;unfold vNe at e;split at e
 ·rename_i a b;split at e
  ·rename_i hp;cases e;rw[and_eq_true] at hp;exact xS 8 hp.1 hp.2 (by lia) (r1.i.Ei I.l_ rx) (r2.i.Ei I.l_ ry) X.prog X.w _ _ ⟨.bl _,H,I,rfl,Out.i q rfl⟩
  ·cases e
 ·rename_i a b;split at e
  ·rename_i hp;cases e;rw[and_eq_true] at hp;obtain⟨_,p,xs,rfl,h1,h2,_⟩:=r1;obtain⟨_,p',ys,rfl,h3,h4,_⟩:=r2;cases rx;cases ry;obtain⟨i1,l1,v1,n1⟩:=fX I h1 h2;obtain⟨i2,l2,v2,n2⟩:=fX I h3 h4;by_cases hl:a.length=b.length
   ·have:=SeqAt.RcNeAt.lists (A:=X.A) (e:=fun j=>av (a.getD j .j_)<|b.getD j .j_) l1 l2 (by rw[size_toArray,size_toArray,n1,n2];exact hl) (by lia) fun j j1 j2=>by
     obtain⟨d1,e1,r1⟩:=v1.get (j:=j) (v:=i1.toArray[j]) (by simp at j1;simp[j1]);obtain⟨d2,e2,r2⟩:=v2.get (j:=j) (v:=i2.toArray[j]) (by simp at j2;simp[j2]);rw[getD_eq_getElem?_getD,e1,getD_eq_getElem?_getD,e2];exact cN 8 (cY hp.1 e1) (cY hp.2 e2) (by show X.A.units+1+8+1<cLine;lia) r1 r2
    refine this X.prog X.w _ _ ⟨.bl _,H,I,rfl,?_⟩;have e5:=gH (ds:=a) (es:=b) (e:=fun j=>av (a.getD j .j_)<|b.getD j .j_) (fun j x y a b=>by rw[getD_eq_getElem?_getD,a,getD_eq_getElem?_getD,b];rfl);rw[<- hl,Nat.min_self,beq_self_eq_true,Bool.and_true] at e5;rw[size_toArray,n1,e5];exact Out.i q rfl
   ·refine SeqAt.RcNeAt.lists_lengths (A:=X.A) l1 l2 (by rw[size_toArray,size_toArray,n1,n2];simpa using hl) (by lia) X.prog X.w _ _ ⟨.bl _,H,I,rfl,?_⟩;rw[lE hl] at q;exact Out.i q rfl
  ·cases e
 ·cases e
@[simp] def oIs(n:Bool):Op2:=fun a b=>match a,b with
 | .im x,.im .j_=>some (.im<|.bl<|n != decide (x=.j_))
 | .im (.bl x),.im (.bl y)=>some (.im<|.bl<|n != (x == y))
 | _,_=>none
theorem pJ{d:Im}(h:CL H d v):decide (v=.j_)=decide (d=.j_):=by
 cases d with
 | j_=>cases (show v=.j_ from h);rfl
 | bl b=>cases (show v=.bl b from h);rfl
 | int b=>cases (show v=.int b from h);rfl
 | str b=>cases (show v=.str b from h);rfl
 | fn b=>cases (show v=.ref b from h);rfl
 | tup ds=>obtain⟨a,xs,rfl,_⟩:=h;rfl
 | fl ds=>obtain⟨a,xs,o,rfl,_⟩:=h;rfl
 | fd=>obtain⟨a,o,rfl,_⟩:=h;rfl
theorem xT:Dg X (compareOp .Is) (fun x y H Q=>∃ a b,x=.bl a/\y=.bl b/\Q (.bl<|a == b) H):=by
 intro pins s σ H x y v u Q I rx ry ⟨a,b,e1,e2,q⟩;subst e1 e2;cases rx;cases ry;refine wpAny_is_plain (by cases a<;>cases b<;>rfl) ⟨.bl<|a == b,H,I,?_,q⟩;cases a<;>cases b<;>rfl
theorem xU:Dg X (compareOp .IsNot) (fun x y H Q=>∃ a b,x=.bl a/\y=.bl b/\Q (.bl<|!(a == b)) H):=by
 intro pins s σ H x y v u Q I rx ry ⟨a,b,e1,e2,q⟩;subst e1 e2;cases rx;cases ry;refine wpAny_isNot_plain (by cases a<;>cases b<;>rfl) ⟨.bl<|!(a == b),H,I,?_,q⟩;cases a<;>cases b<;>rfl
theorem xV:DT X (compareOp .Is) (oIs false):=by
 refine (vc.or xT).imp fun x y H Q ⟨d1,d2,d,r1,r2,e,q⟩=>?_;unfold oIs at e;split at e
 ·rename_i a;cases e;refine .inl ⟨r2.i,?_⟩;rw[pJ r1.i];refine Out.i q ?_;show _=_;rw[Bool.false_bne]
 ·cases e;refine .inr ⟨_,_,r1.i,r2.i,Out.i q ?_⟩;show _=_;rw[Bool.false_bne]
 ·cases e
theorem pK:DT X (compareOp .IsNot) (oIs true):=by
 refine (vd.or xU).imp fun x y H Q ⟨d1,d2,d,r1,r2,e,q⟩=>?_;unfold oIs at e;split at e
 ·rename_i a;cases e;refine .inl ⟨r2.i,?_⟩;rw[pJ r1.i];refine Out.i q ?_;show _=_;rw[Bool.true_bne]
 ·cases e;refine .inr ⟨_,_,r1.i,r2.i,Out.i q ?_⟩;show _=_;rw[Bool.true_bne]
 ·cases e
def bo{κ:Type}[DecidableEq κ](kvs:List (κ×Im))(k:κ):Option Im:=(kvs.find? fun p=>decide (p.1=k)).map (·.2)
theorem fY{κ:Type}[DecidableEq κ]{H:Hp}{k:κ}:∀ {kvs:List (κ×Im)}{Dh:List (κ×V)},Ek H kvs Dh->(∀ d,bo kvs k=some d->∃ v,bZ Dh k=some v/\CL H d v)/\(bo kvs k=none->bZ Dh k=none)
 | _,_,.nil=>⟨(fun d e=>by cases e),(fun _=>rfl)⟩
 | _,_,.cons (a:=p) (b:=q) h t=>by
  obtain⟨h1,h2⟩:=fY (k:=k) t;by_cases e:p.1=k
  ·have e':q.1=k:=h.1.symm.trans e;refine⟨fun d hd=>?_,fun hn=>?_⟩
   ·have:∀ r,bo (p::r) k=some p.2:=fun r=>by simp[bo,find?_cons,e]
    rw[this] at hd;cases hd;exact⟨q.2,i8 e',h.2⟩
   ·have:∀ r,bo (p::r) k=some p.2:=fun r=>by simp[bo,find?_cons,e]
    rw[this] at hn;cases hn
  ·have e':¬ q.1=k:=fun z=>e (h.1.trans z);have:∀ r,bo (p::r) k=bo r k:=fun r=>by simp[bo,find?_cons,e]
   rw[this,i9 e'];exact⟨h1,h2⟩
@[simp] def vIx:Op2:=fun a b=>match a,b with
 | .im (.tup ds),.im (.int i)=>(Eu ds i).map .im
 | .lst ds,.im (.int i)=>(Eu ds i).map .im
 | .fz ds,.im (.int i)=>(Eu ds i).map .im
 | .dT kvs,.im (.tup k)=>if Im.keys 7 k=true then (bo kvs k).map .im else none
 | .dK kvs,.im (.int i)=>(bo kvs<|.inl i).map .im
 | .dK kvs,.im (.str i)=>(bo kvs<|.inr i).map .im
 | _,_=>none
theorem xW(hu:X.A.units+20<cLine):Fw X (fun x y H Q=>∃ a v,x=.ref a/\bE H a y (some v)/\Q v H):=by
 intro value slice pins s σ H x y v u Q I rx ry ⟨a,z,e,g,q⟩ hs;subst e;cases rx;exact tail_any (wA I g) PySem.F.slot_dict_getitem.lookup (wx hu I g ry fun w' s3 I3 FW=>⟨z,H,I3,FW,q⟩) hs
theorem lF{i:Int}{d:Im}(h:aj H ds xs)(e:Eu ds i=some d):∃ v,Eu xs i=some v/\CL H d v:=by
 unfold Eu at e ⊢;rw[<- h.length];obtain⟨j,e1,e2⟩:=bind_eq_some_iff.mp e;obtain⟨v,g1,g2⟩:=h.get e2;exact⟨v,by rw[e1];exact g1,g2⟩
theorem xX(hu:X.A.units+20<cLine):Fw X (fun x y H Q=>∃ d1 d2 d,DS H d1 x/\DS H d2 y/\vIx d1 d2=some d/\∀ v H' R,aB H H'->Own H' d v R->R.Nodup->(∀ a∈R,H a=none)->Q v H'):=by
 refine (vY.or<|vZ.or<|xW hu).imp fun x y H Q ⟨d1,d2,d,r1,r2,e,q⟩=>?_;unfold vIx at e;split at e
 ·obtain⟨d',e1,e2⟩:=map_eq_some_iff.mp e;cases e2;obtain⟨p,xs,rfl,h1,h2⟩:=r1.i;obtain⟨v,g1,g2⟩:=lF h2 e1;exact .inr (.inl ⟨p,xs,_,v,rfl,r2.i,A_.of h1,g1,Out.i q g2⟩)
 ·obtain⟨d',e1,e2⟩:=map_eq_some_iff.mp e;cases e2;obtain⟨_,p,xs,rfl,h1,h2,_⟩:=r1;obtain⟨v,g1,g2⟩:=lF h2 e1;exact .inl ⟨p,xs,_,v,rfl,r2.i,CT.of h1,g1,Out.i q g2⟩
 ·obtain⟨d',e1,e2⟩:=map_eq_some_iff.mp e;cases e2;obtain⟨_,p,xs,o,rfl,h1,h2,_⟩:=r1;obtain⟨v,g1,g2⟩:=lF h2 e1;exact .inl ⟨p,xs,_,v,rfl,r2.i,.inl<|.inr ⟨o,h1⟩,g1,Out.i q g2⟩
 ·rename_i kvs k;split at e
  ·rename_i hk;obtain⟨d',e1,e2⟩:=map_eq_some_iff.mp e;cases e2;obtain⟨_,p,Dh,rfl,h1,h2,_⟩:=r1;obtain⟨v,g1,g2⟩:=(fY h2).1 d' e1;obtain⟨b,xs,rfl,k1,k2⟩:=r2.i;exact .inr (.inr ⟨p,v,rfl,by rw[<- g1];exact bE.t h1 ⟨hk,b,xs,rfl,k1,k2⟩,Out.i q g2⟩)
  ·cases e
 ·rename_i kvs i;obtain⟨d',e1,e2⟩:=map_eq_some_iff.mp e;cases e2;obtain⟨_,p,Dh,rfl,h1,h2,_⟩:=r1;obtain⟨v,g1,g2⟩:=(fY h2).1 d' e1;refine .inr (.inr ⟨p,v,rfl,?_,Out.i q g2⟩);rw[show y=kV (.inl i) from r2.i,<- g1];exact bE.k h1
 ·rename_i kvs i;obtain⟨d',e1,e2⟩:=map_eq_some_iff.mp e;cases e2;obtain⟨_,p,Dh,rfl,h1,h2,_⟩:=r1;obtain⟨v,g1,g2⟩:=(fY h2).1 d' e1;refine .inr (.inr ⟨p,v,rfl,?_,Out.i q g2⟩);rw[show y=kV (.inr i) from r2.i,<- g1];exact bE.k h1
 ·cases e
end
end L2
namespace HT
open PySem PySem.Spec PyProof.Rows
section
variable{prog:Program}{w:World}{A:Around}{E:Value->Shared->Prop}{s:Shared}
theorem xY{t sl:Addr}{f_:Array Value}{vl vu:Value}{lo hi:Option Int}{Q:Value->Shared->Prop}(p:IsTup s.heap t f_)(hs:s.heap.IsSliceOf sl vl vu .none)(pl:IsPart vl lo)(pu:IsPart vu hi)(h0:B_ f_.size 0 lo=0)(h1:B_ f_.size f_.size hi=f_.size)(q:Q (.ref t) s):wpAny (model prog w) A (getItem (.ref t)<|.ref sl) Q E s:=by
 obtain⟨os,ho,hc,hd⟩:=id hs;have ty:s.TypeIs (.ref sl) "slice" := ⟨os,ho,hc⟩;unfold getItem;try with_reducible refine wpAny_holding ?_
 first | refine wpAny_bind (wpAny_pure ?_) | skip
 refine wpAny_bind (wpAny_sequenceKey p.typeIs (by decide) ?_);refine wpAny_bind (wpAny_callSpecial?_slot (name:=Str.ofString "__getitem__") p.typeIs PyProof.Rows.slot_tuple_getitem<|wpAny_call_entry PyProof.Rows.slot_tuple_getitem p.typeIs entry_tuple_getitem ?_<|args_tuple_getitem _ _);show wpAny _ _ (Builtin.Tuple.tupleItemsOf (.ref t) >>= _) _ _ s;refine wpAny_bind (tupleItemsOf_ p ?_);refine wpAny_bind (wpAny_typeOf ty ?_);rw[if_pos (by decide)];refine wpAny_bind (n4 hs pl pu ?_);rw[h0,h1];show wpAny _ _ (if (((0:Nat):Int) == 0 && (1:Int) == 1 && (f_.size - 0) == f_.size)=true then _ else _) _ _ s;rw[if_pos (by simp)];refine wpAny_bind (m:=Builtin.Tuple.tupleIsExact _) (wpAny_bind<|wpAny_typeOf p.typeIs<|wpAny_pure ?_);show wpAny _ _ (if (Value.type "tuple" == Value.type "tuple")=true then _ else _) _ _ s;rw[if_pos (by decide)];exact wpAny_bind (wpAny_rule<|wpAny_pure ⟨_,rfl,wpAny_pure q⟩)
end
end HT
namespace L2
open PySem PySem.Spec PyProof.Rows
section
variable{X:Cx}
@[simp] def lG(g:M Vl):M Vl:=fun D=>(g D).bind fun p=>match p.1 with
 | .im (.int i)=>some (.im<|.int<|-i,p.2)
 | _=>none
variable{g:M Vl}{pos:Pos}
theorem pL{a:Expr}(h:VE X a g):VE X (.UnaryOp .USub a pos) (lG g):=by
 refine aR (uW u6 h) fun σ H Q ⟨D,F,r,D',st,nd,hg,q⟩=>?_;obtain⟨⟨x,D1⟩,h1,h2⟩:=bind_eq_some_iff.mp hg;refine⟨D,F,x,D1,st,nd,h1,fun v H1 F1 R r_ ow s1=>?_⟩;dsimp only at h2;split at h2
 ·rename_i i;cases h2;exact⟨i,ow.1,q _ H1 F1 [] r_ ⟨rfl,rfl⟩ (by rw[append_nil];exact s1.both)⟩
 ·cases h2
def tP(g:M (Option Int)):TO:=fun σ H Q=>∃ D F l D',ai H D σ F/\F.Nodup/\g D=some (l,D')/\∀ H' F',ai H' D' σ F'->m_ H F H' F'->Q l H'
def VP(X:Cx)(e:Option Expr)(g:M (Option Int)):Prop:=∀ ⦃p⦄,Nk X e (tP g) p
theorem pM{e:Option Expr}{t t':TO}(h:PO X e t)(i:∀ σ H Q,t' σ H Q->t σ H Q):PO X e t':=fun pins s σ H Q I hw=>h pins s σ H Q I (i σ H Q hw)
def pNone:M (Option Int):=fun D=>some (none,D)
@[simp] def dM(g:M Vl):M (Option Int):=fun D=>(g D).bind fun p=>match p.1 with
 | .im (.int i)=>some (some i,p.2)
 | _=>none
theorem gY:VP X none pNone:=by
 refine pM vO fun σ H Q ⟨D,F,r,D',st,nd,hg,q⟩=>?_;cases hg;exact q H F st (m_.perm nd<|List.Perm.refl _)
variable{e:Expr}
theorem ft(h:VE X e g):VP X (some e) (dM g):=by
 refine pM (vP h) fun σ H Q ⟨D,F,r,D',st,nd,hg,q⟩=>?_;obtain⟨⟨x,D1⟩,h1,h2⟩:=bind_eq_some_iff.mp hg;refine⟨D,F,x,D1,st,nd,h1,fun v H1 F1 R r_ ow s1=>?_⟩;dsimp only at h2;split at h2
 ·rename_i i;cases h2;exact⟨i,ow.1,q H1 F1 r_ s1.both⟩
 ·cases h2
def aC{α:Type}(xs:List α)(lo hi:Option Int):List α:=(xs.drop<|HT.B_ xs.length 0 lo).take (HT.B_ xs.length xs.length hi - HT.B_ xs.length 0 lo)
variable{H:Hp}
theorem aj.drop:∀ {ds:List Im}{xs:List V} (n:Nat),aj H ds xs->aj H (ds.drop n) (xs.drop n)
 | ds,xs,0,h=>h
 | [],xs,n+1,h=>by cases (show xs=[] from h);exact rfl
 | d::ds,xs,n+1,h=>by
  obtain⟨v,r,rfl,h1,h2⟩:=h;exact h2.drop n
theorem aj.take:∀ {ds:List Im}{xs:List V} (n:Nat),aj H ds xs->aj H (ds.take n) (xs.take n)
 | ds,xs,0,h=>rfl
 | [],xs,n+1,h=>by cases (show xs=[] from h);exact rfl
 | d::ds,xs,n+1,h=>by
  obtain⟨v,r,rfl,h1,h2⟩:=h;exact⟨v,_,rfl,h1,h2.take n⟩
theorem aj.cut{ds:List Im}{xs:List V}(lo hi:Option Int)(h:aj H ds xs):aj H (aC ds lo hi) (dZ xs lo hi):=by
 unfold aC dZ;rw[h.length];exact (h.drop _).take _
@[simp] def vSl(d:Vl)(lo hi:Option Int):Option Vl:=match d with
 | .im (.tup ds)=>some (.im<|.tup<|aC ds lo hi)
 | .lst ds=>some (.lst<|aC ds lo hi)
 | .fz ds=>some (.lst<|aC ds lo hi)
 | _=>none
def xZ(K:PySem.W.Frag):V->Option Int->Option Int->Hp->VK->Prop:=fun x lo hi H Q=>∃ a xs,x=.ref a/\A_ K H a xs/\HT.B_ xs.length 0 lo=0/\HT.B_ xs.length xs.length hi=xs.length/\Q (.ref a) H
theorem x5:JD X (fun x lo hi H Q=>∃ d r,DS H d x/\vSl d lo hi=some r/\Out H r Q):=by
 have all:JD X (xZ X.K):=by
  intro pins s σ H x v vl vu lo hi sl Q I rx hs pl pu h;obtain⟨a,xs,rfl,hx,h0,h1,q⟩:=h;cases rx;obtain⟨f_,r,ht,hz⟩:=I.tuple hx;have hlen:f_.toArray.size=xs.length:=by rw[size_toArray];exact r.length.symm
  exact⟨"tuple",_,PyProof.Rows.slot_tuple_getitem.lookup,ht.typeIs,HT.xY ht hs pl pu (by rw[hlen];exact h0) (by rw[hlen];exact h1) ⟨.ref a,H,I,rfl,q⟩⟩
 intro pins s σ H x v vl vu lo hi sl Q I rx hs pl pu ⟨d,r,rd,e,q⟩;unfold vSl at e;split at e
 ·rename_i ds;cases e;obtain⟨p,xs,rfl,h1,h2⟩:=rd.i;by_cases hw:HT.B_ xs.length 0 lo=0/\HT.B_ xs.length xs.length hi=xs.length
  ·refine all pins s σ H _ v vl vu lo hi sl Q I rx hs pl pu ⟨p,xs,rfl,A_.of h1,hw.1,hw.2,Out.i q ⟨p,xs,rfl,h1,?_⟩⟩;have:aC ds lo hi=ds:=by
    unfold aC;rw[h2.length,hw.1,hw.2,drop_zero,Nat.sub_zero,<- h2.length,take_length]
   rw[this];exact h2
  ·exact vS pins s σ H _ v vl vu lo hi sl Q I rx hs pl pu ⟨p,xs,rfl,A_.of h1,hw,fun n hn=>Out.t q hn<|h2.cut lo hi⟩
 ·cases e;obtain⟨_,p,xs,rfl,h1,h2,_⟩:=rd;exact oa pins s σ H _ v vl vu lo hi sl Q I rx hs pl pu ⟨p,xs,rfl,CT.of h1,fun n hn=>Out.l q hn<|h2.cut lo hi⟩
 ·cases e;obtain⟨_,p,xs,o,rfl,h1,h2,_⟩:=rd;exact oa pins s σ H _ v vl vu lo hi sl Q I rx hs pl pu ⟨p,xs,rfl,.inl<|.inr ⟨o,h1⟩,fun n hn=>Out.l q hn<|h2.cut lo hi⟩
 ·cases e
@[simp] def eSl(g:M Opd)(l h:M (Option Int)):M Vl:=fun D=>(g D).bind fun p=>(l p.2).bind fun q=>(h q.2).bind fun r=>(rsl r.2 p.1).bind fun d=>(vSl d q.1 r.1).map fun d'=>(d',r.2)
theorem fZ{lo hi:Option Expr}{g:M Opd}{gl gh:M (Option Int)}{p2:Pos}(he:VO X e g)(hl:VP X lo gl)(hh:VP X hi gh):VE X (.Subscript e (.Slice lo hi none p2) pos) (eSl g gl gh):=by
 refine aR (vQ x5 he hl hh) fun σ H Q ⟨D,F,r,D',st,nd,hg,q⟩=>?_;obtain⟨⟨x,D1⟩,h1,h2⟩:=bind_eq_some_iff.mp hg;obtain⟨⟨l,D2⟩,h3,h4⟩:=bind_eq_some_iff.mp h2;obtain⟨⟨u,D3⟩,h5,h6⟩:=bind_eq_some_iff.mp h4;obtain⟨d,h7,h8⟩:=bind_eq_some_iff.mp h6;obtain⟨d',h9,O_⟩:=map_eq_some_iff.mp h8;cases O_;refine⟨D,F,x,D1,st,nd,h1,fun v H1 F1 R r_ o1 s1=>⟨D1,F1,l,D2,r_,(nodup_append.mp s1.nd).1,h3,fun H2 F2 o_ s2=>⟨D2,F2,u,D3,o_,s2.nd,h5,fun H3 F3 Dy s3=>?_⟩⟩⟩;have s4:=s2.seq s3;have o3:b7 H3 σ x v R:=o1.mono s4.tup fun a ha o e=>s4.keep a o e fun h=>(nodup_append.mp s1.nd).2.2 a h a ha rfl;have s5:=s1.trans s4 o1.chg;exact⟨d,_,o3.read Dy h7,h9,fun w H4 R4 s6 ow Jb fr=>q w H4 F3 R4 (Dy.mono s6.tupS fun a _ o e=>s6 a o e) ow<|s5.new s6 Jb fr Dy.chg⟩
abbrev OpN:=List Vl->Option Vl
@[simp] def vLen:OpN:=fun ds=>match ds with
 | [.im (.tup x)]=>some (.im<|.int x.length)
 | [.lst x]=>some (.im<|.int x.length)
 | [.fz x]=>some (.im<|.int x.length)
 | [.DH x]=>some (.im<|.int x.length)
 | [.dK x]=>some (.im<|.int x.length)
 | [.im (.str x)]=>if x.length<=100000 then some (.im<|.int x.length) else none
 | _=>none
variable{vs:List V}
theorem bG{d:Vl}(h:d9 H [d] vs):∃ v,vs=[v]/\DS H d v:=by
 obtain⟨v,r,rfl,h1,h2⟩:=h;cases (show r=[] from h2);exact⟨v,rfl,h1⟩
theorem pN{d e:Vl}(h:d9 H [d,e] vs):∃ v u,vs=[v,u]/\DS H d v/\DS H e u:=by
 obtain⟨v,r,rfl,h1,h2⟩:=h;obtain⟨u,rfl,h3⟩:=bG h2;exact⟨v,u,rfl,h1,h3⟩
theorem Ek.length{κ:Type}{l:List (κ×Im)}{m:List (κ×V)}(h:Ek H l m):l.length=m.length:=Paired.length h
theorem c8:cD X (.builtin "len") vLen:=by
 refine (we.or<|wf.or wI).imp fun xs H Q ⟨ds,d,rd,e,q⟩=>?_;unfold vLen at e;split at e
 ·cases e;obtain⟨v,rfl,h⟩:=bG rd;obtain⟨p,xs,rfl,h1,h2⟩:=h.i;exact .inl ⟨p,xs,rfl,.inr<|A_.of h1,by rw[<- h2.length];exact Out.i q rfl⟩
 ·cases e;obtain⟨v,rfl,_,p,xs,rfl,h1,h2,_⟩:=bG rd;exact .inl ⟨p,xs,rfl,.inl<|CT.of h1,by rw[<- h2.length];exact Out.i q rfl⟩
 ·cases e;obtain⟨v,rfl,_,p,xs,o,rfl,h1,h2,_⟩:=bG rd;exact .inl ⟨p,xs,rfl,.inl<|.inl<|.inr ⟨o,h1⟩,by rw[<- h2.length];exact Out.i q rfl⟩
 ·cases e;obtain⟨v,rfl,_,p,xs,G,rfl,h1,h2,_⟩:=bG rd;exact .inl ⟨p,xs,rfl,.inl<|CT.of h1,by rw[<- h2.length];exact Out.i q rfl⟩
 ·cases e;obtain⟨v,rfl,_,p,Dh,rfl,h1,h2,_⟩:=bG rd;exact .inr (.inr ⟨p,Dh,rfl,h1,by rw[<- h2.length];exact Out.i q rfl⟩)
 ·split at e
  ·rename_i hl;cases e;obtain⟨v,rfl,h⟩:=bG rd;cases (show v=_ from h.i);exact .inr (.inl ⟨_,rfl,fm hl,Out.i q rfl⟩)
  ·cases e
 ·cases e
@[simp] def vTuple:OpN:=fun ds=>match ds with
 | [d]=>(dq d).map fun x=>.im (.tup x)
 | _=>none
@[simp] def vList:OpN:=fun ds=>match ds with
 | [d]=>(dq d).map .lst
 | _=>none
theorem ju:cD X (.type "tuple") vTuple:=by
 refine wj.imp fun xs H Q ⟨ds,d,rd,e,q⟩=>?_;unfold vTuple at e;split at e
 ·obtain⟨x,e1,e2⟩:=map_eq_some_iff.mp e;cases e2;obtain⟨v,rfl,h⟩:=bG rd;unfold dq at e1;split at e1
  ·cases e1;obtain⟨p,xs,rfl,h1,h2⟩:=h.i;exact⟨p,xs,rfl,.inr ⟨A_.of h1,Out.i q ⟨p,xs,rfl,h1,h2⟩⟩⟩
  ·cases e1;obtain⟨_,p,xs,rfl,h1,h2,_⟩:=h;exact⟨p,xs,rfl,.inl ⟨CT.of h1,fun l hl=>Out.t q hl h2⟩⟩
  ·cases e1;obtain⟨_,p,xs,o,rfl,h1,h2,_⟩:=h;exact⟨p,xs,rfl,.inl ⟨.inl<|.inr ⟨o,h1⟩,fun l hl=>Out.t q hl h2⟩⟩
  ·cases e1
 ·cases e
theorem x6:cD X (.type "list") vList:=by
 refine wg.imp fun xs H Q ⟨ds,d,rd,e,q⟩=>?_;unfold vList at e;split at e
 ·obtain⟨x,e1,e2⟩:=map_eq_some_iff.mp e;cases e2;obtain⟨v,rfl,h⟩:=bG rd;unfold dq at e1;split at e1
  ·cases e1;obtain⟨p,xs,rfl,h1,h2⟩:=h.i;exact⟨p,xs,rfl,.inr<|A_.of h1,fun l hl=>Out.l q hl h2⟩
  ·cases e1;obtain⟨_,p,xs,rfl,h1,h2,_⟩:=h;exact⟨p,xs,rfl,.inl<|CT.of h1,fun l hl=>Out.l q hl h2⟩
  ·cases e1;obtain⟨_,p,xs,o,rfl,h1,h2,_⟩:=h;exact⟨p,xs,rfl,.inl<|.inl<|.inr ⟨o,h1⟩,fun l hl=>Out.l q hl h2⟩
  ·cases e1
 ·cases e
@[simp] def vInt:OpN:=fun ds=>match ds with
 | [.im (.int i)]=>some (.im<|.int i)
 | [.im (.bl b)]=>some (.im<|.int<|if b then 1 else 0)
 | _=>none
theorem pO:cD X (.type "int") vInt:=by
 refine vw.imp fun xs H Q ⟨ds,d,rd,e,q⟩=>?_;unfold vInt at e;split at e
 ·cases e;obtain⟨v,rfl,h⟩:=bG rd;cases (show v=_ from h.i);exact .inl ⟨_,rfl,Out.i q rfl⟩
 ·cases e;obtain⟨v,rfl,h⟩:=bG rd;cases (show v=_ from h.i);exact .inr ⟨_,rfl,Out.i q rfl⟩
 ·cases e
@[simp] def vAbs:OpN:=fun ds=>match ds with
 | [.im (.int i)]=>some (.im<|.int<|if i<0 then -i else i)
 | _=>none
theorem pP:cD X (.builtin "abs") vAbs:=by
 refine vo.imp fun xs H Q ⟨ds,d,rd,e,q⟩=>?_;unfold vAbs at e;split at e
 ·cases e;obtain⟨v,rfl,h⟩:=bG rd;cases (show v=_ from h.i);exact⟨_,rfl,Out.i q rfl⟩
 ·cases e
@[simp] def vMax2:OpN:=fun ds=>match ds with
 | [.im (.int i),.im<|.int j]=>some (.im<|.int<|if j > i then j else i)
 | _=>none
@[simp] def vMin2:OpN:=fun ds=>match ds with
 | [.im (.int i),.im<|.int j]=>some (.im<|.int<|if j<i then j else i)
 | _=>none
theorem lH(hc:X.calm=true):cD X (.builtin "max") vMax2:=by
 refine (vp hc).imp fun xs H Q ⟨ds,d,rd,e,q⟩=>?_;unfold vMax2 at e;split at e
 ·cases e;obtain⟨v,u,rfl,h,k⟩:=pN rd;cases (show v=_ from h.i);cases (show u=_ from k.i);exact⟨_,_,rfl,Out.i q rfl⟩
 ·cases e
theorem lI(hc:X.calm=true):cD X (.builtin "min") vMin2:=by
 refine (vq hc).imp fun xs H Q ⟨ds,d,rd,e,q⟩=>?_;unfold vMin2 at e;split at e
 ·cases e;obtain⟨v,u,rfl,h,k⟩:=pN rd;cases (show v=_ from h.i);cases (show u=_ from k.i);exact⟨_,_,rfl,Out.i q rfl⟩
 ·cases e
@[simp] def bls:List Im->Option (List Bool)
 | []=>some []
 | .bl b::ds=>(bls ds).map fun r=>b::r
 | _::_=>none
theorem lJ{H:Hp}:∀ {ds:List Im}{xs:List V}{bs:List Bool},aj H ds xs->bls ds=some bs->xs=bs.map V.bl
 | [],xs,bs,h,e=>by cases e;exact h
 | .bl b::ds,xs,bs,h,e=>by
  obtain⟨v,r,rfl,h1,h2⟩:=h;rw[bls] at e;obtain⟨p,e1,e2⟩:=map_eq_some_iff.mp e;cases e2;cases (show v=.bl b from h1);rw[lJ h2 e1];rfl
 | .j_::_,_,_,_,e=>by cases e
 | .int _::_,_,_,_,e=>by cases e
 | .str _::_,_,_,_,e=>by cases e
 | .tup _::_,_,_,_,e=>by cases e
 | .fn _::_,_,_,_,e=>by cases e
 | .fl _::_,_,_,_,e=>by cases e
 | .fd::_,_,_,_,e=>by cases e
@[simp] def vAll:OpN:=fun ds=>match ds with
 | [.lst x]=>(bls x).map fun bs=>.im (.bl<|bs.all id)
 | _=>none
@[simp] def vAny:OpN:=fun ds=>match ds with
 | [.lst x]=>(bls x).map fun bs=>.im (.bl<|bs.any id)
 | _=>none
theorem pQ(hc:X.calm=true):cD X (.builtin "all") vAll:=by
 refine (xq hc).imp fun xs H Q ⟨ds,d,rd,e,q⟩=>?_;unfold vAll at e;split at e
 ·obtain⟨x,e1,e2⟩:=map_eq_some_iff.mp e;cases e2;obtain⟨v,rfl,_,p,xs,rfl,h1,h2,_⟩:=bG rd;rw[lJ h2 e1] at h1;exact⟨p,x,rfl,h1,Out.i q rfl⟩
 ·cases e
end
section
variable{X:Cx}
theorem x8(hc:X.calm=true):aX X (.builtin "any") (fun xs H Q=>∃ l bs,xs=[.ref l]/\H l=some (.lst<|List.map V.bl bs)/\Q (.bl<|bs.any id) H):=by
 intro pins s σ H xs us Q I r h;obtain⟨l,bs,rfl,hl,q⟩:=h;obtain⟨u,rfl,ru⟩:=ci r;cases ru;obtain⟨z,f_,n,rv,e⟩:=I.l_ l _ hl;have JZ:s.heap.IsList l f_.toArray:=⟨_,e,rfl,n,rfl⟩;refine call_any_walk (wpAny_pyIter_list JZ ⟨s.heap.objs.size,[s.heap.objs.size,l],[s.heap.objs.size],f_.toArray.size,_,_,fun i=>(bs[i]?).getD false,rfl,Walks.list (A:=X.A.in1) (I.ok.hd hc) _ l (ne_of_lt<|Heap.lt_size e) f_.toArray,
  ⟨⟨_,Heap.get?_push_size _ rfl,rfl,rfl⟩,JZ.push _⟩,fun i v s' Q' E' hP hQ=>?_,fun h' tk hk=>?_⟩)
 ·obtain⟨b,eb,rfl⟩:=oT rv i v (by simpa using hP);simp only[eb,getD_some] at hQ;exact wpAny_truthy_bool hQ
 ·have el:f_.toArray.size=bs.length:=by
   have:=rv.length;rw[length_map] at this;rw[size_toArray,this]
  rw[el,LSm.range_any];exact⟨.bl _,H,I.kept<|LSm.kept_iter hk,rfl,q⟩
theorem pR(hc:X.calm=true):cD X (.builtin "any") vAny:=by
 refine (x8 hc).imp fun xs H Q ⟨ds,d,rd,e,q⟩=>?_;unfold vAny at e;split at e
 ·obtain⟨x,e1,e2⟩:=map_eq_some_iff.mp e;cases e2;obtain⟨v,rfl,_,p,xs,rfl,h1,h2,_⟩:=bG rd;rw[lJ h2 e1] at h1;exact⟨p,x,rfl,h1,Out.i q rfl⟩
 ·cases e
@[simp] def lK(T:String)(d:Vl):Option Bool:=
 if T = "int" then match d with
  | .im (.int _)=>some true
  | .im (.bl _)=>some true
  | .im (.str _)=>some false
  | .im (.tup _)=>some false
  | .im .j_=>some false
  | .lst _=>some false
  | .im (.fl _)=>some false
  | .im .fd=>some false
  | .dT _=>some false
  | .dK _=>some false
  | _=>none
 else if T = "bool" then match d with
  | .im (.int _)=>some false
  | .im (.bl _)=>some true
  | .im (.str _)=>some false
  | .im (.tup _)=>some false
  | .im .j_=>some false
  | .lst _=>some false
  | .im (.fl _)=>some false
  | .im .fd=>some false
  | .dT _=>some false
  | .dK _=>some false
  | _=>none
 else if T = "str" then match d with
  | .im (.int _)=>some false
  | .im (.bl _)=>some false
  | .im (.str _)=>some true
  | .im (.tup _)=>some false
  | .im .j_=>some false
  | .lst _=>some false
  | .im (.fl _)=>some false
  | .im .fd=>some false
  | .dT _=>some false
  | .dK _=>some false
  | _=>none
 else if T = "tuple" then match d with
  | .im (.int _)=>some false
  | .im (.bl _)=>some false
  | .im (.str _)=>some false
  | .im (.tup _)=>some true
  | .im .j_=>some false
  | .lst _=>some false
  | .im (.fl _)=>some false
  | .im .fd=>some false
  | .dT _=>some false
  | .dK _=>some false
  | _=>none
 else none
variable{pins:List (Addr×Obj)}{H:Hp}{s:Shared}
theorem er{σ:St}(I:Inv X pins σ H s){a:Addr}(h:(∃ k,H a=some (.dT k))\/∃ k,H a=some (.dK k)):∃ o,s.heap.get? a=some o/\o.cls=.type "dict" := by
 rcases h with ⟨k,h⟩ | ⟨k,h⟩
 ·obtain⟨_,_,xs,_,o,es,ep,h1,h2,_⟩:=(show a0 X.prog X.w H s.heap a (.dT k) from I.l_ a _ h);exact⟨o,h1,h2.1⟩
 ·obtain⟨_,_,vs,_,o,es,ep,h1,h2,_⟩:=(show a0 X.prog X.w H s.heap a (.dK k) from I.l_ a _ h);exact⟨o,h1,h2.1⟩
theorem jv{σ:St}(I:Inv X pins σ H s){a:Addr}{p:Obj}(h:H a=some (.Da p<|.dT [])):∃ o,s.heap.get? a=some o/\o.cls=.type "dict" := by
 obtain⟨_,_,_,xs,_,o,es,ep,h1,h2,_⟩:=(show a0 X.prog X.w H s.heap a (.Da p<|.dT []) from I.l_ a _ h);exact⟨o,h1,h2.1⟩
theorem x9:aX X (.builtin "isinstance") (fun xs H Q=>∃ x T d b,xs=[x,.ty T]/\DS H d x/\lK T d=some b/\Q (.bl b) H):=by
 intro pins s σ H xs us Q I r h;obtain⟨x,T,d,b,rfl,rd,hi,q⟩:=h;have r0:=r;cases r with
 | cons r rr=>
  cases rr with
  | cons r' rr=>
   cases rr;cases r';have f1:∀ {b:Bool},Q (.bl b) H->EP X pins σ Q (.bool b) { s with toks:=s.toks+1 }:=fun {b} q=>⟨.bl b,H,I.tok _,rfl,q⟩;have dI:∀ {a:Addr},(∃ o,s.heap.get? a=some o/\o.cls=.type "dict")->(T = "int" \/ T = "bool" \/ T = "str" \/ T = "tuple")->b=false->wpAny (model X.prog X.w) X.A (call (.builtin "isinstance") [.ref a,.type T]) (EP X pins σ Q) X.xe s:=by
    rintro a ⟨o,ho,hc⟩ hT rfl;rcases hT with rfl | rfl | rfl | rfl
    ·exact IsiPair.dict_int ho hc (f1 q)
    ·exact IsiPair.dict_bool ho hc (f1 q)
    ·exact IsiPair.dict_str ho hc (f1 q)
    ·exact IsiPair.dict_tuple ho hc (f1 q)
   have nI:(T = "int" \/ T = "bool" \/ T = "str" \/ T = "tuple")->b=false->wpAny (model X.prog X.w) X.A (call (.builtin "isinstance") [.none,.type T]) (EP X pins σ Q) X.xe s:=by
    rintro hT rfl;rcases hT with rfl | rfl | rfl | rfl
    ·exact IsiPair.NoneType_int (f1 q)
    ·exact IsiPair.NoneType_bool (f1 q)
    ·exact IsiPair.NoneType_str (f1 q)
    ·exact IsiPair.NoneType_tuple (f1 q)
   have cI:oR X.K H x T b->wpAny (model X.prog X.w) X.A (call (.builtin "isinstance") [_,.type T]) (EP X pins σ Q) X.xe s:=fun hh=>xp pins s σ H _ _ Q I r0 ⟨x,T,b,rfl,hh,q⟩;unfold lK at hi;split at hi
   ·rename_i hT;subst hT;split at hi
    ·cases hi;exact cI (.inl ⟨_,rd.i,.inl ⟨rfl,rfl⟩⟩)
    ·cases hi;exact cI (.inr<|.inl ⟨_,rd.i,.inr<|.inl ⟨rfl,rfl⟩⟩)
    ·cases hi;exact cI (.inr<|.inr<|.inl ⟨_,rd.i,.inr<|.inl ⟨rfl,rfl⟩⟩)
    ·cases hi;obtain⟨a,xs,e,h1,h2⟩:=rd.i;exact cI (.inr<|.inr<|.inr<|.inl ⟨a,xs,e,A_.of h1,.inr<|.inl ⟨rfl,rfl⟩⟩)
    ·cases hi;cases (show x=.j_ from rd.i);cases r;exact nI (.inl rfl) rfl
    ·cases hi;obtain⟨_,a,xs,e,h1,h2,_⟩:=rd;exact cI (.inr<|.inr<|.inr<|.inr ⟨a,xs,e,CT.of h1,.inr<|.inl ⟨rfl,rfl⟩⟩)
    ·cases hi;obtain⟨a,xs,o,e,h1,h2⟩:=rd.i;exact cI (.inr<|.inr<|.inr<|.inr ⟨a,xs,e,.inl<|.inr ⟨o,h1⟩,.inr<|.inl ⟨rfl,rfl⟩⟩)
    ·cases hi;obtain⟨a,o,rfl,h1⟩:=rd.i;cases r;exact dI (jv I h1) (.inl rfl) rfl
    ·cases hi;obtain⟨_,a,xs,rfl,h1,h2,_⟩:=rd;cases r;exact dI (er I<|.inl ⟨_,h1⟩) (.inl rfl) rfl
    ·cases hi;obtain⟨_,a,xs,rfl,h1,h2,_⟩:=rd;cases r;exact dI (er I<|.inr ⟨_,h1⟩) (.inl rfl) rfl
    ·cases hi
   ·split at hi
    ·rename_i hT;subst hT;split at hi
     ·cases hi;exact cI (.inl ⟨_,rd.i,.inr<|.inr<|.inr<|.inl ⟨rfl,rfl⟩⟩)
     ·cases hi;exact cI (.inr<|.inl ⟨_,rd.i,.inl ⟨rfl,rfl⟩⟩)
     ·cases hi;exact cI (.inr<|.inr<|.inl ⟨_,rd.i,.inr<|.inr<|.inr<|.inl ⟨rfl,rfl⟩⟩)
     ·cases hi;obtain⟨a,xs,e,h1,h2⟩:=rd.i;exact cI (.inr<|.inr<|.inr<|.inl ⟨a,xs,e,A_.of h1,.inr<|.inr<|.inr<|.inl ⟨rfl,rfl⟩⟩)
     ·cases hi;cases (show x=.j_ from rd.i);cases r;exact nI (.inr<|.inl rfl) rfl
     ·cases hi;obtain⟨_,a,xs,e,h1,h2,_⟩:=rd;exact cI (.inr<|.inr<|.inr<|.inr ⟨a,xs,e,CT.of h1,.inr<|.inr<|.inr<|.inl ⟨rfl,rfl⟩⟩)
     ·cases hi;obtain⟨a,xs,o,e,h1,h2⟩:=rd.i;exact cI (.inr<|.inr<|.inr<|.inr ⟨a,xs,e,.inl<|.inr ⟨o,h1⟩,.inr<|.inr<|.inr<|.inl ⟨rfl,rfl⟩⟩)
     ·cases hi;obtain⟨a,o,rfl,h1⟩:=rd.i;cases r;exact dI (jv I h1) (.inr<|.inl rfl) rfl
     ·cases hi;obtain⟨_,a,xs,rfl,h1,h2,_⟩:=rd;cases r;exact dI (er I<|.inl ⟨_,h1⟩) (.inr<|.inl rfl) rfl
     ·cases hi;obtain⟨_,a,xs,rfl,h1,h2,_⟩:=rd;cases r;exact dI (er I<|.inr ⟨_,h1⟩) (.inr<|.inl rfl) rfl
     ·cases hi
    ·split at hi
     ·rename_i hT;subst hT;split at hi
      ·cases hi;exact cI (.inl ⟨_,rd.i,.inr<|.inr<|.inl ⟨rfl,rfl⟩⟩)
      ·cases hi;exact cI (.inr<|.inl ⟨_,rd.i,.inr<|.inr<|.inr<|.inl ⟨rfl,rfl⟩⟩)
      ·cases hi;exact cI (.inr<|.inr<|.inl ⟨_,rd.i,.inl ⟨rfl,rfl⟩⟩)
      ·cases hi;obtain⟨a,xs,e,h1,h2⟩:=rd.i;exact cI (.inr<|.inr<|.inr<|.inl ⟨a,xs,e,A_.of h1,.inr<|.inr<|.inl ⟨rfl,rfl⟩⟩)
      ·cases hi;cases (show x=.j_ from rd.i);cases r;exact nI (.inr<|.inr<|.inl rfl) rfl
      ·cases hi;obtain⟨_,a,xs,e,h1,h2,_⟩:=rd;exact cI (.inr<|.inr<|.inr<|.inr ⟨a,xs,e,CT.of h1,.inr<|.inr<|.inl ⟨rfl,rfl⟩⟩)
      ·cases hi;obtain⟨a,xs,o,e,h1,h2⟩:=rd.i;exact cI (.inr<|.inr<|.inr<|.inr ⟨a,xs,e,.inl<|.inr ⟨o,h1⟩,.inr<|.inr<|.inl ⟨rfl,rfl⟩⟩)
      ·cases hi;obtain⟨a,o,rfl,h1⟩:=rd.i;cases r;exact dI (jv I h1) (.inr<|.inr<|.inl rfl) rfl
      ·cases hi;obtain⟨_,a,xs,rfl,h1,h2,_⟩:=rd;cases r;exact dI (er I<|.inl ⟨_,h1⟩) (.inr<|.inr<|.inl rfl) rfl
      ·cases hi;obtain⟨_,a,xs,rfl,h1,h2,_⟩:=rd;cases r;exact dI (er I<|.inr ⟨_,h1⟩) (.inr<|.inr<|.inl rfl) rfl
      ·cases hi
     ·split at hi
      ·rename_i hT;subst hT;split at hi
       ·cases hi;exact cI (.inl ⟨_,rd.i,.inr<|.inl ⟨rfl,rfl⟩⟩)
       ·cases hi;exact cI (.inr<|.inl ⟨_,rd.i,.inr<|.inr<|.inl ⟨rfl,rfl⟩⟩)
       ·cases hi;exact cI (.inr<|.inr<|.inl ⟨_,rd.i,.inr<|.inr<|.inl ⟨rfl,rfl⟩⟩)
       ·cases hi;obtain⟨a,xs,e,h1,h2⟩:=rd.i;exact cI (.inr<|.inr<|.inr<|.inl ⟨a,xs,e,A_.of h1,.inl ⟨rfl,rfl⟩⟩)
       ·cases hi;cases (show x=.j_ from rd.i);cases r;exact nI (.inr<|.inr<|.inr rfl) rfl
       ·cases hi;obtain⟨_,a,xs,e,h1,h2,_⟩:=rd;exact cI (.inr<|.inr<|.inr<|.inr ⟨a,xs,e,CT.of h1,.inr<|.inr<|.inr<|.inr ⟨rfl,rfl⟩⟩)
       ·cases hi;obtain⟨a,xs,o,e,h1,h2⟩:=rd.i;exact cI (.inr<|.inr<|.inr<|.inr ⟨a,xs,e,.inl<|.inr ⟨o,h1⟩,.inr<|.inr<|.inr<|.inr ⟨rfl,rfl⟩⟩)
       ·cases hi;obtain⟨a,o,rfl,h1⟩:=rd.i;cases r;exact dI (jv I h1) (.inr<|.inr<|.inr rfl) rfl
       ·cases hi;obtain⟨_,a,xs,rfl,h1,h2,_⟩:=rd;cases r;exact dI (er I<|.inl ⟨_,h1⟩) (.inr<|.inr<|.inr rfl) rfl
       ·cases hi;obtain⟨_,a,xs,rfl,h1,h2,_⟩:=rd;cases r;exact dI (er I<|.inr ⟨_,h1⟩) (.inr<|.inr<|.inr rfl) rfl
       ·cases hi
      ·cases hi
@[simp] def f6(T:String)(g:M Opd):M Vl:=fun D=>(g D).bind fun p=>(rsl p.2 p.1).bind fun d=>(lK T d).map fun b=>(.im<|.bl b,p.2)
variable{x:Str}{e:Expr}{g:M Opd}{pos:Pos}
theorem gZ{T:String}{p p2:Pos}(hg:Gl X "isinstance")(hm:X.mg "isinstance" = none)(hv:bootBuiltins "isinstance" = some (.builtin "isinstance"))(Pa:Gl X x)(Pb:X.mg x=none)(Pc:bootBuiltins x=some (.type T))(h:VO X e g)(hn:x ≠ "__name__" := by decide)(hd:(x == ("__debug__" : Str))=false:=by decide)(he:starEach [e,.Name x p2] X.env=(false,eval e X.env)::starEach [.Name x p2] X.env:=by rfl)(G':starEach [.Name x p2] X.env=(false,eval (.Name x p2) X.env)::starEach [] X.env:=by rfl)(Eh:(backTo pos<|starEach [.Name x p2] X.env).any (·.1)=false:=by rfl):VE X (.Call (.Name "isinstance" p) [e,.Name x p2] [] pos) (f6 T g):=by
 refine aR (nV x9 hg hm hv (kJ h (kJ (tZ (v:=.ty T) Pa Pb Pc rfl hn hd) nN G') he) (by decide) (by decide) he Eh) fun σ H Q ⟨D,F,r,D',st,nd,Er,q⟩=>?_;obtain⟨⟨o,D1⟩,h1,h2⟩:=bind_eq_some_iff.mp Er;obtain⟨d,h3,h4⟩:=bind_eq_some_iff.mp h2;obtain⟨b,h5,h6⟩:=map_eq_some_iff.mp h4;cases h6;exact⟨D,F,o,D1,st,nd,h1,fun v H1 F1 R r_ o1 s1=>⟨v,T,d,b,rfl,o1.read r_ h3,h5,q _ H1 F1 [] r_ ⟨rfl,rfl⟩ (by rw[append_nil];exact s1.both)⟩⟩
@[simp] def g0:Vl->Option Bool
 | .im .j_=>some false
 | .im (.bl b)=>some b
 | .im (.int i)=>some (i != 0)
 | .im (.str x)=>if x.length<=100000 then some ((x.length:Int) != 0) else none
 | .im (.tup ds)=>some (!ds.isEmpty)
 | .lst ds=>some (!ds.isEmpty)
 | .fz ds=>some (!ds.isEmpty)
 | .dK kvs=>some (!kvs.isEmpty)
 | _=>none
theorem aj.emp{ds:List Im}{xs:List V}(h:aj H ds xs):(!xs.isEmpty)=!ds.isEmpty:=by
 cases ds with
 | nil=>cases (show xs=[] from h);rfl
 | cons d ds=>obtain⟨v,r,rfl,_⟩:=h;rfl
theorem ya{d:Vl}{v:V}{b:Bool}(h:DS H d v)(e:g0 d=some b):kG X.K v H b:=by
 unfold g0 at e;split at e
 ·cases e;cases (show v=_ from h.i);rfl
 ·cases e;cases (show v=_ from h.i);rfl
 ·cases e;cases (show v=_ from h.i);rfl
 ·split at e
  ·rename_i hl;cases e;cases (show v=_ from h.i);exact⟨fm hl,rfl⟩
  ·cases e
 ·cases e;obtain⟨p,xs,rfl,h1,h2⟩:=h.i;exact .inr (.inl ⟨xs,A_.of h1,h2.emp.symm⟩)
 ·cases e;obtain⟨_,p,xs,rfl,h1,h2,_⟩:=h;exact .inl ⟨xs,CT.of h1,h2.emp.symm⟩
 ·cases e;obtain⟨_,p,xs,o,rfl,h1,h2,_⟩:=h;exact .inl ⟨xs,.inl<|.inr ⟨o,h1⟩,h2.emp.symm⟩
 ·cases e;obtain⟨_,p,Dh,rfl,h1,h2,_⟩:=h;refine .inr (.inr ⟨Dh,h1,?_⟩);cases h2<;>rfl
 ·cases e
@[simp] def cH(g:M Opd):M Bool:=fun D=>(g D).bind fun p=>(rsl p.2 p.1).bind fun d=>(g0 d).map fun b=>(b,p.2)
theorem fu(h:VO X e g)(he:∀ whole,isTrue e X.env whole=(do let v <- whole;standAt e.pos;holding [v] (truthy v)):=by intro _;rfl):VT X e (cH g):=by
 refine k7 (vm h he) fun σ H Q ⟨D,F,b,D',st,nd,Er,q⟩=>?_;obtain⟨⟨o,D1⟩,h1,h2⟩:=bind_eq_some_iff.mp Er;obtain⟨d,h3,h4⟩:=bind_eq_some_iff.mp h2;obtain⟨b',h5,h6⟩:=map_eq_some_iff.mp h4;cases h6;exact⟨D,F,o,D1,st,nd,h1,fun v H1 F1 R r_ o1 s1=>⟨_,ya (o1.read r_ h3) h5,q H1 F1 r_ s1.both⟩⟩
theorem pS{i:Int}{t:Tok}(hg:Gl X x)(hm:X.mg x=some (.int i t))(hd:(x == ("__debug__" : Str))=false:=by decide):VE X (.Name x pos) (eC<|.int i):=fV (ny (v:=.int i) hg hm ⟨t,rfl⟩ hd) fun _=>rfl
theorem yb{f:Addr}(hg:Gl X x)(hm:X.mg x=some (.ref f))(hd:(x == ("__debug__" : Str))=false:=by decide):VE X (.Name x pos) (eC<|.fn f):=fV (ny (v:=.ref f) hg hm rfl hd) fun _=>rfl
end
variable{De apos:Pos}{o:Expr}{id T:String}{name:Str}{g:M (List Opd)}{i:Nat}{ty:Vl->Bool}{K:PySem.W.Frag}{o':HO}{a:Addr}{H:Hp}
theorem m_.chg{F F1:List Addr}(ha:a∈F)(c:ER H a)(nd:F1.Nodup)(sb:∀ x∈F1,x∈F):m_ H F (upd H a o') F1:=by
 obtain⟨o,e,ht,hf⟩:=c;refine⟨fun x u ex hx=>?_,fun x hx=>.inl<|sb x hx,nd,y_.of (fun x xs ex=>?_)<|fun x p u ex=>?_,fun x u ex=>?_⟩
 ·rw[aw (fun z=>hx (by rw[z];exact ha))];exact ex
 ·rw[aw]
  ·exact ex
  ·rintro rfl;rw[e] at ex;exact ht xs (Option.some.inj ex)
 ·rw[aw]
  ·exact ex
  ·rintro rfl;rw[e] at ex;exact hf p u (Option.some.inj ex)
 ·by_cases hx:x=a
  ·subst hx;exact⟨o',aW⟩
  ·exact⟨u,(aw hx).trans ex⟩
theorem CL.FA(c:ER H a):Fq H (upd H a o'):=(m_.chg (F:=[a]) (F1:=[]) (.head _) c nodup_nil<|fun x hx=>nomatch hx).tup.tup
def K_(X:Cx)(id:String)(mt:Vl->List Vl->Option (Vl×Vl)):Prop:=
 LM X id fun x vs H Q=>∃ c ds r c' R S,Own H c x R/\aH H ds vs S/\(R++S).Nodup/\mt c ds=some (r,c')/\∀ v H' R1 R2,Own H' r v R1->Own H' c' x R2->m_ H (R++S) H' (R1++R2)->Q v H'
@[simp] def fw:Vl->Bool
 | .lst _=>true
 | .DH _=>true
 | _=>false
@[simp] def cW(ty:Vl->Bool)(i:Nat)(mt:Vl->List Vl->Option (Vl×Vl))(g:M (List Opd)):M Vl:=fun D=>match D[i]? with
 | some (some c0)=>if ty c0=true then (g D).bind fun p=>(aY p.1 p.2).bind fun q=>match q.2[i]? with
   | some (some c)=>(mt c q.1).map fun r=>(r.1,q.2.set i<|some r.2)
   | _=>none
  else none
 | _=>none
theorem pT{mt:Vl->List Vl->Option (Vl×Vl)}{σ:St}{Q:VK}(GT:∀ H c x R,Own H c x R->ty c=true->Hm K T x H)(h:tV (cW ty i mt g) σ H Q):∃ x,σ[i]?=some (some x)/\Hm K T x H/\tA g σ H fun vs H2=>∃ c ds r c' R S,Own H2 c x R/\aH H2 ds vs S/\(R++S).Nodup/\mt c ds=some (r,c')/\∀ v H' R1 R2,Own H' r v R1->Own H' c' x R2->m_ H2 (R++S) H' (R1++R2)->Q v H':=by
 obtain⟨D,F,r,D',st,nd,hg,q⟩:=h;unfold cW at hg;split at hg
 ·rename_i c0 Mh;split at hg
  ·rename_i ht;obtain⟨x,A0,B0,hx,w0,_,_⟩:=st.out Mh;refine⟨x,hx,GT H c0 x _ w0 ht,?_⟩;obtain⟨⟨os,D1⟩,h1,h2⟩:=bind_eq_some_iff.mp hg;obtain⟨⟨ds,D2⟩,h3,h4⟩:=bind_eq_some_iff.mp h2;refine⟨D,F,os,D1,st,nd,h1,fun vs H1 F1 R1 r_ o1 s1=>?_⟩;obtain⟨F2,S,o_,ow,pm⟩:=fk r_ o1 h3;dsimp only at h4;split at h4
   ·rename_i c hc;obtain⟨⟨r',c'⟩,h5,h6⟩:=map_eq_some_iff.mp h4;cases h6;obtain⟨x',R,F3,FM,w1,Dy,J2⟩:=o_.out hc;rw[hx] at FM;cases FM;have s2:m_ H F H1 ((R++S)++F3):=s1.Du (pm.symm.trans ((List.Perm.append_right S J2.symm).trans (by
     rw[List.append_assoc];exact perm_append_comm)))
    have EU:=nodup_append.mp s2.nd;refine⟨c,ds,_,c',R,S,w1,ow,EU.1,h5,fun v H' A B wa wb s3=>?_⟩;have DJ:ai H' (D2.set i<|some .jk) σ F3:=Dy.mono s3.tup fun a ha o e=>s3.keep a o e fun h=>EU.2.2 a h a ha rfl;obtain⟨F4,G,DQ,Ha⟩:=DJ.back wb hx;rw[set_set] at DQ;refine q v H' F4 A DQ wa ((s2.trans s3 Dy.chg).less (C:=G) ?_);rw[List.append_assoc];refine (List.Perm.append_left F4 perm_append_comm).trans ?_;rw[<- List.append_assoc];refine (List.Perm.append_right A Ha).trans ?_;rw[List.append_assoc];refine perm_append_comm.trans ?_;rw[List.append_assoc];refine perm_append_comm.trans ?_;rw[List.append_assoc,List.append_assoc];refine (List.Perm.append_left A ?_);exact perm_append_comm
   ·cases h4
  ·cases hg
 ·cases hg
section
variable{X:Cx}
theorem g9:∀ (H:Hp) (c:Vl) (x:V) (R:List Addr),Own H c x R->fw c=true->Hm K "list" x H:=by
 intro H c x R h e;cases c with
 | lst ds=>obtain⟨a,xs,rfl,h1,_⟩:=h;exact .inl ⟨rfl,xs,CT.of h1⟩
 | DH ds=>obtain⟨a,xs,G,rfl,h1,_⟩:=h;exact .inl ⟨rfl,xs,CT.of h1⟩
 | _=>cases e
theorem jw{mt:Vl->List Vl->Option (Vl×Vl)}{e:Expr}{es:List Expr}(GT:∀ H c x R,Own H c x R->ty c=true->Hm X.K T x H)(pa:PlainAttrs T)(slot:Slot T name id)(ht:typeOf (.builtin id)=pure (.type "method_descriptor"))(hm:K_ X id mt)(ho:PE X o (dE i))(ha:VA X (e::es) g)(D6:attributeBase o name X.env (eval o X.env)=eval o X.env:=by rfl)(Ia:((backTo De<|starEach (e::es) X.env).all (fun x=>!x.1) && (backToKw De<|keywordEach [] X.env).all (fun x=>x.1.isSome)
   && decide ((e::es).length+([]:List Keyword).length+(if ([]:List Keyword).isEmpty then 0 else 1)<30))=true:=by rfl)(D7:(apos.endLine == De.line)=true:=by rfl)(hs:starEach (e::es) X.env=(false,eval e X.env)::starEach es X.env:=by rfl)(EX:(backTo De<|starEach es X.env).any (·.1)=false:=by rfl):
  VE X (.Call (.Attribute o name apos) (e::es) [] De) (cW ty i mt g):=
 aR (wn pa slot ht hm ho ha D6 Ia D7 hs EX) fun σ H Q h=>by
  obtain⟨x,hx,h1,h2⟩:=pT GT h;exact⟨x,hx,h1,h2⟩
theorem yc{mt:Vl->List Vl->Option (Vl×Vl)}(GT:∀ H c x R,Own H c x R->ty c=true->Hm X.K T x H)(pa:PlainAttrs T)(slot:Slot T name id)(ht:typeOf (.builtin id)=pure (.type "method_descriptor"))(hm:K_ X id mt)(ho:PE X o (dE i))(D6:attributeBase o name X.env (eval o X.env)=eval o X.env:=by rfl)(D7:(apos.endLine == De.line)=true:=by rfl):
  VE X (.Call (.Attribute o name apos) [] [] De) (cW ty i mt aNil):=
 aR (wm pa slot ht hm ho D6 D7) fun σ H Q h=>by
  obtain⟨x,hx,h1,h2⟩:=pT GT h;refine⟨x,hx,h1,?_⟩;obtain⟨D,F,r,D',st,nd,hg,q⟩:=h2;cases hg;exact q [] H F [] st ⟨rfl,rfl⟩ (by rw[append_nil];exact m_.perm nd (List.Perm.refl _))
@[simp] def mAppend:Vl->List Vl->Option (Vl×Vl):=fun c ds=>match c,ds with
 | .lst xs,[.im d]=>if xs.length<100000 then some (.im .j_,.lst<|xs++[d]) else none
 | _,_=>none
theorem lL{n:Nat}(h:n<100000):n<sizeLine:=lt_of_lt_of_le h (by decide)
theorem jx:K_ X "list.append" mAppend:=by
 intro pins s σ H x vs v us Q I rx rv ⟨c,ds,r,c',R,S,wc,wd,nd,e,q⟩;unfold mAppend at e;split at e
 ·split at e
  ·rename_i hl;cases e;obtain⟨a,ys,rfl,h1,h2,rfl⟩:=wc;obtain⟨y,t,S1,S2,rfl,⟨hy,rfl⟩,⟨rfl,rfl⟩,rfl⟩:=wd;have c:ER H a:=⟨_,h1,(fun _ e=>by cases e),(fun _ _ e=>by cases e)⟩;refine wq pins s σ H _ _ v us Q I rx rv ⟨a,ys,y,rfl,rfl,h1,lL (by rw[<- h2.length];exact hl),q .j_ _ [] [a] ⟨rfl,rfl⟩ ?_ (m_.chg (.head _) c (pairwise_singleton _ _) fun x hx=>by simpa using hx)⟩;exact⟨a,_,rfl,aW,(h2.snoc hy).mono<|CL.FA c,rfl⟩
  ·cases e
 ·cases e
@[simp] def mPop:Vl->List Vl->Option (Vl×Vl):=fun c ds=>match c,ds with
 | .lst xs,[]=>(xs.getLast?).map fun d=>(.im d,.lst xs.dropLast)
 | _,_=>none
theorem aj.last{ds:List Im}{xs:List V}{d:Im}(h:aj H ds xs)(e:ds.getLast?=some d):∃ v,xs[xs.length - 1]?=some v/\CL H d v/\aj H ds.dropLast xs.dropLast:=by
 rw[List.getLast?_eq_getElem?] at e;obtain⟨v,g1,g2⟩:=h.get e;refine⟨v,by rw[<- h.length];exact g1,g2,?_⟩;rw[List.dropLast_eq_take,List.dropLast_eq_take,<- h.length];exact h.take _
theorem yd:K_ X "list.pop" mPop:=by
 intro pins s σ H x vs v us Q I rx rv ⟨c,ds,r,c',R,S,wc,wd,nd,e,q⟩;unfold mPop at e;split at e
 ·obtain⟨d,e1,e2⟩:=map_eq_some_iff.mp e;cases e2;obtain⟨a,ys,rfl,h1,h2,rfl⟩:=wc;obtain⟨rfl,rfl⟩:=wd;obtain⟨y,g1,g2,g3⟩:=h2.last e1;have c:ER H a:=⟨_,h1,(fun _ e=>by cases e),(fun _ _ e=>by cases e)⟩;refine wu pins s σ H _ _ v us Q I rx rv ⟨a,ys,y,rfl,rfl,h1,g1,q y _ [] [a] ⟨g2.mono<|CL.FA c,rfl⟩ ?_ (m_.chg (.head _) c (pairwise_singleton _ _) fun x hx=>by simpa using hx)⟩;exact⟨a,_,rfl,aW,g3.mono<|CL.FA c,rfl⟩
 ·cases e
@[simp] def B6:Vl->List Vl->Option (Vl×Vl):=fun c ds=>match c,ds with
 | .lst xs,[.im (.int i)]=>if 0<=i/\i<xs.length then (xs[i.toNat]?).map fun d=>(.im d,.lst<|xs.eraseIdx i.toNat) else none
 | _,_=>none
def jy(X:Cx)(pt:Vl->Vl->Vl->Option Vl):Prop:=
 kz X fun o i v H Q=>∃ c k d c' R S,Own H c o R/\Own H k i []/\Own H d v S/\(R++S).Nodup/\pt c k d=some c'/\∀ H' R',Own H' c' o R'->m_ H (R++S) H' R'->Q H'
@[simp] def putV(c k d:Vl):Option Vl:=match c,k,d with
 | .lst xs,.im<|.int i,.im d=>(GF xs.length i).map fun j=>.lst (xs.set j d)
 | _,_,_=>none
theorem aj.set{H:Hp}{d:Im}{v:V}(w:CL H d v):∀ {ds:List Im}{xs:List V} (n:Nat),aj H ds xs->aj H (ds.set n d) (xs.set n v)
 | [],xs,n,h=>by cases (show xs=[] from h);exact rfl
 | e::ds,xs,0,h=>by obtain⟨u,r,rfl,h1,h2⟩:=h;exact⟨v,r,rfl,w,h2⟩
 | e::ds,xs,n+1,h=>by obtain⟨u,r,rfl,h1,h2⟩:=h;exact⟨u,_,rfl,h1,aj.set w n h2⟩
theorem pU:jy X putV:=by
 intro pins s σ H o i v ov iv u Q I ro ri rv ⟨c,k,d,c',R,S,wc,wk,wd,nd,e,q⟩;unfold putV at e;split at e
 ·obtain⟨j,e1,e2⟩:=map_eq_some_iff.mp e;cases e2;obtain⟨a,ys,rfl,h1,h2,rfl⟩:=wc;obtain⟨hd,rfl⟩:=wd;have c:ER H a:=⟨_,h1,(fun _ e=>by cases e),(fun _ _ e=>by cases e)⟩;refine v4 pins s σ H _ _ _ ov iv u Q I ro ri rv ⟨a,ys,_,j,rfl,wk.1,h1,by rw[<- h2.length];exact e1,q _ [a] ?_ (m_.chg (.head _) c (pairwise_singleton _ _) fun x hx=>by simpa using hx)⟩;exact⟨a,_,rfl,aW,(aj.set hd j h2).mono<|CL.FA c,rfl⟩
 ·cases e
@[simp] def gIx(i:Nat)(gk:M Vl)(pt:Vl->Vl->Vl->Option Vl):MG:=fun d D=>match D[i]? with
 | some (some _)=>(gk D).bind fun p=>if p.1.cp=true then match p.2[i]? with
   | some (some c)=>(pt c p.1 d).map fun c'=>p.2.set i (some c')
   | _=>none
  else none
 | _=>none
theorem f7{fix:List Nat}{k:Expr}{gk:M Vl}{pt:Vl->Vl->Vl->Option Vl}{pos:Pos}(ho:PE X o (dE i))(hk:VE X k gk)(hp:jy X pt)(ha:∀ v,assign (.Subscript o k pos) X.env v=(do
   let ov <- holding [v] (eval o X.env)
   let iv <- holding [v,ov] (eval k X.env)
   standAt pos
   holding [v,ov,iv] (setItem ov iv v)
   release [v,ov,iv] []):=by intro _;rfl):VG X fix (.Subscript o k pos) (gIx i gk pt):=by
 refine lj (uG ho hk hp ha) fun v σ H Q ⟨D,F,d,R,D',st,ow,nd,hg,q⟩=>?_;unfold gIx at hg;split at hg
 ·rename_i c0 Mh;obtain⟨x,A0,B0,hx,w0,_,_⟩:=st.out Mh;obtain⟨⟨kd,D1⟩,h1,h2⟩:=bind_eq_some_iff.mp hg;split at h2
  ·rename_i Pd;refine⟨x,hx,D,F,kd,D1,st,(nodup_append.mp nd).1,h1,fun kv H1 F1 RK r_ wk s1=>?_⟩;obtain rfl:=wk.cp Pd;rw[append_nil] at s1;have Pe:=nodup_append.mp nd;dsimp only at h2;split at h2
   ·rename_i c hc;obtain⟨c',h5,h6⟩:=map_eq_some_iff.mp h2;cases h6;obtain⟨x',RC,F3,FM,w1,Dy,J2⟩:=r_.out hc;rw[hx] at FM;cases FM;have Pf:Own H1 d v R:=ow.mono s1.tup fun a ha o e=>s1.keep a o e fun h=>Pe.2.2 a h a ha rfl;have s2:m_ H (F++R) H1 ((RC++R)++F3):=by
     have e0:m_ H (F++R) H (F++R):=m_.perm nd (List.Perm.refl _);have:=m_.trans (F1:=F) (R:=R) e0 s1 ow.chg;refine this.Du ((List.Perm.append_right R J2.symm).trans ?_);rw[List.append_assoc];exact perm_append_comm
    have EU:=nodup_append.mp s2.nd;refine⟨c,kd,d,c',RC,R,w1,wk,Pf,EU.1,h5,fun H' R' w' s3=>?_⟩;have DJ:ai H' (D1.set i<|some .jk) σ F3:=Dy.mono s3.tup fun a ha o e=>s3.keep a o e fun h=>EU.2.2 a h a ha rfl;obtain⟨F4,G,DQ,Ha⟩:=DJ.back w' hx;rw[set_set] at DQ;exact q σ H' F4 aF.refl DQ ((s2.trans s3 Dy.chg).less<|Ha.trans perm_append_comm)
   ·cases h2
  ·cases h2
 ·cases hg
end
section
variable{prog:Program}{w:World}{A:Around}{E:Value->Shared->Prop}{s:Shared}
end
section
variable{X:Cx}
end
end L2
namespace L2
open PySem PySem.Spec PyProof.Rows PySem.W
variable{ns:List Int}{p:Array Nat}{α:Type}
theorem ye(l:List α)(d:α):(range l.length).map (fun i=>l.getD i d)=l:=by
 apply List.ext_getElem
 ·simp
 ·intro i h1 h2;simp[List.getD,h2]
theorem jz{l:List α}{d:α}(h:Rg l.length p):(p.toList.map fun i=>l.getD i d).Perm l:=by
 have:=List.Perm.map (fun i=>l.getD i d) h;rw[ye] at this;exact this
theorem jA{α β:Type}{F:α->β->Prop}:∀ {l₁:List α}{l₂:List β},l₁.length=l₂.length->(∀ (i:Nat) a b,l₁[i]?=some a->l₂[i]?=some b->F a b)->Paired F l₁ l₂
 | [],[],_,_=>.nil
 | a::l,b::m,h,f=>.cons (f 0 a b rfl rfl) (jA (by simpa using h) fun i x y h1 h2=>f (i+1) x y (by simpa using h1) (by simpa using h2))
 | [],_::_,h,_=>by simp at h
 | _::_,[],h,_=>by simp at h
section
variable{prog:Program}{w:World}{A:Around}{E:Value->Shared->Prop}{s:Shared}{vs:List Value}
theorem lM{B:Addr}{n0:Nat}{P:PySem.Fin->Shared->Prop}(key:Nat->Int)(κ:SortKind)(ho:s.heap.get? B=some (seqObj "list" vs.toArray n0))(n_:2<=vs.length->∀ h6:Heap,(∀ b o,b≠B->s.heap.get? b=some o->h6.get? b=some o)->∀ Q:SortKind->Shared->Prop,Q κ { s with heap:=h6 }->wpAny (model prog w) A (keyKind' vs.toArray) Q E { s with heap:=h6 })(Iy:∀ h6:Heap,(∀ b o,b≠B->s.heap.get? b=some o->h6.get? b=some o)->bT vs.length key (kas_cmp prog w A κ<|vs.toArray.zip vs.toArray) { s with heap:=h6 })(inj:∀ i j,i<vs.length->j<vs.length->key i=key j->i=j)(up:vs.length<1001\/∀ j,1<=j->j<vs.length->key (j - 1)<=key j)(hz:vs.length<=1000)(h:∀ (p:Array Nat) (h':Heap),Rg vs.length p->Up key p vs.length->(∀ b o,b≠B->s.heap.get? b=some o->h'.get? b=some o)->(∃ e,h'.get? B=some (seqObj "list" (p.toList.map fun i=>vs.getD i Value.none).toArray e))->
   P (.done<|.ret .none) { s with heap:=h' }):wpAny (model prog w) A (Builtin.«list.sort» ⟨[.ref B],[]⟩) P E s:=by
 have NH:vs.length<=sizeLine:=Nat.le_trans hz (by decide);rw[list_sort_plain];have hB:B<s.heap.objs.size:=Heap.lt_size ho;refine wpAny_bind (listItems_at ho rfl (wpAny_bind (listUpdate_at ho rfl ?_ (hsz:=by rw[size_toArray];exact NH) (hsz2:=by show 0<=_;exact zero_le _))));have Hz:=get?_update_seq ho (fun _=>#[]);generalize Mi:(if (#[]:Array Value).size == vs.toArray.size then n0 else n0+1)=e1 at Hz;refine wpAny_bind (seqEpoch_at Hz rfl (wpAny_bind (wpAny_newTuple (wpAny_bind<|wpAny_newList<|wpAny_holding ?_) (by simpa using NH))));have k6:∀ b o,b≠B->s.heap.get? b=some o->(((s.heap.update B<|Obj.mapSeq fun _=>#[]).push<|seqObj "tuple" vs.toArray.toList.toArray 0).push<|seqObj "list" ([]:List Value).toArray 0).get? b=some o:=fun b o hb e=>
  Heap.get?_push_of_some _ (Heap.get?_push_of_some _<|(Heap.get?_update_other _ _<|Ne.symm hb).trans e);have o6:(((s.heap.update B<|Obj.mapSeq fun _=>#[]).push<|seqObj "tuple" vs.toArray.toList.toArray 0).push<|seqObj "list" ([]:List Value).toArray 0).get? B=some (seqObj "list" #[] e1):=
  Heap.get?_push_of_some _ (Heap.get?_push_of_some _ Hz);show wpAny (model prog w) A _ P E { s with heap:=((s.heap.update B<|Obj.mapSeq fun _=>#[]).push<|seqObj "tuple" vs.toArray.toList.toArray 0).push (seqObj "list" ([]:List Value).toArray 0) };generalize ((s.heap.update B<|Obj.mapSeq fun _=>#[]).push<|seqObj "tuple" vs.toArray.toList.toArray 0).push (seqObj "list" ([]:List Value).toArray 0)=h6 at k6 o6 ⊢;have fin:∀ (st:SortSt) (p:Array Nat),Rg vs.length p->Up key p vs.length->arrOf st=p.map (kas_item<|vs.toArray.zip vs.toArray)->failedOf st=none->
   wpAny (model prog w) A (do
    let touched:=(<- seqEpoch B) != e1
    Builtin.List.listUpdate (.ref B) fun _=>(arrOf st).map (·.2)
    if let some e:=failedOf st then rule "list.sort.comparison-raised";throw e
    if touched then rule "list.sort.modified";raiseError "ValueError" "list modified during sort"
    ret .none) P E { s with heap:=h6 }:=fun st p r1 r2 r3 r4=>by
  have out:=kat_snds (ks:=vs) (vs:=vs) rfl r3;rw[out,r4];refine wpAny_bind (seqEpoch_at (s:={ s with heap:=h6 }) o6 rfl (wpAny_bind (listUpdate_at (s:={ s with heap:=h6 }) o6 rfl ?_ (hsz:=zero_le _) (hsz2:=by
   show (List.toArray<|p.toList.map fun i=>vs.getD i Value.none).size<=_;rw[size_toArray,length_map,length_toList,r1.size];lia))))
  simp only[bne_self_eq_false,false_eq_true,if_false];refine wpAny_pure (h p _ r1 r2 (fun b o hb e=>(Heap.get?_update_other _ _<|Ne.symm hb).trans<|k6 b o hb e) ⟨_,get?_update_seq o6 fun _=>_⟩)
 dsimp only;by_cases h2:vs.toArray.size<2
 ·rw[if_pos h2,if_pos h2];refine wpAny_bind (wpAny_pure ?_);rw[StateT.run_pure];apply wpAny_bind;apply wpAny_pure;have IZ:vs.length<2:=by simpa using h2
  refine fin (SortSt.mk' general' (vs.toArray.zip vs.toArray) #[] 7 none) (range vs.length).toArray (List.Perm.refl _) (fun i j DY hj=>?_) ?_ rfl
  ·have:i=j:=by lia
   subst this;exact Int.le_refl _
  ·have:=kas_range (vs.toArray.zip vs.toArray);rw[show (vs.toArray.zip vs.toArray).size=vs.length by simp] at this;exact this.symm
 ·rw[if_neg h2,if_neg h2];have IZ:2<=vs.length:=by simpa using h2
  refine wpAny_bind (n_ IZ h6 k6 _ ?_)
  ·have cm:=Iy h6 k6;have kr:=kas_range (vs.toArray.zip vs.toArray);rw[show (vs.toArray.zip vs.toArray).size=vs.length by simp] at kr;have run:=xi (E:=E) (Q:=fun _ st s'=>s'={ s with heap:=h6 }/\∃ p,Rg vs.length p/\Up key p vs.length/\arrOf st=p.map (kas_item<|vs.toArray.zip vs.toArray)/\failedOf st=none) cm
    inj IZ up fun p' g_ a b c d=>⟨rfl,p',a,b,c,d⟩;unfold kas_st at run;rw[kr] at run;refine wpAny_bind (wpAny_mono run (fun r s' hr=>?_) fun _ _ e=>e);obtain⟨u,st⟩:=r;obtain⟨rfl,p,r1,r2,r3,r4⟩:=hr;exact fin st p r1 r2 r3 r4
end
section
variable{X:Cx}{pins:List (Addr×Obj)}{σ:L2.St}{H:Hp}{s:Shared}
theorem pV(hc:X.calm=true){a:Addr}{ys:List V}{f_:List Value}{n:Nat}{T:String}{o:Obj}{Q:VK}(key:Nat->Int)(κ:SortKind)(I:Inv X pins σ H s)(rv:ak ys f_)(hT:T = "list" \/ T = "tuple")(e:s.heap.get? a=some o)(eC:o.cls=.type T)(eD:o.data=.seq f_.toArray n)(hz:ys.length<=1000)(n_:2<=f_.length->∀ (h6:Heap) (tk:Nat),(∀ b o,s.heap.get? b=some o->h6.get? b=some o)->∀ (A:Around) (E:Value->Shared->Prop) (Q:SortKind->Shared->Prop),Q κ { s with heap:=h6,toks:=tk }->wpAny (model X.prog X.w) A (keyKind' f_.toArray) Q E { s with heap:=h6,toks:=tk })(Iy:∀ (h6:Heap) (tk:Nat),(∀ b o,s.heap.get? b=some o->h6.get? b=some o)->bT f_.length key (kas_cmp X.prog X.w X.A.in1.in1 κ<|f_.toArray.zip f_.toArray) { s with heap:=h6,toks:=tk })(inj:∀ i j,i<f_.length->j<f_.length->key i=key j->i=j)(up:f_.length<1001\/∀ j,1<=j->j<f_.length->key (j - 1)<=key j)(q:∀ (p:Array Nat) l,Rg f_.length p->Up key p f_.length->H l=none->Q (.ref l) (upd H l<|.lst<|p.toList.map fun i=>ys.getD i .j_)):
  wpAny (model X.prog X.w) X.A (call (.builtin "sorted") [.ref a]) (EP X pins σ Q) X.xe s:=by
 have hl:ys.length=f_.length:=rv.length;have J6:f_.length<=sizeLine:=Nat.le_trans (by lia) (show 1000<=sizeLine by decide);refine Calls.call_function_entry kind_sorted plain_sorted entry_sorted (args_sorted1 _) ?z
 case z=>
  unfold Builtin.«sorted»;refine wpAny_bind (m:=checkCount "sorted" 1 1 _) (wpAny_pure (wpAny_bind (wpAny_collect_seq a hT e eC eD (fun h' Hc=>?_) (by rw[size_toArray];exact J6))));show wpAny _ _ (newList f_ >>= _) _ _ _;refine wpAny_bind (wpAny_newList ?_ J6);have oB:(h'.push<|seqObj "list" f_.toArray 0).get? h'.objs.size=some (seqObj "list" f_.toArray 0):=Heap.get?_push_size _ rfl;have kB:∀ b o,s.heap.get? b=some o->(h'.push<|seqObj "list" f_.toArray 0).get? b=some o:=fun b o e=>Heap.get?_push_of_some _ (Hc b o e);have I1:Inv X pins σ H { s with heap:=h' }:=I.kept (t':=s.toks) Hc;have nB:∀ b o,s.heap.get? b=some o->b≠h'.objs.size:=fun b o e=>ne_of_lt (Heap.lt_size<|Hc b o e);refine wpAny_bind (wpAny_holding<|wpAny_call_entry slot_list_sort ⟨_,oB,rfl⟩ entry_list_sort ?y<|args_list_sort _)
  case y=>
   refine lM (s:={ s with heap:=h'.push (seqObj "list" f_.toArray 0) }) key κ oB (fun h2 h6 k6 Q hq=>n_ h2 h6 s.toks (fun b o eb=>k6 b o (nB b o eb)<|kB b o eb) _ _ Q hq) (fun h6 k6=>Iy h6 s.toks fun b o eb=>k6 b o (nB b o eb)<|kB b o eb) inj up (by lia) fun p h2 r1 r2 k2 ⟨e9,J7⟩=>⟨_,rfl,wpAny_pure ⟨_,rfl,?_⟩⟩;have fB:H h'.objs.size=none:=I1.l_.fresh (Nat.le_refl _);have Mj:∀ b o,h'.get? b=some o->b≠h'.objs.size:=fun b o e=>ne_of_lt (Heap.lt_size e);refine⟨.ref h'.objs.size,upd H h'.objs.size<|.lst<|p.toList.map fun i=>ys.getD i .j_,?_,rfl,q p _ r1 r2 fB⟩;refine I1.laid (t':=s.toks) (fun b u e=>k2 b u (Mj b u e)<|Heap.get?_push_of_some _ e) (Nat.le_refl _) ⟨?_,_,e9,?_,J7⟩
   ·rw[length_map,length_toList,r1.size];lia
   ·refine jA (by simp) fun i v u h1 h2=>?_;rw[List.getElem?_map] at h1 h2;cases Gm:p.toList[i]? with
    | none=>rw[Gm] at h1;cases h1
    | some k=>
     rw[Gm] at h1 h2;cases h1;cases h2;have hk:k<f_.length:=mem_range.mp (r1.mem_iff.mp<|mem_of_getElem? Gm);obtain⟨u,h3,h4⟩:=rv.get (i:=k) (x:=ys[k]'(by lia)) (by simp[show k<ys.length by lia]);rw[List.getElem?_eq_getElem hk] at h3;have h3:=Option.some.inj h3;simp only[List.getD,List.getElem?_eq_getElem hk,List.getElem?_eq_getElem (show k<ys.length by lia),getD_some];rw[h3];exact h4
end
def f8(ns:List Int)(i:Nat):Int:=ns.getD i 0
theorem pW(nd:ns.Nodup):∀ i j,i<ns.length->j<ns.length->f8 ns i=f8 ns j->i=j:=fun i j hi hj e=>by
 unfold f8 at e;rw[getD_eq_getElem?_getD,getD_eq_getElem?_getD,List.getElem?_eq_getElem hi,List.getElem?_eq_getElem hj] at e;have e':ns[i]=ns[j]:=e;rcases Nat.lt_trichotomy i j with h | h | h
 ·exact absurd e' ((pairwise_iff_getElem.mp nd) i j hi hj h)
 ·exact h
 ·exact absurd e'.symm ((pairwise_iff_getElem.mp nd) j i hj hi h)
theorem Pg(hp:Rg ns.length p)(up:Up (f8 ns) p ns.length)(nd:ns.Nodup):(p.toList.map fun i=>ns.getD i 0).Pairwise (· < ·):=by
 rw[pairwise_iff_getElem];intro i j hi hj DY;have hs:=hp.size;have Ej:i<ns.length:=by simpa [hs] using hi
 have Hx:j<ns.length:=by simpa [hs] using hj
 have ne:=hp.ne (pW nd) DY Hx;have le:=up i j (by lia) Hx;have g:∀ k (hk:k<(p.toList.map fun i=>ns.getD i 0).length),(p.toList.map fun i=>ns.getD i 0)[k]=x_ (f8 ns) p k:=fun k hk=>by
  have DM:k<p.size:=by simpa using hk
  rw[List.getElem_map,Array.getElem_toList];show _=ns.getD (p.getD k 0) 0;simp[Array.getD,DM]
 rw[g i hi,g j hj];lia
section
variable{X:Cx}
theorem jB{H:Hp}:∀ {ns:List Int}{f_:List Value},ak (ns.map V.int) f_->∀ (i:Nat),i<ns.length->∃ t,f_[i]?=some (.int (ns.getD i 0) t)
 | n::r,_,.cons a b,0,h=>by obtain⟨t,rfl⟩:=a;exact⟨t,rfl⟩
 | n::r,_,.cons a b,i+1,h=>by
  obtain⟨t,e⟩:=jB (H:=H) b i (by simpa using h);exact⟨t,by simpa using e⟩
theorem yf(hc:X.calm=true):aX X (.builtin "sorted") (fun xs H Q=>∃ (a:Addr) (ns:List Int),xs=[.ref a]/\H a=some (.lst<|ns.map V.int)/\ns.Nodup/\ns.length<=1000/\
  ∀ l (La:List Int),H l=none->La.Perm ns->La.Pairwise (· < ·)->Q (.ref l) (upd H l<|.lst<|La.map V.int)):=by
 intro pins s σ H xs us Q I r h;obtain⟨a,ns,rfl,ha,nd,hz,q⟩:=h;obtain⟨u,rfl,ru⟩:=ci r;cases ru;obtain⟨z,f_,n,rv,e⟩:=I.l_ a _ ha;have li:f_.length=ns.length:=by rw[<- rv.length,length_map]
 refine pV hc (f8 ns) oneType' I rv (.inl rfl) e rfl rfl (by rw[length_map];exact hz) (fun h2 h6 tk k A E Q hq=>?_) (fun h6 tk k=>?_) (by rw[li];exact pW nd) (.inl (by lia)) fun p l r1 r2 fl=>?_
 ·refine kas_kind (T:=Value.type "int") h2 (fun v hv=>?_) (by decide) (by decide) hq;obtain⟨i,hi⟩:=getElem?_of_mem hv;obtain⟨t,ht⟩:=jB (H:=H) rv i (by rw[<- li];exact (List.getElem?_eq_some_iff.mp hi).1);rw[hi] at ht;cases ht;exact Looks.of_pure rfl
 ·intro i j C hi hj q;obtain⟨t,h1⟩:=jB (H:=H) rv i (by lia);obtain⟨u,h2⟩:=jB (H:=H) rv j (by lia);unfold kas_cmp;rw[kat_item rfl,kat_item rfl,getD_eq_getElem?_getD,getD_eq_getElem?_getD,h1,h2];show wpAny _ _ (keyLt' oneType' (.int _ t)<|.int _ u) _ _ _;rw[keyLt'_oneType];exact oneLt_int q
 ·rw[li] at r1 r2;have e2:(p.toList.map fun i=>(ns.map V.int).getD i .j_)=(p.toList.map fun i=>ns.getD i 0).map V.int:=by
   rw[List.map_map];refine List.map_congr_left fun k hk=>?_;have DM:k<ns.length:=mem_range.mp (r1.mem_iff.mp hk);show (ns.map V.int).getD k .j_=V.int (ns.getD k 0);simp[List.getD,DM]
  rw[e2];exact q l _ fl (jz r1) (Pg r1 r2 nd)
end
end L2
namespace L2
open PySem PySem.Spec PyProof.Rows
section
variable{X:Cx}
def cq:List Im->List Im->List Im
 | x::xs,y::ys=>.tup [x,y]::cq xs ys
 | _,_=>[]
theorem pX:∀ (xs ys:List Im),(cq xs ys).length=min xs.length ys.length
 | [],ys=>by simp[cq]
 | x::xs,[]=>by simp[cq]
 | x::xs,y::ys=>by simp[cq,pX xs ys]
theorem pY:∀ (xs ys:List Im) (i:Nat) (d:Im),(cq xs ys)[i]?=some d->∃ x y,xs[i]?=some x/\ys[i]?=some y/\d=.tup [x,y]
 | [],ys,i,d,h=>by simp[cq] at h
 | x::xs,[],i,d,h=>by simp[cq] at h
 | x::xs,y::ys,0,d,h=>by simp[cq] at h;exact⟨x,y,rfl,rfl,h.symm⟩
 | x::xs,y::ys,i+1,d,h=>by
  obtain⟨a,b,h1,h2,h3⟩:=pY xs ys i d (by simpa [cq] using h);exact⟨a,b,by simpa using h1,by simpa using h2,h3⟩
@[simp] def iZ(g:M (List Opd)):MI:=fun D=>(g D).bind fun p=>(bN p.2 p.1).bind fun ds=>match ds with
 | [.im (.tup x),.im<|.tup y]=>some ((cq x y,none),p.2)
 | _=>none
theorem yg{K:PySem.W.Frag}{H:Hp}{a b:Addr}{xs ys:List V}{ds es:List Im}(h:H a=some (.tup xs))(hd:aj H ds xs)(h':H b=some (.tup ys))(HL:aj H es ys):ES (K2 K a b) H [] (cq ds es) where
 go:=fun H' t k i d e=>by
  obtain⟨x,y,e1,e2,rfl⟩:=pY ds es i d e;obtain⟨v,g1,g2⟩:=hd.get e1;obtain⟨u,k1,k2⟩:=HL.get e2;have q1:=A_.of (K:=K) (t.tup a _ h);have q2:=A_.of (K:=K) (t.tup b _ h');refine⟨⟨xs,ys,v,u,q1,q2,g1,k1⟩,fun z Hy ⟨T,x',y',f,ez,eH,y1,y2⟩=>?_⟩;subst ez eH;have z1:=y1 xs q1;have z2:=y2 ys q2;rw[g1] at z1;rw[k1] at z2;cases z1;cases z2;have s:aB H' (upd H' T<|.tup [v,u]):=(aB.refl H').upd f;exact⟨s,T,[v,u],rfl,aW,⟨v,[u],rfl,(g2.mono t.tup).mono s.tupS.tup,u,[],rfl,(k2.mono t.tup).mono s.tupS.tup,rfl⟩⟩
 stop:=fun H' t k=>⟨xs,ys,A_.of<|t.tup a _ h,A_.of<|t.tup b _ h',by rw[pX,<- hd.length,<- HL.length];lia⟩
theorem yh{a b:Expr}{g:M (List Opd)}{p pos:Pos}{es:List Expr}{ek:Nat}{ps:Pos}(hg:Gl X "zip")(hm:X.mg "zip" = none)(ha:VA X [a,b] g)(hs:starEach [a,b] X.env=[(false,eval a X.env),(false,eval b X.env)]:=by rfl)(G':starEach [b] X.env=[(false,eval b X.env)]:=by rfl):
  VI X (.Tuple es ek ps) (.Call (.Name "zip" p) [a,b] [] pos) (iZ g):=by
 refine lr (xo hg hm ha hs G') fun σ H Rk ⟨D,F,r,D',st,nd,Er,q⟩=>?_;obtain⟨⟨os,D1⟩,h1,h2⟩:=bind_eq_some_iff.mp Er;obtain⟨ds,h3,h4⟩:=bind_eq_some_iff.mp h2;refine⟨D,F,os,D1,st,nd,h1,fun vs H1 F1 R1 r_ o1 s1=>?_⟩;have rd:=o1.read r_ h3;split at h4
 ·cases h4;obtain⟨v,u,rfl,e,e'⟩:=xL rd;obtain⟨a,xs,rfl,k1,k2⟩:=e;obtain⟨b,ys,rfl,k3,k4⟩:=e';exact⟨a,b,rfl,⟨xs,A_.of k1⟩,⟨ys,A_.of k3⟩,q _ H1 F1 [] r_ (yg k1 k2 k3 k4) trivial (fun a ha=>nomatch ha) (by rw[append_nil];exact s1.both)⟩
 ·cases h4
@[simp] def B7:OpN:=fun ds=>match ds with
 | [.im (.int i),.im<|.int j,.im<|.int k]=>some (.im<|.int<|min (min i j) k)
 | _=>none
def et(lt:Im->Im->Bool)(x:Im):List Im->List Im
 | []=>[x]
 | y::r=>if lt x y=true then x::y::r else y::et lt x r
def bD(lt:Im->Im->Bool):List Im->List Im
 | []=>[]
 | x::r=>et lt x (bD lt r)
def ltI:Im->Im->Bool
 | .int i,.int j=>decide (i<j)
 | _,_=>false
def Ea:List Im->Option (List Int)
 | []=>some []
 | .int i::r=>(Ea r).map fun s=>i::s
 | _::_=>none
@[simp] def vSorted:OpN:=fun ds=>match ds with
 | [.lst x]=>(Ea x).bind fun ns=>if ns.Nodup/\ns.length<=1000 then some (.lst<|bD ltI x) else none
 | _=>none
def eu(x:Int):List Int->List Int
 | []=>[x]
 | y::r=>if x<y then x::y::r else y::eu x r
def f9:List Int->List Int
 | []=>[]
 | x::r=>eu x (f9 r)
theorem pZ(x:Int):∀ l:List Int,et ltI (.int x) (l.map .int)=(eu x l).map .int
 | []=>rfl
 | y::r=>by
  rw[map_cons,et,eu,ltI];by_cases h:x<y
  ·rw[if_pos (by simpa using h),if_pos h];rfl
  ·rw[if_neg (by simpa using h),if_neg h,pZ x r];rfl
theorem p0:∀ l:List Int,bD ltI (l.map .int)=(f9 l).map .int
 | []=>rfl
 | x::r=>by rw[map_cons,bD,p0 r,pZ];rfl
theorem lN(x:Int):∀ l:List Int,(eu x l).Perm (x::l)
 | []=>List.Perm.refl _
 | y::r=>by
  rw[eu];split
  ·exact List.Perm.refl _
  ·exact ((lN x r).cons y).trans (List.Perm.swap x y r)
theorem lO:∀ l:List Int,(f9 l).Perm l
 | []=>List.Perm.refl _
 | x::r=>(lN x _).trans ((lO r).cons x)
theorem qc(x:Int):∀ l:List Int,l.Pairwise (·<=·)->(eu x l).Pairwise (·<=·)
 | [],_=>pairwise_singleton _ _
 | y::r,h=>by
  obtain⟨h1,h2⟩:=pairwise_cons.mp h;rw[eu];split
  ·rename_i Ph;refine pairwise_cons.mpr ⟨fun z hz=>?_,h⟩;rcases mem_cons.mp hz with rfl | hz
   ·lia
   ·have:=h1 z hz;lia
  ·rename_i Ph;refine pairwise_cons.mpr ⟨fun z hz=>?_,qc x r h2⟩;rcases mem_cons.mp ((lN x r).mem_iff.mp hz) with rfl | hz
   ·lia
   ·exact h1 z hz
theorem qd:∀ l:List Int,(f9 l).Pairwise (·<=·)
 | []=>List.Pairwise.nil
 | x::r=>qc x _ (qd r)
theorem yi{l:List Int}(h:l.Nodup):(f9 l).Pairwise (· < ·):=by
 have h1:=qd l;have h2:(f9 l).Nodup:=(lO l).nodup_iff.mpr h;exact List.Pairwise.imp₂ (fun a b x y=>by lia) h1 h2
theorem qe:∀ {l m:List Int},l.Perm m->l.Pairwise (· < ·)->m.Pairwise (· < ·)->l=m
 | [],m,h,_,_=>h.nil_eq
 | a::l,[],h,_,_=>absurd h.length_eq (by simp)
 | a::l,b::m,h,hl,hm=>by
  have DW:=pairwise_cons.mp hl;have Mk:=pairwise_cons.mp hm;have e:a=b:=by
   rcases mem_cons.mp (h.mem_iff.mp<|.head _) with z | z
   ·exact z
   ·rcases mem_cons.mp (h.mem_iff.mpr<|.head _) with y | y
    ·exact y.symm
    ·have h1:=DW.1 b y;have h2:=Mk.1 a z;lia
  subst e;rw[qe h.cons_inv DW.2 Mk.2]
theorem qf:∀ {x:List Im}{ns:List Int},Ea x=some ns->x=ns.map .int
 | [],ns,h=>by cases h;rfl
 | .int i::r,ns,h=>by
  rw[Ea] at h;obtain⟨s,h1,rfl⟩:=map_eq_some_iff.mp h;rw[qf h1];rfl
 | .j_::_,_,h=>by cases h
 | .bl _::_,_,h=>by cases h
 | .str _::_,_,h=>by cases h
 | .tup _::_,_,h=>by cases h
 | .fn _::_,_,h=>by cases h
 | .fl _::_,_,h=>by cases h
 | .fd::_,_,h=>by cases h
theorem qg{H:Hp}:∀ {ns:List Int}{vs:List V},aj H (ns.map .int) vs->vs=ns.map V.int
 | [],vs,h=>h
 | n::r,vs,h=>by
  obtain⟨v,t,rfl,h1,h2⟩:=h;cases (show v=.int n from h1);rw[qg h2];rfl
theorem qh{H:Hp}:∀ ns:List Int,aj H (ns.map .int) (ns.map V.int)
 | []=>rfl
 | n::r=>⟨.int n,_,rfl,rfl,qh r⟩
theorem yj(hc:X.calm=true)(hu:X.A.units+20<cLine):cD X (.builtin "sorted") vSorted:=by
 refine (yf hc).imp fun xs H Q ⟨ds,d,rd,e,q⟩=>?_;unfold vSorted at e;split at e
 ·rename_i x;obtain⟨ns,e1,e2⟩:=bind_eq_some_iff.mp e;split at e2
  ·rename_i hn;cases e2;obtain⟨v,rfl,_,p,xs,rfl,h1,h2,_⟩:=bG rd;cases qf e1;cases qg h2;refine⟨p,ns,rfl,h1,hn.1,hn.2,fun l La fl pm up=>?_⟩;rw[p0] at q;rw[qe (pm.trans (lO ns).symm) up (yi hn.1)];exact Out.l q fl (qh _)
  ·cases e2
 ·cases e
theorem qi(hu:X.A.units+20<cLine):jy X putV:=pU
end
end L2
namespace L2
open PySem
variable{a h g b:MS}{e:M Vl}{own m n:Nat}{ds:List Vl}{fix:List Nat}{o:Option (Nat×Vl)}{xs:List Im}{d:Vl}{D1 D:SD}{c:M Bool}{tg:MG}{α:Type}{j i:Int}
@[simp] theorem B8(d:Im)(D:SD):eC d D=some (.im d,D):=rfl
@[simp] theorem B9(D:SD):aNil D=some ([],D):=rfl
@[simp] theorem Ca(D:SD):sNil D=some (.nx,D):=rfl
@[simp] theorem Cb(D:SD):pNone D=some (none,D):=rfl
@[simp] theorem Cc(D:SD):kYes D=some (true,D):=rfl
@[simp] theorem Cd(d:Im):(Vl.im d).cp=true:=rfl
@[simp] theorem Ce(d:List Im):(Vl.fz d).cp=true:=rfl
@[simp] theorem Cf(d:List Im):(Vl.lst d).cp=false:=rfl
@[simp] theorem Cg(d:List (List Im×Im)):(Vl.dT d).cp=false:=rfl
@[simp] theorem Ch(d:List (Key×Im)):(Vl.dK d).cp=false:=rfl
@[simp] theorem Ci(D:SD)(d:Vl):rsl D (.vl d)=some d:=rfl
@[simp] theorem Cj(D:SD)(i:Nat):rsl D (.sl i)=(D[i]?).getD none:=rfl
@[simp] theorem Ck(D:SD):bN D []=some []:=rfl
@[simp] theorem Cl(D:SD)(o:Opd)(os:List Opd):bN D (o::os)=(rsl D o).bind fun d=>(bN D os).map fun ds=>d::ds:=rfl
@[simp] theorem Cm(D:SD):aY [] D=some ([],D):=rfl
@[simp] theorem Co(d:Vl)(os:List Opd)(D:SD):aY (.vl d::os) D=(aY os D).map fun p=>(d::p.1,p.2):=rfl
@[simp] theorem Cp(i:Nat)(os:List Opd)(D:SD):aY (.sl i::os) D=(bK i D).bind fun p=>(aY os p.2).map fun q=>(p.1::q.1,q.2):=rfl
@[simp] theorem Cq:ims []=some []:=rfl
@[simp] theorem Cr(d:Im)(ds:List Vl):ims (.im d::ds)=(ims ds).map fun r=>d::r:=rfl
@[simp] theorem Cs(b:Bool):asB (.im<|.bl b)=some b:=rfl
theorem lP(h1 : -(2 ^ 64)<j)(h2:j<2 ^ 64):bO i j=true:=by
 have:Builtin.Int.intBits j<=64:=intBits_le_64 h1 h2;have h':¬ (Builtin.Int.intBits j > shortFactorBits):=Nat.not_lt.mpr this;unfold bO;rw[decide_eq_false h'];simp
theorem gf(h1 : -(2 ^ 64)<i)(h2:i<2 ^ 64):bO i j=true:=by
 have:Builtin.Int.intBits i<=64:=intBits_le_64 h1 h2;have h':¬ (Builtin.Int.intBits i > shortFactorBits):=Nat.not_lt.mpr this;unfold bO;rw[decide_eq_false h'];simp
theorem qj{xs:List α}(h:xs.length<=n):xs.take n=xs:=List.take_of_length_le h
theorem qk(xs:List α)(k:Nat):aC xs (some (k:Int)) none=xs.drop k:=by
 unfold aC;rw[HT.nX,HT.nW];by_cases h:k<=xs.length
 ·rw[min_eq_left h,qj (by rw[length_drop];lia)]
 ·rw[Nat.min_eq_right (by lia),Nat.sub_self,take_zero,drop_of_length_le (by lia)]
theorem ql(xs:List α)(k:Nat):aC xs none (some (k:Int))=xs.take k:=by
 unfold aC;rw[HT.nX,HT.nW,drop_zero,Nat.sub_zero];by_cases h:k<=xs.length
 ·rw[min_eq_left h]
 ·rw[Nat.min_eq_right (by lia),take_length,qj (by lia)]
theorem jC{xs:List α}{d:α}(h0:0<=i)(h:xs[i.toNat]?=some d):Eu xs i=some d:=by
 unfold Eu GF;have hi:i.toNat<xs.length:=(List.getElem?_eq_some_iff.mp h).1;rw[if_pos h0,if_pos (by lia)];exact h
theorem yk(I:Nat->SD->Prop)(R:Vl->SD->Prop):∀ {xs:List Im}{D:SD},I 0 D->
  (∀ (i:Nat) (x:Im) (D:SD),xs[i]?=some x->I i D->∃ D1 fl D2,tg (.im x) D=some D1/\b D1=some (fl,D2)/\(((fl=.nx\/fl=.ct)/\I (i+1) D2)\/∃ d,fl=.rt d/\R d D2))->
  (∃ D',ba tg b xs D=some (.nx,D')/\I xs.length D')\/∃ d D',ba tg b xs D=some (.rt d,D')/\R d D':=by
 intro xs;induction xs generalizing I with
 | nil=>intro D h0 _;exact .inl ⟨D,rfl,h0⟩
 | cons x r ih=>
  intro D h0 h;obtain⟨D1,fl,D2,h1,h2,h3⟩:=h 0 x D rfl h0;rcases h3 with ⟨hf,hI⟩ | ⟨d,rfl,hR⟩
  ·have:=ih (fun i=>I<|i+1) (D:=D2) hI fun i y D' hy Ml=>h (i+1) y D' (by simpa using hy) Ml;have e:ba tg b (x::r) D=ba tg b r D2:=by
    rw[ba];dsimp only;rw[h1];show (b D1).bind _=_;rw[h2];rcases hf with rfl | rfl<;>rfl
   rw[e];exact this
  ·refine .inr ⟨d,D2,?_,hR⟩;rw[ba];dsimp only;rw[h1];show (b D1).bind _=_;rw[h2];rfl
theorem jD(I:Nat->SD->Prop){xs:List Im}{D:SD}(h0:I 0 D)(h:∀ (i:Nat) (x:Im) (D:SD),xs[i]?=some x->I i D->∃ D1 fl D2,tg (.im x) D=some D1/\b D1=some (fl,D2)/\(fl=.nx\/fl=.ct)/\I (i+1) D2):
  ∃ D',ba tg b xs D=some (.nx,D')/\I xs.length D':=by
 rcases yk I (fun _ _=>False) h0 (fun i x D hx hI=>by
  obtain⟨D1,fl,D2,h1,h2,h3,h4⟩:=h i x D hx hI;exact⟨D1,fl,D2,h1,h2,.inl ⟨h3,h4⟩⟩) with h | ⟨_,_,_,h⟩
 ·exact h
 ·exact h.elim
theorem qm(I:Nat->SD->Prop)(J8:SD->Prop)(step:∀ m D,I m D->∃ t D1,c D=some (t,D1)/\(t=true->∃ fl D2,b D1=some (fl,D2)/\(fl=.nx\/fl=.ct)/\∃ m',m'<m/\I m' D2)/\(t=false->J8 D1)):
  ∀ (n m:Nat) (D:SD),I m D->m<n->∃ D',dm c b n D=some (.nx,D')/\J8 D':=by
 intro n;induction n with
 | zero=>intro m D _ h;lia
 | succ n ih=>
  intro m D hI hm;obtain⟨t,D1,h1,h2,h3⟩:=step m D hI;rw[dm];dsimp only;rw[h1];cases t with
  | false=>exact⟨D1,rfl,h3 rfl⟩
  | true=>
   obtain⟨fl,D2,h4,hf,m',Mk,Ml⟩:=h2 rfl;obtain⟨D',h5,h6⟩:=ih m' D2 Ml (by lia);refine⟨D',?_,h6⟩;simp only[Option.bind_some,if_true,h4];rcases hf with rfl | rfl<;>exact h5
theorem yl(xs:List α):xs.filter (fun _=>true)=xs:=List.filter_eq_self.mpr fun _ _=>rfl
theorem ym(e:g D=some (.nx,D1)):am g h D=h D1:=by unfold am;rw[e];rfl
theorem lQ(e:g D=some (.rt d,D1)):am g h D=some (.rt d,D1):=by unfold am;rw[e];rfl
theorem yn{g:MI}{D2:SD}{fl:Fl}(e:g D=some ((xs,o),D1))(h:ba tg b xs D1=some (fl,D2)):b9 g tg b D=some (fl,rst o D2):=by
 unfold b9;rw[e];show (ba tg b xs D1).map _=_;rw[h];rfl
theorem yo{r:Vl}(hl:ds.length=n)(e:g (ds.map some++List.replicate (m - n) none)=some (.rt r,D)):bb n m fix g ds=some (r,cV fix ds D 0):=by
 unfold bb;rw[if_pos hl,e]
theorem yp{caps:List Nat}{gi:MI}{C':SD}{ds:List Im}(h1:gi D=some ((xs,o),D1))(h2:bX own tg c e xs [] (dr caps D1)=some (ds,C')):bv own caps gi tg c e D=some (.lst ds,rst o<|cF caps C' D1):=by
 unfold bv;rw[h1];show (bX own tg c e xs []<|dr caps D1).map _=_;rw[h2];rfl
theorem cu{g:M Vl}(e:g D=some (d,D1)):aU g D=some (.rt d,D1):=by unfold aU;rw[e];rfl
theorem yq{i:Nat}{g:M Vl}(e:g D=some (d,D1))(h:i<D1.length):aA i g D=some (.nx,D1.set i<|some d):=by unfold aA;rw[e];show (if i<D1.length then _ else _)=_;rw[if_pos h]
theorem yr(e:c D=some (true,D1)):sIf c a b D=a D1:=by unfold sIf;rw[e];rfl
theorem yt(e:c D=some (false,D1)):sIf c a b D=b D1:=by unfold sIf;rw[e];rfl
theorem yu(D:SD){r:Vl}{outs:List Vl}(hl:ds.length=n)(e:g (ds.map some++List.replicate (m - n) none)=some (.rt r,D))(ho:cV fix ds D 0=outs):bb n m fix g ds=some (r,outs):=by
 rw[yo hl e,ho]
theorem hU{α:Type}{own:Nat}{tg:MG}{c:M Bool}{e:M Vl}{C:SD}(φ:α->Im)(p:α->Bool)(f:α->Im):∀ (xs:List α) (acc:List Im),(∀ x∈xs,∃ D1 D2,tg (.im<|φ x) (List.replicate own none++C)=some D1/\c D1=some (p x,D2)/\(p x=false->D2.drop own=C)/\(p x=true->∃ D3,e D2=some (.im<|f x,D3)/\D3.drop own=C))->
  acc.length+xs.length<=100000->bX own tg c e (xs.map φ) acc C=some (acc++(xs.filter p).map f,C)
 | [],acc,_,_=>by simp[bX]
 | x::r,acc,h,hl=>by
  obtain⟨D1,D2,h1,h2,h3,h4⟩:=h x (.head _);rw[length_cons] at hl;rw[map_cons,bX,h1];show (c D1).bind _=_;rw[h2];show (if p x=true then _ else _)=_;cases hp:p x with
  | false=>
   rw[if_neg Bool.false_ne_true];show bX own tg c e (r.map φ) acc (D2.drop own)=_;rw[h3 hp,hU φ p f r acc (fun y hy=>h y<|.tail _ hy) (by lia),List.filter_cons,hp];rfl
  | true=>
   obtain⟨D3,h5,h6⟩:=h4 hp;rw[if_pos rfl];show (e D2).bind _=_;rw[h5];show (if acc.length<100000 then bX own tg c e (r.map φ) (acc++[f x]) (D3.drop own) else none)=_;rw[if_pos (by lia),h6,hU φ p f r (acc++[f x]) (fun y hy=>h y<|.tail _ hy) (by rw[length_append,length_singleton];lia),List.filter_cons,hp];simp
theorem jE{C:SD}(φ:α->Im)(f:α->Im)(xs:List α)(h:∀ x∈xs,∃ D1 D2 D3,tg (.im<|φ x) (List.replicate own none++C)=some D1/\c D1=some (true,D2)/\e D2=some (.im<|f x,D3)/\D3.drop own=C)(hl:xs.length<=100000):bX own tg c e (xs.map φ) [] C=some (xs.map f,C):=by
 have:=hU (own:=own) (tg:=tg) (c:=c) (e:=e) (C:=C) φ (fun _=>true) f xs [] (fun x hx=>by
  obtain⟨D1,D2,D3,h1,h2,h3,h4⟩:=h x hx;exact⟨D1,D2,h1,h2,(fun z=>by cases z),(fun _=>⟨D3,h3,h4⟩)⟩) (by rw[length_nil];lia)
 rw[yl] at this;exact this
theorem jF{β:Type}(f:α->β)(xs:List α)(lo hi:Option Int):aC (xs.map f) lo hi=(aC xs lo hi).map f:=by
 unfold aC;rw[length_map,map_take,map_drop]
end L2
namespace L2
open PySem PySem.Spec PyProof.Rows
section
variable{prog:Program}{w:World}{A:Around}{E:Value->Shared->Prop}{s:Shared}
end
section
variable{X:Cx}
end
section
variable{X:Cx}
end
section
variable{X:Cx}
def hV:Im->Option Key
 | .int i=>some (.inl i)
 | .str x=>some (.inr x)
 | _=>none
@[simp] theorem Ct(i:Int):hV (.int i)=some (.inl i):=rfl
@[simp] theorem Cu(x:Str):hV (.str x)=some (.inr x):=rfl
def kI:Key->Im
 | .inl i=>.int i
 | .inr x=>.str x
@[simp] theorem Cv(i:Int):kI (.inl i)=.int i:=rfl
@[simp] theorem Cw(x:Str):kI (.inr x)=.str x:=rfl
theorem yv{H:Hp}{d:Im}{v:V}{k:Key}(h:CL H d v)(e:hV d=some k):v=kV k:=by
 cases d with
 | int i=>cases e;exact h
 | str x=>cases e;exact h
 | _=>cases e
def eE{κ:Type}[DecidableEq κ](kvs:List (κ×Im))(k:κ)(d:Im):List (κ×Im):=
 if (kvs.any fun kv=>decide (kv.1=k))=true then kvs.map (fun kv=>if kv.1=k then (kv.1,d) else kv) else kvs++[(k,d)]
variable{κ:Type}
theorem Ek.any[DecidableEq κ]{H:Hp}{k:κ}{l:List (κ×Im)}{m:List (κ×V)}(h:Ek H l m):(l.any fun kv=>decide (kv.1=k))=(m.any fun kv=>decide (kv.1=k)):=by
 unfold Ek at h;induction h with
 | nil=>rfl
 | cons r _ ih=>rw[any_cons,any_cons,ih,r.1]
theorem Ek.upd[DecidableEq κ]{H:Hp}{k:κ}{d:Im}{v:V}(w:CL H d v){l:List (κ×Im)}{m:List (κ×V)}(h:Ek H l m):Ek H (l.map fun kv=>if kv.1=k then (kv.1,d) else kv) (m.map fun kv=>if kv.1=k then (kv.1,v) else kv):=by
 unfold Ek at h;induction h with
 | nil=>exact .nil
 | @cons p q _ _ r _ ih=>
  rw[map_cons,map_cons];refine .cons ?_ ih;by_cases e:p.1=k
  ·have e':q.1=k:=r.1.symm.trans e;rw[if_pos e,if_pos e'];exact⟨r.1,w⟩
  ·have e':¬ q.1=k:=fun z=>e (r.1.trans z);rw[if_neg e,if_neg e'];exact r
theorem yw{α β:Type}{F:α->β->Prop}{l:List α}{m:List β}{a:α}{b:β}(h:Paired F l m)(x:F a b):Paired F (l++[a]) (m++[b]):=by
 induction h with
 | nil=>exact .cons x .nil
 | cons r _ ih=>exact .cons r ih
theorem Ek.put[DecidableEq κ]{H:Hp}{k:κ}{d:Im}{v:V}(w:CL H d v){l:List (κ×Im)}{m:List (κ×V)}(h:Ek H l m):Ek H (eE l k d) (cj m k v):=by
 unfold eE cj;rw[h.any];split
 ·exact h.upd w
 ·exact yw h ⟨rfl,w⟩
@[simp] def eDict0T:M Vl:=fun D=>some (.dT [],D)
theorem lR{pos:Pos}:VE X (.Dict [] [] pos) eDict0T:=by
 refine aR wB fun σ H Q ⟨D,F,r,D',st,nd,Er,q⟩ p hp=>?_;cases Er;have s:aB H (L2.upd H p<|.dT []):=(aB.refl H).upd hp;have s1:m_ H F H (F++[]):=by rw[append_nil];exact m_.perm nd (List.Perm.refl _)
 exact q _ _ F [p] (st.mono s.tupS fun a _ o e=>s a o e) ⟨p,[],rfl,aW,.nil,rfl⟩ (s1.new s (pairwise_singleton _ _) (fun a ha=>by rw[mem_singleton.mp ha];exact hp) st.chg)
@[simp] def Cy(gk gv:M Vl):M Vl:=fun D=>(gk D).bind fun p=>(gv p.2).bind fun q=>match p.1,q.1 with
 | .im k,.im d=>(hV k).map fun k'=>(.dK [(k',d)],q.2)
 | _,_=>none
@[simp] def putA(c k d:Vl):Option Vl:=match c,k,d with
 | .lst xs,.im<|.int i,.im d=>(GF xs.length i).map fun j=>.lst (xs.set j d)
 | .dK kvs,.im k,.im d=>(hV k).bind fun k'=>if kvs.length<100000 then some (.dK<|eE kvs k' d) else none
 | .dT kvs,.im<|.tup k,.im d=>if Im.keys 7 k=true/\kvs.length<100000 then some (.dT<|eE kvs k d) else none
 | _,_,_=>none
theorem jG(hu:X.A.units+20<cLine):jy X putA:=by
 intro pins s σ H o i v ov iv u Q I ro ri rv ⟨c,k,d,c',R,S,wc,wk,wd,nd,e,q⟩;unfold putA at e;split at e
 ·exact pU pins s σ H o i v ov iv u Q I ro ri rv ⟨_,_,_,c',R,S,wc,wk,wd,nd,e,q⟩
 ·obtain⟨k',e1,e2⟩:=bind_eq_some_iff.mp e;split at e2
  ·rename_i hl;cases e2;obtain⟨a,ys,rfl,h1,h2,rfl⟩:=wc;obtain⟨hd,rfl⟩:=wd;have c:ER H a:=⟨_,h1,(fun _ e=>by cases e),(fun _ _ e=>by cases e)⟩;cases ro;have hy:=yv wk.1 e1;subst hy;refine oq hu I (eV.k h1 (by rw[<- h2.length];exact lL hl)) ri rv fun s' I'=>⟨_,I',q _ [a] ?_ (m_.chg (.head _) c (pairwise_singleton _ _) fun x hx=>by simpa using hx)⟩;exact⟨a,_,rfl,aW,(Ek.put hd h2).mono<|CL.FA c,rfl⟩
  ·cases e2
 ·split at e
  ·rename_i hl;cases e;obtain⟨a,ys,rfl,h1,h2,rfl⟩:=wc;obtain⟨hd,rfl⟩:=wd;have c:ER H a:=⟨_,h1,(fun _ e=>by cases e),(fun _ _ e=>by cases e)⟩;cases ro;obtain⟨b,xs,rfl,k1,k2⟩:=wk.1;refine oq hu I (eV.t h1 ⟨hl.1,b,xs,rfl,k1,k2⟩ (by rw[<- h2.length];exact lL hl.2)) ri rv fun s' I'=>⟨_,I',q _ [a] ?_ (m_.chg (.head _) c (pairwise_singleton _ _) fun x hx=>by simpa using hx)⟩;exact⟨a,_,rfl,aW,(Ek.put hd h2).mono<|CL.FA c,rfl⟩
  ·cases e
 ·cases e
end
section
variable{X:Cx}
def qo:Opd->Vl->Option (Nat×Vl)
 | .sl i,d=>some (i,d)
 | .vl _,_=>none
@[simp] theorem Cz(i:Nat)(d:Vl):qo (.sl i) d=some (i,d):=rfl
@[simp] theorem CA(c d:Vl):qo (.vl c) d=none:=rfl
end
section
variable{prog:Program}{w:World}{A:Around}{E:Value->Shared->Prop}{s:Shared}
end
section
variable{X:Cx}
end
section
variable{X:Cx}
end
section
variable{prog:Program}{w:World}{A:Around}{E:Value->Shared->Prop}{s:Shared}
end
section
variable{prog:Program}{w:World}{A:Around}{E:Value->Shared->Prop}{s:Shared}
end
section
variable{X:Cx}
end
section
variable{X:Cx}
end
section
variable{X:Cx}
end
section
variable{X:Cx}
theorem yx{i0:Nat}{x0:Str}{pos' Gn:Pos}{tg iter elt:Expr}{ifs:List Expr}{scope:Scope}{pos:Pos}{own:List Str}{caps:List Nat}{wi:TI}{g:F_->TG}{tt:F_->TT}{te:F_->TE}(hN:X.N.Nodup)(Mm:X.N[i0]?=some x0)(Mn:Loc X.env.scope x0)(hc:X.calm=true)(S:q_ X scope own caps)(hi:PI X tg iter wi)(hg:∀ Y,PG (X.EB (bx X own caps) scope Y) tg<|g Y)(ht:∀ Y,JJ (X.EB (bx X own caps) scope Y) ifs<|tt Y)(he:∀ Y,PE (X.EB (bx X own caps) scope Y) elt<|te Y)(hs:∀ x,foldedSetIterable iter X.env x=pure x:=by intro _;rfl)(Mo:swapsWith (.ListComp elt [⟨tg,iter,ifs,0⟩] scope pos) (some<|.Name x0 pos') Gn.line X.env=pure true:=by rfl)(J9:X.fn x0=true\/X.env.scope.names.lookup x0=some .local:=by first | exact .inl rfl | exact .inr rfl | assumption):
  PS X (.Assign [.Name x0 pos'] (.ListComp elt [⟨tg,iter,ifs,0⟩] scope pos) Gn) (kC (jd own caps wi g tt te)<|kA i0):=by
 intro pins s σ H Dn I h;rw[exec_Assign_Name_used _ _ _ _ Mo];refine wpAny_bind (wpAny_standAt<|wpAny_bind ?_);show wpAny _ X.A (do let _ <- comprehension (.ListComp elt [⟨tg,iter,ifs,0⟩] scope pos) scope X.env _ (newList []) false (eval iter X.env) (some<|assign (.Name x0 pos') X.env)) _ _ s;refine wpAny_bind (wpAny_mono (oF (use:=some (assign (.Name x0 pos') X.env)) (Qp:=fun _ s'=>SP X pins Dn .next s') hc S hi hg ht he hs I h fun D C H4 s4 m I4 hn f KW KY z p q=>?_) (fun _ s' hq=>wpAny_pure<|wpAny_pure hq) fun _ _ e=>e);show wpAny _ X.A (assign (.Name x0 pos') X.env<|.ref D) _ _ s4;refine wpAny_assign_Name (nt I4 hN Mm Mn (v:=.ref D) rfl (fun s5 I5 h5=>?_) J9);obtain⟨a,Pj,ha⟩:=h5;have Pk:C≠a:=by
  rcases ha with rfl | ha
  ·exact Ne.symm KW
  ·exact Ne.symm (KY _ _ ha)
 exact⟨m,hn.sameBut Pj Pk,fun h' sb=>⟨_,_,I5.turned (it:=C) (t':=s5.toks) (fun b o hb e=>(sb.2 b hb).trans e) f (Ne.symm KW) (.inr z) KY p,q⟩⟩
end
section
variable{X:Cx}
theorem qp{fix:List Nat}{i:Nat}{x0:Str}{pos' Gn:Pos}{tg iter elt:Expr}{ifs:List Expr}{scope:Scope}{pos:Pos}{own:List Str}{caps:List Nat}{gi:MI}{gt:MG}{gc:M Bool}{ge:M Vl}(hN:X.N.Nodup)(Mm:X.N[i]?=some x0)(Mn:Loc X.env.scope x0)(hc:X.calm=true)(S:q_ X scope own caps)(nd:caps.Nodup)(hi:VI X tg iter gi)(hg:∀ Y,VG (X.EB (bx X own caps) scope Y) (gU own.length caps.length) tg gt)(ht:∀ Y,K9 (X.EB (bx X own caps) scope Y) ifs gc)(he:∀ Y,VE (X.EB (bx X own caps) scope Y) elt ge)(hf:i∉fix)(hs:∀ x,foldedSetIterable iter X.env x=pure x:=by intro _;rfl)(Mo:swapsWith (.ListComp elt [⟨tg,iter,ifs,0⟩] scope pos) (some<|.Name x0 pos') Gn.line X.env=pure true:=by rfl)(J9:X.fn x0=true\/X.env.scope.names.lookup x0=some .local:=by first | exact .inl rfl | exact .inr rfl | assumption):
  VS X fix (.Assign [.Name x0 pos'] (.ListComp elt [⟨tg,iter,ifs,0⟩] scope pos) Gn) (aA i<|bv own.length caps gi gt gc ge):=by
 refine dH (yx hN Mm Mn hc S hi hg ht he hs Mo J9) fun E σ H ⟨D,F,fl,D',st,Gi,Er,q⟩=>?_;obtain⟨⟨r,D1⟩,h1,h2⟩:=bind_eq_some_iff.mp Er;split at h2
 ·rename_i hl;cases h2;refine pG nd ⟨D,F,r,_,st,Gi,h1,fun v H1 F1 R r_ ow s1=>?_⟩;obtain⟨F2,R2,o_,pm⟩:=r_.put (i:=i) ow hl;exact q _ H1 F2 (aF.set hf) o_ (s1.less pm)
 ·cases h2
end
section
variable{X:Cx}
def lS:Vl->Vl
 | .lst x=>.im (.fl x)
 | .dT []=>.im .fd
 | d=>d
@[simp] theorem CB(x:List Im):lS (.lst x)=.im (.fl x):=rfl
@[simp] theorem CC(d:Im):lS (.im d)=.im d:=rfl
@[simp] def eFz(g:M Vl):M Vl:=fun D=>(g D).map fun p=>(lS p.1,p.2)
theorem yy{H:Hp}{a:Addr}{u:HO}{ob:Obj}(k1:H a=some u)(n1:∀ xs,u≠.tup xs)(n2:∀ p v,u≠.Da p v):y_ H (upd H a<|.Da ob u):=y_.of (fun b xs e=>by
  have:b≠a:=fun z=>by subst z;rw[k1] at e;cases e;exact n1 _ rfl
  rw[aw this];exact e) fun b o u e=>by
  have:b≠a:=fun z=>by subst z;rw[k1] at e;cases e;exact n2 _ _ rfl
  rw[aw this];exact e
variable{e:Expr}
theorem jH{g:M Vl}(h:VE X e g):VE X e (eFz g):=by
 intro pins s σ H Q I ⟨D,F,r,D',st,nd,hg,q⟩;obtain⟨⟨r0,D1⟩,h1,h2⟩:=map_eq_some_iff.mp hg;cases h2;refine u_ (@h pins s σ H (fun v H1=>∃ F1 R,ai H1 D1 σ F1/\Own H1 r0 v R/\m_ H F H1 (F1++R)) I ⟨D,F,r0,D1,st,nd,h1,fun v H1 F1 R a b c=>⟨F1,R,a,b,c⟩⟩) fun u s1 ⟨v,H1,I1,rv,F1,R,r_,ow,s2⟩=>?_;have fin:∀ {a:Addr}{ob:Obj}{u:HO}{d:Im},H1 a=some u->(∀ xs,u≠.tup xs)->(∀ p w,u≠.Da p w)->R=[a]->Inv X pins σ (upd H1 a<|.Da ob u) s1->(y_ H1 (upd H1 a<|.Da ob u)->CL (upd H1 a<|.Da ob u) d (.ref a))->(∀ v H' F' R',ai H' D1 σ F'->Own H' (.im d) v R'->m_ H F H' (F'++R')->Q v H')->EP X pins σ Q (.ref a) s1:=by
  intro a ob u d k1 n1 n2 eR I2 hd q;subst eR;have EU:=nodup_append.mp s2.nd;have Lb:a∉F1:=fun z=>EU.2.2 a z a (.head _) rfl;have Dc:=yy (ob:=ob) k1 n1 n2;refine⟨.ref a,_,I2,rfl,q _ _ F1 [] (r_.mono Dc fun b hb o e=>by
    have ne:b≠a:=fun z=>by subst z;exact Lb hb
    rw[aw ne];exact e) ⟨hd Dc,rfl⟩ ?_⟩
  rw[append_nil];refine⟨fun b o e hb=>?_,fun b hb=>s2.sub b<|mem_append_left _ hb,EU.1,s2.tup.trans Dc,fun b o e=>?_⟩
  ·have:b≠a:=fun z=>by
    subst z;rcases s2.sub b (mem_append_right _<|.head _) with h | h
    ·exact hb h
    ·rw[e] at h;cases h
   rw[aw this];exact s2.keep b o e hb
  ·by_cases z:b=a
   ·exact⟨_,by rw[z];exact aW⟩
   ·obtain⟨o',e'⟩:=s2.grow b o e;exact⟨o',by rw[aw z];exact e'⟩
 cases r0 with
 | lst x=>
  obtain⟨a,xs,rfl,k1,k2,eR⟩:=ow;cases rv;obtain⟨z,f_,n,rel,f1⟩:=I1.l_ a _ k1;exact fin (d:=.fl x) k1 (fun _ e=>by cases e) (fun _ _ e=>by cases e) eR (I1.write (h':=s1.heap) (t':=s1.toks) (e:=a) (by rw[k1];trivial) (.inl rfl) (fun b u _ e=>e) ⟨_,f1⟩ ⟨f1,z,f_,n,rel,f1⟩) (fun Dc=>⟨a,xs,_,rfl,aW,k2.mono Dc.tup⟩) q
 | dT kvs=>
  cases kvs with
  | nil=>
   obtain⟨a,Dh,rfl,k1,k2,eR⟩:=ow;cases k2;cases rv;obtain⟨z,lo,xs,rel,o,es,ep,f1,f2,f3,f4,f5⟩:=I1.l_ a _ k1;cases rel;exact fin (d:=.fd) k1 (fun _ e=>by cases e) (fun _ _ e=>by cases e) eR (I1.write (h':=s1.heap) (t':=s1.toks) (e:=a) (by rw[k1];trivial) (.inl rfl) (fun b u _ e=>e) ⟨_,f1⟩ ⟨f1,z,lo,[],.nil,o,es,ep,f1,f2,f3,f4,f5⟩) (fun _=>⟨a,_,rfl,aW⟩) q
  | cons k r=>exact⟨v,H1,I1,rv,q v H1 F1 R r_ ow s2⟩
 | _=>exact⟨v,H1,I1,rv,q v H1 F1 R r_ ow s2⟩
variable{k:Nat}{f:Addr}{fd:FuncData}{ps:List Str}{x:Str}{p pos:Pos}{es:List Expr}
theorem yz{CX:FX}{sp:Sp}{E:XK}{tv:TE}{t:TA}{ds:List Value}{FY:List V}(F:Dw X.prog X.w X.K X.mg X.base CX k f fd ps sp)(hr:CM k X.A)(hv:PE X (.Name x p) tv)(hk:PySem.W.keepIn X.K (.ref f)=true)(hb:cP X.K fd ps ds)(hd:ak FY ds)(hx:i7 CX X E)(ha:PA X (e::es) t)(he:starEach (e::es) X.env=(false,eval e X.env)::starEach es X.env:=by rfl)(Eh:(backTo pos<|starEach es X.env).any (·.1)=false:=by rfl):
  PE X (.Call (.Name x p) (e::es) [] pos) (fun σ H Q=>tv σ H fun v H1=>v=.ref f/\kK sp FY E t σ H1 Q):=by
 intro pins s σ H Q I h;refine wpAny_Call_Name_kw (u_ (hv pins s σ H _ I h) fun v s1 ⟨y,H1,I1,r1,e1,q1⟩=>?_);subst e1;cases r1;refine PySem.W.callWith_K (h₀:=X.base) I1.ok.mod.KI hk (u_ (ha pos pins s1 σ H1 _ I1 q1) fun us s2 ⟨vs,H2,I2,r,q⟩=>⟨I2.HQ,?_⟩) he Eh;exact nO F hr hb hd hx I2 r q
@[simp] def jI(i:Nat)(f:Addr)(n:Nat)(G:Fn)(g:M (List Opd)):M Vl:=fun D=>match D[i]? with
 | some (some<|.im<|.fn a)=>if a=f then au n G g D else none
 | _=>none
theorem yA{i n:Nat}{G:Fn}{g:M (List Opd)}(F:Dw X.prog X.w X.K X.mg X.base Fi k f fd ps (Gf n G))(hr:CM k X.A)(hv:PE X (.Name x p) (dE i))(hk:PySem.W.keepIn X.K (.ref f)=true)(hb:cP X.K fd ps [])(ha:VA X (e::es) g)(he:starEach (e::es) X.env=(false,eval e X.env)::starEach es X.env:=by rfl)(Eh:(backTo pos<|starEach es X.env).any (·.1)=false:=by rfl):
  VE X (.Call (.Name x p) (e::es) [] pos) (jI i f n G g):=by
 refine aR (yz F hr hv hk hb .nil oz ha he Eh) fun σ H Q ⟨D,F0,r,D',st,nd,hg,q⟩=>?_;unfold jI at hg;split at hg
 ·rename_i a hd;split at hg
  ·rename_i ha;subst ha;obtain⟨v,F1,F2,h1,h2,h3,h4⟩:=st.out hd;exact⟨v,h1,h2.1,pi ⟨D,F0,r,D',st,nd,hg,q⟩⟩
  ·cases hg
 ·cases hg
end
end L2
namespace HT
open PySem PySem.Spec PyProof.Rows
section
variable{prog:Program}{w:World}{A:Around}{E:Value->Shared->Prop}{s:Shared}
theorem qq{α β:Type}{f g:α->Option β}:∀ (l:List α),(∀ x∈l,f x=g x)->l.filterMap f=l.filterMap g
 | [],_=>rfl
 | x::r,h=>by rw[filterMap_cons,filterMap_cons,h x<|.head _,qq r fun y hy=>h y<|.tail _ hy]
end
end HT
namespace L2
open PySem PySem.Spec PyProof.Rows
section
variable{X:Cx}
end
variable{gc gb ga:M Opd}{f' f:Op2}{Q:Value->Shared->Prop}{b:Bool}{d2:Vl}{u v:Value}{y x:V}{s:Shared}{H:Hp}{σ:St}{pins:List (Addr×Obj)}{d:Im}
theorem qr{h:Heap}:∀ (n:Nat) {x y:Im}{v:Value},Im.pl n x=true->Im.pl n y=true->Dq h x v->Dq h y v->x=y
 | n,.j_,y,v,_,ky,hx,hy=>by
  cases (show v=.none from hx);cases y with
  | j_=>rfl
  | bl b=>cases hy
  | int j=>obtain⟨u,e⟩:=hy;cases e
  | str z=>obtain⟨u,e⟩:=hy;cases e
  | tup ds=>obtain⟨_,_,_,_,e,_⟩:=hy;cases e
  | fn a=>cases n<;>cases ky
  | fl a=>cases n<;>cases ky
  | fd=>cases n<;>cases ky
 | n,.bl b,y,v,_,ky,hx,hy=>by
  cases (show v=.bool b from hx);cases y with
  | j_=>cases hy
  | bl c=>cases hy;rfl
  | int j=>obtain⟨u,e⟩:=hy;cases e
  | str z=>obtain⟨u,e⟩:=hy;cases e
  | tup ds=>obtain⟨_,_,_,_,e,_⟩:=hy;cases e
  | fn a=>cases n<;>cases ky
  | fl a=>cases n<;>cases ky
  | fd=>cases n<;>cases ky
 | n,.int i,y,v,_,ky,hx,hy=>by
  obtain⟨t,rfl⟩:=hx;cases y with
  | j_=>cases hy
  | bl c=>cases hy
  | int j=>obtain⟨u,e⟩:=hy;injection e with e;rw[e]
  | str z=>obtain⟨u,e⟩:=hy;cases e
  | tup ds=>obtain⟨_,_,_,_,e,_⟩:=hy;cases e
  | fn a=>cases n<;>cases ky
  | fl a=>cases n<;>cases ky
  | fd=>cases n<;>cases ky
 | n,.str i,y,v,_,ky,hx,hy=>by
  obtain⟨t,rfl⟩:=hx;cases y with
  | j_=>cases hy
  | bl c=>cases hy
  | int j=>obtain⟨u,e⟩:=hy;cases e
  | str z=>obtain⟨u,e⟩:=hy;injection e with e;rw[e]
  | tup ds=>obtain⟨_,_,_,_,e,_⟩:=hy;cases e
  | fn a=>cases n<;>cases ky
  | fl a=>cases n<;>cases ky
  | fd=>cases n<;>cases ky
 | n+1,.tup ds,y,v,kx,ky,hx,hy=>by
  obtain⟨a,o,items,m,rfl,h1,h2,h3,h4⟩:=hx;cases y with
  | j_=>cases hy
  | bl c=>cases hy
  | int j=>obtain⟨u,e⟩:=hy;cases e
  | str z=>obtain⟨u,e⟩:=hy;cases e
  | fn a=>cases ky
  | fl a=>cases ky
  | fd=>cases ky
  | tup es=>
   obtain⟨a',o',w_,m',e,g1,g2,g3,g4⟩:=hy;cases e;rw[h1] at g1;cases g1;rw[h3] at g3;injection g3 with g3 _;subst g3;have all:∀ (ds es:List Im) (vs:List Value),Im.pls n ds=true->Im.pls n es=true->aG h ds vs->aG h es vs->ds=es:=by
    intro ds;induction ds with
    | nil=>
     intro es vs _ _ a b;cases es with
     | nil=>rfl
     | cons e es=>obtain⟨_,_,q,_⟩:=b;rw[show vs=[] from a] at q;cases q
    | cons d ds ih=>
     intro es vs k1 k2 a b;obtain⟨v,r,rfl,a1,a2⟩:=a;cases es with
     | nil=>cases (show v::r=[] from b)
     | cons e es=>
      obtain⟨v',r',q,b1,b2⟩:=b;cases q;rw[Im.pls,and_eq_true] at k1 k2;rw[qr n k1.1 k2.1 a1 b1,ih es r k1.2 k2.2 a2 b2]
   rw[all ds es _ kx ky h4 g4]
 | 0,.tup _,_,_,k,_,_,_=>by cases k
 | n,.fn _,_,_,k,_,_,_=>by cases n<;>cases k
 | n,.fl _,_,_,k,_,_,_=>by cases n<;>cases k
 | n,.fd,_,_,k,_,_,_=>by cases n<;>cases k
open Classical in
noncomputable def fy(h:Heap)(d:Im)(v:Value):Bool:=if z:∃ x,Im.pl 8 x=true/\Dq h x v then av z.choose d else false
theorem hX{h:Heap}{x:Im}(k:Im.pl 8 x=true)(i:Dq h x v):fy h d v=av x d:=by
 unfold fy;have z:∃ x,Im.pl 8 x=true/\Dq h x v:=⟨x,k,i⟩;rw[dif_pos z,qr 8 z.choose_spec.1 k z.choose_spec.2 i]
theorem ic{h:Heap}{d:Im}:∀ {ds:List Im}{vs:List Value},Im.pls 8 ds=true->aG h ds vs->vs.any (fy h d)=ds.any fun x=>av x d
 | [],vs,_,e=>by rw[show vs=[] from e];rfl
 | x::ds,vs,k,e=>by
  obtain⟨v,r,rfl,h1,h2⟩:=e;rw[Im.pls,and_eq_true] at k;rw[any_cons,any_cons,hX k.1 h1,ic k.2 h2]
theorem ie{h:Heap}:∀ {ds:List Im}{vs:List Value}{v:Value},Im.pls 8 ds=true->aG h ds vs->v∈vs->∃ x,Im.pl 8 x=true/\Dq h x v
 | [],vs,v,_,e,m=>by rw[show vs=[] from e] at m;cases m
 | x::ds,vs,v,k,e,m=>by
  obtain⟨u,r,rfl,h1,h2⟩:=e;rw[Im.pls,and_eq_true] at k;rcases mem_cons.mp m with rfl | m
  ·exact⟨x,k.1,h1⟩
  ·exact ie k.2 h2 m
section
variable{X:Cx}
def inB(d:Im):Vl->Option Bool
 | .im (.tup ds)=>if (Im.pl 8 d && Im.pls 8 ds)=true then some (ds.any fun x=>av x d) else none
 | .lst ds=>if (Im.pl 8 d && Im.pls 8 ds)=true then some (ds.any fun x=>av x d) else none
 | .dT kvs=>match d with
  | .tup k=>if Im.keys 7 k=true then some (bo kvs k).isSome else none
  | _=>none
 | .dK kvs=>match d with
  | .int i=>some (bo kvs<|.inl i).isSome
  | .str x=>some (bo kvs<|.inr x).isSome
  | _=>none
 | _=>none
@[simp] theorem CD(d:Im)(ds:List Im):inB d (.im<|.tup ds)=if (Im.pl 8 d && Im.pls 8 ds)=true then some (ds.any fun x=>av x d) else none:=rfl
@[simp] theorem yB(d:Im)(ds:List Im):inB d (.lst ds)=if (Im.pl 8 d && Im.pls 8 ds)=true then some (ds.any fun x=>av x d) else none:=rfl
@[simp] theorem CF(k:List Im)(kvs:List (List Im×Im)):inB (.tup k) (.dT kvs)=if Im.keys 7 k=true then some (bo kvs k).isSome else none:=rfl
@[simp] def vIn:Op2:=fun a b=>match a with
 | .im d=>(inB d b).map fun r=>.im (.bl r)
 | _=>none
@[simp] def vNotIn:Op2:=fun a b=>match a with
 | .im d=>(inB d b).map fun r=>.im (.bl<|!r)
 | _=>none
theorem gg{κ:Type}[DecidableEq κ]{H:Hp}{k:κ}{kvs:List (κ×Im)}{Dh:List (κ×V)}(h:Ek H kvs Dh):(bZ Dh k).isSome=(bo kvs k).isSome:=by
 cases e:bo kvs k with
 | none=>rw[(fY h).2 e];rfl
 | some d=>obtain⟨v,h1,_⟩:=(fY h).1 d e;rw[h1];rfl
theorem yC(hu:X.A.units+20<cLine)(I:Inv X pins σ H s)(rx:aq x v)(ry:aq y u)(i1:CL H d x)(r2:DS H d2 y)(e:inB d d2=some b)(q:∀ s',Inv X pins σ H s'->Q (.bool b) s'):wpAny (model X.prog X.w) X.A (compareOp .In v u) Q X.xe s:=by
 unfold inB at e;split at e
 ·rename_i ds;split at e
  ·rename_i hp;cases e;rw[and_eq_true] at hp;obtain⟨a,xs,rfl,h1,h2⟩:=r2.i;cases ry;obtain⟨f_,rv,p,_⟩:=I.tuple (A_.of h1);have iv:=h2.Ei I.l_ rv;refine SeqAt.in_tupleAt (fy s.heap d) (show s.heap.IsTuple a f_.toArray from p) (fun w hw=>?_) ?_
   ·obtain⟨z,z1,z2⟩:=ie hp.2 iv (by simpa using hw);rw[hX z1 z2];exact cN 8 z1 hp.1 (by show X.A.units+1+8+1<cLine;lia) z2 (i1.Ei I.l_ rx)
   ·rw[any_toArray,ic hp.2 iv];exact q s I
  ·cases e
 ·rename_i ds;split at e
  ·rename_i hp;cases e;rw[and_eq_true] at hp;obtain⟨_,a,xs,rfl,h1,h2,_⟩:=r2;cases ry;obtain⟨f_,p,iv,_⟩:=fX I h1 h2;refine SeqAt.in_listAt (fy s.heap d) p (fun w hw=>?_) ?_
   ·obtain⟨z,z1,z2⟩:=ie hp.2 iv (by simpa using hw);rw[hX z1 z2];exact cN 8 z1 hp.1 (by show X.A.units+1+8+1<cLine;lia) z2 (i1.Ei I.l_ rx)
   ·rw[any_toArray,ic hp.2 iv];exact q s I
  ·cases e
 ·rename_i kvs;split at e
  ·rename_i k;split at e
   ·rename_i hk;cases e;obtain⟨_,a,Dh,rfl,h1,h2,_⟩:=r2;cases ry;obtain⟨b,ys,rfl,g1,g2⟩:=i1;rw[<- gg h2] at q;exact kN hu I (bE.t h1 ⟨hk,b,ys,rfl,g1,g2⟩) rx q
   ·cases e
  ·cases e
 ·rename_i kvs;split at e
  ·rename_i i;cases e;obtain⟨_,a,Dh,rfl,h1,h2,_⟩:=r2;cases ry;rw[<- gg h2] at q;cases (show x=kV (.inl i) from i1);exact kN hu I (bE.k h1) rx q
  ·rename_i i;cases e;obtain⟨_,a,Dh,rfl,h1,h2,_⟩:=r2;cases ry;rw[<- gg h2] at q;cases (show x=kV (.inr i) from i1);exact kN hu I (bE.k h1) rx q
  ·cases e
 ·cases e
theorem lT(hu:X.A.units+20<cLine):DT X (compareOp .In) vIn:=by
 intro pins s σ H x y v u Q I rx ry ⟨d1,d2,d,r1,r2,e,q⟩;unfold vIn at e;split at e
 ·obtain⟨b,e1,e2⟩:=map_eq_some_iff.mp e;cases e2;exact yC hu I rx ry r1.i r2 e1 fun s' I'=>⟨.bl b,H,I',rfl,Out.i q rfl⟩
 ·cases e
theorem yD(hu:X.A.units+20<cLine)(I:Inv X pins σ H s)(rx:aq x v)(ry:aq y u)(i1:CL H d x)(r2:DS H d2 y)(e:inB d d2=some b)(q:∀ s',Inv X pins σ H s'->Q (.bool<|!b) s'):wpAny (model X.prog X.w) X.A (compareOp .NotIn v u) Q X.xe s:=by
 unfold inB at e;split at e
 ·rename_i ds;split at e
  ·rename_i hp;cases e;rw[and_eq_true] at hp;obtain⟨a,xs,rfl,h1,h2⟩:=r2.i;cases ry;obtain⟨f_,rv,p,_⟩:=I.tuple (A_.of h1);have iv:=h2.Ei I.l_ rv;refine SeqAt.notIn_tupleAt (fy s.heap d) (show s.heap.IsTuple a f_.toArray from p) (fun w hw=>?_) ?_
   ·obtain⟨z,z1,z2⟩:=ie hp.2 iv (by simpa using hw);rw[hX z1 z2];exact cN 8 z1 hp.1 (by show X.A.units+1+8+1<cLine;lia) z2 (i1.Ei I.l_ rx)
   ·rw[any_toArray,ic hp.2 iv];exact q s I
  ·cases e
 ·rename_i ds;split at e
  ·rename_i hp;cases e;rw[and_eq_true] at hp;obtain⟨_,a,xs,rfl,h1,h2,_⟩:=r2;cases ry;obtain⟨f_,p,iv,_⟩:=fX I h1 h2;refine SeqAt.notIn_listAt (fy s.heap d) p (fun w hw=>?_) ?_
   ·obtain⟨z,z1,z2⟩:=ie hp.2 iv (by simpa using hw);rw[hX z1 z2];exact cN 8 z1 hp.1 (by show X.A.units+1+8+1<cLine;lia) z2 (i1.Ei I.l_ rx)
   ·rw[any_toArray,ic hp.2 iv];exact q s I
  ·cases e
 ·rename_i kvs;split at e
  ·rename_i k;split at e
   ·rename_i hk;cases e;obtain⟨_,a,Dh,rfl,h1,h2,_⟩:=r2;cases ry;obtain⟨b,ys,rfl,g1,g2⟩:=i1;rw[<- gg h2] at q;exact kO hu I (bE.t h1 ⟨hk,b,ys,rfl,g1,g2⟩) rx q
   ·cases e
  ·cases e
 ·rename_i kvs;split at e
  ·rename_i i;cases e;obtain⟨_,a,Dh,rfl,h1,h2,_⟩:=r2;cases ry;rw[<- gg h2] at q;cases (show x=kV (.inl i) from i1);exact kO hu I (bE.k h1) rx q
  ·rename_i i;cases e;obtain⟨_,a,Dh,rfl,h1,h2,_⟩:=r2;cases ry;rw[<- gg h2] at q;cases (show x=kV (.inr i) from i1);exact kO hu I (bE.k h1) rx q
  ·cases e
 ·cases e
theorem qt(hu:X.A.units+20<cLine):DT X (compareOp .NotIn) vNotIn:=by
 intro pins s σ H x y v u Q I rx ry ⟨d1,d2,d,r1,r2,e,q⟩;unfold vNotIn at e;split at e
 ·obtain⟨b,e1,e2⟩:=map_eq_some_iff.mp e;cases e2;exact yD hu I rx ry r1.i r2 e1 fun s' I'=>⟨.bl<|!b,H,I',rfl,Out.i q rfl⟩
 ·cases e
@[simp] def eF(f f':Op2)(ga gb gc:M Opd):M Vl:=fun D=>(ga D).bind fun p=>(gb p.2).bind fun q=>(rsl q.2 p.1).bind fun d1=>(rsl q.2 q.1).bind fun d2=>(f d1 d2).bind fun d=>(asB d).bind fun k=>
 if k=true then (gc q.2).bind fun r=>(rsl r.2 q.1).bind fun Iz=>(rsl r.2 r.1).bind fun d3=>(f' Iz d3).bind fun z=>(asB z).map fun b=>(.im<|.bl b,r.2) else some (.im<|.bl false,q.2)
theorem yE{Q:VK}(h:tV (eF f f' ga gb gc) σ H Q):
  nK (fun x y H Q=>∃ d1 d2 d,DS H d1 x/\DS H d2 y/\f d1 d2=some d/\Out H d Q) (fun x y H Q=>∃ d1 d2 d,DS H d1 x/\DS H d2 y/\f' d1 d2=some d/\Out H d Q) (tO ga) (tO gb) (tO gc) σ H Q:=by
 obtain⟨D,F,r,D',st,nd,hg,q⟩:=h;obtain⟨⟨o1,D1⟩,h1,hg⟩:=bind_eq_some_iff.mp hg;obtain⟨⟨o2,D2⟩,h2,hg⟩:=bind_eq_some_iff.mp hg;obtain⟨d1,h3,hg⟩:=bind_eq_some_iff.mp hg;obtain⟨d2,h4,hg⟩:=bind_eq_some_iff.mp hg;obtain⟨d,h5,hg⟩:=bind_eq_some_iff.mp hg;obtain⟨k,h6,hK⟩:=bind_eq_some_iff.mp hg;have hd:=jg h6;subst hd;refine⟨D,F,o1,D1,st,nd,h1,fun x H1 F1 R1 r_ w1 s1=>⟨D1,F1,o2,D2,r_,(nodup_append.mp s1.nd).1,h2,fun y H2 F2 R2 o_ w2 s2=>?_⟩⟩;have Pl:b7 H2 σ o1 x R1:=w1.mono s2.tup fun a ha o e=>s2.keep a o e fun h=>(nodup_append.mp s1.nd).2.2 a h a ha rfl;refine⟨d1,d2,_,Pl.read o_ h3,w2.read o_ h4,h5,fun v H3 R3 sm ow Jb fr=>?_⟩;obtain⟨rfl,rfl⟩:=(show v=.bl k/\R3=[] from ow);refine⟨k,rfl,?_⟩;have IA:=s1.trans s2 w1.chg;rw[List.append_assoc] at IA;have sA:=IA.new sm nodup_nil (fun a ha=>nomatch ha) o_.chg;have Dy:ai H3 D2 σ F2:=o_.mono sm.tupS fun a _ o e=>sm a o e;cases k with
 | false=>
  rw[if_neg Bool.false_ne_true] at hK ⊢;cases hK;exact q _ H3 F2 [] Dy ⟨rfl,rfl⟩ sA
 | true=>
  rw[if_pos rfl] at hK ⊢;obtain⟨⟨o3,D3⟩,g1,k1⟩:=bind_eq_some_iff.mp hK;obtain⟨Iz,g2,k2⟩:=bind_eq_some_iff.mp k1;obtain⟨d3,g3,k3⟩:=bind_eq_some_iff.mp k2;obtain⟨z,g4,k4⟩:=bind_eq_some_iff.mp k3;obtain⟨b,g5,k5⟩:=map_eq_some_iff.mp k4;cases k5;have hz:=jg g5;subst hz;rw[append_nil] at sA;refine⟨D2,F2,o3,D3,Dy,sA.nd,g1,fun w H4 F3 R4 DJ w3 s4=>?_⟩;have EU:=nodup_append.mp s2.nd;have Md:b7 H4 σ o2 y R2:=(w2.mono sm.tupS fun a _ o e=>sm a o e).mono s4.tup fun a ha o e=>s4.keep a o e fun h=>EU.2.2 a h a ha rfl;refine⟨Iz,d3,_,Md.read DJ g2,w3.read DJ g3,g4,fun v H5 R5 Mp Pm Qr KO=>?_⟩;obtain⟨rfl,rfl⟩:=(show v=.bl b/\R5=[] from Pm);exact q _ H5 F3 [] (DJ.mono Mp.tupS fun a _ o e=>Mp a o e) ⟨rfl,rfl⟩ ((sA.seq s4).new Mp nodup_nil (fun a ha=>nomatch ha) DJ.chg)
theorem qu{op HX:CmpOp}{a b c:Expr}{pos:Pos}(ho:DT X (compareOp op) f)(FU:DT X (compareOp HX) f')(ha:VO X a ga)(hb:VO X b gb)(hc:VO X c gc)(hm:lastMarks [op,HX] [b,c]=false:=by with_unfolding_all rfl):VE X (.Compare a [op,HX] [b,c] pos) (eF f f' ga gb gc):=
 aR (vh ho FU ha hb hc hm) fun _ _ _ h=>yE h
end
mutual
def t_:Im->Im->Bool
 | .int i,.int j=>decide (i<j)
 | .tup a,.tup b=>bP a b
 | _,_=>false
def bP:List Im->List Im->Bool
 | [],[]=>false
 | [],_::_=>true
 | _::_,[]=>false
 | a::r,b::t=>if Im.beq a b=true then bP r t else t_ a b
end
mutual
def bH:Nat->Im->Im->Bool
 | _,.int _,.int _=>true
 | n+1,.tup a,.tup b=>bw n a b
 | _,_,_=>false
def bw:Nat->List Im->List Im->Bool
 | _,[],[]=>true
 | n,a::r,b::t=>bH n a b && bw n r t
 | _,_,_=>false
end
theorem lU:∀ {n:Nat}{a b:List Im},bw n a b=true->a.length=b.length
 | _,[],[],_=>rfl
 | n,a::r,b::t,h=>by
  rw[bw,and_eq_true] at h;rw[length_cons,length_cons,lU h.2]
 | _,[],_::_,h=>by cases h
 | _,_::_,[],h=>by cases h
mutual
theorem jJ:∀ {n:Nat}{a b:Im},bH n a b=true->Im.pl n a=true/\Im.pl n b=true/\av a b=Im.beq a b
 | n,.int i,.int j,_=>by
  refine⟨by cases n<;>rfl,by cases n<;>rfl,?_⟩;rw[av,Im.beq];by_cases h:i=j<;>simp[h]
 | n+1,.tup a,.tup b,h=>by
  rw[bH] at h;obtain⟨h1,h2,h3⟩:=qv h;exact⟨h1,h2,by rw[av,Im.beq];exact h3⟩
theorem qv:∀ {n:Nat}{a b:List Im},bw n a b=true->Im.pls n a=true/\Im.pls n b=true/\bj a b=Im.Ez a b
 | n,[],[],_=>⟨by cases n<;>rfl,by cases n<;>rfl,rfl⟩
 | n,a::r,b::t,h=>by
  rw[bw,and_eq_true] at h;obtain⟨h1,h2,h3⟩:=jJ h.1;obtain⟨g1,g2,g3⟩:=qv h.2;exact⟨by rw[Im.pls,h1,g1];rfl,by rw[Im.pls,h2,g2];rfl,by rw[bj,Im.Ez,h3,g3]⟩
end
theorem fA{a b:Im}(h:¬ a=b):Im.beq a b=false:=by
 cases e:Im.beq a b with
 | false=>rfl
 | true=>exact absurd ((Im.beq_iff a b).mp e) h
mutual
theorem lV:∀ a:Im,t_ a a=false
 | .int i=>by simp[t_]
 | .tup a=>by rw[t_];exact qw a
 | .j_=>rfl
 | .bl _=>rfl
 | .str _=>rfl
 | .fn _=>rfl
 | .fl _=>rfl
 | .fd=>rfl
theorem qw:∀ a:List Im,bP a a=false
 | []=>rfl
 | a::r=>by rw[bP,if_pos<|(Im.beq_iff a a).mpr rfl];exact qw r
end
mutual
theorem gj:∀ {n:Nat}{a b:Im},bH n a b=true->a≠b->t_ a b=!(t_ b a)
 | n,.int i,.int j,_,h=>by
  have:i≠j:=fun e=>h (by rw[e]);rw[t_,t_];rcases Int.lt_or_gt_of_ne this with g | g
  ·simp[g];lia
  ·simp[g];lia
 | n+1,.tup a,.tup b,h,e=>by
  rw[bH] at h;rw[t_,t_];exact qx h fun z=>e (by rw[z])
theorem qx:∀ {n:Nat}{a b:List Im},bw n a b=true->a≠b->bP a b=!(bP b a)
 | n,[],[],_,h=>absurd rfl h
 | n,a::r,b::t,h,e=>by
  rw[bw,and_eq_true] at h;rw[bP,bP];by_cases z:a=b
  ·subst z;rw[if_pos ((Im.beq_iff a a).mpr rfl),if_pos<|(Im.beq_iff a a).mpr rfl];exact qx h.2 fun w=>e (by rw[w])
  ·rw[fA z,fA<|fun w=>z w.symm,if_neg Bool.false_ne_true,if_neg Bool.false_ne_true];exact gj h.1 z
end
mutual
theorem jK:∀ {n:Nat}{a b c:Im},bH n a b=true->bH n b c=true->t_ a b=true->t_ b c=true->t_ a c=true
 | n,.int i,.int j,.int k,_,_,h1,h2=>by
  rw[t_] at h1 h2 ⊢;have:=of_decide_eq_true h1;have:=of_decide_eq_true h2;exact decide_eq_true (by lia)
 | n+1,.tup a,.tup b,.tup c,l1,l2,h1,h2=>by
  rw[bH] at l1 l2;rw[t_] at h1 h2 ⊢;exact qy l1 l2 h1 h2
theorem qy:∀ {n:Nat}{a b c:List Im},bw n a b=true->bw n b c=true->bP a b=true->bP b c=true->bP a c=true
 | n,[],[],[],_,_,h,_=>h
 | n,a::r,b::t,c::u,l1,l2,h1,h2=>by
  rw[bw,and_eq_true] at l1 l2;rw[bP] at h1 h2 ⊢;by_cases z1:a=b
  ·subst z1;rw[if_pos ((Im.beq_iff a a).mpr rfl)] at h1;by_cases z2:a=c
   ·subst z2;rw[if_pos ((Im.beq_iff a a).mpr rfl)] at h2 ⊢;exact qy l1.2 l2.2 h1 h2
   ·rw[fA z2,if_neg Bool.false_ne_true] at h2 ⊢;exact h2
  ·rw[fA z1,if_neg Bool.false_ne_true] at h1;by_cases z2:b=c
   ·subst z2;rw[fA z1,if_neg Bool.false_ne_true];exact h1
   ·rw[fA z2,if_neg Bool.false_ne_true] at h2;have h3:=jK l1.1 l2.1 h1 h2;have z3:¬ a=c:=fun w=>by
     subst w;have:=gj l2.1 z2;rw[h1,h2] at this;cases this
    rw[fA z3,if_neg Bool.false_ne_true];exact h3
end
def lW(A:Around)(s:Shared)(y x:Value)(k:Bool):Prop:=∀ (prog:Program) (w:World) (E:Value->Shared->Prop) (Q:Value->Shared->Prop),Q (.bool k) s->wpAny (model prog w) A (richCompare .Lt y x) Q E s
def eG(f:Bool):List (Bool×Bool)->Bool
 | []=>f
 | (e,k)::r=>if e=true then eG f r else k
section
open PySem.SeqAt
open PySem.AutoSeq1 (wpAny_loadPart')
open PySem.MeetsSeq PySem.MeetsSeq2 PySem.MeetsSeq3
theorem yF(l b:Addr)(items s_:Array Value)(n n2:Nat)(dd IQ:Option Addr)(sl IR:Array (Option Value))(ps:List (Bool×Bool))(K8:ps.length=min items.size s_.size):
  Meets (Builtin.«tuple.__lt__» ⟨[.ref l,.ref b],[]⟩)
   (fun A R s=>s.heap.get? l=some { cls:=.type "tuple",dict:=dd,data:=.seq items n,slots:=sl }/\s.heap.get? b=some { cls:=.type "tuple",dict:=IQ,data:=.seq s_ n2,slots:=IR }/\
    (∀ j (h1:j<items.size) (h2:j<s_.size) (h3:j<ps.length),EqAt A.in1 s items[j] s_[j] (ps[j]).1/\((ps[j]).1=false->lW A.in1 s items[j] s_[j] (ps[j]).2))/\
    R (.ok<|.ret<|.bool<|eG (decide (items.size<s_.size)) ps) s):=
 .of_wp fun prog w A R s h=>by
  obtain⟨hp,g,d,tk,os⟩:=s;obtain⟨hl,hb,he,h⟩:=h;have f2:=AutoSeq1.sub_tuple_tuple;have hZ:(items.toList.zip s_.toList).length=min items.size s_.size:=by simp
  wp_walk using wpAny_loadPart' hl,wpAny_loadPart' hb,wpAny_forIn_list _ (fun rest b s'=>b.1=none/\s'=⟨hp,g,d,tk,os⟩/\∃ i,rest=(items.toList.zip s_.toList).drop i/\
   R (.ok<|.ret<|.bool<|eG (decide (items.size<s_.size))<|ps.drop i) ⟨hp,g,d,tk,os⟩) _
  case turn=>
   rintro⟨y,x⟩ rest b s' ⟨GI,rfl,i,hz,hR⟩;have DO:i<(items.toList.zip s_.toList).length:=by
    rcases lt_or_ge i (items.toList.zip s_.toList).length with h' | h'
    ·exact h'
    ·rw[drop_of_length_le h'] at hz;cases hz
   have hm:i<min items.size s_.size:=hZ ▸ DO;have h1:i<items.size:=by lia
   have h2:i<s_.size:=by lia
   have h3:i<ps.length:=by lia
   rw[drop_eq_getElem_cons DO] at hz;injection hz with NI J_;have hy:y=items[i]:=by have:=congrArg Prod.fst NI;simpa using this
   have hx:x=s_[i]:=by have:=congrArg Prod.snd NI;simpa using this
   subst hy hx;rw[drop_eq_getElem_cons h3] at hR;obtain⟨Mi,Ka⟩:=he i h1 h2 h3;generalize ps[i]=pr at hR Mi Ka;obtain⟨e,k⟩:=pr;refine wpAny_bind (Mi prog w _ _ ?_);cases e with
   | true=>
    have Kb:R (.ok<|.ret<|.bool<|eG (decide (items.size<s_.size))<|ps.drop<|i+1) ⟨hp,g,d,tk,os⟩:=hR
    wp_walk
    exact⟨rfl,rfl,i+1,J_,Kb⟩
   | false=>
    have Kb:R (.ok<|.ret<|.bool k) ⟨hp,g,d,tk,os⟩:=hR;have Pn:=Ka rfl prog w
    wp_walk using Pn
    exact⟨_,rfl,by simpa using Kb⟩
  case fin=>
   rintro⟨b1,b2⟩ s' ⟨GI,rfl,i,hz,hR⟩;simp only at GI;subst GI;have Qs:min items.size s_.size<=i:=by
    rcases lt_or_ge i (items.toList.zip s_.toList).length with h' | h'
    ·rw[drop_eq_getElem_cons h'] at hz;cases hz
    ·exact hZ ▸ h'
   rw[drop_of_length_le (by lia)] at hR;have Kb:R (.ok<|.ret<|.bool<|decide (items.size<s_.size)) ⟨hp,g,d,tk,os⟩:=hR
   wp_walk
   exact⟨_,rfl,by simpa [Builtin.Tuple.tupleCompareSizes] using Kb⟩
  case h=>
   exact⟨rfl,rfl,0,rfl,by simpa using h⟩
end
def GJ(ds es:List Im):List (Bool×Bool):=(ds.zip es).map fun p=>(av p.1 p.2,t_ p.1 p.2)
theorem qz:∀ {n:Nat}{ds es:List Im},bw n ds es=true->eG false (GJ ds es)=bP ds es
 | _,[],[],_=>rfl
 | n,a::r,b::t,h=>by
  rw[bw,and_eq_true] at h;show (if av a b=true then eG false (GJ r t) else t_ a b)=bP (a::r) (b::t);rw[bP,(jJ h.1).2.2,qz h.2]
 | _,[],_::_,h=>by cases h
 | _,_::_,[],h=>by cases h
theorem qA{n:Nat}:∀ {ds es:List Im}{j:Nat}{a b:Im},bw n ds es=true->ds[j]?=some a->es[j]?=some b->bH n a b=true
 | [],es,j,a,b,_,h,_=>by simp at h
 | d::ds,[],j,a,b,h,_,_=>by cases h
 | d::ds,e::es,0,a,b,h,h1,h2=>by
  rw[bw,and_eq_true] at h;cases h1;cases h2;exact h.1
 | d::ds,e::es,j+1,a,b,h,h1,h2=>by
  rw[bw,and_eq_true] at h;exact qA (j:=j) h.2 (by simpa using h1) (by simpa using h2)
theorem qB{A:Around}{i j:Int}(hx:Dq s.heap (.int i) u)(hy:Dq s.heap (.int j) v):lW A s u v (t_ (.int i)<|.int j):=by
 obtain⟨t,rfl⟩:=hx;obtain⟨t',rfl⟩:=hy;intro prog w E Q q;rw[t_] at q;exact HT.vG A s i t j t' prog w E Q q
theorem lX:∀ {n:Nat}{x y:Im},bH n x y=true->(∃ i j,x=.int i/\y=.int j)\/∃ m a b,n=m+1/\x=.tup a/\y=.tup b/\bw m a b=true:=by
 intro n x y h;unfold bH at h;split at h
 ·exact .inl ⟨_,_,rfl,rfl⟩
 ·exact .inr ⟨_,_,_,rfl,rfl,rfl,h⟩
 ·cases h
theorem qC(n:Nat):∀ {A:Around}{x y:Im}{u v:Value},bH n x y=true->A.units+n+2<cLine->Dq s.heap x u->Dq s.heap y v->lW A s u v (t_ x y):=by
 induction n with
 | zero=>
  intro A x y u v h hu hx hy;rcases lX h with ⟨i,j,rfl,rfl⟩ | ⟨m,_,_,e,_⟩
  ·exact qB hx hy
  ·cases e
 | succ n ih=>
  intro A x y u v h hu hx hy;rcases lX h with ⟨i,j,rfl,rfl⟩ | ⟨m,ds,es,e,rfl,rfl,h⟩
  ·exact qB hx hy
  cases e;obtain⟨a,o,f_,m,rfl,h1,h2,h3,h4⟩:=hx;obtain⟨b,o',its',m',rfl,g1,g2,g3,g4⟩:=hy;obtain⟨cls,dd,data,sl⟩:=o;obtain⟨Po,Hn,NJ,Lu⟩:=o';simp only at h2 h3 g2 g3;subst h2 h3 g2 g3;have l0:=lU h;have l1:ds.length=f_.size:=by rw[h4.length,length_toList]
  have l2:es.length=its'.size:=by rw[g4.length,length_toList]
  intro prog w E Q q;rw[t_,<- qz h] at q;have lp:(GJ ds es).length=min f_.size its'.size:=by rw[GJ,length_map,List.length_zip,l1,l2]
  have hd:decide (f_.size<its'.size)=false:=decide_eq_false (by lia);refine richCompare_meets_room (op:=.Lt) ⟨_,h1,rfl⟩ ⟨_,g1,rfl⟩ PySem.F.slot_tuple_lt PySem.F.entry_tuple_lt (PySem.F.args_tuple_lt_2 _ _) (yF a b f_ its' m m' dd Hn sl Lu (GJ ds es) lp)
   ⟨h1,g1,fun j j1 j2 j3=>?_,show Value.bool (eG (decide (f_.size<its'.size))<|GJ ds es)≠Value.notImplemented/\Q (.bool<|eG (decide (f_.size<its'.size))<|GJ ds es) s from ⟨(fun x=>nomatch x),by rw[hd];exact q⟩⟩ (by lia);obtain⟨d1,e1,r1⟩:=h4.get (j:=j) (v:=f_[j]) (by rw[getElem?_toList];simp[j1]);obtain⟨d2,e2,r2⟩:=g4.get (j:=j) (v:=its'[j]) (by rw[getElem?_toList];simp[j2]);have lk:=qA h e1 e2;have hp:=jJ lk;have ez:(GJ ds es)[j]=(av d1 d2,t_ d1 d2):=by
   have:(GJ ds es)[j]?=some (av d1 d2,t_ d1 d2):=by
    rw[GJ,List.getElem?_map,(List.getElem?_zip_eq_some (z:=(d1,d2))).mpr ⟨e1,e2⟩];rfl
   rw[List.getElem?_eq_getElem j3] at this;exact Option.some.inj this
  rw[ez];exact⟨cN n hp.1 hp.2.1 (by show A.units+1+n+1<cLine;lia) r1 r2,fun _=>ih lk (by show A.units+1+n+2<cLine;lia) r1 r2⟩
end L2
namespace L2
open PySem PySem.Spec PyProof.Rows PySem.W
variable{f_:List Value}{ds:List Im}
theorem qD{α:Type}{p q:α->Bool}:∀ {l:List α},(∀ x∈l,p x=true->q x=true)->(∃ x∈l,q x=true/\p x=false)->l.countP p<l.countP q
 | [],_,h=>by obtain⟨x,hx,_⟩:=h;cases hx
 | a::l,h,⟨x,hx,h1,h2⟩=>by
  rw[List.countP_cons,List.countP_cons];have le:l.countP p<=l.countP q:=List.countP_mono_left fun y hy=>h y (.tail _ hy);rcases mem_cons.mp hx with rfl | hx
  ·rw[h1,h2];simp;lia
  ·have:=qD (fun y hy=>h y<|.tail _ hy) ⟨x,hx,h1,h2⟩;have ha:=h a (.head _);cases e1:p a<;>cases e2:q a<;>rw[e1,e2] at ha<;>simp at ha ⊢<;>lia
structure DN(ds:List Im):Prop where
 IB:ds.length<=1000
 EF:∀ a∈ds,∀ b∈ds,bH 6 a b=true
 nd:ds.Nodup
def HA(ds:List Im)(x:Im):Nat:=ds.countP fun d=>t_ d x
theorem jL(o:DN ds){x y:Im}(hx:x∈ds)(hy:y∈ds)(h:t_ x y=true):HA ds x<HA ds y:=
 qD (fun z hz e=>jK (o.EF z hz x hx) (o.EF x hx y hy) e h) ⟨x,hx,h,lV x⟩
theorem qE(o:DN ds){x y:Im}(hx:x∈ds)(hy:y∈ds):decide ((HA ds x:Int)<(HA ds y:Int))=t_ x y:=by
 cases e:t_ x y with
 | true=>exact decide_eq_true (by have:=jL o hx hy e;lia)
 | false=>
  refine decide_eq_false fun z=>?_;by_cases h:x=y
  ·subst h;lia
  ·have t:=gj (o.EF x hx y hy) h;rw[e] at t;have t':t_ y x=true:=by cases q:t_ y x<;>rw[q] at t<;>simp at t ⊢
   have:=jL o hy hx t';lia
theorem yG(o:DN ds){x y:Im}(hx:x∈ds)(hy:y∈ds)(h:HA ds x=HA ds y):x=y:=by
 by_cases e:x=y
 ·exact e
 ·have t:=gj (o.EF x hx y hy) e;cases q:t_ x y with
  | true=>have:=jL o hx hy q;lia
  | false=>
   rw[q] at t;have t':t_ y x=true:=by cases q:t_ y x<;>rw[q] at t<;>simp at t ⊢
   have:=jL o hy hx t';lia
def dw(ds:List Im)(i:Nat):Int:=HA ds (ds.getD i .j_)
theorem gn{i:Nat}(h:i<ds.length):ds.getD i .j_∈ds:=by
 rw[getD_eq_getElem?_getD,List.getElem?_eq_getElem h];exact getElem_mem h
theorem jM(o:DN ds):∀ i j,i<ds.length->j<ds.length->dw ds i=dw ds j->i=j:=fun i j hi hj e=>by
 have:=yG o (gn hi) (gn hj) (by unfold dw at e;lia);rw[getD_eq_getElem?_getD,List.getElem?_eq_getElem hi,getD_eq_getElem?_getD,List.getElem?_eq_getElem hj] at this;exact (List.getElem_inj o.nd).mp this
theorem Mq(o:DN ds){p:Array Nat}(hp:Rg ds.length p)(up:Up (dw ds) p ds.length):(p.toList.map fun i=>ds.getD i .j_).Pairwise (fun a b=>t_ a b=true):=by
 rw[pairwise_iff_getElem];intro i j hi hj DY;have hs:=hp.size;have Ej:i<ds.length:=by simpa [hs] using hi
 have Hx:j<ds.length:=by simpa [hs] using hj
 have ne:=hp.ne (jM o) DY Hx;have le:=up i j (by lia) Hx;have g:∀ k (hk:k<(p.toList.map fun i=>ds.getD i .j_).length),(p.toList.map fun i=>ds.getD i .j_)[k]=ds.getD (p.getD k 0) .j_:=fun k hk=>by
  have DM:k<p.size:=by simpa using hk
  rw[List.getElem_map,Array.getElem_toList];simp[Array.getD,DM]
 rw[g i hi,g j hj];rw[<- qE o (gn<|hp.lt Ej) (gn<|hp.lt Hx)];refine decide_eq_true ?_;have e:∀ k,(HA ds (ds.getD (p.getD k 0) .j_):Int)=x_ (dw ds) p k:=fun _=>rfl;rw[e i,e j];lia
theorem qF:∀ {l m:List Im},l.Perm m->l.Pairwise (fun a b=>t_ a b=true)->m.Pairwise (fun a b=>t_ a b=true)->(∀ a∈l,∀ b∈l,t_ a b=true->t_ b a=false)->l=m
 | [],m,p,_,_,_=>(List.nil_perm.mp p).symm
 | a::l,m,p,h1,h2,as=>by
  cases m with
  | nil=>exact absurd p.length_eq (by simp)
  | cons b m=>
   have e:a=b:=by
    by_cases e:a=b
    ·exact e
    ·have ha:a∈m:=by
      rcases mem_cons.mp (p.mem_iff.mp<|.head _) with z | z
      ·exact absurd z e
      ·exact z
     have hb:b∈l:=by
      rcases mem_cons.mp (p.mem_iff.mpr<|.head _) with z | z
      ·exact absurd z.symm e
      ·exact z
     have q1:=(pairwise_cons.mp h1).1 b hb;have q2:=(pairwise_cons.mp h2).1 a ha;rw[as a (.head _) b (.tail _ hb) q1] at q2;cases q2
   subst e;rw[qF (List.Perm.cons_inv p) (pairwise_cons.mp h1).2 (pairwise_cons.mp h2).2 fun x hx y hy=>as x (.tail _ hx) y<|.tail _ hy]
theorem lY(x:Im):∀ l:List Im,(et t_ x l).Perm (x::l)
 | []=>List.Perm.refl _
 | y::r=>by
  rw[et];split
  ·exact List.Perm.refl _
  ·exact (List.Perm.cons y<|lY x r).trans (List.Perm.swap x y r)
theorem gp:∀ l:List Im,(bD t_ l).Perm l
 | []=>List.Perm.refl _
 | x::r=>(lY x _).trans (List.Perm.cons x<|gp r)
theorem qG{x:Im}:∀ {l:List Im},l.Pairwise (fun a b=>t_ a b=true)->(∀ y∈l,x≠y)->(∀ a∈x::l,∀ b∈x::l,bH 6 a b=true)->(et t_ x l).Pairwise (fun a b=>t_ a b=true)
 | [],_,_,_=>pairwise_singleton _ _
 | y::r,h,n,lk=>by
  have h':=pairwise_cons.mp h;rw[et];split
  ·rename_i e;refine pairwise_cons.mpr ⟨fun z hz=>?_,h⟩;rcases mem_cons.mp hz with rfl | hz
   ·exact e
   ·exact jK (lk x (.head _) y<|.tail _<|.head _) (lk y (.tail _<|.head _) z<|.tail _<|.tail _ hz) e (h'.1 z hz)
  ·rename_i e;refine pairwise_cons.mpr ⟨fun z hz=>?_,qG h'.2 (fun z hz=>n z<|.tail _ hz) fun a ha b hb=>lk a ?_ b ?_⟩
   ·rcases mem_cons.mp ((lY x r).mem_iff.mp hz) with rfl | hz
    ·have t:=gj (lk z (.head _) y<|.tail _<|.head _) (n y<|.head _);cases q:t_ y z with
     | true=>rfl
     | false=>rw[q] at t;exact absurd t e
    ·exact h'.1 z hz
   ·rcases mem_cons.mp ha with rfl | ha
    ·exact .head _
    ·exact .tail _ (.tail _ ha)
   ·rcases mem_cons.mp hb with rfl | hb
    ·exact .head _
    ·exact .tail _ (.tail _ hb)
theorem lZ:∀ {l:List Im},l.Nodup->(∀ a∈l,∀ b∈l,bH 6 a b=true)->(bD t_ l).Pairwise (fun a b=>t_ a b=true)
 | [],_,_=>.nil
 | x::r,nd,lk=>by
  have Gi:=nodup_cons.mp nd;refine qG (lZ Gi.2 fun a ha b hb=>lk a (.tail _ ha) b<|.tail _ hb) (fun y hy e=>Gi.1 (by rw[e];exact (gp r).mem_iff.mp hy)) fun a ha b hb=>lk a ?_ b ?_
  ·rcases mem_cons.mp ha with rfl | ha
   ·exact .head _
   ·exact .tail _ ((gp r).mem_iff.mp ha)
  ·rcases mem_cons.mp hb with rfl | hb
   ·exact .head _
   ·exact .tail _ ((gp r).mem_iff.mp hb)
theorem jN{l:List Im}(o:DN ds)(p:l.Perm ds)(h:l.Pairwise (fun a b=>t_ a b=true)):l=bD t_ ds:=by
 refine qF (p.trans (gp ds).symm) h (lZ o.nd o.EF) fun a ha b hb e=>?_;have t:=gj (o.EF a (p.mem_iff.mp ha) b<|p.mem_iff.mp hb) (fun z=>by subst z;rw[lV] at e;cases e);rw[e] at t;cases q:t_ b a with
 | false=>rfl
 | true=>rw[q] at t;cases t
def cv:Im->Bool
 | .tup (.int _::_)=>true
 | _=>false
def fC:Im->Bool
 | .tup (.tup _::_)=>true
 | _=>false
section
variable{prog:Program}{w:World}{A:Around}{E:Value->Shared->Prop}{s:Shared}
theorem qH{b:Bool}(n:Nat)(hu:A.units+n+2<cLine){Q:Bool->Shared->Prop}:∀ {ds es:List Im}{vs ws:List Value}{i:Nat},bw n ds es=true->aG s.heap ds vs->aG s.heap es ws->(b=true->i=0->∃ k r,ds=.int k::r)->Q (bP ds es) s->KatLex prog w A b false Q (vs.zip ws) i s
 | [],[],vs,ws,i,_,h1,h2,_,q=>by
  rw[show vs=[] from h1];exact kat_nil q
 | d::ds,e::es,vs,ws,i,h,h1,h2,hb,q=>by
  rw[bw,and_eq_true] at h;obtain⟨v,vs,rfl,a1,a2⟩:=h1;obtain⟨u,ws,rfl,b1,b2⟩:=h2;rw[List.zip_cons_cons];obtain⟨p1,p2,p3⟩:=jJ h.1;refine kat_cons (cN n p1 p2 (by lia) a1 b1 prog w _ _ ?_);rw[p3];rw[bP] at q;cases hq:Im.beq d e with
  | true=>
   rw[hq,if_pos rfl] at q;exact kat_yes (qH n hu h.2 a2 b2 (fun _ z=>by lia) q)
  | false=>
   rw[hq,if_neg Bool.false_ne_true] at q;refine kat_no ?_;by_cases hf:(b && i == 0)=true
   ·rw[hf];rw[and_eq_true] at hf;obtain⟨k,r,z⟩:=hb hf.1 (by simpa using hf.2);cases z;rcases lX h.1 with ⟨i',j,z1,z2⟩ | ⟨_,_,_,_,z1,_⟩
    ·cases z1;cases z2;obtain⟨t,rfl⟩:=a1;obtain⟨t',rfl⟩:=b1;rw[t_] at q;exact oneLt_int q
    ·cases z1
   ·rw[show (b && i == 0)=false by simpa using hf];exact kat_one _ _ (qC n h.1 hu a1 b1 prog w _ _ q)
 | [],_::_,_,_,_,h,_,_,_,_=>by cases h
 | _::_,[],_,_,_,h,_,_,_,_=>by cases h
theorem l5{b:Bool}(o:DN ds)(iv:aG s.heap ds f_)(ht:∀ d∈ds,∃ r,d=.tup r)(hb:b=true->∀ d∈ds,cv d=true)(hu:A.units+9<cLine):
  bT f_.length (dw ds) (kas_cmp prog w A (tuples' b)<|f_.toArray.zip f_.toArray) s:=by
 intro i j C hi hj q;have hl:=iv.length;have mi:=gn (ds:=ds) (i:=i) (by lia);have mj:=gn (ds:=ds) (i:=j) (by lia);unfold dw at q;rw[qE o mi mj] at q;obtain⟨d1,e1,r1⟩:=iv.get (j:=i) (v:=f_[i]) (by simp);obtain⟨d2,e2,r2⟩:=iv.get (j:=j) (v:=f_[j]) (by simp);rw[getD_eq_getElem?_getD,e1,getD_eq_getElem?_getD,e2] at q;rw[getD_eq_getElem?_getD,e1] at mi;rw[getD_eq_getElem?_getD,e2] at mj;obtain⟨a,ea⟩:=ht d1 mi;obtain⟨b',eb⟩:=ht d2 mj;subst ea eb;have lk:bw 5 a b'=true:=o.EF _ mi _ mj;unfold kas_cmp;rw[kat_item rfl,kat_item rfl,getD_eq_getElem?_getD,getD_eq_getElem?_getD,List.getElem?_eq_getElem hi,List.getElem?_eq_getElem hj];show wpAny _ _ (keyLt' (tuples' b) f_[i] f_[j]) _ _ _;obtain⟨x,ox,xs,n1,z1,g1,g2,g3,g4⟩:=r1;obtain⟨y,oy,ys,n2,z2,k1,k2,k3,k4⟩:=r2;rw[z1,z2];refine kat_lt (b:=b) g1 g3 k1 k3 ?_;have l1:a.length=xs.size:=by rw[g4.length,length_toList]
 have l2:b'.length=ys.size:=by rw[k4.length,length_toList]
 rw[show decide (xs.size<ys.size)=false from decide_eq_false (by have:=lU lk;lia)];refine qH 5 (by lia) lk g4 k4 (fun EG _=>?_) (by have q':C (t_ (.tup a)<|.tup b') s:=q;rw[t_] at q';exact q');have:=hb EG _ mi;unfold cv at this;split at this
 ·rename_i h;cases h;exact⟨_,_,rfl⟩
 ·cases this
theorem qI:∀ {ds:List Im}{f_:List Value},aG s.heap ds f_->(∀ d∈ds,cv d=true)\/(∀ d∈ds,fC d=true)->∃ fs,KatTups s.heap f_ fs/\fs.length=f_.length/\
  ((∀ d∈ds,cv d=true)->∀ v∈fs,∃ i t,v=Value.int i t)/\((∀ d∈ds,fC d=true)->∀ v∈fs,∃ a ob,v=Value.ref a/\s.heap.get? a=some ob/\ob.cls=.type "tuple")
 | [],f_,h,_=>by
  rw[show f_=[] from h];exact⟨[],trivial,rfl,(fun _ _ h=>nomatch h),(fun _ _ h=>nomatch h)⟩
 | d::ds,f_,h,hf=>by
  obtain⟨v,r,rfl,h1,h2⟩:=h;obtain⟨fs,t1,t2,t3,t4⟩:=qI h2 (hf.imp (fun z x hx=>z x<|.tail _ hx) fun z x hx=>z x<|.tail _ hx);have sh:∃ f r',d=.tup (f::r'):=by
   rcases hf with z | z
   ·have:=z d (.head _);unfold cv at this;split at this
    ·exact⟨_,_,rfl⟩
    ·cases this
   ·have:=z d (.head _);unfold fC at this;split at this
    ·exact⟨_,_,rfl⟩
    ·cases this
  obtain⟨f,r',rfl⟩:=sh;obtain⟨a,o,items,n,rfl,g1,g2,g3,g4⟩:=h1;obtain⟨fv,rv,e,g5,g6⟩:=g4;have J9:items[0]?=some fv:=by
   rw[<- getElem?_toList,e];rfl
  refine⟨fv::fs,KatTups.cons g1 g2 g3 J9 t1,by simp[t2],fun z u hu=>?_,fun z u hu=>?_⟩
  ·rcases mem_cons.mp hu with rfl | hu
   ·have:=z _ (.head _);unfold cv at this;split at this
    ·rename_i q;cases q;exact⟨_,g5⟩
    ·cases this
   ·exact t3 (fun x hx=>z x<|.tail _ hx) u hu
  ·rcases mem_cons.mp hu with rfl | hu
   ·have:=z _ (.head _);unfold fC at this;split at this
    ·rename_i q;cases q;obtain⟨a',o',_,_,e',k1,k2,_⟩:=g5;exact⟨a',o',e',k1,k2⟩
    ·cases this
   ·exact t4 (fun x hx=>z x<|.tail _ hx) u hu
end
section
variable{X:Cx}
theorem aj.pick{H:Hp}{ys:List V}(h:aj H ds ys):∀ {p:List Nat},(∀ k∈p,k<ds.length)->aj H (p.map fun i=>ds.getD i .j_) (p.map fun i=>ys.getD i .j_)
 | [],_=>rfl
 | k::p,hp=>by
  obtain⟨v,e1,e2⟩:=h.get (i:=k) (d:=ds.getD k .j_) (by
   have:=hp k (.head _);rw[getD_eq_getElem?_getD,List.getElem?_eq_getElem this];rfl)
  refine⟨v,_,?_,e2,h.pick fun j hj=>hp j<|.tail _ hj⟩;rw[map_cons,getD_eq_getElem?_getD,e1];rfl
structure CW(ds:List Im):Prop where
 ord:DN ds
 fst:(∀ d∈ds,cv d=true)\/(∀ d∈ds,fC d=true)
theorem CW.tup(o:CW ds):∀ d∈ds,∃ r,d=.tup r:=fun d hd=>by
 rcases o.fst with z | z
 ·have:=z d hd;unfold cv at this;split at this
  ·exact⟨_,rfl⟩
  ·cases this
 ·have:=z d hd;unfold fC at this;split at this
  ·exact⟨_,rfl⟩
  ·cases this
theorem aG.Do{h h':Heap}(k:∀ b o,h.get? b=some o->h'.get? b=some o){ds:List Im}{vs:List Value}(x:aG h ds vs):aG h' ds vs:=x.keep fun a o _ _ e _ _=>k a o e
theorem l6{h:Heap}{s:Shared}(o:CW ds)(h2:2<=f_.length)(iv:aG s.heap ds f_)(A:Around)(E:Value->Shared->Prop)(Q:SortKind->Shared->Prop)(hq:Q (tuples'<|decide (∀ d∈ds,cv d=true)) s):
  wpAny (model X.prog X.w) A (keyKind' f_.toArray) Q E s:=by
 obtain⟨fs,t1,t2,t3,t4⟩:=qI iv o.fst;have hl:=iv.length;by_cases hf:∀ d∈ds,cv d=true
 ·rw[decide_eq_true hf] at hq;refine kat_kind (T:=Value.type "int") t1 (by lia) (fun v hv=>?_) rfl ?_
  ·obtain⟨i,t,rfl⟩:=t3 hf v hv;exact Looks.of_pure rfl
  ·rw[show (Value.type "int" != Value.type "tuple")=true by decide];exact hq
 ·rw[decide_eq_false hf] at hq;have Pp:=o.fst.resolve_left hf;refine kat_kind (T:=Value.type "tuple") t1 (by lia) (fun v hv=>?_) rfl ?_
  ·obtain⟨a,ob,rfl,g1,g2⟩:=t4 Pp v hv;have:Looks (model X.prog X.w) s.heap (typeOf<|.ref a) ob.cls:=(Looks.ld g1).andThen .now;rw[g2] at this;exact this
  ·rw[show (Value.type "tuple" != Value.type "tuple")=false by decide];exact hq
theorem qJ(hc:X.calm=true)(hu:X.A.units+20<cLine):aX X (.builtin "sorted") (fun xs H Q=>∃ (a:Addr) (ds:List Im) (ys:List V),xs=[.ref a]/\(CT X.K H a ys\/A_ X.K H a ys)/\aj H ds ys/\CW ds/\
  ∀ l zs,H l=none->aj H (bD t_ ds) zs->Q (.ref l) (upd H l<|.lst zs)):=by
 intro pins s σ H xs us Q I r h;obtain⟨a,ds,ys,rfl,hs,hi,o,q⟩:=h;obtain⟨u,rfl,ru⟩:=ci r;cases ru;have hz:ys.length<=1000:=by rw[<- hi.length];exact o.ord.IB
 have go:∀ {T:String}{f_:List Value}{n:Nat}{ob:Obj},(T = "list" \/ T = "tuple")->ak ys f_->s.heap.get? a=some ob->ob.cls=.type T->ob.data=.seq f_.toArray n->wpAny (model X.prog X.w) X.A (call (.builtin "sorted") [.ref a]) (EP X pins σ Q) X.xe s:=by
  intro T f_ n ob hT rv e eC eD;have iv:=hi.Ei I.l_ rv;have li:f_.length=ds.length:=iv.length.symm;refine pV hc (dw ds) (tuples'<|decide (∀ d∈ds,cv d=true)) I rv hT e eC eD hz (fun h2 h6 tk k A E Q hq=>l6 (h:=h6) o h2 (iv.Do k) A E Q hq) (fun h6 tk k=>?_) (by rw[li];exact jM o.ord) (.inl (by have:=o.ord.IB;lia)) fun p l r1 r2 fl=>?_
  ·refine l5 (s:={ s with heap:=h6,toks:=tk }) o.ord (iv.Do k) o.tup (fun hb=>?_) (by show X.A.units+1+1+9<cLine;lia);exact of_decide_eq_true hb
  ·rw[li] at r1 r2;have e1:(p.toList.map fun i=>ds.getD i .j_)=bD t_ ds:=jN o.ord (jz r1) (Mq o.ord r1 r2);refine q l _ fl ?_;rw[<- e1];exact hi.pick fun k hk=>mem_range.mp (r1.mem_iff.mp hk)
 rcases hs with hs | hs
 ·obtain⟨f_,rv,p,_⟩:=I.list hs;obtain⟨ob,e,eC,n,eD⟩:=p.isList;exact go (.inl rfl) rv e eC eD
 ·obtain⟨f_,rv,p,_⟩:=I.tuple hs;obtain⟨ob,e,eC,n,eD⟩:=p;exact go (.inr rfl) rv e eC eD
end
section
variable{X:Cx}
theorem qK{H:Hp}:∀ {kvs:List (List Im×V)}{es:List (List Im×Addr×Value)},Paired (fun (p:List Im×V) (q:List Im×Addr×Value)=>p.1=q.1/\Fr H p.1 q.2.1/\aq p.2 q.2.2) kvs es->
  aj H (kvs.map fun p=>.tup p.1) (es.map fun x=>V.ref x.2.1)/\ak (es.map fun x=>V.ref x.2.1) (es.map fun x=>Value.ref x.2.1)
 | _,_,.nil=>⟨rfl,.nil⟩
 | _,_,.cons r t=>by
  obtain⟨h1,h2⟩:=qK t;exact⟨⟨_,_,rfl,r.2.1.2,h1⟩,.cons rfl h2⟩
theorem yH(hc:X.calm=true)(hu:X.A.units+20<cLine):aX X (.builtin "sorted") (fun xs H Q=>∃ (d:Addr) (kvs:List (List Im×V)),xs=[.ref d]/\H d=some (.dT kvs)/\CW (kvs.map fun p=>.tup p.1)/\
  ∀ l zs,H l=none->aj H (bD t_<|kvs.map fun p=>.tup p.1) zs->Q (.ref l) (upd H l<|.lst zs)):=by
 intro pins s σ H xs us Q I r h;obtain⟨d,kvs,rfl,hd,so,q⟩:=h;obtain⟨u,rfl,ru⟩:=ci r;cases ru;obtain⟨z,lo,es,rel,o,Pq,ep,e1,e2,e3,e4,nd⟩:=I.l_ d _ hd;obtain⟨hi,rv⟩:=qK rel;have NK:Fy s.heap d (es.map fun x=>Value.ref x.2.1) ep:=⟨o,Pq,e1,e2,e3,by rw[e4,List.map_map];rfl⟩;generalize (es.map fun x=>Value.ref x.2.1)=f_ at rv NK;generalize (es.map fun x=>V.ref x.2.1)=ys at hi rv;generalize F8:(kvs.map fun p=>Im.tup p.1)=ds at hi so q;have iv:=hi.Ei I.l_ rv;have li:f_.length=ds.length:=iv.length.symm;have IB:=so.ord.IB;have hl:ys.length=f_.length:=rv.length;have J6:f_.length<=sizeLine:=Nat.le_trans (by lia) (show 1000<=sizeLine by decide);refine Calls.call_function_entry kind_sorted plain_sorted entry_sorted (args_sorted1 _) ?z
 case z=>
  unfold Builtin.«sorted»;refine wpAny_bind (m:=checkCount "sorted" 1 1 _) (wpAny_pure<|wpAny_bind<|kdu_collect (A:=X.A.in1) (wV lo) (I.ok.hd hc) NK J6 fun h' tk acc Hc D9=>?_);have ea:acc.toList=f_:=by
   apply List.ext_getElem
   ·rw[length_toList];exact D9.1
   ·intro i h1 h2;have:=D9.2 i acc.toList[i] (by rw[<- getElem?_toList];exact List.getElem?_eq_getElem h1);have this:f_[i]?=some acc.toList[i]:=this;rw[List.getElem?_eq_getElem h2] at this;exact (Option.some.inj this).symm
  rw[ea];refine wpAny_bind (wpAny_newList ?_ J6);have oB:(h'.push<|seqObj "list" f_.toArray 0).get? h'.objs.size=some (seqObj "list" f_.toArray 0):=Heap.get?_push_size _ rfl;have kB:∀ b o,s.heap.get? b=some o->(h'.push<|seqObj "list" f_.toArray 0).get? b=some o:=fun b o e=>Heap.get?_push_of_some _ (Hc b o e);have I1:Inv X pins σ H { s with heap:=h',toks:=tk }:=I.kept Hc;have nB:∀ b o,s.heap.get? b=some o->b≠h'.objs.size:=fun b o e=>ne_of_lt (Heap.lt_size<|Hc b o e);refine wpAny_bind (wpAny_holding<|wpAny_call_entry slot_list_sort ⟨_,oB,rfl⟩ entry_list_sort ?y<|args_list_sort _)
  case y=>
   refine lM (s:={ s with heap:=h'.push (seqObj "list" f_.toArray 0),toks:=tk }) (dw ds) (tuples'<|decide (∀ d∈ds,cv d=true)) oB
    (fun h2 h6 k6 Q hq=>l6 (X:=X) (h:=h6) so h2 (iv.Do fun b o eb=>k6 b o (nB b o eb)<|kB b o eb) _ _ Q hq)
    (fun h6 k6=>l5 (s:={ s with heap:=h6,toks:=tk }) so.ord (iv.Do fun b o eb=>k6 b o (nB b o eb)<|kB b o eb) so.tup (fun hb=>of_decide_eq_true hb) (by show X.A.units+1+1+9<cLine;lia))
    (by rw[li];exact jM so.ord) (.inl (by lia)) (by lia) fun p h2 r1 r2 k2 ⟨e9,J7⟩=>⟨_,rfl,wpAny_pure ⟨_,rfl,?_⟩⟩;have fB:H h'.objs.size=none:=I1.l_.fresh (Nat.le_refl _);have Mj:∀ b o,h'.get? b=some o->b≠h'.objs.size:=fun b o e=>ne_of_lt (Heap.lt_size e);rw[li] at r1 r2;refine⟨.ref h'.objs.size,upd H h'.objs.size<|.lst<|p.toList.map fun i=>ys.getD i .j_,?_,rfl,q _ _ fB ?_⟩
   ·refine I1.laid (t':=tk) (fun b u e=>k2 b u (Mj b u e)<|Heap.get?_push_of_some _ e) (Nat.le_refl _) ⟨?_,_,e9,?_,J7⟩
    ·rw[length_map,length_toList,r1.size];lia
    ·refine jA (by simp) fun i v u h1 h2=>?_;rw[List.getElem?_map] at h1 h2;cases Gm:p.toList[i]? with
     | none=>rw[Gm] at h1;cases h1
     | some k=>
      rw[Gm] at h1 h2;cases h1;cases h2;have hk:k<f_.length:=by rw[li];exact mem_range.mp (r1.mem_iff.mp<|mem_of_getElem? Gm)
      obtain⟨u,h3,h4⟩:=rv.get (i:=k) (x:=ys[k]'(by lia)) (by simp[show k<ys.length by lia]);rw[List.getElem?_eq_getElem hk] at h3;have h3:=Option.some.inj h3;simp only[List.getD,List.getElem?_eq_getElem hk,List.getElem?_eq_getElem (show k<ys.length by lia),getD_some];rw[h3];exact h4
   ·rw[<- jN so.ord (jz r1) (Mq so.ord r1 r2)];exact hi.pick fun k hk=>mem_range.mp (r1.mem_iff.mp hk)
def ig(ds:List Im):Bool:=decide (ds.length<=1000) && ds.all (fun a=>ds.all fun b=>bH 6 a b) && decide ds.Nodup && (ds.all cv || ds.all fC)
theorem gq:ig ds=true↔CW ds:=by
 unfold ig;rw[and_eq_true,and_eq_true,and_eq_true,or_eq_true,decide_eq_true_iff,decide_eq_true_iff,all_eq_true,all_eq_true,all_eq_true];constructor
 ·rintro⟨⟨⟨h1,h2⟩,h3⟩,h4⟩;exact⟨⟨h1,fun a ha b hb=>all_eq_true.mp (h2 a ha) b hb,h3⟩,h4⟩
 ·rintro⟨⟨h1,h2,h3⟩,h4⟩;exact⟨⟨⟨h1,fun a ha=>all_eq_true.mpr fun b hb=>h2 a ha b hb⟩,h3⟩,h4⟩
def c9(ds:List Im):Option Vl:=if ig ds=true then some (.lst<|bD t_ ds) else none
def CY:OpN:=fun ds=>match ds with
 | [.lst x]=>match Ea x with
  | some ns=>vSorted [.lst x]
  | none=>c9 x
 | [.im (.tup x)]=>c9 x
 | [.dT kvs]=>c9 (kvs.map fun p=>.tup p.1)
 | _=>none
theorem l8{d:Vl}(h:c9 ds=some d):CW ds/\d=.lst (bD t_ ds):=by
 unfold c9 at h;split at h
 ·rename_i e;cases h;exact⟨gq.mp e,rfl⟩
 ·cases h
theorem qL{H:Hp}:∀ {kvs:List (List Im×Im)}{Dh:List (List Im×V)},Ek H kvs Dh->(kvs.map fun p=>Im.tup p.1)=Dh.map fun p=>Im.tup p.1
 | _,_,.nil=>rfl
 | _,_,.cons r t=>by rw[map_cons,map_cons,qL t,r.1]
theorem l9(hc:X.calm=true)(hu:X.A.units+20<cLine):cD X (.builtin "sorted") CY:=by
 intro pins s σ H xs us Q I r ⟨ds,d,rd,e,q⟩;unfold CY at e;split at e
 ·rename_i x;split at e
  ·exact yj hc hu pins s σ H xs us Q I r ⟨_,d,rd,e,q⟩
  ·obtain⟨so,rfl⟩:=l8 e;obtain⟨v,rfl,_,p,ys,rfl,h1,h2,_⟩:=bG rd;exact qJ hc hu pins s σ H _ us Q I r ⟨p,x,ys,rfl,.inl<|CT.of h1,h2,so,fun l zs fl hz=>Out.l q fl hz⟩
 ·rename_i x;obtain⟨so,rfl⟩:=l8 e;obtain⟨v,rfl,hv⟩:=bG rd;obtain⟨p,ys,rfl,h1,h2⟩:=hv.i;exact qJ hc hu pins s σ H _ us Q I r ⟨p,x,ys,rfl,.inr<|A_.of h1,h2,so,fun l zs fl hz=>Out.l q fl hz⟩
 ·rename_i kvs;obtain⟨so,rfl⟩:=l8 e;obtain⟨v,rfl,_,p,Dh,rfl,h1,h2,_⟩:=bG rd;rw[qL h2] at so q;exact yH hc hu pins s σ H _ us Q I r ⟨p,Dh,rfl,h1,so,fun l zs fl hz=>Out.l q fl hz⟩
 ·cases e
end
end L2
namespace PySem
open Sem (wp)
end PySem
namespace PySem
namespace F
end F
end PySem
namespace L2
open PySem PySem.Spec PyProof.Rows PySem.W
section
variable{X:Cx}{pins:List (Addr×Obj)}{σ:L2.St}{H:Hp}{s0:Shared}
end
section
variable{X:Cx}
def yI(tk tv:TE):TE:=fun σ H Q=>∀ p,H p=none->tk σ (upd H p<|.dT []) fun x H1=>tv σ H1 fun y H2=>∃ b k,x=.ref b/\Fr H2 k b/\H2 p=some (.dT [])/\Q (.ref p) (upd H2 p<|.dT [(k,y)])
variable{k v:Expr}{pos:Pos}
theorem yJ{tk tv:TE}(hu:X.A.units+20<cLine)(hk:PE X k tk)(hv:PE X v tv):PE X (.Dict [some k] [v] pos) (yI tk tv):=by
 intro pins s σ H Q I q;have hn:=I.l_.fresh (Nat.le_refl s.heap.objs.size);have I1:=I.laid (a:=s.heap.objs.size) (o:=.dT []) (h':=s.heap.push { cls:=.type "dict",data:=.dict #[] }) (t':=s.toks) (fun _ _ q=>Heap.get?_push_of_some _ q) (Nat.le_refl _) (ot s.heap I.big);refine wpAny_Dict_any rfl rfl (by simp) (by simp) ?_;refine pairTrees_cons_walk (u_ (hk pins _ σ _ _ I1<|q _ hn) fun u s1 ⟨x,H1,I2,rx,q1⟩=>u_ (hv pins s1 σ H1 _ I2 q1) fun w2 s2 ⟨y,H2,I3,ry,b,c,ex,hb,hp,q2⟩=>pairTrees_nil_walk ?_);subst ex;cases rx;obtain⟨z,Mr,xs,kt,dd⟩:=oo I3.l_ hp;cases kt;unfold storeAll;rw[forIn_cons];refine wpAny_bind (wpAny_bind (wpAny_dictSet_heap (k:=c) (knd:=bh X.prog X.w) (show X.A.units+10<cLine by lia) (fO I3.l_ hb) dd (fun h' Hn sb=>wpAny_pure ?_)<|zero_le _));refine wpAny_pure ⟨.ref s.heap.objs.size,_,?_,rfl,q2⟩;obtain⟨q',es,ep,hq,h2,h3,h4,_,h5⟩:=Hn;refine kP (s:=s2) I3 (by rw[hp];exact True.intro) sb ⟨q',hq⟩ ⟨(show 1<=sizeLine by decide),Mr,_,KT.keeps (KT.put (kvs:=[]) (xs:=[]) .nil c (b:=b) hb ry) fun cc ys ec=>?_,q',es,ep,hq,h2,h3,h4,h5⟩;rw[aw (nq ec hp<|fun z=>nomatch z)];exact ec
@[simp] def qM(gk gv:M Vl):M Vl:=fun D=>(gk D).bind fun p=>(gv p.2).bind fun q=>match p.1,q.1 with
 | .im (.tup k),.im d=>if Im.keys 7 k=true then some (.dT [(k,d)],q.2) else none
 | _,_=>none
theorem yK{gk gv:M Vl}(hu:X.A.units+20<cLine)(hk:VE X k gk)(hv:VE X v gv):VE X (.Dict [some k] [v] pos) (qM gk gv):=by
 refine aR (yJ hu hk hv) fun σ H Q ⟨D,F,r,D',st,nd,Er,q⟩ p hp=>?_;obtain⟨⟨d1,D1⟩,h1,h2⟩:=bind_eq_some_iff.mp Er;obtain⟨⟨d2,D2⟩,h3,h4⟩:=bind_eq_some_iff.mp h2;have s:aB H (L2.upd H p<|.dT []):=(aB.refl H).upd hp;have hF:p∉F:=fun z=>by obtain⟨o,e,_⟩:=st.chg p z;rw[hp] at e;cases e
 refine⟨D,F,d1,D1,st.mono s.tupS fun a _ o e=>s a o e,nd,h1,fun x H1 F1 R1 r_ o1 s1=>?_⟩;have Iv:=nodup_append.mp s1.nd;refine⟨D1,F1,d2,D2,r_,Iv.1,h3,fun y H2 F2 R2 o_ o2 s2=>?_⟩;dsimp only at h4;split at h4
 ·rename_i kk dd;split at h4
  ·rename_i Pr;cases h4;obtain⟨w1,rfl⟩:=o1;obtain⟨w2,rfl⟩:=o2;rw[append_nil] at s1 s2;have IA:=s1.seq s2;have G9:H1 p=some (.dT []):=s1.keep p _ aW hF;have NL:p∉F1:=fun z=>by
    rcases s1.sub p z with h | h
    ·exact hF h
    ·rw[aW] at h;cases h
   have Fx:H2 p=some (.dT []):=s2.keep p _ G9 NL;have Lb:p∉F2:=fun z=>by
    rcases s2.sub p z with h | h
    ·exact NL h
    ·rw[G9] at h;cases h
   obtain⟨b,xs,rfl,k1,k2⟩:=(show CL H2 (.tup kk) x from w1.mono s2.tup.tup);refine⟨b,kk,rfl,⟨Pr,b,xs,rfl,k1,k2⟩,Fx,?_⟩;have Dc:y_ H2 (L2.upd H2 p<|.dT [(kk,y)]):=y_.of (fun a xs e=>by
    have:a≠p:=fun z=>by subst z;rw[Fx] at e;cases e
    rw[aw this];exact e) fun a o u e=>by
    have:a≠p:=fun z=>by subst z;rw[Fx] at e;cases e
    rw[aw this];exact e
   refine q _ _ F2 [p] (o_.mono Dc fun a ha o e=>by
    have ne:a≠p:=fun z=>by subst z;exact Lb ha
    rw[aw ne];exact e) ⟨p,[(kk,y)],rfl,aW,.cons ⟨rfl,w2.mono Dc.tup⟩ .nil,rfl⟩ ?_
   refine⟨fun a o e ha=>?_,fun a ha=>?_,?_,?_,fun a o e=>?_⟩
   ·have:a≠p:=fun z=>by subst z;rw[hp] at e;cases e
    rw[aw this];exact IA.keep a o (by rw[aw this];exact e) ha
   ·rcases mem_append.mp ha with h | h
    ·rcases IA.sub a h with h' | h'
     ·exact .inl h'
     ·by_cases e:a=p
      ·exact .inr (e ▸ hp)
      ·rw[aw e] at h';exact .inr h'
    ·exact .inr (by rw[mem_singleton.mp h];exact hp)
   ·exact nodup_append.mpr ⟨s2.nd,pairwise_singleton _ _,fun a ha b hb e=>Lb (by rw[mem_singleton.mp hb] at e;rw[<- e];exact ha)⟩
   ·exact (s.tupS.trans IA.tup).trans Dc
   ·by_cases z:a=p
    ·exact⟨_,by rw[z];exact aW⟩
    ·obtain⟨o',e'⟩:=IA.grow a o (by rw[aw z];exact e);exact⟨o',by rw[aw z];exact e'⟩
  ·cases h4
 ·cases h4
end
section
variable{prog:Program}{w:World}{A:Around}{E:Value->Shared->Prop}{s:Shared}
end
section
variable{prog:Program}{w:World}{A:Around}{E:Value->Shared->Prop}{s:Shared}
end
section
open PySem.SeqAt
open PySem.AutoSeq1 (wpAny_loadPart')
open PySem.MeetsSeq PySem.MeetsSeq2 PySem.MeetsSeq3
end
section
variable{X:Cx}
end
section
variable{prog:Program}{w:World}{A:Around}{E:Value->Shared->Prop}{s:Shared}
end
section
variable{prog:Program}{w:World}{A:Around}{E:Value->Shared->Prop}{s:Shared}
end
section
variable{X:Cx}
end
section
variable{X:Cx}
end
mutual
def Lc:Im->PyData
 | .int i=>.int i
 | .bl b=>.bool b
 | .str x=>.str x
 | .tup ds=>.tuple (ii ds)
 | _=>.none
def ii:List Im->List PyData
 | []=>[]
 | d::r=>Lc d::ii r
end
mutual
theorem yL{h:Heap}:∀ {n:Nat}{d:Im}{u:Value},Im.pl n d=true->Dq h d u->Reads h u (Lc d) []
 | _,.j_,u,_,e=>by cases (show u=.none from e);exact .none
 | _,.bl b,u,_,e=>by cases (show u=.bool b from e);exact .bool b
 | _,.int i,u,_,e=>by obtain⟨t,rfl⟩:=e;exact .int i t
 | _,.str x,u,_,e=>by obtain⟨t,rfl⟩:=e;exact .str x t
 | n+1,.tup ds,u,k,e=>by
  obtain⟨a,o,items,m,rfl,h1,h2,h3,h4⟩:=e;exact .tuple h1 h2 h3 (qN (n:=n) k h4)
 | 0,.tup ds,u,k,e=>by cases k
 | n,.fn a,u,k,e=>by cases n<;>cases k
 | n,.fl a,u,k,e=>by cases n<;>cases k
 | n,.fd,u,k,e=>by cases n<;>cases k
theorem qN{h:Heap}:∀ {n:Nat}{ds:List Im}{us:List Value},Im.pls n ds=true->aG h ds us->ReadsAll h us (ii ds) []
 | _,[],us,_,e=>by rw[show us=[] from e];exact .nil
 | n,d::ds,us,k,e=>by
  obtain⟨v,r,rfl,h1,h2⟩:=e;rw[Im.pls,and_eq_true] at k;exact .cons (yL k.1 h1) (qN k.2 h2)
end
mutual
theorem yM:∀ d:Im,PyData.hasDict (Lc d)=false
 | .j_=>rfl
 | .bl _=>rfl
 | .int _=>rfl
 | .str _=>rfl
 | .fn _=>rfl
 | .fl _=>rfl
 | .fd=>rfl
 | .tup ds=>qO ds
theorem qO:∀ ds:List Im,PyData.hasDictAll (ii ds)=false
 | []=>rfl
 | d::r=>by
  show (PyData.hasDict (Lc d) || PyData.hasDictAll (ii r))=false;rw[yM d,qO r];rfl
end
section
variable{X:Cx}
end
section
variable{prog:Program}{w:World}{A:Around}{E:Value->Shared->Prop}{s:Shared}
end
section
variable{X:Cx}
end
end L2
namespace G
open PySem L2
variable{h:Vl}{n:Nat}{m:Int}{ks:List (Int×Int)}{b a:Int×Int}
abbrev iI(i:Int):Vl:=.im (.int i)
def cM(p:Int×Int):Im:=.tup [.int p.1,.int p.2]
abbrev cT(ps:List (Int×Int)):Vl:=.im (.tup<|ps.map cM)
abbrev cL(ps:List (Int×Int)):Vl:=.lst (ps.map cM)
abbrev lf(d s t:Int):Vl:=.lst [.int d,.int s,.int t]
def kM(p:Int×Int):List Im:=[.int p.1,.int p.2]
theorem qP(p:Int×Int):cM p=.tup (kM p):=rfl
theorem ma(h:kM a=kM b):a=b:=by
 unfold kM at h;simp at h;exact Prod.ext h.1 h.2
theorem yN(h:cM a=cM b):a=b:=by
 rw[qP,qP] at h;exact ma (by injection h)
theorem yO(p:Int×Int):Im.keys 7 (kM p)=true:=rfl
def uC:Im->Int×Int
 | .tup [.int a,.int b]=>(a,b)
 | _=>(0,0)
theorem qQ(p:Int×Int):uC (cM p)=p:=rfl
theorem jO(p:Int×Int):Im.pl 8 (cM p)=true:=rfl
theorem jP:∀ ps:List (Int×Int),Im.pls 8 (ps.map cM)=true
 | []=>rfl
 | p::r=>by rw[map_cons,Im.pls,jO,jP r];rfl
theorem md(a b:Int×Int):av (cM a) (cM b)=decide (a=b):=by
 show ((a.1 == b.1) && ((a.2 == b.2) && true))=_;obtain⟨a1,a2⟩:=a;obtain⟨b1,b2⟩:=b;by_cases h1:a1=b1<;>by_cases h2:a2=b2<;>simp[h1,h2]
theorem yP(ps:List (Int×Int))(c:Int×Int):((ps.map cM).any fun x=>av x<|cM c)=decide (c∈ps):=by
 rw[any_map,Bool.eq_iff_iff,any_eq_true,decide_eq_true_iff];constructor
 ·rintro⟨x,hx,e⟩;have:decide (x=c)=true:=by rw[<- md];exact e
  rw[<- of_decide_eq_true this];exact hx
 ·intro h;refine⟨c,h,?_⟩;show av (cM c) (cM c)=true;rw[md];exact decide_eq_true rfl
theorem qR:∀ (l:List Im) (ks:List (Int×Int)),(∀ x∈l,x∈ks.map cM)->l=(l.map uC).map cM
 | [],_,_=>rfl
 | x::l,ks,h=>by
  obtain⟨p,_,e⟩:=mem_map.mp (h x<|.head _);rw[map_cons,map_cons,<- qR l ks fun y hy=>h y<|.tail _ hy,<- e,qQ]
theorem yQ{l:List Im}(h:l.Perm (ks.map cM)):∃ ms:List (Int×Int),ms.Perm ks/\l=ms.map cM:=by
 refine⟨l.map uC,?_,qR l ks fun x hx=>h.mem_iff.mp hx⟩;have:=List.Perm.map uC h;rw[List.map_map] at this;have e:(uC ∘ cM:Int×Int->Int×Int)=id:=funext qQ;rw[e,map_id] at this;exact this
theorem gr(nd:ks.Nodup)(hl:ks.length<=1000):CW (ks.map cM):=by
 refine⟨⟨by rw[length_map];exact hl,fun a ha b hb=>?_,?_⟩,.inl fun d hd=>?_⟩
 ·obtain⟨x,_,rfl⟩:=mem_map.mp ha;obtain⟨y,_,rfl⟩:=mem_map.mp hb;rfl
 ·exact List.Pairwise.map cM (fun a b n e=>n<|yN e) nd
 ·obtain⟨x,_,rfl⟩:=mem_map.mp hd;rfl
theorem yR{kvs:List (List Im×Im)}{k:List Im}:(bo kvs k).isSome=kvs.any fun p=>decide (p.1=k):=by
 unfold bo;rw[isSome_map,List.isSome_find?]
def mt(ks:List (Int×Int)):List (List Im×Im):=ks.map fun c=>(kM c,.bl true)
theorem me(ks:List (Int×Int))(c:Int×Int):((mt ks).any fun p=>decide (p.1=kM c))=decide (c∈ks):=by
 unfold mt;rw[any_map,Bool.eq_iff_iff,any_eq_true,decide_eq_true_iff];constructor
 ·rintro⟨x,hx,e⟩;have:kM x=kM c:=of_decide_eq_true e;rw[<- ma this];exact hx
 ·intro h;exact⟨c,h,decide_eq_true rfl⟩
theorem yS(ks:List (Int×Int))(c:Int×Int):(bo (mt ks)<|kM c).isSome=decide (c∈ks):=by rw[yR,me]
theorem yT{c:Int×Int}(h:c∉ks):eE (mt ks) (kM c) (.bl true)=mt (ks++[c]):=by
 unfold eE;rw[if_neg (by rw[me];simpa using h)];unfold mt;rw[map_append];rfl
theorem yU(ks:List (Int×Int)):((mt ks).map fun p=>Im.tup p.1)=ks.map cM:=by
 unfold mt;rw[List.map_map];rfl
noncomputable def mf:MS:=(am (aA 2<|eC<|.int 0)<|am (sIf (kB<|ad vLt (oSl 1)<|oV<|az vLen<|aa (oSl 0) aNil) (aA 2<|ad vIx (oSl 0)<|oSl 1) sNil)<|am (aA 3<|ad vMul (oV<|ad vMul (oV<|ad vPow (oV<|eC<|.int 10)<|oV<|eC<|.int 60)<|oV<|ad vPow (oV<|eC<|.int 10)<|oV<|eC<|.int 60)<|oV<|ad vPow (oV<|eC<|.int 10)<|oV<|eC<|.int 60)<|am (aA 4<|ad vMul (oV<|ad vMod (oSl 2)<|oSl 3)<|oV<|az vInt<|aa (oV<|ad vGe (oSl 2)<|oV<|ad vPow (oV<|eC<|.int 10)<|oV<|eC<|.int 18) aNil)<|aU<|aT<|aa (oSl 4)<|aa (oV<|ad vAdd (oV<|ad vAdd (oV<|ad vMod (oSl 2)<|oV<|eC<|.int 2305843009213693951)<|oV<|ad vMul (oV<|eC<|.int 7919)<|oSl 1)<|oV<|eC<|.int 3)<|aa (oV<|eC<|.int 0) aNil)
noncomputable def gs:Fn:=bb 2 5 [0,1] mf
noncomputable def mh:MS:=(am (sIf (kB<|ad vGt (oV<|ad vIx (oSl 0)<|oV<|eC<|.int 0)<|oV<|eC<|.int 0) (am (aA 2<|ad vMod (oV<|ad vIx (oSl 0)<|oV<|eC<|.int 0)<|oSl 1)<|am (cE (ad vDiv (oV<|ad vIx (oSl 0)<|oV<|eC<|.int 0)<|oSl 1)<|gIx 0 (eC<|.int 0) putV)<|aU<|bK 2) sNil)<|am (cE (ad vAdd (oV<|ad vIx (oSl 0)<|oV<|eC<|.int 2)<|oV<|eC<|.int 1)<|gIx 0 (eC<|.int 2) putV)<|am (aA 3<|ad vIx (oSl 0)<|oV<|eC<|.int 2)<|am (aA 4<|ad vMod (oV<|ad vMul (oV<|ad vIx (oSl 0)<|oV<|eC<|.int 1)<|oV<|ad vAdd (oV<|ad vAdd (oV<|eC<|.int 48271)<|oV<|ad vMul (oV<|ad vMul (oV<|eC<|.int 2)<|oSl 3)<|oSl 3)<|oV<|ad vMul (oV<|eC<|.int 65537)<|oSl 3)<|oV<|eC<|.int 2305843009213693921)<|am (aA 5<|ad vAdd (oV<|ad vAdd (oV<|ad vMod (oSl 4)<|oV<|eC<|.int 1000003)<|oV<|ad vMul (oSl 3)<|oV<|eC<|.int 99991)<|oV<|eC<|.int 11)<|am (aA 4<|ad vMod (oV<|ad vMul (oSl 4)<|oSl 5)<|oV<|eC<|.int 2305843009213693907)<|aU<|ad vMod (oV<|ad vAdd (oV<|ad vDiv (oSl 4)<|oV<|eC<|.int 97)<|oV<|ad vDiv (oSl 4)<|oV<|eC<|.int 1000033)<|oSl 1)
noncomputable def bf:Fn:=bb 2 6 [0,1] mh
noncomputable def mo:MS:=(aU<|ad vIx (oSl 1)<|oV<|au 2 G.bf<|aa (oSl 0)<|aa (oV<|az vLen<|aa (oSl 1) aNil) aNil)
noncomputable def cw:Fn:=bb 2 2 [0,1] mo
def ij(s u:Int):Int:=s * (48271+2 * u * u+65537 * u) % 2305843009213693921
def qS(s u:Int):Int:=ij s u * (ij s u % 1000003+u * 99991+11) % 2305843009213693907 / 97+ij s u * (ij s u % 1000003+u * 99991+11) % 2305843009213693907 / 1000033
abbrev hd(d s t:Int):Vl:=.lst [.int d,.int s,.int t]
theorem yV{d s t:Int}(NM:0<=d)(Qt:0<=s)(Ms:s<2 ^ 63)(Qu:0<=t)(Qw:t<2 ^ 60)(Jd:0<m)(Ld:m<1073741824):
  ∃ v d' t',bf [hd d s t,.im<|.int m]=some (.im<|.int v,[hd d' s t',.im<|.int m])/\0<=v/\v<m/\0<=d'/\t<=t'/\t'<=t+1:=by
 by_cases h:0<d
 ·refine⟨d % m,d / m,t,?_,emod_nonneg _ (by omega),emod_lt_of_pos _ Jd,Int.ediv_nonneg NM (by omega),by omega,by omega⟩;simp -implicitDefEqProofs [bf,mh,Eu,GF,h,Jd,Ld]
 ·have e1:bO 2 (t+1)=true:=gf (by decide) (by decide);have e2:bO (2 * (t+1)) (t+1)=true:=lP (by omega) (by omega);have e3:bO 65537 (t+1)=true:=gf (by decide) (by decide);have e4:∀ x,bO s x=true:=fun x=>gf (by omega) (by omega);have e5:bO (t+1) 99991=true:=lP (by decide) (by decide);have e6:∀ x y,bO (x % 2305843009213693921) y=true:=fun x y=>gf (by have:=emod_nonneg x (show (2305843009213693921:Int)≠0 by decide);omega) (by have:=emod_lt_of_pos x (show (0:Int)<2305843009213693921 by decide);omega);refine⟨qS s (t+1) % m,d,t+1,?_,emod_nonneg _ (by omega),emod_lt_of_pos _ Jd,NM,by omega,by omega⟩;simp -implicitDefEqProofs [bf,mh,Eu,GF,h,Jd,Ld,e1,e2,e3,e4,e5,e6,qS,ij]
def aV(n:Nat)(h:Vl):Prop:=∃ d s t,h=hd d s t/\0<=d/\0<=s/\s<2 ^ 63/\0<=t/\t+n<2 ^ 60
theorem aV.mono{m:Nat}(x:aV n h)(e:m<=n):aV m h:=by
 obtain⟨d,s,t,rfl,h1,h2,h3,h4,h5⟩:=x;exact⟨d,s,t,rfl,h1,h2,h3,h4,by omega⟩
theorem dN(x:aV (n+1) h)(Jd:0<m)(Ld:m<1073741824):∃ v h',bf [h,.im<|.int m]=some (.im<|.int v,[h',.im<|.int m])/\0<=v/\v<m/\aV n h':=by
 obtain⟨d,s,t,rfl,h1,h2,h3,h4,h5⟩:=x;obtain⟨v,d',t',e,e1,e2,e3,e4,e5⟩:=yV (m:=m) h1 h2 h3 h4 (by omega) Jd Ld;exact⟨v,hd d' s t',e,e1,e2,d',s,t',rfl,e3,h2,h3,by omega,by omega⟩
theorem bg(x:aV n h):∃ ds,h=.lst ds:=by
 obtain⟨d,s,t,rfl,_⟩:=x;exact⟨_,rfl⟩
theorem yW{ns:List Int}{k:Int}(hk:0<=k)(EK:k<1000):∃ h,gs [.fz (ns.map .int),.im<|.int k]=some (h,[.fz (ns.map .int),.im<|.int k])/\aV 1000000 h:=by
 have key:∀ c:Int,aV 1000000 (hd (c % (10 ^ 60 * 10 ^ 60 * 10 ^ 60) * (if 10 ^ 18<=c then 1 else 0)) (c % 2305843009213693951+7919 * k+3) 0):=fun c=>by
  have h1:=emod_nonneg c (show (10 ^ 60 * 10 ^ 60 * 10 ^ 60:Int)≠0 by decide);have h2:=emod_nonneg c (show (2305843009213693951:Int)≠0 by decide);have h3:=emod_lt_of_pos c (show (0:Int)<2305843009213693951 by decide);refine⟨_,_,_,rfl,?_,by omega,by omega,Int.le_refl 0,by decide⟩;split
  ·rw[Int.mul_one];exact h1
  ·rw[Int.mul_zero];exact Int.le_refl 0
 have p1:bO (10 ^ 60) (10 ^ 60)=true:=by decide +kernel
 have p2:bO (10 ^ 60 * 10 ^ 60) (10 ^ 60)=true:=by decide +kernel
 have p3:∀ x c:Int,bO x (if 10 ^ 18<=c then 1 else 0)=true:=fun x c=>lP (by split<;>decide) (by split<;>decide);have p4:bO 7919 k=true:=gf (by decide) (by decide);have q0:(10:Nat)<2 ^ 64:=by decide
 have q1:(0:Int)<10 ^ 60 * 10 ^ 60 * 10 ^ 60:=by decide
 by_cases hl:k<(ns.length:Int)
 ·obtain⟨c,hc⟩:∃ c,ns[k.toNat]?=some c:=⟨ns[k.toNat]'(by omega),by simp⟩;have Kc:Eu (ns.map Im.int) k=some (.int c):=jC hk (by rw[List.getElem?_map,hc];rfl);refine⟨_,?_,key c⟩;simp -implicitDefEqProofs [gs,mf,hl,Kc,p1,p2,p3,p4,q0,q1,-Int.reducePow,-Nat.reducePow]
 ·refine⟨_,?_,key 0⟩;simp -implicitDefEqProofs [gs,mf,hl,p1,p2,p3,p4,q0,q1,-Int.reducePow,-Nat.reducePow]
theorem jQ{xs:List Im}(x:aV (n+1) h)(h0:xs≠[])(h1:xs.length<1073741824):∃ d h',cw [h,.lst xs]=some (.im d,[h',.lst xs])/\d∈xs/\aV n h':=by
 have hl:0<xs.length:=List.length_pos_iff.mpr h0;obtain⟨v,h',e,e1,e2,e3⟩:=dN (m:=xs.length) x (by omega) (by omega);obtain⟨d,hd⟩:∃ d,xs[v.toNat]?=some d:=⟨xs[v.toNat]'(by omega),by simp⟩;have Kc:Eu xs v=some d:=jC e1 hd;obtain⟨q,rfl⟩:=bg x;obtain⟨q',rfl⟩:=bg e3;refine⟨d,.lst q',?_,mem_of_getElem? hd,e3⟩;simp -implicitDefEqProofs [cw,mo,e,Kc]
end G
namespace L2
open PySem PySem.Spec PyProof.Rows
variable{g nl n2 slot ep n i m:Nat}{items pl:Array Value}{l a2 S I a:Addr}{P:List Im->Addr->Prop}{w:World}{o2 o:Obj}{f0 x:Value}{h' h:Heap}{ks:List (List Im)}{Q:Option Value->Shared->Prop}{s:Shared}{es:Array (Int×Value)}{ps:List Nat}{ow:Array (Option Nat)}{β α:Type}{hs:List Int}{k:List Im}{led:Bool}{t:SetTable}{xs:Array Nat}
abbrev cb(xs:Array Nat):Prop:=xs.toList.Pairwise (· < ·)
theorem ik(r:cb xs){i k:Nat}{d:Nat}(h:i<k)(hk:k<xs.size):xs.getD i d<xs.getD k d:=by
 have hi:i<xs.size:=lt_trans h hk;have e:∀ m (hm:m<xs.size),xs.getD m d=xs.toList[m]'(by simpa using hm):=fun m hm=>by simp[Array.getD,hm]
 rw[e i hi,e k hk];exact pairwise_iff_getElem.mp r i k _ _ h
theorem mq(xs:Array Nat)(r:cb xs)(j:Nat):∀ (fuel lo hi:Nat),hi - lo<=fuel->lo<=hi->hi<=xs.size->(∀ i,i<lo->xs.getD i j<j)->(∀ i,hi<=i->i<xs.size->j<=xs.getD i j)->
  (SetTable.below.go xs j fuel lo hi<=xs.size/\(∀ i,i<SetTable.below.go xs j fuel lo hi->xs.getD i j<j)/\∀ i,SetTable.below.go xs j fuel lo hi<=i->i<xs.size->j<=xs.getD i j)
 | 0,lo,hi,h1,h2,h3,a,b=>by
  have e:lo=hi:=by lia
  subst e;exact⟨h3,a,b⟩
 | fuel+1,lo,hi,h1,h2,h3,a,b=>by
  unfold SetTable.below.go;by_cases h:lo<hi
  ·rw[if_pos h];dsimp only;by_cases hm:xs.getD ((lo+hi) / 2) j<j
   ·rw[if_pos hm];refine mq xs r j fuel _ _ (by lia) (by lia) h3 (fun i Ej=>?_) b;rcases lt_or_ge i ((lo+hi) / 2) with h' | h'
    ·exact lt_trans (ik r h' (by lia)) hm
    ·have:i=(lo+hi) / 2:=by lia
     rw[this];exact hm
   ·rw[if_neg hm];refine mq xs r j fuel _ _ (by lia) (by lia) (by lia) a (fun i Ej Dz=>?_);rcases lt_or_ge ((lo+hi) / 2) i with h' | h'
    ·exact le_of_lt (Nat.lt_of_le_of_lt (Nat.not_lt.mp hm)<|ik r h' Dz)
    ·have:i=(lo+hi) / 2:=by lia
     rw[this];exact Nat.not_lt.mp hm
  ·rw[if_neg h];have e:lo=hi:=by lia
   subst e;exact⟨h3,a,b⟩
theorem jR(r:cb xs)(j:Nat):SetTable.below xs j<=xs.size/\(∀ i,i<SetTable.below xs j->xs.getD i j<j)/\∀ i,SetTable.below xs j<=i->i<xs.size->j<=xs.getD i j:=
 mq xs r j xs.size 0 xs.size (by lia) (by lia) (by lia) (fun i h=>absurd h<|not_lt_zero _) fun i h h'=>absurd h' (by lia)
theorem mr(r:cb xs){i j:Nat}(h:xs[i]?=some j):SetTable.below xs j=i:=by
 obtain⟨a,b,c⟩:=jR r j;obtain⟨hi,e⟩:=Array.getElem?_eq_some_iff.mp h;have ei:xs.getD i j=j:=by simp[Array.getD,hi,e]
 rcases Nat.lt_trichotomy (SetTable.below xs j) i with h1 | h1 | h1
 ·have h2:=c _ (Nat.le_refl _) (lt_trans h1 hi);have h3:=ik r (d:=j) h1 hi;lia
 ·exact h1
 ·have:=b i h1;lia
theorem yX(r:cb xs){i j:Nat}(h:xs[i]?=some j):SetTable.below xs (j+1)=i+1:=by
 obtain⟨a,b,c⟩:=jR r (j+1);obtain⟨hi,e⟩:=Array.getElem?_eq_some_iff.mp h;have ei:xs.getD i (j+1)=j:=by simp[Array.getD,hi,e]
 rcases Nat.lt_trichotomy (SetTable.below xs<|j+1) (i+1) with h1 | h1 | h1
 ·have:=c i (by lia) hi;lia
 ·exact h1
 ·have h2:=b (i+1) h1;have h3:=ik r (d:=j+1) (lt_succ_self i) (by lia);lia
theorem yY(r:cb xs):SetTable.below xs 0=0:=by
 obtain⟨a,b,c⟩:=jR r 0;rcases Nat.eq_zero_or_pos (SetTable.below xs 0) with h | h
 ·exact h
 ·exact absurd (b 0 h) (not_lt_zero _)
theorem yZ(r:cb xs){j:Nat}(h:¬ (xs[SetTable.below xs j]?=some j)):cb (SetTable.insertAt xs (SetTable.below xs j) j):=by
 obtain⟨a,b,c⟩:=jR r j;unfold cb;rw[SetTable.toList_insertAt];refine List.pairwise_append.mpr ⟨List.Pairwise.sublist (take_sublist _ _) r,pairwise_cons.mpr ⟨fun y hy=>?_,List.Pairwise.sublist (drop_sublist _ _) r⟩,fun x hx y hy=>?_⟩
 ·obtain⟨k,hk,rfl⟩:=mem_iff_getElem.mp hy;rw[getElem_drop];have hs:SetTable.below xs j+k<xs.size:=by simp at hk;lia
  have h1:=c (SetTable.below xs j+k) (le_add_right _ _) hs;have e:xs.getD (SetTable.below xs j+k) j=xs.toList[SetTable.below xs j+k]:=by simp[Array.getD,hs]
  rw[e] at h1;refine Nat.lt_of_le_of_ne h1 fun he=>?_;rcases Nat.eq_zero_or_pos k with h0 | h0
  ·subst h0;apply h;rw[Array.getElem?_eq_some_iff];exact⟨by lia,by simpa using he.symm⟩
  ·have h2:=ik r (d:=j) (Nat.lt_add_of_pos_right (n:=SetTable.below xs j) h0) hs;have h3:=c (SetTable.below xs j) (Nat.le_refl _) (by lia);rw[e] at h2;exact absurd he (ne_of_lt<|Nat.lt_of_le_of_lt h3 h2)
 ·obtain⟨k,hk,rfl⟩:=mem_iff_getElem.mp hx;rw[getElem_take];have DM:k<SetTable.below xs j:=by simp at hk;lia
  have hs:k<xs.size:=by lia
  have h1:=b k DM;have e:xs.getD k j=xs.toList[k]:=by simp[Array.getD,hs]
  rw[e] at h1;rcases mem_cons.mp hy with rfl | hy
  ·exact h1
  ·obtain⟨m,hm,rfl⟩:=mem_iff_getElem.mp hy;rw[getElem_drop];have G':SetTable.below xs j+m<xs.size:=by simp at hm;lia
   have h2:=c (SetTable.below xs j+m) (le_add_right _ _) G';have e2:xs.getD (SetTable.below xs j+m) j=xs.toList[SetTable.below xs j+m]:=by simp[Array.getD,G']
   rw[e2] at h2;exact lt_of_lt_of_le h1 h2
structure Dv(t:SetTable)(led:Bool):Prop where
 rise:cb t.place
 Je:t.dummies=#[]
 led:t.led=led
theorem Dv.Go(h:Dv t led)(b:Bool):Dv { t with plain:=b } led:=⟨h.rise,h.Je,h.led⟩
theorem qT(j:Nat):SetTable.has #[] j=false:=rfl
theorem y3(hd:t.dummies=#[])(j:Nat):(∃ i,t.slot j=.live i)\/(t.slot j=.empty/\¬ (t.place[SetTable.below t.place j]?=some j)):=by
 unfold SetTable.slot;dsimp only;by_cases h:(t.place[SetTable.below t.place j]? == some j)=true
 ·rw[if_pos h];exact .inl ⟨_,rfl⟩
 ·rw[if_neg h,hd,qT];exact .inr ⟨rfl,fun e=>h (by rw[e];exact beq_self_eq_true _)⟩
theorem Dv.put(h:Dv t led){j:Nat}(hj:¬ (t.place[SetTable.below t.place j]?=some j)):Dv (t.put j).1 led:=by
 refine⟨yZ h.rise hj,?_,h.led⟩;show (if SetTable.has t.dummies j=true then _ else t.dummies)=#[];rw[h.Je,qT];rfl
theorem y4{mask finger moves:Nat}{plain:Bool}{hs:Array Int}{o:Array Nat}(e:SetTable.laid mask finger moves led plain hs=some (t,o)):Dv t led:=by
 unfold SetTable.laid at e;cases h:SetTable.layClean mask hs with
 | none=>rw[h] at e;cases e
 | some ow=>
  rw[h] at e;cases e;refine⟨?_,rfl,rfl⟩;show (List.map (fun x:Nat×Nat=>x.1)<|List.filterMap (fun j=>Option.map (fun x=>(j,x))<|ow.getD j none)<|range<|mask+1).Pairwise (· < ·);rw[List.map_filterMap];refine List.Pairwise.filterMap _ (R:=(· < ·)) (fun a b Kd x hx y hy=>?_) List.pairwise_lt_range;cases ha:ow.getD a none with
  | none=>rw[ha] at hx;cases hx
  | some u=>
   cases hb:ow.getD b none with
   | none=>rw[hb] at hy;cases hy
   | some v=>
    rw[ha] at hx;rw[hb] at hy;cases hx;cases hy;exact Kd
def gu(m:Nat)(p:SetTable.Probe):SetTable.Probe:=
 if p.more > 0 then { p with j:=p.j+1,more:=p.more - 1 } else
 { p with j:=(SetTable.leap m p.i p.perturb).1,more:=SetTable.runEnd m (SetTable.leap m p.i p.perturb).1 - (SetTable.leap m p.i p.perturb).1,i:=(SetTable.leap m p.i p.perturb).1,perturb:=(SetTable.leap m p.i p.perturb).2 }
def Jf(m i pt:Nat):SetTable.Probe:={ j:=i,more:=SetTable.runEnd m i - i,i:=i,perturb:=pt,dummy:=none }
def CI(m:Nat)(h:Int):Nat->SetTable.Probe
 | 0=>Jf m (SetTable.bits h % (m+1)) (SetTable.bits h)
 | k+1=>gu m (CI m h k)
def CS(m:Nat)(h:Int):Nat->Nat×Nat
 | 0=>(SetTable.bits h % (m+1),SetTable.bits h)
 | q+1=>SetTable.leap m (CS m h q).1 (CS m h q).2
theorem mv(m:Nat)(h:Int):∀ k,(CI m h k).dummy=none
 | 0=>rfl
 | k+1=>by
  rw[CI,gu];split
  ·exact mv m h k
  ·exact mv m h k
theorem y6(m i:Nat):SetTable.runEnd m i - i<=9:=by
 unfold SetTable.runEnd;split<;>lia
theorem gw{m:Nat}{h:Int}{k i pt:Nat}(e:CI m h k=Jf m i pt):∀ r,r<=SetTable.runEnd m i - i->CI m h (k+r)={ Jf m i pt with j:=i+r,more:=SetTable.runEnd m i - i - r }
 | 0,_=>e
 | r+1,hr=>by
  show gu m (CI m h<|k+r)=_;rw[gw e r (by lia),gu,if_pos (show SetTable.runEnd m i - i - r > 0 by lia)];rfl
theorem y7{h:Int}{k pt:Nat}(e:CI m h k=Jf m i pt):CI m h (k+(SetTable.runEnd m i - i)+1)=Jf m (SetTable.leap m i pt).1 (SetTable.leap m i pt).2:=by
 show gu m (CI m h<|k+(SetTable.runEnd m i - i))=_;rw[gw e _ (Nat.le_refl _),gu,if_neg (show ¬ (SetTable.runEnd m i - i - (SetTable.runEnd m i - i) > 0) by lia)];rfl
def kq(m:Nat)(h:Int):Nat->Nat
 | 0=>0
 | q+1=>kq m h q+(SetTable.runEnd m (CS m h q).1 - (CS m h q).1)+1
theorem gx(m:Nat)(h:Int):∀ q,CI m h (kq m h q)=Jf m (CS m h q).1 (CS m h q).2
 | 0=>rfl
 | q+1=>y7 (gx m h q)
theorem qU(m:Nat)(h:Int):∀ q,kq m h q<=10 * q
 | 0=>Nat.le_refl _
 | q+1=>by
  have:=qU m h q;have:=y6 m (CS m h q).1;show kq m h q+_+1<=_;lia
theorem qV(m:Nat)(h:Int):∀ k,∃ q r,k=kq m h q+r/\r<=SetTable.runEnd m (CS m h q).1 - (CS m h q).1
 | 0=>⟨0,0,rfl,zero_le _⟩
 | k+1=>by
  obtain⟨q,r,e,hr⟩:=qV m h k;by_cases z:r+1<=SetTable.runEnd m (CS m h q).1 - (CS m h q).1
  ·exact⟨q,r+1,by lia,z⟩
  ·exact⟨q+1,0,by show _=kq m h q+_+1+0;lia,zero_le _⟩
def FB(m:Nat):Nat->Nat->Nat
 | 0,x=>x
 | k+1,x=>(FB m k x * 5+1) % (m+1)
theorem il(m:Nat)(a x:Nat):∀ b,FB m (a+b) x=FB m b (FB m a x)
 | 0=>rfl
 | b+1=>by
  show (FB m (a+b) x * 5+1) % (m+1)=_;rw[il m a x b];rfl
def Le(m:Nat):Nat->Nat->Nat->Nat
 | 0,_,acc=>acc
 | k+1,x,acc=>Le m k ((x * 5+1) % (m+1)) (acc ||| 2 ^ x)
theorem y8(m k x:Nat):FB m k ((x * 5+1) % (m+1))=FB m (k+1) x:=by
 rw[add_comm k 1,il];rfl
theorem qW{m:Nat}:∀ {n x y acc:Nat},(Le m n x acc).testBit y=true->acc.testBit y=true\/∃ k,k<n/\FB m k x=y
 | 0,_,_,_,h=>.inl h
 | n+1,x,y,acc,h=>by
  rcases qW (n:=n) h with h | ⟨k,h1,h2⟩
  ·rw[Nat.testBit_or,or_eq_true] at h;rcases h with h | h
   ·exact .inl h
   ·rw[Nat.testBit_two_pow,decide_eq_true_iff] at h;exact .inr ⟨0,succ_pos _,h⟩
  ·exact .inr ⟨k+1,Nat.succ_lt_succ h1,by rw[<- y8];exact h2⟩
def mw(m:Nat):Bool:=beq (Le m (m+1) 0 0) (2 ^ (m+1) - 1) && beq (FB m (m+1) 0) 0
theorem y9(c:mw m=true){a x:Nat}(ha:a<=m)(hx:x<=m):∃ k,k<=m/\FB m k a=x:=by
 rw[mw,and_eq_true] at c;have z:=Nat.eq_of_beq_eq_true c.2;have all:∀ y,y<=m->∃ k,k<m+1/\FB m k 0=y:=fun y hy=>by
  have q:(Le m (m+1) 0 0).testBit y=true:=by
   rw[Nat.eq_of_beq_eq_true c.1,Nat.testBit_two_pow_sub_one];exact decide_eq_true (Nat.lt_succ_of_le hy)
  rcases qW q with h | h
  ·rw[Nat.zero_testBit] at h;cases h
  ·exact h
 obtain⟨ka,h1,rfl⟩:=all a ha;obtain⟨kx,h2,rfl⟩:=all x hx;rcases lt_or_ge kx ka with h | h
 ·refine⟨kx+(m+1 - ka),by lia,?_⟩;rw[<- il,show ka+(kx+(m+1 - ka))=(m+1)+kx by lia,il,z]
 ·refine⟨kx - ka,by lia,?_⟩;rw[<- il,show ka+(kx - ka)=kx by lia]
def GM(m:Nat):Prop:=m=7\/m=31\/m=127\/m=511
theorem GM.Ps(g:GM m):mw m=true:=by
 rcases g with rfl | rfl | rfl | rfl<;>decide +kernel
theorem zc(h:Int):SetTable.bits h<2 ^ 64:=by
 unfold SetTable.bits;have h1:=emod_nonneg h (show (2 ^ 64:Int)≠0 by decide);have h2:=emod_lt_of_pos h (show (0:Int)<2 ^ 64 by decide);lia
theorem qX(m:Nat)(h:Int):∀ q,(CS m h q).2=SetTable.bits h / 32 ^ q
 | 0=>by rw[Nat.pow_zero,Nat.div_one];rfl
 | q+1=>by
  show (CS m h q).2 / 32=_;rw[qX m h q,Nat.div_div_eq_div_mul];rfl
theorem mx(m:Nat)(h:Int):∀ q,(CS m h q).1<=m
 | 0=>le_of_lt_succ (mod_lt _<|succ_pos _)
 | q+1=>le_of_lt_succ (mod_lt _<|succ_pos _)
theorem qY(m:Nat)(h:Int):∀ k,CS m h (13+k)=(FB m k (CS m h 13).1,0)
 | 0=>by
  have e:(CS m h 13).2=0:=by
   rw[qX];exact Nat.div_eq_of_lt (lt_trans (zc h) (by decide))
  show CS m h 13=((CS m h 13).1,0);rw[<- e]
 | k+1=>by
  show SetTable.leap m (CS m h<|13+k).1 (CS m h<|13+k).2=_;rw[qY m h k];show ((FB m k (CS m h 13).1 * 5+1+0 / 32) % (m+1),0 / 32)=_;rw[Nat.zero_div,Nat.add_zero];rfl
theorem qZ(g:GM m)(h:Int){x:Nat}(hx:x<=m):∃ q,q+1<SetTable.turns m/\(CS m h q).1=x:=by
 obtain⟨k,h1,h2⟩:=y9 g.Ps (mx m h 13) hx;exact⟨13+k,by unfold SetTable.turns;lia,by rw[qY];exact h2⟩
theorem zd(g:GM m)(h:Int){x:Nat}(hx:x<=m):∃ k,k<10 * SetTable.turns m/\(CI m h k).j=x:=by
 obtain⟨q,h1,h2⟩:=qZ g h hx;refine⟨kq m h q,by have:=qU m h q;lia,?_⟩;rw[gx];exact h2
theorem q8(h:i<=m):SetTable.runEnd m i<=m:=by unfold SetTable.runEnd;split<;>lia
theorem q9(m:Nat)(h:Int)(k:Nat):(CI m h k).j<=m:=by
 obtain⟨q,r,rfl,hr⟩:=qV m h k;rw[gw (gx m h q) r hr];have:=q8 (mx m h q);have e:SetTable.runEnd m (CS m h q).1 >= (CS m h q).1:=by unfold SetTable.runEnd;split<;>lia
 show (CS m h q).1+r<=m;lia
theorem io{α:Type}[DecidableEq α]:∀ {l m:List α},l.Nodup->(∀ x∈l,x∈m)->l.length<=m.length
 | [],m,_,_=>zero_le _
 | a::l,m,nd,h=>by
  have Gi:=nodup_cons.mp nd;have q:=io (l:=l) (m:=m.erase a) Gi.2 fun x hx=>(List.mem_erase_of_ne (fun e:x=a=>Gi.1<|e ▸ hx)).mpr (h x<|.tail _ hx);have ha:=h a (.head _);rw[List.length_erase_of_mem ha] at q;have:=List.length_pos_of_mem ha;rw[length_cons];lia
def He(m:Nat)(Fm:Nat->Prop)(h:Int)(j:Nat):Prop:=∃ k,(CI m h k).j=j/\∀ k',k'<k->Fm (CI m h k').j
theorem He.mono{Fm Ke:Nat->Prop}{h:Int}{j:Nat}(r:He m Fm h j)(i:∀ x,Fm x->Ke x):He m Ke h j:=let ⟨k,e,a⟩:=r;⟨k,e,fun k' z=>i _<|a k' z⟩
structure FC(t:SetTable)(hs:List Int):Prop where
 gm:GM t.mask
 len:t.place.size=hs.length
 loose:t.place.size * 5<t.mask * 3
 le:∀ j∈t.place.toList,j<=t.mask
 IC:∀ p∈t.place.toList.zip hs,He t.mask (·∈t.place.toList) p.2 p.1
theorem GM.pos(g:GM m):7<=m/\m<=511/\m % 2=1:=by rcases g with rfl | rfl | rfl | rfl<;>decide
theorem ze(r:cb t.place){j:Nat}(h:j∈t.place.toList):∃ i,t.slot j=.live i/\t.place[i]?=some j:=by
 obtain⟨i,hi,e⟩:=mem_iff_getElem.mp h;have e':t.place[i]?=some j:=by
  rw[<- getElem?_toList,List.getElem?_eq_getElem hi,e]
 refine⟨i,?_,e'⟩;unfold SetTable.slot;dsimp only;rw[mr r e',e',if_pos<|beq_self_eq_true _]
theorem zf(hd:t.dummies=#[]){j:Nat}(h:j∉t.place.toList):t.slot j=.empty:=by
 rcases y3 hd j with ⟨i,e⟩ | ⟨e,_⟩
 ·unfold SetTable.slot at e;dsimp only at e;split at e
  ·next q=>
   have q':=eq_of_beq q;refine absurd ?_ h;rw[<- getElem?_toList] at q';exact mem_of_getElem? q'
  ·split at e<;>cases e
 ·exact e
theorem FC.some(H:FC t hs)(h:Int):∃ k,k<10 * SetTable.turns t.mask/\(CI t.mask h k).j∉t.place.toList:=by
 have:∃ x,x<=t.mask/\x∉t.place.toList:=by
  refine Classical.byContradiction fun c=>?_;have q:=io (l:=range (t.mask+1)) (m:=t.place.toList) nodup_range fun x hx=>Classical.byContradiction fun z=>c ⟨x,le_of_lt_succ<|mem_range.mp hx,z⟩;rw[length_range,length_toList] at q;have:=H.loose;lia
 obtain⟨x,h1,h2⟩:=this;obtain⟨k,k1,k2⟩:=zd H.gm h h1;exact⟨k,k1,by rw[k2];exact h2⟩
theorem ra{t : SetTable}(r : cb t.place)(hd : t.dummies = #[])(hA : Nat -> Int)(h : Int): ∀ (fuel k0 : Nat), (∃ k, k0 <= k /\ k < k0 + fuel /\ (CI t.mask h k).j ∉ t.place.toList) ->
    ∃ k1, k0 <= k1 /\ (∀ k, k0 <= k -> k < k1 -> ∃ i, t.place[i]? = some (CI t.mask h k).j /\ hA i ≠ h) /\
      ((SetTable.probe.go t hA h fuel (CI t.mask h k0) = some (.empty (CI t.mask h k1).j none) /\ (CI t.mask h k1).j ∉ t.place.toList) \/
        ∃ i, SetTable.probe.go t hA h fuel (CI t.mask h k0) = some (.candidate (CI t.mask h k1).j i<|CI t.mask h<|k1 + 1) /\ t.slot (CI t.mask h k1).j = .live i /\ t.place[i]? = some (CI t.mask h k1).j /\ hA i = h)
  | 0, k0, ⟨k, a, b, _⟩ => absurd a (by lia)
  | fuel + 1, k0, ⟨k, a, b, c⟩ => by
    by_cases z : (CI t.mask h k0).j ∈ t.place.toList
    · obtain ⟨i, e1, e2⟩ := ze r z
      by_cases q : hA i = h
      · refine ⟨k0, Nat.le_refl _, fun k h1 h2 => absurd h1 (by lia), .inr ⟨i, ?_, e1, e2, q⟩⟩
        unfold SetTable.probe.go;rw [e1];dsimp only;rw [if_pos (by rw [q]; exact beq_self_eq_true _)];rfl
      · have ne : k ≠ k0 := fun e => c (e ▸ z)
        obtain ⟨k1, h1, h2, h3⟩ := ra r hd hA h fuel (k0 + 1) ⟨k, by lia, by lia, c⟩;have e : SetTable.probe.go t hA h (fuel + 1) (CI t.mask h k0) = SetTable.probe.go t hA h fuel (CI t.mask h<|k0 + 1) := by
          rw [SetTable.probe.go, e1];dsimp only;rw [if_neg (by rw [beq_iff_eq]; exact q)];rfl
        refine ⟨k1, by lia, fun k g1 g2 => ?_, by rw [e]; exact h3⟩;rcases lt_or_ge k0 k with g | g
        · exact h2 k g g2
        · rw [show k = k0 by lia]; exact ⟨i, e2, q⟩
    · refine ⟨k0, Nat.le_refl _, fun k h1 h2 => absurd h1 (by lia), .inl ⟨?_, z⟩⟩
      unfold SetTable.probe.go;rw [zf hd z];dsimp only;rw [mv]
theorem my(xs:Array α)(p:Nat)(x:α):(SetTable.insertAt xs p x).toList=xs.toList.take p++x::xs.toList.drop p:=SetTable.toList_insertAt xs p x
theorem ip{l:List α}{p:Nat}{x y:α}:y∈l.take p++x::l.drop p↔y=x\/y∈l:=by
 constructor
 ·intro h;rcases mem_append.mp h with h | h
  ·exact .inr (mem_of_mem_take h)
  ·rcases mem_cons.mp h with h | h
   ·exact .inl h
   ·exact .inr (mem_of_mem_drop h)
 ·rintro (rfl | h)
  ·exact mem_append_right _ (.head _)
  ·rw[<- take_append_drop p l] at h;rcases mem_append.mp h with h | h
   ·exact mem_append_left _ h
   ·exact mem_append_right _ (.tail _ h)
theorem zg{a:List α}{b:List β}(hl:a.length=b.length)(p:Nat)(x:α)(y:β):(a.take p++x::a.drop p).zip (b.take p++y::b.drop p)=(a.zip b).take p++(x,y)::(a.zip b).drop p:=by
 rw[List.zip_append (by rw[length_take,length_take,hl]),List.zip_cons_cons];have e1:∀ (p:Nat) (a:List α) (b:List β),(a.take p).zip (b.take p)=(a.zip b).take p:=fun p=>by
  induction p with
  | zero=>intro a b;rfl
  | succ p ih=>intro a b;cases a with
   | nil=>rfl
   | cons x a=>cases b with
    | nil=>rfl
    | cons y b=>exact congrArg ((x,y)::·) (ih a b)
 have e2:∀ (p:Nat) (a:List α) (b:List β),(a.drop p).zip (b.drop p)=(a.zip b).drop p:=fun p=>by
  induction p with
  | zero=>intro a b;rfl
  | succ p ih=>intro a b;cases a with
   | nil=>rfl
   | cons x a=>cases b with
    | nil=>show (a.drop p).zip []=_;rw[List.zip_nil_right];rfl
    | cons y b=>exact ih a b
 rw[e1,e2]
theorem FC.put(H:FC t hs){h:Int}{k:Nat}(hk:(CI t.mask h k).j∉t.place.toList)(ha:∀ k',k'<k->(CI t.mask h k').j∈t.place.toList):
  (∀ j∈(t.put (CI t.mask h k).j).1.place.toList,j<=t.mask)/\∀ p∈(t.put (CI t.mask h k).j).1.place.toList.zip (hs.take (t.put (CI t.mask h k).j).2++h::hs.drop (t.put (CI t.mask h k).j).2),He t.mask (·∈(t.put (CI t.mask h k).j).1.place.toList) p.2 p.1:=by
 have e:(t.put (CI t.mask h k).j).1.place.toList=t.place.toList.take (t.put (CI t.mask h k).j).2++(CI t.mask h k).j::t.place.toList.drop (t.put (CI t.mask h k).j).2:=my _ _ _;rw[e];refine⟨fun j hj=>?_,fun p hp=>?_⟩
 ·rcases ip.mp hj with rfl | hj
  ·exact q9 _ _ _
  ·exact H.le j hj
 ·rw[zg (by rw[length_toList];exact H.len)] at hp;rcases ip.mp hp with rfl | hp
  ·exact⟨k,rfl,fun k' z=>ip.mpr<|.inr<|ha k' z⟩
  ·exact (H.IC p hp).mono fun x hx=>ip.mpr (.inr hx)
def dO(ow:Array (Option Nat))(j:Nat):Prop:=(ow.getD j<|some 0).isSome=true
theorem rb{m:Nat}(ow:Array (Option Nat))(h:Int):∀ (fuel q:Nat),(∀ k',k'<kq m h q->dO ow (CI m h k').j)->(∃ q',q<=q'/\q'<q+fuel/\¬ dO ow (CS m h q').1)->
  ∃ j,SetTable.layClean.free m ow fuel (CS m h q).1 (CS m h q).2=some j/\j<=m/\¬ dO ow j/\He m (dO ow) h j
 | 0,q,_,⟨q',a,b,_⟩=>absurd a (by lia)
 | fuel+1,q,hk,⟨q',a,b,c⟩=>by
  unfold SetTable.layClean.free;have le:SetTable.runEnd m (CS m h q).1<=m:=q8 (mx m h q);have ge:(CS m h q).1<=SetTable.runEnd m (CS m h q).1:=by unfold SetTable.runEnd;split<;>lia
  cases hf:(range<|SetTable.runEnd m (CS m h q).1+1 - (CS m h q).1).find? (fun k=>(ow.getD ((CS m h q).1+k)<|some 0).isNone) with
  | some k=>
   dsimp only;rw[List.find?_range_eq_some] at hf;obtain⟨h1,h2,h3⟩:=hf;have IZ:k<SetTable.runEnd m (CS m h q).1+1 - (CS m h q).1:=mem_range.mp h2;refine⟨_,rfl,by lia,?_,kq m h q+k,?_,fun k' DM=>?_⟩
   ·unfold dO;intro z;rw[Option.isNone_iff_eq_none] at h1;rw[h1] at z;cases z
   ·rw[gw (gx m h q) k (by lia)]
   ·rcases lt_or_ge k' (kq m h q) with z | z
    ·exact hk k' z
    ·have e:k'=kq m h q+(k' - kq m h q):=by lia
     rw[e,gw (gx m h q) (k' - kq m h q) (by lia)];have:=h3 (k' - kq m h q) (by lia);show (ow.getD ((CS m h q).1+(k' - kq m h q))<|some 0).isSome=true;cases w:ow.getD ((CS m h q).1+(k' - kq m h q)) (some 0) with
     | none=>rw[w] at this;cases this
     | some _=>rfl
  | none=>
   dsimp only;rw[List.find?_range_eq_none] at hf;have Fm:∀ k,k<SetTable.runEnd m (CS m h q).1+1 - (CS m h q).1->dO ow ((CS m h q).1+k):=fun k hk=>by
    have:=hf k hk;unfold dO;cases w:ow.getD ((CS m h q).1+k) (some 0) with
    | none=>rw[w] at this;cases this
    | some _=>rfl
   have ne:q'≠q:=fun e=>c (by rw[e];exact Fm 0 (by lia));refine rb ow h fuel (q+1) (fun k' DM=>?_) ⟨q',by lia,by lia,c⟩;rcases lt_or_ge k' (kq m h q) with z | z
   ·exact hk k' z
   ·have EK:k'<kq m h q+(SetTable.runEnd m (CS m h q).1 - (CS m h q).1)+1:=DM;have e:k'=kq m h q+(k' - kq m h q):=by lia
    rw[e,gw (gx m h q) (k' - kq m h q) (by lia)];exact Fm _ (by lia)
structure EH(m:Nat)(ow:Array (Option Nat))(ps:List Nat)(hs:List Int):Prop where
 size:ow.size=m+1
 len:ps.length=hs.length
 nd:ps.Nodup
 le:∀ j∈ps,j<=m
 own:∀ (j k:Nat),ow[j]?=some (some k)↔ps[k]?=some j
 IC:∀ p∈ps.zip hs,He m (·∈ps) p.2 p.1
theorem EH.Fm(I:EH m ow ps hs){j:Nat}(hj:j<=m):dO ow j↔j∈ps:=by
 have hl:j<ow.size:=by rw[I.size];lia
 unfold dO;rw[show ow.getD j (some 0)=ow[j] by simp[Array.getD,hl]];have e:ow[j]?=some ow[j]:=Array.getElem?_eq_getElem hl;constructor
 ·intro z;obtain⟨k,hk⟩:=Option.isSome_iff_exists.mp z;rw[hk] at e;exact mem_of_getElem? ((I.own j k).mp e)
 ·intro z;obtain⟨k,hk⟩:=getElem?_of_mem z;have:=(I.own j k).mpr hk;rw[e] at this;rw[Option.some.inj this];rfl
theorem EH.step(g:GM m){ow:Array (Option Nat)}{ps:List Nat}{hs:List Int}(I:EH m ow ps hs)(hl:hs.length<=m)(h:Int):
  ∃ j,SetTable.layClean.free m ow (SetTable.turns m) (SetTable.bits h % (m+1)) (SetTable.bits h)=some j/\EH m (ow.setIfInBounds j<|some hs.length) (ps++[j]) (hs++[h]):=by
 have room:∃ x,x<=m/\x∉ps:=by
  refine Classical.byContradiction fun c=>?_;have q:=io (l:=range (m+1)) (m:=ps) nodup_range fun x hx=>Classical.byContradiction fun z=>c ⟨x,le_of_lt_succ<|mem_range.mp hx,z⟩;rw[length_range,I.len] at q;lia
 obtain⟨x,NN,Pt⟩:=room;obtain⟨q,Qx,Pu⟩:=qZ g h NN;obtain⟨j,f1,f2,f3,f4⟩:=rb (m:=m) ow h (SetTable.turns m) 0 (fun k' DM=>absurd DM<|not_lt_zero _) ⟨q,zero_le _,by lia,by rw[Pu];exact fun z=>Pt<|(I.Fm NN).mp z⟩;have hj:j∉ps:=fun z=>f3 ((I.Fm f2).mpr z);have Pv:j<ow.size:=by rw[I.size];lia
 refine⟨j,f1,by rw[Array.size_setIfInBounds,I.size],by rw[length_append,length_append,I.len];rfl,?_,?_,fun j' k=>?_,?_⟩
 ·exact nodup_append.mpr ⟨I.nd,pairwise_singleton _ _,fun a ha b hb e=>hj (by rw[<- mem_singleton.mp hb,<- e];exact ha)⟩
 ·intro a ha;rcases mem_append.mp ha with ha | ha
  ·exact I.le a ha
  ·rw[mem_singleton.mp ha];exact f2
 ·rw[Array.getElem?_setIfInBounds];by_cases e:j=j'
  ·subst e;rw[if_pos rfl,if_pos Pv];constructor
   ·intro z;cases z;rw[<- I.len,getElem?_append_right<|Nat.le_refl _,Nat.sub_self];rfl
   ·intro z;rcases lt_or_ge k ps.length with w | w
    ·rw[getElem?_append_left w] at z;exact absurd (mem_of_getElem? z) hj
    ·rw[getElem?_append_right w] at z;have:k - ps.length=0:=by
      have:=(List.getElem?_eq_some_iff.mp z).1;rw[length_singleton] at this;lia
     rw[show k=hs.length by rw[<- I.len];lia]
  ·rw[if_neg e,I.own j' k];rcases lt_or_ge k ps.length with w | w
   ·rw[getElem?_append_left w]
   ·rw[getElem?_append_right w,List.getElem?_eq_none w];constructor
    ·intro z;cases z
    ·intro z;have:=mem_of_getElem? z;exact absurd (mem_singleton.mp this) (fun z=>e z.symm)
 ·intro p hp;rw[List.zip_append I.len] at hp;rcases mem_append.mp hp with hp | hp
  ·exact (I.IC p hp).mono fun x hx=>mem_append_left _ hx
  ·rw[List.zip_cons_cons,List.zip_nil_left] at hp;rw[mem_singleton.mp hp];obtain⟨k,e,a⟩:=f4;exact⟨k,e,fun k' DM=>mem_append_left _<|(I.Fm<|q9 _ _ _).mp<|a k' DM⟩
theorem rc{m:Nat}(g:GM m):∀ (rest hs:List Int) (ow:Array (Option Nat)) (ps:List Nat),EH m ow ps hs->(hs++rest).length<=m->
  ∃ Lf Mt,rest.foldl (fun (acc:Option (Array (Option Nat)×Nat)) h=>do
   let (owner,k) <- acc
   let j <- SetTable.layClean.free m owner (SetTable.turns m) (SetTable.bits h % (m+1)) (SetTable.bits h)
   pure (owner.setIfInBounds j<|some k,k+1)) (some (ow,hs.length))=some (Lf,(hs++rest).length)/\EH m Lf Mt (hs++rest)
 | [],hs,ow,ps,I,_=>⟨ow,ps,by rw[append_nil];rfl,by rw[append_nil];exact I⟩
 | h::rest,hs,ow,ps,I,hl=>by
  obtain⟨j,e,I'⟩:=I.step g (by rw[length_append] at hl;lia) h;obtain⟨Lf,Mt,e2,I2⟩:=rc g rest (hs++[h]) _ _ I' (by rw[List.append_assoc];exact hl);rw[List.append_assoc] at e2 I2;refine⟨Lf,Mt,?_,I2⟩;rw[foldl_cons];rw[show (hs++[h]).length=hs.length+1 from length_append] at e2;refine Eq.trans (congrArg (fun z=>List.foldl _ z rest) ?_) e2;show (SetTable.layClean.free m ow (SetTable.turns m) (SetTable.bits h % (m+1))<|SetTable.bits h).bind _=_;rw[e];rfl
theorem zh(g:GM m)(hs:Array Int)(hl:hs.size<=m):∃ ow ps,SetTable.layClean m hs=some ow/\EH m ow ps hs.toList:=by
 have I0:EH m (Array.replicate (m+1) none) [] []:=by
  refine⟨Array.size_replicate,rfl,nodup_nil,fun _ h=>(not_mem_nil h).elim,fun j k=>⟨fun z=>?_,fun z=>?_⟩,fun _ h=>(not_mem_nil h).elim⟩
  ·have:=(Array.getElem?_eq_some_iff.mp z).2;rw[Array.getElem_replicate] at this;cases this
  ·simp at z
 obtain⟨ow,ps,e,I⟩:=rc g hs.toList [] _ _ I0 (by rw[List.nil_append,length_toList];exact hl);refine⟨ow,ps,?_,I⟩;unfold SetTable.layClean;rw[<- Array.foldl_toList];exact congrArg (Option.map (·.1)) e
theorem zi{p:Nat×Nat}:p∈(range<|m+1).filterMap (fun j=>(ow.getD j none).map (j,·))↔p.1<=m/\ow[p.1]?=some (some p.2):=by
 rw[mem_filterMap];constructor
 ·rintro⟨j,h1,h2⟩;obtain⟨k,e1,rfl⟩:=map_eq_some_iff.mp h2;refine⟨le_of_lt_succ<|mem_range.mp h1,?_⟩;show ow[j]?=some (some k);by_cases z:j<ow.size
  ·rw[show ow.getD j none=ow[j] by simp[Array.getD,z]] at e1;rw[Array.getElem?_eq_getElem z,e1]
  ·rw[show ow.getD j none=none by simp[Array.getD,z]] at e1;cases e1
 ·rintro⟨h1,h2⟩;refine⟨p.1,mem_range.mpr<|Nat.lt_succ_of_le h1,?_⟩;obtain⟨z,e⟩:=Array.getElem?_eq_some_iff.mp h2;rw[show ow.getD p.1 none=ow[p.1] by simp[Array.getD,z],e];rfl
theorem re{α β:Type}:∀ {l:List (α×β)},(l.map (·.1)).Nodup->(∀ a∈l,∀ b∈l,a.2=b.2->a.1=b.1)->(l.map (·.2)).Nodup
 | [],_,_=>nodup_nil
 | x::l,h,i=>by
  rw[map_cons] at h ⊢;have h':=nodup_cons.mp h;refine nodup_cons.mpr ⟨fun z=>?_,re h'.2 fun a ha b hb=>i a (.tail _ ha) b<|.tail _ hb⟩;obtain⟨y,hy,e⟩:=mem_map.mp z;have:=i y (.tail _ hy) x (.head _) e;exact h'.1 (by rw[<- this];exact List.mem_map_of_mem hy)
theorem rf{α β γ:Type}(f:α->β)(g:α->γ):∀ l:List α,(l.map f).zip (l.map g)=l.map fun x=>(f x,g x)
 | []=>rfl
 | x::l=>congrArg (_::·) (rf f g l)
theorem zj{wanted:Nat}(g:GM (SetTable.sizeAbove wanted - 1))(hl:es.size * 5<(SetTable.sizeAbove wanted - 1) * 3){led:Bool}(k:t.led=led):
  ∃ t' order,t.relaid (es.map (·.1)) wanted=some (t',order)/\order.toList.Perm (range es.size)/\Dv t' led/\FC t' ((order.filterMap (es[·]?)).toList.map (·.1)):=by
 obtain⟨ow,ps,e,I⟩:=zh g (es.map (·.1)) (by rw[size_map];lia);generalize hm:SetTable.sizeAbove wanted - 1=m at *;have hL:t.relaid (es.map (·.1)) wanted=some ({ mask:=m,place:=(((range<|m+1).filterMap fun j=>(ow.getD j none).map (j,·)).map (·.1)).toArray,dummies:=#[],finger:=t.finger,led:=t.led,moves:=t.movedTo m,plain:=t.plain },(((range<|m+1).filterMap fun j=>(ow.getD j none).map (j,·)).map (·.2)).toArray):=by
  unfold SetTable.relaid SetTable.laid;rw[hm,e];rfl
 have Es:=fun (p:Nat×Nat)=>zi (m:=m) (ow:=ow) (p:=p);have rise:(((range<|m+1).filterMap fun j=>(ow.getD j none).map (j,·)).map (·.1)).Pairwise (· < ·):=by
  have:=(y4 (t:=_) (o:=_) hL);exact this.rise
 generalize Pw:(range<|m+1).filterMap (fun j=>(ow.getD j none).map (j,·))=L at hL Es rise;have pos:∀ p∈L,ps[p.2]?=some p.1:=fun p hp=>(I.own _ _).mp ((Es p).mp hp).2;have lt:∀ p∈L,p.2<es.size:=fun p hp=>by
  have:=(List.getElem?_eq_some_iff.mp<|pos p hp).1;rw[I.len,length_toList,size_map] at this;exact this
 have Iv:(L.map (·.1)).Nodup:=rise.imp fun h=>ne_of_lt h;have EU:(L.map (·.2)).Nodup:=re Iv fun a ha b hb e=>by
  have h1:=pos a ha;have h2:=pos b hb;rw[e] at h1;exact Option.some.inj (h1.symm.trans h2)
 have perm:(L.map (·.2)).Perm (range es.size):=by
  refine (List.perm_ext_iff_of_nodup EU nodup_range).mpr fun x=>?_;rw[mem_range];constructor
  ·intro h;obtain⟨p,hp,rfl⟩:=mem_map.mp h;exact lt p hp
  ·intro h;have hx:x<ps.length:=by rw[I.len,length_toList,size_map];exact h
   have h1:ps[x]?=some ps[x]:=List.getElem?_eq_getElem hx;exact mem_map.mpr ⟨(ps[x],x),(Es _).mpr ⟨I.le _<|getElem_mem hx,(I.own _ _).mpr h1⟩,rfl⟩
 have hlen:L.length=es.size:=by
  have:=perm.length_eq
  rwa [length_map,length_range] at this
 have NO:((L.map (·.2)).filterMap (es[·]?)).map (·.1)=L.map fun p=>(es.getD p.2 (0,.none)).1:=by
  clear Es rise pos Iv EU perm hlen hL Pw;induction L with
  | nil=>rfl
  | cons p L ih=>
   have hp:=lt p (.head _);rw[map_cons,List.filterMap_cons_some<|Array.getElem?_eq_getElem hp,map_cons,map_cons,ih fun q hq=>lt q<|.tail _ hq];congr 1;simp[Array.getD,hp]
 refine⟨_,_,hL,?_,⟨?_,rfl,k⟩,⟨g,?_,?_,?_,?_⟩⟩
 ·exact perm
 ·exact rise
 ·rw[Array.toList_filterMap];show (L.map (·.1)).toArray.size=(((L.map (·.2)).filterMap (es[·]?)).map (·.1)).length;rw[NO,size_toArray,length_map,length_map]
 ·show (L.map (·.1)).toArray.size * 5<m * 3;rw[size_toArray,length_map,hlen];exact hl
 ·intro j hj;obtain⟨p,hp,rfl⟩:=mem_map.mp hj;exact ((Es p).mp hp).1
 ·rw[Array.toList_filterMap];show ∀ p∈(L.map (·.1)).zip (((L.map (·.2)).filterMap (es[·]?)).map (·.1)),He m (·∈L.map (·.1)) p.2 p.1;rw[NO,rf];intro p hp;obtain⟨q,hq,rfl⟩:=mem_map.mp hp;have h1:=pos q hq;have h2:((es.map (·.1)).toList)[q.2]?=some (es.getD q.2 (0,.none)).1:=by
   have:=lt q hq;rw[getElem?_toList,Array.getElem?_map,Array.getElem?_eq_getElem this];simp[Array.getD,this]
  have hz:(q.1,(es.getD q.2 (0,.none)).1)∈ps.zip (es.map (·.1)).toList:=by
   refine mem_of_getElem? (i:=q.2) ?_;rw[List.getElem?_zip_eq_some];exact⟨h1,h2⟩
  refine (I.IC _ hz).mono fun x hx=>?_;obtain⟨k,hk⟩:=getElem?_of_mem hx;exact mem_map.mpr ⟨(x,k),(Es _).mpr ⟨I.le x hx,(I.own _ _).mpr hk⟩,rfl⟩
theorem zk(g:GM m)(h1:n * 5<m * 3)(h2:(n+1) * 5 >= m * 3)(h3:n+1<=300):GM (SetTable.sizeAbove (SetTable.grown<|n+1) - 1)/\(n+1) * 5<(SetTable.sizeAbove (SetTable.grown<|n+1) - 1) * 3/\SetTable.sizeAbove (SetTable.grown<|n+1)<=512:=by
 rcases g with rfl | rfl | rfl | rfl
 ·rw[show n=4 by lia];exact⟨.inr (.inl (by decide)),by decide,by decide⟩
 ·rw[show n=18 by lia];exact⟨.inr (.inr (.inl (by decide))),by decide,by decide⟩
 ·rw[show n=76 by lia];exact⟨.inr (.inr (.inr (by decide))),by decide,by decide⟩
 ·lia
section
variable{prog:Program}{w:World}{A:Around}{E:Value->Shared->Prop}{s:Shared}
end
section
variable{prog:Program}{w:World}
theorem rg:∀ (n:Nat) {A:Around}{E:Value->Shared->Prop}{s:Shared}{d:Im}{v:Value}{Q:Bool->Shared->Prop},Im.key n d=true->Dq s.heap d v->(∀ b,Q b s)->wpAny (model prog w) A (hashByValue n v) Q E s
 | n,A,E,s,.int i,v,Q,_,hv,h=>by
  obtain⟨t,rfl⟩:=hv;rw[show hashByValue n (.int i t)=pure true from by cases n<;>rfl];exact wpAny_pure (h _)
 | n,A,E,s,.str i,v,Q,_,hv,h=>by
  obtain⟨t,rfl⟩:=hv;rw[show hashByValue n (.str i t)=pure false from by cases n<;>rfl];exact wpAny_pure (h _)
 | n+1,A,E,s,.tup ds,v,Q,k,hv,h=>by
  obtain⟨a,o,items,m,rfl,ho,hc,hd,hi⟩:=hv;have hT:s.TypeIs (.ref a) "tuple" := ⟨o,ho,hc⟩;unfold hashByValue;refine wpAny_bind (wpAny_specialOf hT F.slot_tuple_hash.lookup ?_);show wpAny _ _ (seqItems? (.ref a) >>= _) _ _ s;refine wpAny_bind (wpAny_seqItems ho hd ?_);refine wpAny_bind ?_;show wpAny _ _ (forIn items _ _) _ _ s;rw[<- forIn_toList];rw[Im.key] at k;refine wpAny_forIn_list _ (fun rest r s'=>s'=s/\∃ left,Im.keys n left=true/\aG s.heap left rest) _ ?_ ?_ _ _ ⟨rfl,ds,k,hi⟩
  ·rintro v rest r s' ⟨rfl,left,hk,hl⟩;cases left with
   | nil=>cases (show v::rest=[] from hl)
   | cons d left=>
    obtain⟨v',r',e,h1,DW⟩:=hl;cases e;rw[Im.keys,and_eq_true] at hk;refine wpAny_bind (rg n hk.1 h1 fun b=>?_);cases b
    ·show wpAny _ _ (pure<|ForInStep.done _) _ _ _;exact wpAny_pure (wpAny_pure<|h _)
    ·show wpAny _ _ (pure<|ForInStep.yield _) _ _ _;exact wpAny_pure ⟨rfl,left,hk.2,DW⟩
  ·rintro⟨r1,r2⟩ s' ⟨rfl,_⟩;cases r1 with
   | none=>exact wpAny_pure (h _)
   | some b=>exact wpAny_pure (h _)
 | _,_,_,_,.j_,_,_,k,_,_=>by cases ‹Nat›<;>cases k
 | _,_,_,_,.bl _,_,_,k,_,_=>by cases ‹Nat›<;>cases k
 | _,_,_,_,.fn _,_,_,k,_,_=>by cases ‹Nat›<;>cases k
 | _,_,_,_,.fl _,_,_,k,_,_=>by cases ‹Nat›<;>cases k
 | _,_,_,_,.fd,_,_,k,_,_=>by cases ‹Nat›<;>cases k
 | 0,_,_,_,.tup _,_,_,k,_,_=>by cases k
theorem mz:∀ (n:Nat) {A:Around}{E:Value->Shared->Prop}{s:Shared}{d:Im}{v:Value}{Q:Bool->Shared->Prop},Im.key n d=true->Dq s.heap d v->Q false s->wpAny (model prog w) A (ofAClassStatement n v) Q E s
 | n,A,E,s,.int i,v,Q,_,hv,h=>by
  obtain⟨t,rfl⟩:=hv;rw[show ofAClassStatement n (.int i t)=pure false from by cases n<;>rfl];exact wpAny_pure h
 | n,A,E,s,.str i,v,Q,_,hv,h=>by
  obtain⟨t,rfl⟩:=hv;rw[show ofAClassStatement n (.str i t)=pure false from by cases n<;>rfl];exact wpAny_pure h
 | n+1,A,E,s,.tup ds,v,Q,k,hv,h=>by
  obtain⟨a,o,items,m,rfl,ho,hc,hd,hi⟩:=hv;have hT:s.TypeIs (.ref a) "tuple" := ⟨o,ho,hc⟩;unfold ofAClassStatement;refine wpAny_bind (wpAny_typeOf hT ?_);dsimp only;rw[if_pos (show ("tuple" == "tuple")=true by decide)];refine wpAny_bind (wpAny_pure ?_);simp only[Bool.not_true,false_eq_true,if_false];refine wpAny_bind (wpAny_seqItems ho hd ?_);dsimp only;refine wpAny_bind ?_;show wpAny _ _ (forIn items _ _) _ _ s;rw[<- forIn_toList];rw[Im.key] at k;refine wpAny_forIn_list _ (fun rest r s'=>r.1=none/\s'=s/\∃ left,Im.keys n left=true/\aG s.heap left rest) _ ?_ ?_ _ _ ⟨rfl,rfl,ds,k,hi⟩
  ·rintro v rest r s' ⟨hr,rfl,left,hk,hl⟩;cases left with
   | nil=>cases (show v::rest=[] from hl)
   | cons d left=>
    obtain⟨v',r',e,h1,DW⟩:=hl;cases e;rw[Im.keys,and_eq_true] at hk;refine wpAny_bind (mz n hk.1 h1 ?_);simp only[false_eq_true,if_false];exact wpAny_pure ⟨rfl,rfl,left,hk.2,DW⟩
  ·rintro⟨r1,r2⟩ s' ⟨hr,rfl,_⟩;simp only at hr;subst hr;exact wpAny_pure h
 | _,_,_,_,.j_,_,_,k,_,_=>by cases ‹Nat›<;>cases k
 | _,_,_,_,.bl _,_,_,k,_,_=>by cases ‹Nat›<;>cases k
 | _,_,_,_,.fn _,_,_,k,_,_=>by cases ‹Nat›<;>cases k
 | _,_,_,_,.fl _,_,_,k,_,_=>by cases ‹Nat›<;>cases k
 | _,_,_,_,.fd,_,_,k,_,_=>by cases ‹Nat›<;>cases k
 | 0,_,_,_,.tup _,_,_,k,_,_=>by cases k
theorem zl{A:Around}{E:Value->Shared->Prop}{x:Addr}{Q:Bool->Shared->Prop}(hx:(bh prog w).is s.heap k x){vs:List Value}(hv:∀ v∈vs,∃ b k',v=.ref b/\(bh prog w).is s.heap k' b)(h:Q false s):
  wpAny (model prog w) A (searchCouldBeSeen (.ref x) vs) Q E s:=by
 unfold searchCouldBeSeen;refine wpAny_bind ?_;refine wpAny_forIn_list _ (fun rest r s'=>r.1=none/\s'=s/\∀ v∈rest,∃ b k',v=.ref b/\(bh prog w).is s.heap k' b) _ ?_ ?_ _ _ ⟨rfl,rfl,hv⟩
 ·rintro v rest r s' ⟨hr,rfl,hl⟩;obtain⟨b,k',rfl,hb⟩:=hl v (.head _);have DW:∀ v∈rest,∃ b k',v=.ref b/\(bh prog w).is s'.heap k' b:=fun v hv=>hl v (.tail _ hv);dsimp only;cases Qy:(x == b) with
  | true=>
   simp only[Bool.true_or,if_true];exact wpAny_pure ⟨rfl,rfl,DW⟩
  | false=>
   simp only[Bool.false_or];rw[if_neg (show ¬ ((carriedByValue (Value.ref x) && carriedByValue (Value.ref b))=true) from fun z=>Bool.false_ne_true z)];refine wpAny_bind (iV 8 (d:=.tup _) hx.1 hx.2 ?_);simp only[Bool.not_true,false_eq_true,if_false];refine wpAny_bind (iV 8 (d:=.tup _) hb.1 hb.2 ?_);simp only[Bool.not_true,false_eq_true,if_false];refine wpAny_bind (mz 8 (d:=.tup _) hx.1 hx.2 ?_);simp only[false_eq_true,if_false];refine wpAny_bind (mz 8 (d:=.tup _) hb.1 hb.2 ?_);simp only[false_eq_true,if_false];exact wpAny_pure ⟨rfl,rfl,DW⟩
 ·rintro⟨r1,r2⟩ s' ⟨hr,rfl,_⟩;simp only at hr;subst hr;exact wpAny_pure h
end
section
variable(w:World)(P:List Im->Addr->Prop)
def jS(z:List Im×Int×Value):Prop:=∃ b,z.2.2=.ref b/\z.2.1=C_ w (.tup z.1)/\P z.1 b
structure DC(es:Array (Int×Value))(t:SetTable)(led:Bool)(ks:List (List Im)):Prop where
 Jg:∃ zs:List (List Im×Int×Value),zs.map (·.2)=es.toList/\(zs.map (·.1)).Perm ks/\∀ z∈zs,jS w P z
 tab:Dv t led
 ht:FC t (es.toList.map (·.1))
 nd:ks.Nodup
def bi(h:Heap)(a:Addr)(led:Bool)(ks:List (List Im)):Prop:=∃ o es ep t,h.get? a=some o/\o.ExactSet/\o.data=.set es ep t/\DC w P es t led ks
end
section
variable{prog:Program}{w:World}{P:List Im->Addr->Prop}{A:Around}{E:Value->Shared->Prop}
theorem DC.size(D:DC w P es t led ks):t.place.size=es.size:=by
 rw[D.ht.len,length_map,length_toList]
theorem DC.fit(D:DC w P es t led ks):t.fits es.size=true:=by
 have:=D.ht.loose;unfold SetTable.fits SetTable.fill;rw[D.tab.Je,D.size,and_eq_true,beq_iff_eq,decide_eq_true_iff];rw[D.size] at this;exact⟨rfl,by show es.size+0<=_;lia⟩
theorem DC.num(D:DC w P es t led ks):es.size=ks.length:=by
 obtain⟨zs,h1,h2,_⟩:=D.Jg;rw[<- h2.length_eq,length_map,<- length_toList,<- h1,length_map]
theorem rh(r:cb xs){i i' j:Nat}(a:xs[i]?=some j)(b:xs[i']?=some j):i=i':=by
 rw[<- mr r a,<- mr r b]
theorem zm{M:Model}{c:Bool}{m:Sem Bool}{u r:Sem α}{Q:α->Shared->Prop}(h1:∀ Q':Bool->Shared->Prop,Q' false s->wpAny M A m Q' E s)(h2:wpAny M A r Q E s):
  wpAny M A (if c=true then (do let b <- m;if b=true then u else r) else r) Q E s:=by
 cases c
 ·rw[if_neg Bool.false_ne_true];exact h2
 ·rw[if_pos rfl];refine wpAny_bind (h1 _ ?_);rw[if_neg Bool.false_ne_true];exact h2
theorem rj{a x:Addr}{k:List Im}{led:Bool}{ks:List (List Im)}{o:Obj}{es:Array (Int×Value)}{ep:Nat}{t:SetTable}{s:Shared}{Q:SetFound->Shared->Prop}{zs:List (List Im×Int×Value)}(hu:A.units+20<cLine)(ho:s.heap.get? a=some o)(hd:o.data=.set es ep t)(D:DC w P es t led ks)(hx:(bh prog w).is s.heap k x)(FD:∀ q b,P q b->(bh prog w).is s.heap q b)(z1:zs.map (·.2)=es.toList)(z2:(zs.map (·.1)).Perm ks)(z3:∀ z∈zs,jS w P z)(Gp:k∈ks->Q (.there none) s)(EM:k∉ks->∀ kk,(CI t.mask (C_ w<|.tup k) kk).j∉t.place.toList->(∀ k',k'<kk->(CI t.mask (C_ w<|.tup k) k').j∈t.place.toList)->Q (.free (CI t.mask (C_ w<|.tup k) kk).j false) s){kE:Nat}(hE:(CI t.mask (C_ w<|.tup k) kE).j∉t.place.toList)(Lg:kE<10 * SetTable.turns t.mask):
  ∀ (fuel k0:Nat) (st:Option SetTable.Probe),st.getD (t.probeStart<|C_ w<|.tup k)=CI t.mask (C_ w<|.tup k) k0->kE<k0+fuel->(∀ k',k'<k0->(CI t.mask (C_ w<|.tup k) k').j∈t.place.toList)->
   (∀ (i k':Nat),k'<k0->t.place[i]?=some (CI t.mask (C_ w<|.tup k) k').j->(zs.map (·.1))[i]?≠some k)->
   wpAny (model prog w) A (setSearchFrom a (.ref x) (C_ w<|.tup k) true fuel st) Q E s
 | 0,k0,st,_,hf,hk,_=>by
  refine absurd (hk kE (by lia)) hE
 | fuel+1,k0,st,GO,hf,hk,hs=>by
  have Px:k0<=kE:=by
   rcases lt_or_ge kE k0 with z | z
   ·exact absurd (hk kE z) hE
   ·exact z
  have hz:zs.length=es.size:=by rw[<- length_toList,<- z1,length_map]
  have hash:∀ (i:Nat) (q:List Im),(zs.map (·.1))[i]?=some q->∃ e b,es[i]?=some e/\e.2=.ref b/\e.1=C_ w (.tup q)/\(bh prog w).is s.heap q b:=fun i q hq=>by
   obtain⟨z,e1,e2⟩:=map_eq_some_iff.mp (by rw[List.getElem?_map] at hq;exact hq);obtain⟨b,c1,c3,c2⟩:=z3 z (mem_of_getElem? e1);subst e2;refine⟨z.2,b,?_,c1,c3,FD _ _ c2⟩;rw[<- getElem?_toList,<- z1,List.getElem?_map,e1];rfl
  unfold setSearchFrom;refine wpAny_bind (wpAny_setState_of ho hd D.fit ?_);dsimp only;rw[if_neg (by unfold SetTable.gaveWay;rw[beq_iff_eq];have:=D.ht.gm.pos;lia)];rw[GO];unfold SetTable.probe;obtain⟨k1,g1,g2,g3⟩:=ra D.tab.rise D.tab.Je (fun i=>(es[i]?.map (·.1)).getD 0) (C_ w<|.tup k) (10 * SetTable.turns t.mask) k0 ⟨kE,Px,by lia,hE⟩;have Fm:∀ k',k'<k1->(CI t.mask (C_ w<|.tup k) k').j∈t.place.toList:=fun k' DM=>by
   rcases lt_or_ge k' k0 with z | z
   ·exact hk k' z
   ·obtain⟨i,h1,_⟩:=g2 k' z DM;rw[<- getElem?_toList] at h1;exact mem_of_getElem? h1
  have HB:∀ (i k':Nat),k'<k1->t.place[i]?=some (CI t.mask (C_ w<|.tup k) k').j->(zs.map (·.1))[i]?≠some k:=fun i k' DM hp hq=>by
   rcases lt_or_ge k' k0 with z | z
   ·exact hs i k' z hp hq
   ·obtain⟨i',h1,h2⟩:=g2 k' z DM;have:=rh D.tab.rise hp h1;subst this;obtain⟨e,b,c1,c2,c3,c4⟩:=hash i k hq;rw[c1] at h2;exact h2 c3
  generalize hg:SetTable.probe.go t _ (C_ w<|.tup k) _ (CI t.mask (C_ w<|.tup k) k0)=g;rcases g3 with ⟨e,hn⟩ | ⟨i,e,e2,e3,e4⟩
  ·cases hg.symm.trans e;refine wpAny_pure (EM (fun Py=>?_) k1 hn Fm);have Mu:=z2.mem_iff.mpr Py;obtain⟨i,hi⟩:=getElem?_of_mem Mu;obtain⟨e,b,c1,c2,c3,c4⟩:=hash i k hi;have Ej:i<es.size:=(Array.getElem?_eq_some_iff.mp c1).1;have hp:t.place[i]?=some (t.place[i]'(by rw[D.size];exact Ej)):=Array.getElem?_eq_getElem (by rw[D.size];exact Ej);have hm:(t.place[i]'(by rw[D.size];exact Ej),C_ w<|.tup k)∈t.place.toList.zip (es.toList.map (·.1)):=by
    refine mem_of_getElem? (i:=i) ?_;rw[List.getElem?_zip_eq_some];refine⟨by rw[getElem?_toList];exact hp,?_⟩;rw[List.getElem?_map,getElem?_toList,c1,<- c3];rfl
   obtain⟨ki,r1,r2⟩:=D.ht.IC _ hm;have DO:ki<k1:=by
    rcases Nat.lt_trichotomy ki k1 with z | z | z
    ·exact z
    ·refine absurd ?_ hn;rw[<- z,r1];exact Array.getElem_mem_toList ..
    ·exact absurd (r2 k1 z) hn
   exact HB i ki DO (by rw[hp,r1]) hi
  ·cases hg.symm.trans e;have Ej:i<zs.length:=by rw[hz,<- D.size];exact (Array.getElem?_eq_some_iff.mp e3).1
   have NP:(zs.map (·.1))[i]?=some zs[i].1:=by rw[List.getElem?_map,List.getElem?_eq_getElem Ej];rfl
   obtain⟨en,b,c1,c2,c3,c4⟩:=hash i _ NP;dsimp only;refine zm (fun Q' q=>zl hx (fun v hv=>?_) q) ?_
   ·obtain⟨e',Pz,rfl⟩:=mem_map.mp hv;have Ka:e'∈es.toList:=Array.mem_toList_iff.mpr (Array.mem_filter.mp<|Array.mem_toList_iff.mp Pz).1;rw[<- z1] at Ka;obtain⟨z,PB,rfl⟩:=mem_map.mp Ka;obtain⟨b',d1,_,d2⟩:=z3 z PB;exact⟨b',z.1,d1,FD _ _ d2⟩
   ·obtain⟨eh,ev⟩:=en;cases c2;rw[c1];dsimp only;refine wpAny_bind (wpAny_holding ((bh prog w).eqBool (show A.units+10<cLine by lia) c4 hx ?_));refine wpAny_bind (wpAny_setState_of ho hd D.fit ?_);by_cases hq:zs[i].1=k
    ·rw[decide_eq_true hq,if_pos<|show (true && true)=true from rfl];exact wpAny_pure (Gp (z2.mem_iff.mp (by rw[<- hq];exact List.mem_map_of_mem (getElem_mem Ej))))
    ·rw[decide_eq_false hq,if_neg (by decide)];dsimp only;rw[show t.sameMemory t.moves t.mask=some true by unfold SetTable.sameMemory;rw[if_pos (beq_self_eq_true _)]];dsimp only;rw[if_pos rfl,e2];dsimp only;rw[c1];dsimp only;refine wpAny_bind (wpAny_isSame_ref_self<|wpAny_bind<|wpAny_pure ?_);rw[if_pos rfl];dsimp only;rw[if_neg Bool.false_ne_true];refine rj hu ho hd D hx FD z1 z2 z3 Gp EM hE Lg fuel (k1+1) _ rfl (by lia) (fun k' DM=>?_) fun i' k' DM hp=>?_
     ·rcases lt_or_ge k' k1 with z | z
      ·exact Fm k' z
      ·rw[show k'=k1 by lia];rw[<- getElem?_toList] at e3;exact mem_of_getElem? e3
     ·rcases lt_or_ge k' k1 with z | z
      ·exact HB i' k' z hp
      ·rw[show k'=k1 by lia] at hp;have:=rh D.tab.rise hp e3;subst this;rw[NP];exact fun e=>hq (Option.some.inj e)
end
def bY(ks:List (List Im))(k:List Im):List (List Im):=if k∈ks then ks else ks++[k]
section
variable{prog:Program}{w:World}{P:List Im->Addr->Prop}{A:Around}{E:Value->Shared->Prop}{s:Shared}
structure FF(w:World)(P:List Im->Addr->Prop)(es:Array (Int×Value))(t:SetTable)(led:Bool)(ks:List (List Im))(n:Nat):Prop where
 Jg:∃ zs:List (List Im×Int×Value),zs.map (·.2)=es.toList/\(zs.map (·.1)).Perm ks/\∀ z∈zs,jS w P z
 tab:Dv t led
 gm:GM t.mask
 len:t.place.size=es.size
 le:∀ j∈t.place.toList,j<=t.mask
 IC:∀ p∈t.place.toList.zip (es.toList.map (·.1)),He t.mask (·∈t.place.toList) p.2 p.1
 nd:ks.Nodup
 sz:es.size=n+1
 NQ:n * 5<t.mask * 3
theorem FF.IB(D:FF w P es t led ks n):t.fits es.size=true:=by
 have:=D.NQ;have:=D.gm.pos;unfold SetTable.fits SetTable.fill;rw[D.tab.Je,D.len,D.sz,and_eq_true,beq_iff_eq,decide_eq_true_iff];exact⟨rfl,by show n+1+0<=_;lia⟩
theorem FF.done(D:FF w P es t led ks n)(hf:¬ ((n+1) * 5 >= t.mask * 3)):DC w P es t led ks:=
 ⟨D.Jg,D.tab,⟨D.gm,by rw[D.len,length_map,length_toList],by rw[D.len,D.sz];lia,D.le,D.IC⟩,D.nd⟩
theorem rk{es':Array (Int×Value)}{t':SetTable}(ho:h.get? a=some o)(hd:o.data=.set es ep t):
  (h.update a<|Obj.putSet es' t').get? a=some { o with data:=.set es' (ep+1) t' }:=by
 have:=Heap.get?_update_self (Obj.putSet es' t') ho (by rw[putSet_of es' t' hd];rfl);rw[putSet_of es' t' hd] at this;exact this
theorem mC{α β:Type}(f:α->β)(l:List α)(m:List β)(hm:l.map f=m):∀ is:List Nat,(is.filterMap (l[·]?)).map f=is.filterMap (m[·]?)
 | []=>rfl
 | i::is=>by
  subst hm;rw[filterMap_cons,filterMap_cons,List.getElem?_map];cases l[i]? with
  | none=>exact mC f l _ rfl is
  | some x=>exact congrArg (f x::·) (mC f l _ rfl is)
theorem rl(l:List α):(range l.length).filterMap (l[·]?)=l:=by
 have:=filterMap_getElem?_range l.toArray;simpa using this
theorem mD{es Fp : Array (Int × Value)}{t1:SetTable}{R : Bool -> Shared -> Prop}(ho : s.heap.get? a = some o)(hex : o.ExactSet)(hd : o.data = .set es ep t)(hn : es.size = n)(hl : n + 1 <= 300)(D : FF w P Fp t1 led ks n)(h : ∀ h', Heap.SameBut a s.heap h' -> bi w P h' a led ks -> R true { s with heap := h' }):
    wpAny (model prog w) A (do
        storeSet a Fp t1
        if (!false && t1.tooFull) = true then do
            setRelay a (SetTable.grown<|es.size + 1)
            pure true
          else pure true) R E s := by
  refine wpAny_bind (wpAny_storeSet_of ho hd ?_ (by rw [D.sz]; exact Nat.le_trans hl (by decide)));have Hz := rk (es' := Fp) (t' := t1) ho hd;have Ms := Heap.SameBut.update s.heap a (Obj.putSet Fp t1);have ef : t1.tooFull = decide ((n + 1) * 5 >= t1.mask * 3) := by
    unfold SetTable.tooFull SetTable.fill;rw [D.tab.Je, D.len, D.sz];rfl
  by_cases hf : (n + 1) * 5 >= t1.mask * 3
  · rw [ef, decide_eq_true hf, if_pos<|show (!false && true) = true from rfl]
    obtain ⟨g1, g2, g3⟩ := zk D.gm D.NQ hf hl;unfold setRelay;refine wpAny_bind (wpAny_bind<|wpAny_setState_of Hz rfl D.IB ?_);dsimp only;rw [hn, if_neg (fun z => absurd (lt_of_lt_of_le z g3) (by decide))];obtain ⟨t', order, r1, r2, r3, r4⟩ := zj (t := t1) (es := Fp) (wanted := SetTable.grown (n + 1)) g1 (by rw [D.sz]; exact g2) D.tab.led;rw [r1];have eo : (order.filterMap (Fp[·]?)).toList = order.toList.filterMap (Fp.toList[·]?) := by
      rw [Array.toList_filterMap];simp
    have hp : (order.filterMap (Fp[·]?)).toList.Perm Fp.toList := by
      rw [eo];refine (r2.filterMap _).trans ?_;rw [<- length_toList, rl]
    have hsz : (order.filterMap (Fp[·]?)).size = Fp.size := by rw [<- length_toList, hp.length_eq, length_toList]
    refine wpAny_bind (m := if ((order.filterMap (Fp[·]?)).size != Fp.size) = true then _ else _) ?_;rw [hsz, if_neg (by simp)];refine wpAny_pure ?_;dsimp only;refine wpAny_storeSet_of Hz rfl ?_ (by rw [hsz, D.sz]; exact Nat.le_trans hl (by decide));refine wpAny_pure (h _ (Ms.trans<|Heap.SameBut.update _ a _) ⟨_, _, _, _, rk Hz rfl, hex, rfl, ?_, r3, r4, D.nd⟩);obtain ⟨zs, z1, z2, z3⟩ := D.Jg;refine ⟨order.toList.filterMap (zs[·]?), ?_, ?_, fun z hz => ?_⟩
    · rw [eo]
      exact mC (·.2) zs _ z1 _
    · refine (List.Perm.map _ ?_).trans z2
      refine (r2.filterMap _).trans ?_;rw [show Fp.size = zs.length by rw [<- length_toList, <- z1, length_map], rl]
    · obtain ⟨i, _, e⟩ := mem_filterMap.mp hz
      exact z3 z (mem_of_getElem? e)
  · rw [ef, decide_eq_false hf, if_neg (show ¬ ((!false && false) = true) from by decide)]
    refine wpAny_pure (h _ Ms ⟨_, _, _, _, Hz, hex, rfl, D.done hf⟩)
theorem zn{x:Addr}{Q:Bool->Shared->Prop}(hu:A.units+20<cLine)(S:bi w P s.heap a led ks)(hx:(bh prog w).is s.heap k x)(hP:P k x)(FD:∀ q b,P q b->(bh prog w).is s.heap q b)(hl:ks.length+1<=300)(h:∀ b h',Heap.SameBut a s.heap h'->bi w P h' a led (bY ks k)->Q b { s with heap:=h' }):
  wpAny (model prog w) A (setAddHashed a (.ref x)<|C_ w<|.tup k) Q E s:=by
 obtain⟨o,es,ep,t,ho,hex,hd,D⟩:=S;have D0:=D;obtain⟨zs,z1,z2,z3⟩:=D.Jg;obtain⟨kE,Lg,hE⟩:=D.ht.some (C_ w<|.tup k);have NR:=D.ht.gm.pos;unfold setAddHashed setAddHashedIn;refine wpAny_holding (wpAny_bind<|wpAny_setState_of ho hd D.fit ?_);dsimp only;rw[if_neg (show ¬ (byScan (Value.ref x) es=true) from fun z=>Bool.false_ne_true z)];unfold setSearch;refine wpAny_bind (rj hu ho hd D hx FD z1 z2 z3 (fun hk=>?_) (fun hk kk hn ha=>?_) hE Lg 100000 0 none rfl (by unfold SetTable.turns at Lg;lia) (fun k' z=>absurd z<|not_lt_zero _) fun i k' z=>absurd z<|not_lt_zero _)
 ·refine wpAny_pure ?_;have e:s={ s with heap:=s.heap }:=by cases s;rfl
  rw[e];refine h _ _ (Heap.SameBut.refl a s.heap) ?_;rw[bY,if_pos hk];exact⟨o,es,ep,t,ho,hex,hd,D⟩
 ·dsimp only;refine wpAny_bind (wpAny_setState_of ho hd D.fit ?_);dsimp only;obtain⟨p1,p2⟩:=D.ht.put (h:=C_ w (.tup k)) hn ha;have PC:¬ (t.place[SetTable.below t.place (CI t.mask (C_ w<|.tup k) kk).j]?=some (CI t.mask (C_ w<|.tup k) kk).j):=fun z=>hn (by rw[<- getElem?_toList] at z;exact mem_of_getElem? z);have Mv:=D.tab.put PC;have hD:∀ b:Bool,FF w P (SetTable.insertAt es (t.put (CI t.mask (C_ w<|.tup k) kk).j).2 (C_ w<|.tup k,.ref x)) { (t.put (CI t.mask (C_ w<|.tup k) kk).j).1 with plain:=b } led (ks++[k]) es.size:=fun b=>by
   have e1:(SetTable.insertAt es (t.put (CI t.mask (C_ w<|.tup k) kk).j).2 (C_ w<|.tup k,Value.ref x)).toList=_:=my _ _ _;have e2:(t.put (CI t.mask (C_ w<|.tup k) kk).j).1.place.toList=_:=my _ _ _;have hsz:(SetTable.insertAt es (t.put (CI t.mask (C_ w<|.tup k) kk).j).2 (C_ w<|.tup k,Value.ref x)).size=es.size+1:=by
    rw[<- length_toList,e1,length_append,length_cons,length_take,length_drop,length_toList];lia
   refine⟨⟨zs.take (t.put (CI t.mask (C_ w<|.tup k) kk).j).2++(k,C_ w<|.tup k,.ref x)::zs.drop (t.put (CI t.mask (C_ w<|.tup k) kk).j).2,?_,?_,fun z hz=>?_⟩,Mv.Go b,D.ht.gm,?_,p1,?_,?_,hsz,?_⟩
   ·rw[e1,<- z1,map_append,map_cons,map_take,map_drop]
   ·rw[map_append,map_cons,map_take,map_drop];refine List.perm_middle.trans ?_;rw[take_append_drop];exact (z2.cons k).trans (perm_append_comm (l₁:=[k]))
   ·rcases ip.mp hz with rfl | hz
    ·exact⟨x,rfl,rfl,hP⟩
    ·exact z3 z hz
   ·show (t.put (CI t.mask (C_ w<|.tup k) kk).j).1.place.size=_;rw[hsz,<- length_toList,e2,length_append,length_cons,length_take,length_drop,length_toList,D.size];lia
   ·rw[e1,map_append,map_cons,map_take,map_drop];exact p2
   ·exact nodup_append.mpr ⟨D.nd,pairwise_singleton _ k,fun y hy z hz=>by cases mem_singleton.mp hz;exact fun e=>hk<|e ▸ hy⟩
   ·have:=D.ht.loose;rw[D.size] at this;exact this
  have EC:∀ h',Heap.SameBut a s.heap h'->bi w P h' a led (ks++[k])->Q true { s with heap:=h' }:=fun h' Kf hS=>h true h' Kf (by rw[bY,if_neg hk];exact hS);have Ju:es.size+1<=300:=by rw[D.num];exact hl
  split
  ·refine wpAny_bind (rg 8 (d:=.tup k) hx.1 hx.2 fun b=>?_);cases b
   ·exact mD ho hex hd rfl Ju (hD false) EC
   ·exact mD ho hex hd rfl Ju (hD _) EC
  ·refine wpAny_bind (wpAny_pure ?_);exact mD ho hex hd rfl Ju (hD _) EC
end
def ce(w:World):Bool:=!w.params.followText "set-order"
def dP(led:Bool):Obj:={ cls:=.type "set",dict:=none,data:=.set #[] 0 (.fresh 0 0 led) }
theorem zo:isSubtype (.type "tuple") (.type "set")=pure false:=by rw[isSubtype_type];kernel_rfl
theorem zp:isSubtype (.type "tuple") (.type "frozenset")=pure false:=by rw[isSubtype_type];kernel_rfl
section
variable{prog:Program}{w:World}{A:Around}{E:Value->Shared->Prop}{s:Shared}
theorem zq(a:Value){Q₁:Value->Shared->Prop}(h:Q₁ (.ref s.heap.objs.size) { s with heap:=s.heap.push (dP<|ce w) }):
  codeAny (model prog w) A (.call (.builtin "set.__new__") ⟨[.type "set",a],[]⟩) (wants Q₁ E) s:=by
 refine codeAny_of_tree ?_;show wpAny _ A.in1 (do checkBuiltinCall "set.__new__" ⟨[.type "set",a],[]⟩;again (.builtin "set.__new__" ⟨[.type "set",a],[]⟩)) _ _ s;refine wpAny_bind (wpAny_of_eq (PySem.F.newCall_set_1 a)<|wpAny_pure ⟨plainId_quiet PySem.F.plain_set_new _,codeAny_builtin PySem.F.entry_set_new ?_⟩);rw[Around.under_plainId PySem.F.plain_set_new _];unfold Builtin.«set.__new__» Builtin.Frozenset.newClass;have JY:=sub_set_self;obtain⟨hp,g,d,tk,os⟩:=s;dsimp only
 wp_walk
 refine wpAny_askSetting (wpAny_pure ?_);dsimp only;simp only[newObj];refine wpAny_bind (wpAny_alloc<|wpAny_pure ?_);exact wpAny_pure h
end
section
variable{prog:Program}{w:World}{A:Around}{E:Value->Shared->Prop}{s:Shared}
end
theorem iq:Slot "set_iterator" "__next__" "set_iterator.__next__" :=
 .of (owner := "set_iterator") (n := "__next__") (by rw[typeLookup_type,builtinLookup_eq_fast];kernel_rfl) (by decide +kernel) (by decide +kernel) (by decide +kernel)
  (by first | exact .inl (by decide +kernel) | exact .inr (by decide +kernel)) (by rw[isSubtype_type];kernel_rfl)
theorem zr:entryFor table "set_iterator.__next__" = some Builtin.«set_iterator.__next__»:=entryFor_of_tree (by kernel_rfl)
theorem rm:Manifest.owners.lookup (String.ofList ['r','o','t','a','r','e','t','i','_','t','e','s'].reverse)=some Manifest.sig_set_iterator:=by kernel_rfl
theorem zt(a:Value):argsOk "set_iterator.__next__" ⟨[a],[]⟩:=by
 unfold argsOk;rw[signature?_of (id := "set_iterator.__next__") (n:=['_','_','t','x','e','n','_','_']) (o:=['r','o','t','a','r','e','t','i','_','t','e','s']) (by kernel_rfl) rm];kernel_rfl
theorem zu:entryFor table "set.__iter__" = some Builtin.«frozenset.__iter__»:=
 entryFor_alias (id' := "frozenset.__iter__") (by kernel_rfl) rfl (by decide +kernel) (by kernel_rfl)
theorem rn:Slot "set_iterator" "__iter__" "set_iterator.__iter__" :=
 .of (owner := "set_iterator") (n := "__iter__") (by rw[typeLookup_type,builtinLookup_eq_fast];kernel_rfl) (by decide +kernel) (by decide +kernel) (by decide +kernel)
  (by first | exact .inl (by decide +kernel) | exact .inr (by decide +kernel)) (by rw[isSubtype_type];kernel_rfl)
theorem zv(a:Value):argsOk "set_iterator.__iter__" ⟨[a],[]⟩:=by
 unfold argsOk;rw[signature?_of (id := "set_iterator.__iter__") (n:=['_','_','r','e','t','i','_','_']) (o:=['r','o','t','a','r','e','t','i','_','t','e','s']) (by kernel_rfl) rm];kernel_rfl
theorem zw:entryFor table "set_iterator.__iter__" = some Builtin.«dict_keyiterator.__iter__»:=
 entryFor_alias (id' := "dict_keyiterator.__iter__") (by kernel_rfl) (by first | rfl | decide +kernel | (unfold String.splitOn;simp +decide [String.splitOnAux])) (by decide +kernel) (by kernel_rfl)
def EI(h:Heap)(I:Addr)(f0:Value)(i:Nat)(S:Addr)(n ep:Nat):Prop:=∃ o,h.get? I=some o/\o.cls=.type "set_iterator" /\ o.data=.fields #[f0,.int i 0,.ref S,.int n 0,.int ep 0]
def FG(h:Heap)(S:Addr)(es:Array (Int×Value))(ep:Nat)(t:SetTable):Prop:=∃ o,h.get? S=some o/\o.ExactSet/\o.data=.set es ep t
theorem EI.go(x:EI h I f0 i S n ep)(k:∀ o,h.get? I=some o->h'.get? I=some o):EI h' I f0 i S n ep:=let ⟨o,e,r⟩:=x;⟨o,k o e,r⟩
theorem FG.go(x:FG h S es ep t)(k:∀ o,h.get? S=some o->h'.get? S=some o):FG h' S es ep t:=let ⟨o,e,r⟩:=x;⟨o,k o e,r⟩
section
variable{prog:Program}{w:World}{A:Around}{E:Value->Shared->Prop}{s:Shared}
theorem EI.ty(x:EI s.heap I f0 i S n ep):s.TypeIs (.ref I) "set_iterator" := let ⟨o,e,c,_⟩:=x;⟨o,e,c⟩
theorem zx{M:Model}{src:Source}{Q:Nat->Shared->Prop}(hn:0<n)(h:∀ i,i<n->Q i { s with drawn:=s.drawn.bump src }):wpAny M A (choose src n) Q E s:=
 fun _ _ _=>⟨ne_of_gt hn,h _<|mod_lt _ hn⟩
theorem mE{α:Type}:∀ (l:List α) (i:Nat) (h:i<l.length),(l[i]::l.eraseIdx i).Perm l
 | x::xs,0,_=>.refl _
 | x::xs,i+1,h=>(List.Perm.swap x _ _).trans (List.Perm.cons x<|mE xs i<|Nat.lt_of_succ_lt_succ h)
theorem rp{α:Type}{M:Model}:∀ (n:Nat) (xs:List α) (s:Shared) (Q:List α->Shared->Prop),xs.length=n->(∀ d ys,List.Perm ys xs->Q ys { s with drawn:=d })->wpAny M A (drawOrder n xs) Q E s
 | 0,xs,s,Q,hl,h=>by
  have e:xs=[]:=List.eq_nil_of_length_eq_zero hl;subst e;unfold drawOrder;exact wpAny_pure (h s.drawn [] .nil)
 | n+1,[],s,Q,hl,h=>by cases hl
 | n+1,x::xs,s,Q,hl,h=>by
  unfold drawOrder;refine wpAny_bind (zx (by rw[hl];exact succ_pos _) fun i hi=>?_);have e:(x::xs)[i]?=some (x::xs)[i]:=List.getElem?_eq_getElem hi;rw[e];dsimp only;refine wpAny_bind (rp n _ _ _ (by rw[List.length_eraseIdx_of_lt hi,hl];rfl) fun d ys hp=>?_);refine wpAny_pure (h d _ ?_);refine (List.Perm.cons _ hp).trans ?_;exact mE _ i hi
theorem jT(hit:EI s.heap I f0 i S n ep)(h:wpAny (model prog w) A.in1 (Builtin.«set_iterator.__next__» ⟨[.ref I],[]⟩) (fun fin s'=>∃ v,fin=.done (.ret v)/\Q (some v) s') (fun e s'=>wpAny (model prog w) A (do let b <- isInstance e (.type "StopIteration");if b=true then pure none else throw e) Q E s') s):
  wpAny (model prog w) A (pyNext<|.ref I) Q E s:=by
 unfold pyNext;refine wpAny_bind (wpAny_attempt<|wpAny_callSpecial?_slot (name:=Str.ofString "__next__") hit.ty iq<|wpAny_call_entry iq hit.ty zr ?z<|zt _)
 case z=>
  refine wpAny_mono h (fun fin s' ⟨v,e,q⟩=>⟨v,e,wpAny_pure q⟩) fun e s' q=>q
theorem jU{f0':Value}{i':Nat}{Q:Unit->Shared->Prop}{k:Nat}(hit:EI s.heap I f0 i S n ep)(hk:k<5)(he:(#[f0,.int i 0,.ref S,.int n 0,.int ep 0]:Array Value).setIfInBounds k x=#[f0',.int i' 0,.ref S,.int n 0,.int ep 0])(q:∀ h',EI h' I f0' i' S n ep->Heap.SameBut I s.heap h'->Q () { s with heap:=h' }):wpAny (model prog w) A (setField (.ref I) k x) Q E s:=by
 obtain⟨o,f1,f2,f3⟩:=hit;refine wpAny_setField f1 f3 hk (q _ ⟨_,Heap.get?_update_self _ f1<|Obj.isFreed_of_fields<|Obj.data_mapFields f3 _,(Obj.cls_mapFields ..).trans f2,?_⟩<|Heap.SameBut.update ..);rw[Obj.data_mapFields f3,he]
theorem rq(hh:A.handled=none)(q:∀ h',Heap.ExtBut I s.heap h'->Q none { s with heap:=h' }):
  wpAny (model prog w) A.in1 (newExc (.type "StopIteration") [] >>= fun x=>(raiseNew x:Sem PySem.Fin)) (fun fin s'=>∃ v,fin=.done (.ret v)/\Q (some v) s') (fun e s'=>wpAny (model prog w) A (do let b <- isInstance e (.type "StopIteration");if b=true then pure none else throw e) Q E s') s:=by
 apply wpAny_bind;simp only[newExc,newTuple];refine wpAny_bind (wpAny_newObj_type (wpAny_bind (m:=firstArgMember _ _) (wpAny_of_eq (a:=Value.none) (by first | rfl | (simp only[firstArgMember];rfl)) (wpAny_newObj_type ?_ (by size_fits)))) (by size_fits));simp only[raiseNew];apply wpAny_bind;apply wpAny_handled;rw[show A.in1.handled=none from hh];refine wpAny_bind (m:=pure _) (wpAny_pure<|wpAny_throw ?_);apply wpAny_bind;refine wpAny_isInstance (T := "StopIteration") (b:=true) ⟨_,Heap.get?_push_size _ rfl,rfl⟩ isSubtype_stop ?_;exact wpAny_pure (q _<|fun b o _ e=>Heap.get?_push_of_some _<|Heap.get?_push_of_some _ e)
theorem rz{next:Nat}(hit:EI s.heap I (.int slot 0) i S n ep)(hS:FG s.heap S es ep t)(hf:t.fits es.size=true)(hn:es.size=n)(hx:∀ (Q':Option (Value×Nat)->Shared->Prop) (E':Value->Shared->Prop),Q' (some (x,next)) s->wpAny (model prog w) A.in1 (setNext S slot i ep) Q' E' s)(q:∀ h',EI h' I (.int next 0) (i+1) S n ep->Heap.SameBut I s.heap h'->Q (some x) { s with heap:=h' }):wpAny (model prog w) A (pyNext<|.ref I) Q E s:=by
 refine jT hit ?_;obtain⟨o,f1,f2,f3⟩:=id hit;obtain⟨oS,e1,e2,e3⟩:=hS;unfold Builtin.«set_iterator.__next__»;refine wpAny_bind (wpAny_pure<|wpAny_bind<|wpAny_fieldsOf f1 f3 ?_);show wpAny _ _ (setEntries S >>= _) _ _ _;refine wpAny_bind (wpAny_setEntries_of e1 e3 hf ?_);dsimp only;rw[if_neg (by rw[hn];simp)];refine wpAny_bind (m:=setNext S _ _ _) (hx _ _ ?_);dsimp only;refine wpAny_bind (jU (f0':=.int next 0) (i':=i) hit (by decide) rfl fun h1 Gq Kg=>?_);refine wpAny_bind (jU (s:={ s with heap:=h1 }) (f0':=.int next 0) (i':=i+1) Gq (by decide) rfl fun h2 Mw PD=>?_);exact wpAny_pure ⟨_,rfl,q h2 Mw<|Kg.trans PD⟩
theorem rA(hh:A.handled=none)(hit:EI s.heap I (.int slot 0) i S n ep)(hS:FG s.heap S es ep t)(hf:t.fits es.size=true)(hn:es.size=n)(hx:∀ (Q':Option (Value×Nat)->Shared->Prop) (E':Value->Shared->Prop),Q' none s->wpAny (model prog w) A.in1 (setNext S slot i ep) Q' E' s)(q:∀ h',Heap.ExtBut I s.heap h'->Q none { s with heap:=h' }):wpAny (model prog w) A (pyNext<|.ref I) Q E s:=by
 refine jT hit ?_;obtain⟨o,f1,f2,f3⟩:=id hit;obtain⟨oS,e1,e2,e3⟩:=hS;unfold Builtin.«set_iterator.__next__»;refine wpAny_bind (wpAny_pure<|wpAny_bind<|wpAny_fieldsOf f1 f3 ?_);show wpAny _ _ (setEntries S >>= _) _ _ _;refine wpAny_bind (wpAny_setEntries_of e1 e3 hf ?_);dsimp only;rw[if_neg (by rw[hn];simp)];refine wpAny_bind (m:=setNext S _ _ _) (hx _ _ ?_);dsimp only;refine wpAny_bind (wpAny_setField f1 f3 (show 2<5 by decide) ?_);exact rq (I:=I) hh fun h' hb=>q h' fun b o GI e=>hb b o GI ((Heap.SameBut.update ..).extBut b o GI e)
theorem zy{place:Nat}{tk:Tok}{x:Int×Value}(hit:EI s.heap I (.ref a2) i S n ep)(hS:FG s.heap S es ep t)(hf:t.fits es.size=true)(hn:es.size=n)(h2:s.heap.get? a2=some o2)(d2:o2.data=.seq pl n2)(hp:pl[i]?=some (.int place tk))(hx:es[place]?=some x)(q:∀ h',EI h' I (.ref a2) (i+1) S n ep->Heap.SameBut I s.heap h'->Q (some x.2) { s with heap:=h' }):wpAny (model prog w) A (pyNext<|.ref I) Q E s:=by
 refine jT hit ?_;obtain⟨o,f1,f2,f3⟩:=id hit;obtain⟨oS,e1,e2,e3⟩:=hS;unfold Builtin.«set_iterator.__next__»;refine wpAny_bind (wpAny_pure<|wpAny_bind<|wpAny_fieldsOf f1 f3 ?_);show wpAny _ _ (setEntries S >>= _) _ _ _;refine wpAny_bind (wpAny_setEntries_of e1 e3 hf ?_);dsimp only;rw[if_neg (by rw[hn];simp)];show wpAny _ _ (seqItems? (.ref a2) >>= _) _ _ _;refine wpAny_bind (wpAny_seqItems h2 d2 ?_);dsimp only;rw[toNat_natCast,hp];dsimp only;show wpAny _ _ (setNextDrawn S _ _ >>= _) _ _ _;unfold setNextDrawn;refine wpAny_bind (wpAny_bind<|wpAny_setState_of e1 e3 hf ?_);dsimp only;rw[if_neg (by simp),toNat_natCast,hx];dsimp only;refine wpAny_pure ?_;refine wpAny_bind (jU (f0':=.ref a2) (i':=i+1) hit (by decide) rfl fun h1 Gq Kg=>?_);exact wpAny_pure ⟨_,rfl,q h1 Gq Kg⟩
theorem zz(hh:A.handled=none)(hit:EI s.heap I (.ref a2) i S n ep)(hS:FG s.heap S es ep t)(hf:t.fits es.size=true)(hn:es.size=n)(h2:s.heap.get? a2=some o2)(d2:o2.data=.seq pl n2)(hp:pl[i]?=none)(q:∀ h',Heap.ExtBut I s.heap h'->Q none { s with heap:=h' }):wpAny (model prog w) A (pyNext<|.ref I) Q E s:=by
 refine jT hit ?_;obtain⟨o,f1,f2,f3⟩:=id hit;obtain⟨oS,e1,e2,e3⟩:=hS;unfold Builtin.«set_iterator.__next__»;refine wpAny_bind (wpAny_pure<|wpAny_bind<|wpAny_fieldsOf f1 f3 ?_);show wpAny _ _ (setEntries S >>= _) _ _ _;refine wpAny_bind (wpAny_setEntries_of e1 e3 hf ?_);dsimp only;rw[if_neg (by rw[hn];simp)];show wpAny _ _ (seqItems? (.ref a2) >>= _) _ _ _;refine wpAny_bind (wpAny_seqItems h2 d2 ?_);dsimp only;rw[toNat_natCast,hp];dsimp only;refine wpAny_bind (jU (f0':=.int 0 0) (i':=i) hit (by decide) rfl fun h1 Gq Kg=>?_);obtain⟨o',g1,g2,g3⟩:=Gq;refine wpAny_bind (wpAny_setField (s:={ s with heap:=h1 }) g1 g3 (show 2<5 by decide) ?_);exact rq (I:=I) hh fun h' hb=>q h' fun b o GI e=>hb b o GI ((Heap.SameBut.update ..).extBut b o GI<|Kg.extBut b o GI e)
end
def cJ(val:Nat->List Im):Nat->List (List Im)
 | 0=>[]
 | i+1=>bY (cJ val i) (val i)
theorem bi.fresh(led:Bool):bi w P (h.push<|dP led) h.objs.size led []:=
 ⟨_,#[],0,_,Heap.get?_push_size _ rfl,⟨rfl,rfl,rfl⟩,rfl,⟨[],rfl,.nil,fun z hz=>(not_mem_nil hz).elim⟩,⟨List.Pairwise.nil,rfl,rfl⟩,⟨.inl rfl,rfl,show 0 * 5<7 * 3 by decide,fun j hj=>(not_mem_nil hj).elim,fun p hp=>(not_mem_nil hp).elim⟩,nodup_nil⟩
theorem bi.at(S:bi w P h a led ks)(k:∀ o,h.get? a=some o->h'.get? a=some o):bi w P h' a led ks:=by
 obtain⟨o,es,ep,t,ho,r⟩:=S;exact⟨o,es,ep,t,k o ho,r⟩
section
variable{prog:Program}{w:World}{P:List Im->Addr->Prop}{A:Around}{E:Value->Shared->Prop}{s:Shared}
theorem zA{R:Result->Shared->Prop}{fp wr:List Addr}{Pi:Nat->Value->Prop}{St:Nat->Heap->Prop}{h0:Heap}(hu:A.units+25<cLine)(W:Walks prog w A.in1 I fp wr n Pi St)(NS:S∉fp)(val:Nat->List Im)(Mx:∀ i v,Pi i v->∃ b,v=.ref b/\P (val i) b)(FD:∀ q b,P q b->(bh prog w).is h0 q b)(hw:∀ b o,h0.get? b=some o->b∉wr)(My:∀ u items m,h0.get? S=some u->u.data=.seq items m->False)(hN:∀ i,i<n->(cJ val i).length+1<=300):
  ∀ (k i:Nat) (s:Shared),n - i=k->i<=n->iU h0 s.heap->St i s.heap->bi w P s.heap S led (cJ val i)->
   (∀ h' tk,(∀ b o,b≠S->b∉wr->s.heap.get? b=some o->h'.get? b=some o)->bi w P h' S led (cJ val n)->R (.ok<|.ret .none) { s with heap:=h',toks:=tk })->
   codeAny (model prog w) A (.builtin "set.update.loop" ⟨[.ref S,.ref I],[]⟩) R s:=by
 have NT:S∉wr:=fun h=>NS (W.sub _ h);intro k;induction k with
 | zero=>
  intro i s hk hi T GO hS hR;have PH:i=n:=by lia
  subst PH;refine codeAny_builtin PyProof.Rows.F.entry_set_update_loop ?_;rw[Around.under_plainId PyProof.Rows.F.plain_set_update_loop _];show wpAny _ A.in1 (pyNext (.ref I) >>= _) _ _ s;refine wpAny_bind (W.done s _ _ GO fun h' tk hm=>?_);show wpAny _ A.in1 (ret Value.none) _ _ _;exact wpAny_pure (hR h' tk (fun b o _ hw e=>hm b o hw e)<|hS.at fun o e=>hm S o NT e)
 | succ k ih=>
  intro i s hk hi T GO hS hR;have DO:i<n:=by lia
  refine codeAny_builtin PyProof.Rows.F.entry_set_update_loop ?_;rw[Around.under_plainId PyProof.Rows.F.plain_set_update_loop _];show wpAny _ A.in1 (pyNext (.ref I) >>= _) _ _ s;refine wpAny_bind (W.item i s _ _ DO GO fun v h1 Qz hP Mz hm=>?_);obtain⟨x,rfl,MA⟩:=Mx i v hP;have T1:iU h0 h1:=fun b o items m e1 e2 e3=>hm b o (hw b o e1) (T b o items m e1 e2 e3);have ID:∀ q b,P q b->(bh prog w).is h1 q b:=fun q b z=>⟨(FD q b z).1,(FD q b z).2.keep T1⟩;show wpAny _ A.in1 (holding [Value.ref x] (setAdd S<|.ref x) >>= _) _ _ _;refine wpAny_bind (wpAny_holding ?_);unfold setAdd;refine wpAny_holding ?_;refine wpAny_bind ((bh prog w).pyHash (k:=val i) (show A.units+1+10<cLine by lia) (ID _ _ MA) ?_);refine zn (s:={ s with heap:=h1,toks:=_ }) (show A.units+1+20<cLine by lia) (hS.at fun o e=>hm S o NT e) (ID _ _ MA) MA ID (hN i DO) fun b h2 Kf Kh=>?_;refine wpAny_pure ⟨plainId_quiet PyProof.Rows.F.plain_set_update_loop _,ih (i+1) _ (by lia) DO (fun b o items m e1 e2 e3=>?_) (W.frame _ h1 h2 Mz fun b hb o e=>?_) Kh fun h3 PJ Fz Lh=>?_⟩
  ·show h2.get? b=some o;rw[Kf.2 b (fun h:b=S=>My o items m (h ▸ e1) e3)];exact T1 b o items m e1 e2 e3
  ·rw[Kf.2 b (fun h:b=S=>NS (by rw[<- h];exact hb))];exact e
  ·refine hR h3 PJ (fun b o hb hw e=>Fz b o hb hw ?_) Lh;show h2.get? b=some o;rw[Kf.2 b hb];exact hm b o hw e
end
section
variable{prog:Program}{w:World}{P:List Im->Addr->Prop}{A:Around}{E:Value->Shared->Prop}{s:Shared}
variable{Q:Value->Shared->Prop}
theorem zB(hh:A.handled=none)(Ki:s.heap.get? l=some o)(I_:o.cls=.type "tuple")(Jc:o.data=.seq items nl)(hu:A.units+28<cLine)(hi:∀ i v,items[i]?=some v->∃ b,v=.ref b/\P (ks.getD i []) b)(FD:∀ q b,P q b->(bh prog w).is s.heap q b)(hb:∀ i,i<items.size->(cJ (fun i=>ks.getD i []) i).length+1<=300)(Jn:l≠S)(hS:s.heap.get? S=some (dP led))(My:bi w P s.heap S led [])(h:∀ h' tk,bi w P h' S led (cJ (fun i=>ks.getD i []) items.size)->(∀ b o,b≠S->s.heap.get? b=some o->h'.get? b=some o)->Q .none { s with heap:=h',toks:=tk }):
  wpAny (model prog w) A (Builtin.«set.__init__» ⟨[.ref S,.ref l],[]⟩) (fun fin s'=>∃ r,fin=.done (.ret r)/\Q r s') E s:=by
 obtain⟨PK,NU,NV,MB⟩:=o;simp only at I_ Jc;subst I_;subst Jc;have PL:=zo;have PM:=zp;have PN:(Value.type "tuple" == Value.type "dict")=false:=by decide
 unfold dP at hS;have Iu:s.heap.IsTuple l items:=⟨_,Ki,rfl,nl,rfl⟩;unfold Builtin.«set.__init__» noKeywords Builtin.Frozenset.updateFrom;generalize PP:pyIter=PI
 wp_walk
 subst PP;refine wpAny_pyIter_tuple Iu ?_;refine wpAny_bind (wpAny_runValue ?_);have PQ:l<s.heap.objs.size:=Heap.lt_size Ki;have PR:S<s.heap.objs.size:=Heap.lt_size hS;have PU:A.in1.handled=none:=by simp[hh]
 refine zA (led:=led) (P:=P) (h0:=s.heap) (show A.units+25<cLine by lia) (Walks.tuple PU _ l (ne_of_lt PQ) items) ?_ (fun i=>ks.getD i []) hi FD ?_ ?_ hb (items.size - 0) 0 _ (by lia) (zero_le _) ?_ ⟨⟨_,Heap.get?_push_size _ rfl,rfl,rfl⟩,?_⟩ ?_ fun h' tk hk Kj=>?_
 ·simp only[mem_cons,not_mem_nil,or_false,not_or];exact⟨ne_of_lt PR,fun e=>Jn e.symm⟩
 ·intro b o e;rw[mem_singleton];exact ne_of_lt (Heap.lt_size e)
 ·intro u items m e1 e2;rw[hS] at e1;cases e1;cases e2
 ·intro b o items m e1 e2 e3;exact Heap.get?_push_of_some _ e1
 ·obtain⟨o,ho,r⟩:=Iu;exact⟨o,Heap.get?_push_of_some _ ho,r⟩
 ·exact My.at fun o e=>Heap.get?_push_of_some _ e
 ·show wpAny _ _ _ _ _ _;refine wpAny_pure ?_;show wpAny _ _ (ret Value.none) _ _ _;refine wpAny_pure ⟨_,rfl,h h' tk Kj fun b o hb e=>hk b o hb ?_<|Heap.get?_push_of_some _ e⟩;rw[mem_singleton];exact ne_of_lt (Heap.lt_size e)
theorem zC(hh:A.handled=none)(Ki:s.heap.get? l=some o)(I_:o.cls=.type "tuple")(Jc:o.data=.seq items nl)(hu:A.units+30<cLine)(hi:∀ i v,items[i]?=some v->∃ b,v=.ref b/\P (ks.getD i []) b)(FD:∀ q b,P q b->(bh prog w).is s.heap q b)(hb:∀ i,i<items.size->(cJ (fun i=>ks.getD i []) i).length+1<=300)(h:∀ h' tk,bi w P h' s.heap.objs.size (ce w) (cJ (fun i=>ks.getD i []) items.size)->(∀ b o,s.heap.get? b=some o->h'.get? b=some o)->Q (.ref s.heap.objs.size) { s with heap:=h',toks:=tk }):
  wpAny (model prog w) A (call (.type "set") [.ref l]) Q E s:=by
 obtain⟨c,tl,PV⟩:=PySem.F.called_set.mro;have NW:=PySem.F.called_set.made;have JY:=PySem.F.called_set.sub;refine wpAny_call (codeAny_of_tree ?_);show wpAny _ _ (callAny (.type "set") _) _ _ _;refine wpAny_pure ⟨Code.quiet_builtin _ (by decide +kernel),codeAny_builtin F.entry_type_call ?_⟩;rw[Around.under_plain (weight_type_call_type "set" [.ref l] []) rfl];have h1:=PySem.F.called_set.notType;have h2:=PySem.F.called_set.canCreate;have QA:=PySem.F.typeCall_set_1 (.ref l);repeat (any_goals (first | assumption | wp_step))
 refine codeAny_mono (zq (.ref l) (E:=E) (Q₁:=fun obj s₁=>obj=.ref s.heap.objs.size/\s₁={ s with heap:=s.heap.push (dP<|ce w) }) ⟨rfl,rfl⟩) fun r s₁ hr=>?_;cases r with
 | error e=>exact hr
 | ok fl=>
  cases fl with
  | ret obj=>
   obtain⟨rfl,rfl⟩:=hr;have hS:(s.heap.push<|dP<|ce w).get? s.heap.objs.size=some (dP<|ce w):=Heap.get?_push_size _ rfl;have hT:Shared.TypeIs { s with heap:=s.heap.push (dP<|ce w) } (.ref s.heap.objs.size) "set" := ⟨_,hS,rfl⟩;have QB:=PySem.F.called_set.init.lookup;have QC:=PySem.F.called_set.init.bind (.ref s.heap.objs.size);repeat (any_goals (first | assumption | wp_step))
   refine codeAny_mono (codeAny_call_builtin (R:=wants (fun r s₂=>r=.none/\∃ h' tk,s₂={ s with heap:=h',toks:=tk }/\
     bi w P h' s.heap.objs.size (ce w) (cJ (fun i=>ks.getD i []) items.size)/\(∀ b o,s.heap.get? b=some o->h'.get? b=some o)) E) PySem.F.called_set.init.plain PySem.F.entry_set_init<|check_set_init_1 hT ?_) fun r₂ s₂ Gr=>?_
   ·refine wpAny_mono (zB (s:={ s with heap:=s.heap.push (dP<|ce w) }) (by simp[hh]) (Heap.get?_push_of_some _ Ki) I_ Jc (by show A.in1.in1.units+28<cLine;show A.units+1+1+28<cLine;lia) hi (fun q b z=>⟨(FD q b z).1,(FD q b z).2.keep fun b o _ _ e _ _=>Heap.get?_push_of_some _ e⟩) hb (ne_of_lt<|Heap.lt_size Ki) hS (bi.fresh _) (Q:=fun r s₂=>r=.none/\∃ h' tk,s₂={ s with heap:=h',toks:=tk }/\
     bi w P h' s.heap.objs.size (ce w) (cJ (fun i=>ks.getD i []) items.size)/\(∀ b o,s.heap.get? b=some o->h'.get? b=some o)) fun h' tk Kj hk=>⟨rfl,h',tk,rfl,Kj,fun b o e=>hk b o (ne_of_lt<|Heap.lt_size e)<|Heap.get?_push_of_some _ e⟩) (fun fin s' hq=>?_) fun _ _ e=>e;obtain⟨r,rfl,hq⟩:=hq;exact hq
   ·cases r₂ with
    | error e=>exact Gr
    | ok Kk=>
     cases Kk with
     | ret r=>
      obtain⟨rfl,h',tk,rfl,Kj,DM⟩:=Gr;repeat (any_goals (first | assumption | wp_step))
      exact h _ _ Kj DM
     | _=>exact Gr.elim
  | _=>exact hr.elim
end
section
variable{prog:Program}{w:World}{A:Around}{E:Value->Shared->Prop}{s:Shared}
theorem rB{α:Type}(next:Nat->Nat):∀ (fuel k:Nat) (left:List α) (out:Array α),left.length=fuel->(pickOrder.go next fuel k left out).toList.Perm (out.toList++left)
 | 0,k,left,out,h=>by
  have e:left=[]:=List.eq_nil_of_length_eq_zero h;subst e;unfold pickOrder.go;rw[append_nil]
 | fuel+1,k,left,out,h=>by
  unfold pickOrder.go;have hi:next k % left.length<left.length:=mod_lt _ (by rw[h];exact succ_pos _)
  rw[List.getElem?_eq_getElem hi];dsimp only;refine (rB next fuel (k+1) _ _ (by rw[List.length_eraseIdx_of_lt hi,h];rfl)).trans ?_;rw[toList_push,List.append_assoc];exact List.Perm.append_left _ (mE _ _ hi)
theorem zE(next:Nat->Nat)(xs:Array α):(pickOrder next xs).toList.Perm xs.toList:=rB next xs.size 0 xs.toList #[] (by rw[length_toList])
theorem jV{Q:Bool->Shared->Prop}(h:Q (w.params.followText "set-order") s):wpAny (model prog w) A setsByText Q E s:=by
 unfold setsByText;exact wpAny_bind (wpAny_askSetting<|wpAny_pure h)
variable{Q:Option (Value×Nat)->Shared->Prop}
theorem rC(hS:FG s.heap S es ep t)(hf:t.fits es.size=true)(EG:w.params.followText "set-order" = false)(Jh:(!t.plain && decide (es.size > 1))=false)(hl:t.led=true)(hb:SetTable.below t.place slot=i)(q:Q (match es[i]?,t.place[i]? with | some (_,x),some j=>some (x,j+1) | _,_=>none) s):wpAny (model prog w) A (setNext S slot g ep) Q E s:=by
 obtain⟨o,e1,e2,e3⟩:=hS;unfold setNext;refine wpAny_bind (wpAny_setState_of e1 e3 hf ?_);dsimp only;refine wpAny_bind (jV ?_);rw[EG,if_neg Bool.false_ne_true];show wpAny _ _ (if (!t.plain && decide (es.size > 1))=true then _ else _) _ _ _;rw[Jh,if_neg Bool.false_ne_true];show wpAny _ _ ((if (!t.led && !es.isEmpty)=true then (unsupported "set:maker-not-led" : Sem Unit) else pure ()) >>= _) _ _ _;rw[hl];refine wpAny_bind (m:=pure ()) (wpAny_pure ?_);rw[hb];exact wpAny_pure q
theorem rE(hS:FG s.heap S es ep t)(hf:t.fits es.size=true)(EG:w.params.followText "set-order" = true)(q:Q (((pickOrder (w.params.setOrder S ep) es)[g]?).map fun e=>(e.2,slot)) s):wpAny (model prog w) A (setNext S slot g ep) Q E s:=by
 obtain⟨o,e1,e2,e3⟩:=hS;unfold setNext;refine wpAny_bind (wpAny_setState_of e1 e3 hf ?_);dsimp only;refine wpAny_bind (jV ?_);rw[EG,if_pos rfl,if_neg (by simp)];unfold setWalk;refine wpAny_bind (wpAny_bind<|wpAny_setState_of e1 e3 hf ?_);dsimp only;refine wpAny_bind (jV ?_);rw[EG,if_pos rfl];exact wpAny_bind (wpAny_askSetting<|wpAny_pure<|wpAny_pure q)
theorem mF{Q:Value->Shared->Prop}(hit:EI s.heap I f0 i S n ep)(q:Q (.ref I) s):wpAny (model prog w) A (pyIter<|.ref I) Q E s:=by
 refine wpAny_pyIter_slot hit.ty rn (wpAny_call_entry rn hit.ty zw ?_<|zv _);show wpAny _ _ (ret<|.ref I) _ _ s;exact wpAny_pure ⟨_,rfl,"set_iterator",_,hit.ty,iq.lookup,q⟩
def mG(place:Array Nat):Nat->Nat
 | 0=>0
 | i+1=>place.getD i 0+1
theorem rF{place:Array Nat}(r:cb place):∀ {i:Nat},i<=place.size->SetTable.below place (mG place i)=i
 | 0,_=>yY r
 | i+1,h=>by
  have e:place[i]?=some (place.getD i 0):=by simp[Array.getD,show i<place.size from h]
  exact yX r e
def dy(es:Array (Int×Value)):List Value:=es.toList.map (·.2)
theorem jW(es:Array (Int×Value)):(dy es).length=es.size:=by rw[dy,length_map,length_toList]
theorem zF(hh:A.handled=none)(ne:S≠I)(hf:t.fits es.size=true)(EG:w.params.followText "set-order" = false)(Jh:(!t.plain && decide (es.size > 1))=false)(hl:t.led=true)(r:cb t.place):
  Walks prog w A I [I,S] [I] (dy es).length (fun i v=>(dy es)[i]?=some v) (fun i h=>EI h I (.int (mG t.place i) 0) i S es.size ep/\FG h S es ep t) where
 sub:=fun b hb=>by
  have:b=I:=by simpa using hb
  simp[this]
 frame:=fun i h h' st k=>⟨st.1.go (k I (by simp)),st.2.go (k S (by simp))⟩
 item:=fun i s Q E hi st hQ=>by
  rw[jW] at hi;have hp:t.place.size=es.size:=by
   simp only[SetTable.fits,and_eq_true,beq_iff_eq] at hf;exact hf.1
  have e1:es[i]?=some es[i]:=Array.getElem?_eq_getElem hi;have e2:t.place[i]?=some (t.place.getD i 0):=by simp[Array.getD,show i<t.place.size by lia]
  have hv:(dy es)[i]?=some es[i].2:=by rw[dy,List.getElem?_map,getElem?_toList,e1];rfl
  refine rz (next:=mG t.place (i+1)) (x:=es[i].2) st.1 st.2 hf rfl (fun Q' E' q=>rC st.2 hf EG Jh hl (rF r (by lia)) ?_) fun h' a b=>hQ _ h' s.toks hv ⟨a,st.2.go fun o e=>b.extBut S o ne e⟩ fun c o hc e=>b.extBut c o (by simpa using hc) e;rw[e1,e2];exact q
 done:=fun s Q E st hQ=>by
  rw[jW] at st;have hp:t.place.size=es.size:=by
   simp only[SetTable.fits,and_eq_true,beq_iff_eq] at hf;exact hf.1
  refine rA hh st.1 st.2 hf rfl (fun Q' E' q=>rC st.2 hf EG Jh hl (rF r (by lia)) ?_) fun h' b=>hQ h' s.toks fun c o hc e=>b c o (by simpa using hc) e;rw[Array.getElem?_eq_none (Nat.le_refl _)];exact q
 self:=fun i s Q E st hQ=>mF st.1 hQ
theorem zG(hh:A.handled=none)(ne:S≠I)(hf:t.fits es.size=true)(EG:w.params.followText "set-order" = true):
  Walks prog w A I [I,S] [I] (dy<|pickOrder (w.params.setOrder S ep) es).length (fun i v=>(dy<|pickOrder (w.params.setOrder S ep) es)[i]?=some v) (fun i h=>EI h I (.int (0:Nat) 0) i S es.size ep/\FG h S es ep t) where
 sub:=fun b hb=>by
  have:b=I:=by simpa using hb
  simp[this]
 frame:=fun i h h' st k=>⟨st.1.go (k I (by simp)),st.2.go (k S (by simp))⟩
 item:=fun i s Q E hi st hQ=>by
  rw[jW] at hi;have e1:(pickOrder (w.params.setOrder S ep) es)[i]?=some (pickOrder (w.params.setOrder S ep) es)[i]:=Array.getElem?_eq_getElem hi;have hv:(dy<|pickOrder (w.params.setOrder S ep) es)[i]?=some (pickOrder (w.params.setOrder S ep) es)[i].2:=by rw[dy,List.getElem?_map,getElem?_toList,e1];rfl
  refine rz (next:=0) (x:=(pickOrder (w.params.setOrder S ep) es)[i].2) st.1 st.2 hf rfl (fun Q' E' q=>rE st.2 hf EG ?_) fun h' a b=>hQ _ h' s.toks hv ⟨a,st.2.go fun o e=>b.extBut S o ne e⟩ fun c o hc e=>b.extBut c o (by simpa using hc) e;rw[e1];exact q
 done:=fun s Q E st hQ=>by
  rw[jW] at st;refine rA hh st.1 st.2 hf rfl (fun Q' E' q=>rE st.2 hf EG ?_) fun h' b=>hQ h' s.toks fun c o hc e=>b c o (by simpa using hc) e;rw[Array.getElem?_eq_none (Nat.le_refl _)];exact q
 self:=fun i s Q E st hQ=>mF st.1 hQ
def fE(ps:List Nat):List Value:=ps.map fun (i:Nat)=>rawInt i
def dz(es:Array (Int×Value))(ps:List Nat):List Value:=ps.filterMap fun i=>es[i]?.map (·.2)
theorem rG{es:Array (Int×Value)}:∀ {ps:List Nat},(∀ p∈ps,p<es.size)->∀ (i:Nat) (h:i<ps.length),∃ x,es[ps[i]]?=some x/\(dz es ps)[i]?=some x.2
 | [],_,i,h=>by cases h
 | p::ps,hp,i,h=>by
  have G9:p<es.size:=hp p (.head _);have e:es[p]?=some es[p]:=Array.getElem?_eq_getElem G9;have e2:dz es (p::ps)=es[p].2::dz es ps:=by rw[dz,List.filterMap_cons_some (b:=es[p].2) (by rw[e];rfl)];rfl
  rw[e2];cases i with
  | zero=>exact⟨es[p],e,rfl⟩
  | succ i=>
   obtain⟨x,h1,h2⟩:=rG (fun p h=>hp p<|.tail _ h) i (Nat.lt_of_succ_lt_succ h);exact⟨x,h1,h2⟩
theorem mH{es:Array (Int×Value)}:∀ {ps:List Nat},(∀ p∈ps,p<es.size)->(dz es ps).length=ps.length
 | [],_=>rfl
 | p::ps,hp=>by
  have G9:p<es.size:=hp p (.head _);have e:es[p]?=some es[p]:=Array.getElem?_eq_getElem G9;rw[dz,List.filterMap_cons_some (b:=es[p].2) (by rw[e];rfl),length_cons,length_cons];exact congrArg (·+1) (mH fun p h=>hp p<|.tail _ h)
theorem zH(hh:A.handled=none)(ne:S≠I)(ne2:a2≠I)(hf:t.fits es.size=true)(hp:∀ p∈ps,p<es.size):
  Walks prog w A I [I,S,a2] [I] (dz es ps).length (fun i v=>(dz es ps)[i]?=some v) (fun i h=>EI h I (.ref a2) i S es.size ep/\FG h S es ep t/\∃ o,h.get? a2=some o/\o.data=.seq (fE ps).toArray n2) where
 sub:=fun b hb=>by
  have:b=I:=by simpa using hb
  simp[this]
 frame:=fun i h h' st k=>⟨st.1.go (k I (by simp)),st.2.1.go (k S (by simp)),let ⟨o,e,r⟩:=st.2.2;⟨o,k a2 (by simp) o e,r⟩⟩
 item:=fun i s Q E hi st hQ=>by
  obtain⟨r_,o_,o,e,r⟩:=st;rw[mH hp] at hi;obtain⟨x,h1,h2⟩:=rG hp i hi;refine zy (x:=x) (place:=ps[i]) (tk:=0) r_ o_ hf rfl e r ?_ h1 fun h' a b=>hQ _ h' s.toks h2 ⟨a,o_.go fun o e=>b.extBut S o ne e,o,b.extBut a2 o ne2 e,r⟩ fun c o hc e=>b.extBut c o (by simpa using hc) e;rw[List.getElem?_toArray,fE,List.getElem?_map,List.getElem?_eq_getElem hi];rfl
 done:=fun s Q E st hQ=>by
  obtain⟨r_,o_,o,e,r⟩:=st;refine zz hh r_ o_ hf rfl e r ?_ fun h' b=>hQ h' s.toks fun c o hc e=>b c o (by simpa using hc) e;rw[List.getElem?_toArray,fE,List.getElem?_map,List.getElem?_eq_none (by rw[mH hp];exact Nat.le_refl _)];rfl
 self:=fun i s Q E st hQ=>mF st.1 hQ
end
section
variable{prog:Program}{w:World}{A:Around}{E:Value->Shared->Prop}{s:Shared}
theorem zI{r:Addr}{Q:Bool->Shared->Prop}(hT:s.TypeIs (.ref r) "set")(h:Q false s):wpAny (model prog w) A (Builtin.List.listLengthHint<|.ref r) Q E s:=by
 unfold Builtin.List.listLengthHint;refine wpAny_bind (wpAny_specialOf hT PySem.F.slot_set_len.lookup ?_);generalize NX:("set.__len__" : String)=PX
 wp_delta
 rw[show splitId PX=some ("set","__len__") from by subst NX;decide +kernel];subst NX;refine wpAny_bind (wpAny_isInstance (T := "set") (b:=true) hT (by rw[isSubtype_type];kernel_rfl) ?_);refine wpAny_ite_split (fun Kd=>absurd Kd (by decide)) (fun _=>?_);refine wpAny_ite_split (fun _=>?_) (fun Kd=>absurd (by decide +kernel) Kd);refine wpAny_bind (wpAny_typeOf hT ?_);exact wpAny_pure h
theorem zJ(hp:ps.Perm (range es.size)):dz es ps=(ps.filterMap fun i=>es[i]?).map (·.2)/\(ps.filterMap fun i=>es[i]?).Perm es.toList:=by
 refine⟨?_,(hp.filterMap _).trans (by rw[filterMap_getElem?_range])⟩;rw[List.map_filterMap];rfl
end
section
variable{prog:Program}{w:World}{A:Around}{E:Value->Shared->Prop}{s:Shared}
end
theorem zK{f:α->β}:∀ {l' l:List β},l'.Perm l->∀ zs:List α,zs.map f=l->∃ Ji:List α,Ji.Perm zs/\Ji.map f=l':=by
 intro l' l p;induction p with
 | nil=>intro zs e;cases List.map_eq_nil_iff.mp e;exact⟨[],.nil,rfl⟩
 | cons x p ih=>
  intro zs e;obtain⟨a,r,rfl,rfl,e2⟩:=List.map_eq_cons_iff.mp e;obtain⟨Ji,p1,p2⟩:=ih r e2;exact⟨a::Ji,p1.cons a,by rw[map_cons,p2]⟩
 | swap x y l=>
  intro zs e;obtain⟨a,r,rfl,rfl,e2⟩:=List.map_eq_cons_iff.mp e;obtain⟨b,r2,rfl,rfl,e3⟩:=List.map_eq_cons_iff.mp e2;exact⟨b::a::r2,.swap a b r2,by rw[map_cons,map_cons,e3]⟩
 | trans p1 p2 PY PZ=>
  intro zs e;obtain⟨z2,q1,q2⟩:=PZ zs e;obtain⟨z1,q3,q4⟩:=PY z2 q2;exact⟨z1,q3.trans q1,q4⟩
theorem rH{w:World}{P:List Im->Addr->Prop}:∀ zs:List (List Im×Int×Value),(∀ z∈zs,jS w P z)->∃ ws:List (List Im×Addr),zs.map (fun z=>z.2.2)=ws.map (fun z=>Value.ref z.2)/\ws.map (·.1)=zs.map (·.1)/\∀ z∈ws,P z.1 z.2
 | [],_=>⟨[],rfl,rfl,fun _ h=>(not_mem_nil h).elim⟩
 | z::zs,h=>by
  obtain⟨b,e1,e2,e3⟩:=h z (.head _);obtain⟨ws,w1,w2,w3⟩:=rH zs fun z hz=>h z (.tail _ hz);refine⟨(z.1,b)::ws,by rw[map_cons,map_cons,w1,e1],by rw[map_cons,map_cons,w2],fun y hy=>?_⟩;rcases mem_cons.mp hy with rfl | hy
  ·exact e3
  ·exact w3 y hy
section
variable{prog:Program}{w:World}{P:List Im->Addr->Prop}{A:Around}{E:Value->Shared->Prop}{s:Shared}
theorem zL{Q:Value->Shared->Prop}(hh:A.handled=none)(hS:bi w P s.heap S (ce w) ks)(hz:ks.length<=300)(h:∀ (h1:Heap) (d:_) (I:Addr) (fp:List Addr) (vs:List Value) (ws:List (List Im×Addr)) (St:Nat->Heap->Prop),(∀ b o,s.heap.get? b=some o->h1.get? b=some o)->s.heap.objs.size<=I->(∀ b∈fp,b=S\/s.heap.objs.size<=b)->
   Walks prog w A I fp [I] vs.length (fun i v=>vs[i]?=some v) St->St 0 h1->vs=ws.map (fun z=>Value.ref z.2)->(ws.map (·.1)).Perm ks->(∀ z∈ws,P z.1 z.2)->Q (.ref I) { s with heap:=h1,drawn:=d }):
  wpAny (model prog w) A (pyIter<|.ref S) Q E s:=by
 obtain⟨o,es,ep,t,e1,e2,e3,D⟩:=hS;have ty:s.TypeIs (.ref S) "set" := ⟨o,e1,e2.1⟩;have Jj:S<s.heap.objs.size:=Heap.lt_size e1;have hsz:es.size<=sizeLine:=by rw[D.num];exact Nat.le_trans hz (by decide)
 have give:∀ l:List (Int×Value),l.Perm es.toList->∃ ws:List (List Im×Addr),l.map (·.2)=ws.map (fun z=>Value.ref z.2)/\(ws.map (·.1)).Perm ks/\∀ z∈ws,P z.1 z.2:=fun l pl=>by
  obtain⟨zs,z1,z2,z3⟩:=D.Jg;obtain⟨Ji,p1,p2⟩:=zK pl zs z1;obtain⟨ws,w1,w2,w3⟩:=rH (w:=w) (P:=P) Ji fun z hz=>z3 z (p1.mem_iff.mp hz);refine⟨ws,?_,?_,w3⟩
  ·rw[<- p2,List.map_map];exact w1
  ·rw[w2];exact (p1.map _).trans z2
 refine wpAny_pyIter_slot ty PySem.F.slot_set_iter (wpAny_call_entry PySem.F.slot_set_iter ty zu ?z<|PySem.F.args_set_iter_1 _)
 case z=>
  unfold Builtin.«frozenset.__iter__» Builtin.Frozenset.slot0 Builtin.Frozenset.addrOf Builtin.Frozenset.sizeOf;refine wpAny_bind (wpAny_bind<|wpAny_pure<|wpAny_pure ?_);refine wpAny_bind (wpAny_bind<|wpAny_setEntries_of e1 e3 D.fit<|wpAny_pure ?_);refine wpAny_bind ?_;unfold setDrawn;refine wpAny_bind (wpAny_setState_of e1 e3 D.fit ?_);dsimp only;refine wpAny_bind (jV<|wpAny_pure ?_);have MC:w.params.followText "set-order" = true\/(!t.plain && decide (es.size > 1))=false->
    wpAny (model prog w) A.in1 (do let ep <- setEpoch S;let r <- newFields "set_iterator" [rawInt 0,rawInt 0,.ref S,rawInt es.size,rawInt ep];ret r) (fun fin s'=>∃ r,fin=PySem.Fin.done (.ret r)/\∃ T' q,s'.TypeIs r T'/\typeLookup (.type T') "__next__" = pure (some q)/\Q r s') E s:=by
   intro hc;refine wpAny_bind (wpAny_setEpoch_of e1 e3 D.fit<|wpAny_bind<|wpAny_newObj_type<|wpAny_pure ⟨_,rfl,"set_iterator",_,⟨_,Heap.get?_push_size _ rfl,rfl⟩,iq.lookup,?_⟩);have kp:∀ b o,s.heap.get? b=some o->(s.heap.push { cls:=.type "set_iterator",dict:=none,data:=.fields [rawInt 0,rawInt 0,.ref S,rawInt es.size,rawInt ep].toArray }).get? b=some o:=fun b o e=>Heap.get?_push_of_some _ e;have NY:EI (s.heap.push { cls:=.type "set_iterator",dict:=none,data:=.fields [rawInt 0,rawInt 0,.ref S,rawInt es.size,rawInt ep].toArray }) s.heap.objs.size (.int (0:Nat) 0) 0 S es.size ep:=⟨_,Heap.get?_push_size _ rfl,rfl,rfl⟩;have sat:FG (s.heap.push { cls:=.type "set_iterator",dict:=none,data:=.fields [rawInt 0,rawInt 0,.ref S,rawInt es.size,rawInt ep].toArray }) S es ep t:=⟨o,kp _ _ e1,e2,e3⟩;have fp:∀ b∈[s.heap.objs.size,S],b=S\/s.heap.objs.size<=b:=fun b hb=>by
    rcases mem_cons.mp hb with rfl | hb
    ·exact .inr (Nat.le_refl _)
    ·exact .inl (mem_singleton.mp hb)
   cases EG:w.params.followText "set-order" with
   | true=>
    have hp:=zE (w.params.setOrder S ep) es;obtain⟨ws,w1,w2,w3⟩:=give _ hp;exact h _ s.drawn _ _ _ _ _ kp (Nat.le_refl _) fp (zG hh (ne_of_lt Jj) D.fit EG) ⟨NY,sat⟩ w1 w2 w3
   | false=>
    have Jh:=hc.resolve_left (by rw[EG];exact Bool.false_ne_true);obtain⟨ws,w1,w2,w3⟩:=give _ (.refl _);exact h _ s.drawn _ _ _ _ _ kp (Nat.le_refl _) fp (zF hh (ne_of_lt Jj) D.fit EG Jh (by rw[D.tab.led,ce,EG];rfl) D.tab.rise) ⟨NY,sat⟩ w1 w2 w3
  show wpAny _ _ (if (!w.params.followText "set-order" && (!t.plain && decide (es.size > 1)))=true then _ else _) _ _ _;cases hd:(!w.params.followText "set-order" && (!t.plain && decide (es.size > 1))) with
  | false=>
   rw[if_neg Bool.false_ne_true];refine wpAny_bind (m:=pure (rawInt 0)) (wpAny_pure<|MC ?_);cases EG:w.params.followText "set-order" with
   | true=>exact .inl rfl
   | false=>rw[EG] at hd;exact .inr hd
  | true=>
   rw[if_pos rfl];refine wpAny_bind (rp es.size (range es.size) s _ length_range fun d ps hp=>?_);have K8:∀ p∈ps,p<es.size:=fun p h=>mem_range.mp (hp.mem_iff.mp h);have Hu:ps.length=es.size:=by rw[hp.length_eq,length_range]
   refine wpAny_bind (m:=newObj (.type "tuple") (.seq (fE ps).toArray)) (wpAny_newObj_type ?_ (show (fE ps).toArray.size<=sizeLine by rw[size_toArray,fE,length_map,Hu];exact hsz));refine wpAny_bind (wpAny_setEpoch_of (Heap.get?_push_of_some _ e1) e3 D.fit<|wpAny_bind<|wpAny_newObj_type<|wpAny_pure ⟨_,rfl,"set_iterator",_,⟨_,Heap.get?_push_size _ rfl,rfl⟩,iq.lookup,?_⟩);obtain⟨q1,q2⟩:=zJ hp;obtain⟨ws,w1,w2,w3⟩:=give _ q2;have hI:({ s with heap:=s.heap.push { cls:=.type "tuple",dict:=none,data:=.seq (fE ps).toArray },drawn:=d }:Shared).heap.objs.size=s.heap.objs.size+1:=Heap.size_push ..;refine h _ d _ [_,S,s.heap.objs.size] (dz es ps) ws _ (fun b o e=>Heap.get?_push_of_some _<|Heap.get?_push_of_some _ e) ?_ ?_ (zH (ep:=ep) (t:=t) (n2:=0) hh ?_ ?_ D.fit K8) ⟨⟨_,Heap.get?_push_size _ rfl,rfl,rfl⟩,⟨o,Heap.get?_push_of_some _<|Heap.get?_push_of_some _ e1,e2,e3⟩,⟨_,Heap.get?_push_of_some _<|Heap.get?_push_size _ rfl,rfl⟩⟩ (q1.trans w1) w2 w3
   ·exact le_of_lt (by rw[Heap.size_push];exact lt_succ_self _)
   ·intro b hb;rcases mem_cons.mp hb with rfl | hb
    ·exact .inr (by rw[Heap.size_push];exact le_succ _)
    ·rcases mem_cons.mp hb with rfl | hb
     ·exact .inl rfl
     ·exact .inr (by rw[mem_singleton.mp hb];exact Nat.le_refl _)
   ·rw[Heap.size_push];exact ne_of_lt (Nat.lt_succ_of_lt Jj)
   ·rw[Heap.size_push];exact ne_of_lt (lt_succ_self _)
theorem zM{Q:List Value->Shared->Prop}(hh:A.handled=none)(hS:bi w P s.heap S (ce w) ks)(hl:ks.length<=300)(h:∀ (h':Heap) (tk:Nat) (d:_) (ws:List (List Im×Addr)),(∀ b o,s.heap.get? b=some o->h'.get? b=some o)->(ws.map (·.1)).Perm ks->(∀ z∈ws,P z.1 z.2)->Q (ws.map fun z=>Value.ref z.2) { s with heap:=h',toks:=tk,drawn:=d }):
  wpAny (model prog w) A (collect<|.ref S) Q E s:=by
 have Jj:S<s.heap.objs.size:=let ⟨_,_,_,_,e,_⟩:=hS;Heap.lt_size e
 unfold collect;refine wpAny_bind (wpAny_runValue<|codeAny_builtin entry_proto_collect' ?_);rw[Around.under_plainId PySem.F.plain_proto_collect _];show wpAny _ A.in1 (newList [] >>= fun l=>again<|.builtin "list.__iadd__" ⟨[l,.ref S],[]⟩) _ _ s;refine wpAny_bind (wpAny_newObj_type ?_);refine wpAny_pure ⟨plainId_quiet PySem.F.plain_list_iadd _,codeAny_builtin entry_list_iadd' ?_⟩;rw[Around.under_plainId PySem.F.plain_list_iadd _];generalize hH:s.heap.push { cls:=.type "list",dict:=none,data:=.seq ([]:List Value).toArray }=H1;have kH:∀ b o,s.heap.get? b=some o->H1.get? b=some o:=fun b o e=>by rw[<- hH];exact Heap.get?_push_of_some _ e
 have hB:H1.get? s.heap.objs.size=some { cls:=.type "list",dict:=none,data:=.seq #[] }:=by rw[<- hH];exact Heap.get?_push_size _ rfl
 have NZ:s.heap.objs.size<H1.objs.size:=Heap.lt_size hB;have N0:bi w P H1 S (ce w) ks:=hS.at fun o e=>kH S o e;have ty:Shared.TypeIs { s with heap:=H1 } (.ref S) "set" := let ⟨o,_,_,_,e,x,_⟩:=N0;⟨o,e,x.1⟩
 show wpAny _ A.in1 (Builtin.List.listExtendWith (.ref s.heap.objs.size) (.ref S)<|.ref s.heap.objs.size) _ _ _;unfold Builtin.List.listExtendWith;refine wpAny_bind (wpAny_typeOf (T := "set") ty ?_);have h1:Builtin.List.listSameRef (.ref s.heap.objs.size) (.ref S)=false:=by simp[Builtin.List.listSameRef,ne_of_gt Jj]
 have h2:(Value.type "set" == Value.type "list")=false:=by decide
 have h3:(Value.type "set" == Value.type "tuple")=false:=by decide
 simp only[h1,h2,h3,Bool.or_false,false_eq_true,if_false];refine wpAny_bind (zL (s:={ s with heap:=H1 }) hh N0 hl fun h2 d I fp vs ws St k2 hI P1 W st ev pm iv=>?_);have hn:vs.length<=sizeLine:=by rw[ev,length_map,<- length_map (f:=(·.1)),pm.length_eq];exact Nat.le_trans hl (by decide)
 have N1:s.heap.objs.size∉fp:=fun hm=>by
  rcases P1 _ hm with e | e
  ·exact absurd e (ne_of_gt Jj)
  ·exact absurd NZ (Nat.not_lt.mpr e)
 have Kh:h2.get? s.heap.objs.size=some { cls:=.type "list",dict:=none,data:=.seq #[] }:=k2 _ _ hB;have P2:Shared.TypeIs { s with heap:=h2,drawn:=d } (.ref S) "set" := let ⟨o,e,c⟩:=ty;⟨o,k2 _ _ e,c⟩
 have key:∀ (hp:Heap) (c:Nat) (R:Result->Shared->Prop),St 0 hp->(∀ b o,b≠s.heap.objs.size->h2.get? b=some o->hp.get? b=some o)->hp.get? s.heap.objs.size=some { cls:=.type "list",dict:=none,data:=.seq #[] c }->
   (∀ (h':Heap) (tk:Nat) (c':Nat),(∀ b o,s.heap.get? b=some o->h'.get? b=some o)->h'.get? s.heap.objs.size=some { cls:=.type "list",dict:=none,data:=.seq vs.toArray c' }->R (.ok<|.ret<|.ref s.heap.objs.size) { s with heap:=h',toks:=tk,drawn:=d })->
   codeAny (model prog w) A (.builtin "list.extend.loop" ⟨[.ref s.heap.objs.size,.ref I,.ref s.heap.objs.size],[]⟩) R { s with heap:=hp,drawn:=d }:=fun hp c R st kp P3 hR=>
  codeAny_extend_loopS W.toS hn s.heap.objs.size N1 (.ref s.heap.objs.size) vs.length 0 _ #[] c rfl (zero_le _) st P3 (ItemsOf.nil _) fun s' acc c' hm N2 D9=>by
   rw[show s'={ s with heap:=s'.heap,toks:=s'.toks,drawn:=d } from by obtain⟨_,hg,hd2,ho,_⟩:=hm;cases s';cases hg;cases hd2;cases ho;rfl];have ea:acc=vs.toArray:=by
    apply Array.toList_inj.mp;apply List.ext_getElem
    ·rw[length_toList];exact D9.1
    ·intro i g1 g2;have:=D9.2 i acc.toList[i] (by rw[<- getElem?_toList];exact List.getElem?_eq_getElem g1);have this:vs[i]?=some acc.toList[i]:=this;rw[List.getElem?_eq_getElem g2] at this;exact (Option.some.inj this).symm
   rw[ea] at N2;refine hR s'.heap s'.toks c' (fun b o e=>hm.heap b o (fun Es=>?_)<|kp b o (ne_of_lt<|Heap.lt_size e)<|k2 b o<|kH b o e) N2;rcases mem_cons.mp Es with e' | Es
   ·exact absurd (Heap.lt_size e) (by rw[e'];exact lt_irrefl _)
   ·have e3:=Heap.lt_size e;rw[mem_singleton.mp Es] at e3;have:s.heap.objs.size<=I:=Nat.le_trans (le_of_lt NZ) hI;exact absurd e3 (Nat.not_lt.mpr this)
 refine wpAny_bind (wpAny_holding<|zI (s:={ s with heap:=h2,drawn:=d }) P2 ?_);refine wpAny_ite_split (fun _=>?_) (fun _=>wpAny_pure ⟨plainId_quiet PySem.F.plain_extend_loop _,key _ 0 _ st (fun b o _ e=>e) Kh fun h' tk c' k3 MD=>wpAny_bind (wpAny_load MD (wpAny_pure (by rw[ev];exact h h' tk d ws k3 pm iv)))⟩);refine wpAny_bind (wpAny_rule ?_);refine wpAny_bind ?_;show wpAny _ _ (updateSeq s.heap.objs.size (·.push .none) >>= fun _=>updateSeq s.heap.objs.size (·.pop)) _ _ _;refine wpAny_bind (wpAny_updateSeq (s:={ s with heap:=h2,drawn:=d }) Kh rfl ?_);have Lh:=Heap.get?_update_self (Obj.mapSeq (·.push Value.none)) Kh rfl;refine wpAny_updateSeq (hz:=by seq_fits) Lh rfl ?_;have P4:=Heap.get?_update_self (Obj.mapSeq (·.pop)) Lh rfl;refine wpAny_pure ⟨plainId_quiet PySem.F.plain_extend_loop _,key _ _ _ ?_ (fun b o hb e=>?_) P4 fun h' tk c' k3 MD=>wpAny_bind (wpAny_load MD (wpAny_pure (by rw[ev];exact h h' tk d ws k3 pm iv)))⟩
 ·refine W.frame 0 _ _ st fun b hb o e=>?_;have N3:b≠s.heap.objs.size:=fun h=>N1 (h ▸ hb);exact (Heap.get?_update_other _ _<|Ne.symm N3).trans ((Heap.get?_update_other _ _<|Ne.symm N3).trans e)
 ·exact (Heap.get?_update_other _ _<|Ne.symm hb).trans ((Heap.get?_update_other _ _<|Ne.symm hb).trans e)
end
end L2
namespace L2
open PySem PySem.Spec PyProof.Rows PySem.W
section
variable{X:Cx}{pins:List (Addr×Obj)}{σ:St}{H:Hp}{s:Shared}
theorem Inv.Gs(I:Inv X pins σ H s)(d:Drawn):Inv X pins σ H { s with drawn:=d }:=⟨I.ok,I.os,I.bare,I.base,I.loc,I.cell,I.free,I.CU,I.pin,I.l_,I.len⟩
end
section
variable{X:Cx}
end
variable{Kl pos p2 p:Pos}{a:Expr}{ks:List (List Im)}
theorem CW.perm{ds es:List Im}(o:CW ds)(p:es.Perm ds):CW es:=
 ⟨⟨by rw[p.length_eq];exact o.ord.IB,fun a ha b hb=>o.ord.EF a (p.mem_iff.mp ha) b<|p.mem_iff.mp hb,p.nodup_iff.mpr o.ord.nd⟩,o.fst.imp (fun h d hd=>h d<|p.mem_iff.mp hd) fun h d hd=>h d<|p.mem_iff.mp hd⟩
theorem rJ{H:Hp}:∀ {ws:List (List Im×Addr)},(∀ z∈ws,CL H (.tup z.1)<|.ref z.2)->aj H ((ws.map (·.1)).map .tup) (ws.map fun z=>V.ref z.2)
 | [],_=>rfl
 | z::ws,h=>⟨_,_,rfl,h z<|.head _,rJ fun y hy=>h y<|.tail _ hy⟩
theorem mI:∀ ws:List (List Im×Addr),ak (ws.map fun z=>V.ref z.2) (ws.map fun z=>Value.ref z.2)
 | []=>.nil
 | z::ws=>.cons rfl (mI ws)
section
variable{X:Cx}{pins:List (Addr×Obj)}{σ:St}{H:Hp}{s:Shared}{P:List Im->Addr->Prop}
theorem zN(hc:X.calm=true)(hu:X.A.units+20<cLine){S:Addr}{ks:List (List Im)}{Q:VK}(I:Inv X pins σ H s)(hS:bi X.w P s.heap S (ce X.w) ks)(hP:∀ k b,P k b->CL H (.tup k) (.ref b))(o:CW (ks.map .tup))(hz:ks.length<=300)(q:∀ l zs,H l=none->aj H (bD t_<|ks.map .tup) zs->Q (.ref l) (upd H l<|.lst zs)):
  wpAny (model X.prog X.w) X.A (call (.builtin "sorted") [.ref S]) (EP X pins σ Q) X.xe s:=by
 refine Calls.call_function_entry kind_sorted plain_sorted entry_sorted (args_sorted1 _) ?z
 case z=>
  unfold Builtin.«sorted»;refine wpAny_bind (m:=checkCount "sorted" 1 1 _) (wpAny_pure<|wpAny_bind<|zM (A:=X.A.in1) (I.ok.hd hc) hS hz fun h' tk d ws Hc pm hw=>?_);have I1:Inv X pins σ H { s with heap:=h',toks:=tk,drawn:=d }:=(I.Gs d).kept (t':=tk) Hc;have hi:aj H ((ws.map (·.1)).map .tup) (ws.map fun z=>V.ref z.2):=rJ fun z hz=>hP _ _ (hw z hz);have iv:aG h' ((ws.map (·.1)).map .tup) (ws.map fun z=>Value.ref z.2):=hi.Ei I1.l_ (mI ws);have ME:((ws.map (·.1)).map Im.tup).Perm (ks.map .tup):=pm.map _;have o2:=o.perm ME;have lw:ws.length<=300:=by rw[<- length_map (f:=(·.1)),pm.length_eq];exact hz
  generalize F8:(ws.map (·.1)).map Im.tup=ds at hi iv ME o2;generalize K':ws.map (fun z=>V.ref z.2)=ys at hi;have rv:ak ys (ws.map fun z=>Value.ref z.2):=K' ▸ mI ws;generalize hits:ws.map (fun z=>Value.ref z.2)=f_ at iv rv ⊢;have li:f_.length=ds.length:=iv.length.symm;have lz:f_.length<=300:=by rw[<- hits,length_map];exact lw
  show wpAny _ _ (newList f_ >>= _) _ _ _;refine wpAny_bind (wpAny_newList ?_ (Nat.le_trans lz (by decide)));have oB:(h'.push<|seqObj "list" f_.toArray 0).get? h'.objs.size=some (seqObj "list" f_.toArray 0):=Heap.get?_push_size _ rfl;refine wpAny_bind (wpAny_holding<|wpAny_call_entry slot_list_sort ⟨_,oB,rfl⟩ entry_list_sort ?y<|args_list_sort _)
  case y=>
   have IE:∀ h6:Heap,(∀ b ob,b≠h'.objs.size->(h'.push<|seqObj "list" f_.toArray 0).get? b=some ob->h6.get? b=some ob)->∀ b ob,h'.get? b=some ob->h6.get? b=some ob:=fun h6 k6 b ob e=>k6 b ob (ne_of_lt<|Heap.lt_size e) (Heap.get?_push_of_some _ e);refine lM (s:={ s with heap:=h'.push (seqObj "list" f_.toArray 0),toks:=tk,drawn:=d }) (dw ds) (tuples'<|decide (∀ d∈ds,cv d=true)) oB (fun h2 h6 k6 Q hq=>l6 (h:=h6) (s:={ s with heap:=h6,toks:=tk,drawn:=d }) o2 h2 (iv.Do<|IE h6 k6) _ _ Q hq) (fun h6 k6=>?_) (by rw[li];exact jM o2.ord) (.inl (by lia)) (by lia) fun p h2 r1 r2 k2 ⟨e9,J7⟩=>⟨_,rfl,wpAny_pure ⟨_,rfl,?_⟩⟩
   ·refine l5 (s:={ s with heap:=h6,toks:=tk,drawn:=d }) o2.ord (iv.Do<|IE h6 k6) o2.tup (fun hb=>of_decide_eq_true hb) (by show X.A.units+1+1+9<cLine;lia)
   ·have fB:H h'.objs.size=none:=I1.l_.fresh (Nat.le_refl _);rw[li] at r1 r2;have e1:(p.toList.map fun i=>ds.getD i .j_)=bD t_ (ks.map .tup):=jN o.ord ((jz r1).trans ME) (Mq o2.ord r1 r2);have hp:=hi.pick (p:=p.toList) fun k hk=>mem_range.mp (r1.mem_iff.mp hk);rw[e1] at hp;refine⟨.ref h'.objs.size,upd H h'.objs.size<|.lst<|p.toList.map fun i=>ys.getD i .j_,?_,rfl,q _ _ fB hp⟩;refine I1.laid (t':=tk) (fun b u e=>IE h2 k2 b u e) (Nat.le_refl _) ⟨?_,_,e9,?_,J7⟩
    ·rw[length_map,length_toList,r1.size];exact Nat.le_trans (by lia:ds.length<=300) (by decide)
    ·refine jA (by simp) fun i v u h1 h2=>?_;rw[List.getElem?_map] at h1 h2;cases Gm:p.toList[i]? with
     | none=>rw[Gm] at h1;cases h1
     | some k=>
      rw[Gm] at h1 h2;cases h1;cases h2;have hk:k<ds.length:=mem_range.mp (r1.mem_iff.mp<|mem_of_getElem? Gm);have EK:k<ys.length:=by rw[rv.length,li];exact hk
      obtain⟨u,h3,h4⟩:=rv.get (i:=k) (x:=ys[k]) (List.getElem?_eq_getElem EK);show aq (ys.getD k .j_) (f_.getD k .none);rw[getD_eq_getElem?_getD,List.getElem?_eq_getElem EK,getD_eq_getElem?_getD,h3];exact h4
def bp(ks:List (List Im)):List (List Im):=ks.foldl bY []
theorem mJ(ks:List (List Im)):∀ i,i<=ks.length->cJ (fun i=>ks.getD i []) i=(ks.take i).foldl bY []
 | 0,_=>by rw[take_zero];rfl
 | i+1,h=>by
  rw[List.take_succ_eq_append_getElem (show i<ks.length from h),List.foldl_append,<- mJ ks i (Nat.le_of_succ_le h)];show bY _ (ks.getD i [])=bY _ ks[i];rw[getD_eq_getElem?_getD,List.getElem?_eq_getElem<|show i<ks.length from h];rfl
theorem zO(l:List (List Im)):∀ (acc:List (List Im)) (x:List Im),x∈l.foldl bY acc↔x∈acc\/x∈l:=by
 induction l with
 | nil=>intro acc x;simp
 | cons k r ih=>
  intro acc x;rw[foldl_cons,ih];unfold bY;by_cases hk:k∈acc
  ·rw[if_pos hk,mem_cons];constructor
   ·rintro (h | h)
    ·exact .inl h
    ·exact .inr (.inr h)
   ·rintro (h | h | h)
    ·exact .inl h
    ·exact .inl (h ▸ hk)
    ·exact .inr h
  ·rw[if_neg hk,mem_append,mem_singleton,mem_cons,or_assoc]
theorem zP{x:List Im}:x∈bp ks↔x∈ks:=by
 rw[bp,zO];simp
theorem zQ(l:List (List Im)):∀ acc:List (List Im),acc.Nodup->(l.foldl bY acc).Nodup:=by
 induction l with
 | nil=>intro acc h;exact h
 | cons k r ih=>
  intro acc h;refine ih _ ?_;unfold bY;split
  ·exact h
  ·next hn=>exact nodup_append.mpr ⟨h,pairwise_singleton _ k,fun x hx y hy=>by cases mem_singleton.mp hy;exact fun e=>hn<|e ▸ hx⟩
theorem zR(ks:List (List Im)):(bp ks).Nodup:=zQ ks [] nodup_nil
theorem zS(l:List (List Im)):∀ acc:List (List Im),acc.length<=(l.foldl bY acc).length:=by
 induction l with
 | nil=>intro acc;exact Nat.le_refl _
 | cons k r ih=>
  intro acc;refine Nat.le_trans ?_ (ih _);unfold bY;split
  ·exact Nat.le_refl _
  ·rw[length_append];exact le_add_right _ _
theorem zU{i:Nat}(h:i<=ks.length):(cJ (fun i=>ks.getD i []) i).length<=(bp ks).length:=by
 rw[mJ ks i h];have e:bp ks=(ks.drop i).foldl bY ((ks.take i).foldl bY []):=by
  rw[bp,<- List.foldl_append,take_append_drop]
 rw[e];exact zS _ _
theorem zV(ks:List (List Im)):cJ (fun i=>ks.getD i []) ks.length=bp ks:=by
 rw[mJ ks _ (Nat.le_refl _),take_length];rfl
def zW(ta:TA):TE:=fun σ H Q=>ta σ H fun vs H1=>∃ (a:Addr) (ks:List (List Im)) (ys:List V),vs=[.ref a]/\H1 a=some (.tup ys)/\aj H1 (ks.map .tup) ys/\(∀ k∈ks,Im.keys 7 k=true)/\CW ((bp ks).map .tup)/\(bp ks).length<300/\
 ∀ l zs,H1 l=none->aj H1 (bD t_<|(bp ks).map .tup) zs->Q (.ref l) (upd H1 l<|.lst zs)
theorem aj.at{H:Hp}:∀ {ds:List Im}{vs:List V}{i:Nat}{v:V},aj H ds vs->vs[i]?=some v->∃ d,ds[i]?=some d/\CL H d v
 | [],vs,i,v,h,e=>by rw[show vs=[] from h] at e;simp at e
 | d::ds,vs,0,v,h,e=>by
  obtain⟨u,r,rfl,h1,h2⟩:=h;cases e;exact⟨d,rfl,h1⟩
 | d::ds,vs,i+1,v,h,e=>by
  obtain⟨u,r,rfl,h1,h2⟩:=h;obtain⟨d',e1,e2⟩:=aj.at (i:=i) h2 (by simpa using e);exact⟨d',by simpa using e1,e2⟩
theorem zX(hc:X.calm=true)(hu:X.A.units+30<cLine){l:Addr}{ks:List (List Im)}{ys:List V}{Q:Value->Shared->Prop}(I:Inv X pins σ H s)(hl:H l=some (.tup ys))(hi:aj H (ks.map .tup) ys)(hk:∀ k∈ks,Im.keys 7 k=true)(hz:(bp ks).length<300)(h:∀ h' tk S,Inv X pins σ H { s with heap:=h',toks:=tk }->bi X.w (fun k b=>Im.keys 7 k=true/\CL H (.tup k) (.ref b)) h' S (ce X.w) (bp ks)->Q (.ref S) { s with heap:=h',toks:=tk }):
  wpAny (model X.prog X.w) X.A (call (.type "set") [.ref l]) Q X.xe s:=by
 obtain⟨z,f_,rv,o,e1,e2,n,e3⟩:=I.l_ l _ hl;have li:f_.length=ks.length:=by rw[<- rv.length,<- hi.length,length_map]
 have hb:f_.toArray.size=ks.length:=by rw[size_toArray,li]
 refine zC (P:=fun k b=>Im.keys 7 k=true/\CL H (.tup k) (.ref b)) (items:=f_.toArray) (ks:=ks) (I.ok.hd hc) e1 e2 e3 hu (fun i v hv=>?_) (fun q b z=>⟨z.1,z.2.Ei I.l_ rfl⟩) (fun i hi=>?_) fun h' tk hS kp=>?_
 ·rw[List.getElem?_toArray] at hv;have Ej:i<ys.length:=by rw[rv.length];exact (List.getElem?_eq_some_iff.mp hv).1
  obtain⟨u,g1,g2⟩:=rv.get (i:=i) (x:=ys[i]) (List.getElem?_eq_getElem Ej);rw[hv] at g1;cases g1;obtain⟨d,g3,g4⟩:=hi.at (i:=i) (v:=ys[i]) (List.getElem?_eq_getElem Ej);rw[List.getElem?_map] at g3;obtain⟨k,g5,rfl⟩:=map_eq_some_iff.mp g3;obtain⟨b,xs,g6,g7,g8⟩:=id g4;rw[g6] at g2 g4;refine⟨b,g2,?_⟩;rw[getD_eq_getElem?_getD,g5];exact⟨hk k<|mem_of_getElem? g5,g4⟩
 ·rw[hb] at hi;have:=zU (ks:=ks) (le_of_lt hi);lia
 ·rw[hb,zV] at hS;exact h h' tk _ (I.kept (t':=tk) kp) hS
theorem zY{ta:TA}(hc:X.calm=true)(hu:X.A.units+30<cLine)(hl:Gl X "sorted")(MF:X.mg "sorted" = none)(hg:Gl X "set")(hm:X.mg "set" = none)(ha:PA X [a] ta)(hs:starEach [a] X.env=[(false,eval a X.env)]:=by rfl):
  PE X (.Call (.Name "sorted" p2) [.Call (.Name "set" p) [a] [] pos] [] Kl) (zW ta):=by
 intro pins s σ H Q I h;refine wpAny_Call_Name_kw (eU I hl MF (show bootBuiltins "sorted" = some (.builtin "sorted") by decide +kernel) (PyProof.Rows.callWith_builtin1 ?_ rfl rfl) (by decide) (by decide));refine Calls.spliced_cons ?_;refine Call_ (eU I hg hm (show bootBuiltins "set" = some (.type "set") by decide +kernel)<|PyProof.Rows.callWith_type1 (u_ (ha pos pins s σ H _ I h) fun us s1 ⟨vs,H1,I1,r1,q1⟩=>?_) hs rfl);obtain⟨l,ks,ys,rfl,IS,hi,hk,ho,hz,q⟩:=q1;obtain⟨u,rfl,ru⟩:=ci r1;cases ru;exact zX hc hu I1 IS hi hk hz fun h' tk S I2 hS=>Calls.spliced_nil (zN hc (by lia) I2 hS (fun k b z=>z.2) ho (by lia) q)
end
def Ex:List Im->Option (List<|List Im)
 | []=>some []
 | .tup a::r=>(Ex r).map (a::·)
 | _=>none
theorem rK:∀ {x:List Im}{ks:List (List Im)},Ex x=some ks->x=ks.map .tup
 | [],ks,h=>by cases h;rfl
 | .tup a::r,ks,h=>by
  obtain⟨k,h1,rfl⟩:=map_eq_some_iff.mp h;rw[rK h1];rfl
 | .j_::_,_,h=>by cases h
 | .bl _::_,_,h=>by cases h
 | .int _::_,_,h=>by cases h
 | .str _::_,_,h=>by cases h
 | .fn _::_,_,h=>by cases h
 | .fl _::_,_,h=>by cases h
 | .fd::_,_,h=>by cases h
theorem rL:∀ ks:List (List Im),Ex (ks.map .tup)=some ks
 | []=>rfl
 | k::ks=>by
  show (Ex<|ks.map .tup).map (k::·)=_;rw[rL ks];rfl
def jX(ks:List (List Im)):Bool:=ks.all (Im.keys 7) && decide ((bp ks).length<300)
def jY(g:M (List Opd)):M Vl:=fun D=>(g D).bind fun p=>(bN p.2 p.1).bind fun ds=>match ds with
 | [.im (.tup x)]=>(Ex x).bind fun ks=>if jX ks=true/\ig ((bp ks).map .tup)=true then some (.lst<|bD t_<|(bp ks).map .tup,p.2) else none
 | _=>none
theorem rM:jX ks=true↔(∀ k∈ks,Im.keys 7 k=true)/\(bp ks).length<300:=by
 unfold jX;rw[and_eq_true,all_eq_true,decide_eq_true_iff]
section
variable{X:Cx}
theorem zZ{g:M (List Opd)}(hu:X.A.units+30<cLine)(hl:Gl X "sorted")(MF:X.mg "sorted" = none)(hg:Gl X "set")(hm:X.mg "set" = none)(ha:VA X [a] g)(hs:starEach [a] X.env=[(false,eval a X.env)]:=by rfl)(hc:X.calm=true:=by rfl):
  VE X (.Call (.Name "sorted" p2) [.Call (.Name "set" p) [a] [] pos] [] Kl) (jY g):=by
 refine aR (zY hc hu hl MF hg hm ha hs) fun σ H Q ⟨D,F,r,D',st,nd,Er,q⟩=>?_;obtain⟨⟨os,D1⟩,h1,h2⟩:=bind_eq_some_iff.mp Er;obtain⟨ds,h3,h4⟩:=bind_eq_some_iff.mp h2;refine⟨D,F,os,D1,st,nd,h1,fun vs H1 F1 R1 r_ o1 s1=>?_⟩;have rd:=o1.read r_ h3;split at h4
 ·rename_i x;obtain⟨ks,e1,e2⟩:=bind_eq_some_iff.mp h4;split at e2
  ·rename_i hn;cases e2;obtain⟨v,rfl,e⟩:=lv rd;obtain⟨b,xs,rfl,hb,hi⟩:=(show ∃ a xs,v=V.ref a/\H1 a=some (.tup xs)/\aj H1 x xs from e);cases rK e1;obtain⟨k1,k2⟩:=rM.mp hn.1;refine⟨b,ks,xs,rfl,hb,hi,k1,gq.mp hn.2,k2,fun l zs fl hz=>?_⟩;have s2:aB H1 (upd H1 l<|.lst zs):=(aB.refl H1).upd fl;exact q _ _ F1 [l] (r_.mono s2.tupS fun a _ o e=>s2 a o e) ⟨l,_,rfl,aW,hz.mono s2.tupS.tup,rfl⟩ (s1.new s2 (pairwise_singleton _ _) (fun a ha=>by rw[mem_singleton.mp ha];exact fl) r_.chg)
  ·cases e2
 ·cases h4
end
end L2
namespace L2
open PySem PySem.Spec PyProof.Rows
def IF:Op2:=fun a b=>match a,b with
 | .im x,.im y=>if bH 6 x y=true then some (.im<|.bl<|t_ x y) else none
 | _,_=>none
section
variable{X:Cx}
theorem z9(hu:X.A.units+20<cLine):DT X (compareOp .Lt) IF:=by
 intro pins s σ H x y v u Q I rx ry ⟨d1,d2,d,r1,r2,e,q⟩;unfold IF at e;split at e
 ·split at e
  ·rename_i hp;cases e;exact qC 6 hp (by lia) (r1.i.Ei I.l_ rx) (r2.i.Ei I.l_ ry) X.prog X.w _ _ ⟨.bl _,H,I,rfl,Out.i q rfl⟩
  ·cases e
 ·cases e
end
end L2
namespace G
open PySem L2
noncomputable def Aa:MS:=(aU<|eB<|bM (kB<|f6 "int"<|oSl 0)<|kB<|eB<|cC<|kB<|f6 "bool"<|oSl 0)
noncomputable def fF:Fn:=bb 1 1 [0] Aa
noncomputable def rN:MS:=(aU<|eB<|bM (kB<|f6 "tuple"<|oSl 0)<|bM (kB<|ad vEq (oV<|az vLen<|aa (oSl 0) aNil)<|oV<|eC<|.int 2)<|bM (kB<|au 1 G.fF<|aa (oV<|ad vIx (oSl 0)<|oV<|eC<|.int 0) aNil)<|kB<|au 1 G.fF<|aa (oV<|ad vIx (oSl 0)<|oV<|eC<|.int 1) aNil)
noncomputable def gy:Fn:=bb 1 1 [0] rN
noncomputable def rO:MS:=(aU<|eB<|bM (kB<|au 1 G.gy<|aa (oSl 0) aNil)<|bM (kB<|eF vLe vLe (oV<|eC<|.int 0) (oV<|ad vIx (oSl 0)<|oV<|eC<|.int 0)<|oV<|eC<|.int 30)<|kB<|eF vLe vLe (oV<|eC<|.int 0) (oV<|ad vIx (oSl 0)<|oV<|eC<|.int 1)<|oV<|eC<|.int 30)
noncomputable def eI:Fn:=bb 1 1 [0] rO
noncomputable def jZ(e_:Addr):M Vl:=(jI 1 e_ 1 G.eI<|aa (oSl 0) aNil)
noncomputable def rP(e_:Addr):M Vl:=(ad IF (oSl 0)<|oSl 1)
noncomputable def rQ(e_:Addr):MS:=(am (sIf (kOr (cC<|cH<|oV<|f6 "tuple"<|oSl 0)<|cC<|cH<|oV<|az vAll<|aa (oV<|bv 1 [1] (bn<|oSl 0) (gN 0) kYes<|G.jZ e_) aNil) (aU<|eC<|.bl false) sNil)<|aU<|az vAll<|aa (oV<|bv 2 [] (iZ<|aa (oSl 0)<|aa (oV<|eSl (oSl 0) (dM<|eC<|.int 1) pNone) aNil) (gT 2<|c6 (gN 0)<|c6 (gN 1) gNil') kYes<|G.rP e_) aNil)
noncomputable def ir(e_:Addr):Fn:=bb 2 2 [0,1] (rQ e_)
noncomputable def rR(e_:Addr):MS:=(aU<|au 2 (G.ir e_)<|aa (oSl 0)<|aa (oV<|eC<|.fn e_) aNil)
noncomputable def gz(e_:Addr):Fn:=bb 1 1 [0] (rR e_)
noncomputable def j6:MS:=(am (aA 10<|aT<|aa (oV<|ad vEq (oV<|au 2 G.bf<|aa (oSl 0)<|aa (oV<|eC<|.int 2) aNil)<|oV<|eC<|.int 0)<|aa (oV<|ad vGt (oV<|au 2 G.bf<|aa (oSl 0)<|aa (oV<|eC<|.int 6) aNil)<|oV<|eC<|.int 0)<|aa (oV<|eC<|.bl true) aNil)<|am (ed<|cW fw 10 mAppend<|aa (oV<|eB<|kOr (kB<|ad vEq (oV<|ad vMod (oSl 8)<|oV<|eC<|.int 2)<|oV<|eC<|.int 0)<|kB<|ad vEq (oSl 9)<|oV<|ad vMod (oV<|ad vDiv (oSl 8)<|oV<|eC<|.int 2)<|oSl 3) aNil)<|am (aA 10<|ad vAdd (oSl 10)<|oV<|aT<|aa (oV<|eB<|kOr (kB<|ad vIn (oSl 8)<|oV<|ay<|aa (oV<|eC<|.int 0)<|aa (oV<|ad vSub (oSl 2)<|oV<|eC<|.int 1) aNil)<|kB<|ad vIn (oSl 9)<|oV<|ay<|aa (oV<|eC<|.int 0)<|aa (oV<|ad vSub (oSl 3)<|oV<|eC<|.int 1) aNil)<|aa (oV<|eC<|.bl false) aNil)<|sIf (cH<|oV<|ad vIx (oSl 10)<|oSl 6) (cE (eC<|.bl true)<|gIx 7 (ay<|aa (oV<|ad vAdd (oSl 8)<|oSl 4)<|aa (oV<|ad vAdd (oSl 9)<|oSl 5) aNil) putA) sNil)
noncomputable def j9:MS:=(b9 (iR1<|aa (oSl 3) aNil) (gN 9) G.j6)
noncomputable def iw:MS:=(am (cE (eC<|.bl true)<|gIx 7 (ay<|aa (oV<|ad vAdd (oSl 8)<|oSl 4)<|aa (oV<|ad vAdd (oSl 9)<|oSl 5) aNil) putA)<|am (cE (au 2 G.cw<|aa (oSl 0)<|aa (oV<|aT<|aa (oV<|ay<|aa (oV<|eC<|.int 1)<|aa (oV<|eC<|.int 0) aNil)<|aa (oV<|ay<|aa (oV<|eC<|.int 0)<|aa (oV<|eC<|.int 1) aNil)<|aa (oV<|ay<|aa (oV<|eC<|.int 0)<|aa (oV<|eC<|.int 1) aNil)<|aa (oV<|ay<|aa (oV<|lG<|eC<|.int 1)<|aa (oV<|eC<|.int 0) aNil)<|aa (oV<|ay<|aa (oV<|eC<|.int 0)<|aa (oV<|lG<|eC<|.int 1) aNil)<|aa (oV<|ay<|aa (oV<|eC<|.int 1)<|aa (oV<|eC<|.int 0) aNil) aNil) aNil)<|gT 2<|c6 (gN 12)<|c6 (gN 13) gNil')<|am (aA 8<|az vMin2<|aa (oV<|ad vSub (oSl 2)<|oV<|eC<|.int 1)<|aa (oV<|az vMax2<|aa (oV<|eC<|.int 0)<|aa (oV<|ad vAdd (oSl 8)<|oSl 12) aNil) aNil)<|aA 9<|az vMin2<|aa (oV<|ad vSub (oSl 3)<|oV<|eC<|.int 1)<|aa (oV<|az vMax2<|aa (oV<|eC<|.int 0)<|aa (oV<|ad vAdd (oSl 9)<|oSl 13) aNil) aNil)
noncomputable def rS:MS:=(am (aA 1<|eC<|.int 8)<|am (sIf (kB<|ad vEq (oV<|au 2 G.bf<|aa (oSl 0)<|aa (oV<|eC<|.int 8) aNil)<|oV<|eC<|.int 0) (aA 1<|eC<|.int 12) sNil)<|am (eg 2 3<|aa (oV<|ad vAdd (oV<|eC<|.int 1)<|oV<|au 2 G.bf<|aa (oSl 0)<|aa (oSl 1) aNil)<|aa (oV<|ad vAdd (oV<|eC<|.int 1)<|oV<|au 2 G.bf<|aa (oSl 0)<|aa (oSl 1) aNil) aNil)<|am (eg 4 5<|aa (oV<|au 2 G.cw<|aa (oSl 0)<|aa (oV<|aT<|aa (oV<|eC<|.int 0)<|aa (oV<|eC<|.int 0)<|aa (oV<|eC<|.int 1)<|aa (oV<|ad vSub (oV<|eC<|.int 31)<|oSl 2) aNil) aNil)<|aa (oV<|au 2 G.cw<|aa (oSl 0)<|aa (oV<|aT<|aa (oV<|eC<|.int 0)<|aa (oV<|eC<|.int 0)<|aa (oV<|eC<|.int 2)<|aa (oV<|ad vSub (oV<|eC<|.int 31)<|oSl 3) aNil) aNil) aNil)<|am (aA 6<|au 2 G.bf<|aa (oSl 0)<|aa (oV<|eC<|.int 6) aNil)<|am (aA 7 eDict0T)<|am (b9 (iR1<|aa (oSl 2) aNil) (gN 8) G.j9)<|am (cE (ay<|aa (oV<|eC<|.int 0)<|aa (oV<|eC<|.int 0) aNil)<|gT 2<|c6 (gN 8)<|c6 (gN 9) gNil')<|am (b9 (iR1<|aa (oV<|ad vMul (oV<|eC<|.int 40)<|oV<|az vInt<|aa (oV<|ad vEq (oSl 6)<|oV<|eC<|.int 5) aNil) aNil) (gN 11) G.iw)<|aU<|az vTuple<|aa (oV<|az CY<|aa (oSl 7) aNil) aNil)
noncomputable def ix:Fn:=bb 1 14 [0] rS
end G
namespace L2
open PySem PySem.Spec PyProof.Rows PySem.W
section
variable{X:Cx}
end
section
variable{X:Cx}{kt:List (Addr×List Im)}{kd:List (Addr×List (List Im×Addr))}
end
variable{K:PySem.W.Frag}{P:Program}{w:World}
end L2
namespace L2
open PySem PySem.Spec PyProof.Rows PySem.W
def P5(D:SD)(i:Nat)(ds:List Im):Bool:=match D[i]? with
 | some (some<|.lst y)=>decide (y=ds)
 | _=>false
section
variable{X:Cx}
end
def uzV:Vl->Vl
 | .im (.fl x)=>.fz x
 | d=>d
@[simp] theorem CG(x:List Im):uzV (.im<|.fl x)=.fz x:=rfl
@[simp] theorem CH(x:List Im):uzV (.im<|.tup x)=.im (.tup x):=rfl
section
variable{X:Cx}
end
end L2
namespace L2
open PySem
section
variable{D D1 D2:SD}
variable{d:Vl}
theorem v_{g:M Vl}(h:g D=some (d,D1)):oV g D=some (.vl d,D1):=by unfold oV;rw[h];rfl
variable{x:Opd}
theorem a_{g:M Opd}{h:M (List Opd)}{xs:List Opd}(e1:g D=some (x,D1))(e2:h D1=some (xs,D2)):aa g h D=some (x::xs,D2):=by unfold aa;rw[e1];show (h D1).map _=_;rw[e2];rfl
variable{d1 d2:Vl}
theorem b_{op:Vl->Vl->Option Vl}{ga gb:M Opd}{y:Opd}(e1:ga D=some (x,D1))(e2:gb D1=some (y,D2))(e3:rsl D2 x=some d1)(e4:rsl D2 y=some d2)(e5:op d1 d2=some d):ad op ga gb D=some (d,D2):=by
 unfold ad;rw[e1];show (gb D1).bind _=_;rw[e2];show (rsl D2 x).bind _=_;rw[e3];show (rsl D2 y).bind _=_;rw[e4];show (op d1 d2).map _=_;rw[e5];rfl
variable{g:M (List Opd)}{n:Nat}{os:List Opd}{ds outs:List Vl}
theorem c_{G:Fn}{r:Vl}(e1:g D=some (os,D1))(e0:os.length=n)(e2:aY os D1=some (ds,D2))(e3:G ds=some (r,outs)):au n G g D=some (r,wb os outs D2):=by
 unfold au;rw[e1];show (if os.length=n then _ else _)=_;rw[if_pos e0];show (aY os D1).bind _=_;rw[e2];show (G ds).map _=_;rw[e3];rfl
theorem Dr{op:List Vl->Option Vl}(e1:g D=some (os,D1))(e2:bN D1 os=some ds)(e3:op ds=some d):az op g D=some (d,D1):=by
 unfold az;rw[e1];show (bN D1 os).bind _=_;rw[e2];show (op ds).map _=_;rw[e3];rfl
variable{b:Bool}
theorem Ds{g:M Vl}(e:g D=some (.im<|.bl b,D1)):kB g D=some (b,D1):=by unfold kB;rw[e];rfl
theorem MH{g:M Bool}(e:g D=some (b,D1)):cC g D=some (!b,D1):=by unfold cC;rw[e];rfl
theorem FR{g:M Opd}(e:g D=some (x,D1))(e2:rsl D1 x=some d)(e3:g0 d=some b):cH g D=some (b,D1):=by
 unfold cH;rw[e];show (rsl D1 x).bind _=_;rw[e2];show (g0 d).map _=_;rw[e3];rfl
theorem Li{g:M Vl}{h:MG}(e:g D=some (d,D1))(e2:h d D1=some D2):cE g h D=some (.nx,D2):=by unfold cE;rw[e];show (h d D1).map _=_;rw[e2];rfl
theorem Lj{g:M Vl}(e:g D=some (d,D1)):ed g D=some (.nx,D1):=by unfold ed;rw[e];rfl
variable{D3:SD}
theorem Km{ty:Vl->Bool}{i:Nat}{mt:Vl->List Vl->Option (Vl×Vl)}{c0 c r c':Vl}(e0:D[i]?=some (some c0))(e1:ty c0=true)(e2:g D=some (os,D1))(e3:aY os D1=some (ds,D2))(e4:D2[i]?=some (some c))(e5:mt c ds=some (r,c'))(k:D2.set i (some c')=D3):cW ty i mt g D=some (r,D3):=by
 subst k;unfold cW;rw[e0];show (if ty c0=true then _ else _)=_;rw[if_pos e1,e2];show (aY os D1).bind _=_;rw[e3];show (match D2[i]? with | some (some c)=>_ | _=>none)=_;rw[e4];show (mt c ds).map _=_;rw[e5];rfl
theorem Kn(e1:g D=some (os,D1))(e2:aY os D1=some (ds,D2))(e3:ds.length<=100000)(k:mkT ds=d):ay g D=some (d,D2):=by
 unfold ay;rw[e1];show (aY os D1).bind _=_;rw[e2];show (if _ then _ else _)=_;rw[if_pos e3,k]
theorem Ko(e1:g D=some (os,D1))(e2:aY os D1=some (ds,D2))(e3:ds.length<=100000)(k:mkL ds=d):aT g D=some (d,D2):=by
 unfold aT;rw[e1];show (aY os D1).bind _=_;rw[e2];show (if _ then _ else _)=_;rw[if_pos e3,k]
theorem Lk{x:List Im}{d:Im}(h:x.length<100000):mAppend (.lst x) [.im d]=some (.im .j_,.lst<|x++[d]):=if_pos h
theorem dQ(i j:Int):vEq (.im<|.int i) (.im<|.int j)=some (.im<|.bl<|decide (i=j)):=by
 show some (Vl.im<|.bl<|i == j)=_;by_cases h:i=j<;>simp[h]
variable{i j:Int}
theorem Ab(h:bO i j=true):vMul (.im<|.int i) (.im<|.int j)=some (.im<|.int<|i * j):=if_pos h
theorem rT(h:0<j):vMod (.im<|.int i) (.im<|.int j)=some (.im<|.int<|i % j):=if_pos (decide_eq_true h)
theorem Ac(h:0<j)(h2:j<1073741824):vDiv (.im<|.int i) (.im<|.int j)=some (.im<|.int<|i / j):=if_pos (decide_eq_true (⟨h,h2⟩:0<j/\j<1073741824))
variable{r:Option (Fl×SD)}{b:MS}{c:M Bool}
theorem eJ{a:MS}(e:c D=some (true,D1))(h:a D1=r):sIf c a b D=r:=(yr e).trans h
theorem da{a:MS}(e:c D=some (false,D1))(h:b D1=r):sIf c a b D=r:=(yt e).trans h
theorem CZ{g h:MS}(e:g D=some (.nx,D1))(k:h D1=r):am g h D=r:=(ym e).trans k
variable{i:Nat}
theorem bI{g:M Vl}(e:g D=some (d,D1))(h:i<D1.length)(k:D1.set i (some d)=D2):aA i g D=some (.nx,D2):=(yq e h).trans (by rw[k])
variable{xs:List Im}{tg:MG}{o:Option (Nat×Vl)}
theorem eM{g:MI}{fl:Fl}(e:g D=some ((xs,o),D1))(h:ba tg b xs D1=some (fl,D2))(k:rst o D2=D3):b9 g tg b D=some (fl,D3):=(yn e h).trans (by rw[k])
theorem Jk{own:Nat}{caps:List Nat}{gi:MI}{e:M Vl}{C':SD}{ds:List Im}(h1:gi D=some ((xs,o),D1))(h2:bX own tg c e xs [] (dr caps D1)=some (ds,C'))(k:rst o (cF caps C' D1)=D3):bv own caps gi tg c e D=some (.lst ds,D3):=(yp h1 h2).trans (by rw[k])
variable{b a:M Bool}
theorem mK(e:a D=some (true,D1)):kOr a b D=some (true,D1):=by unfold kOr;rw[e];rfl
variable{r:Option (Bool×SD)}
theorem fG(e:a D=some (false,D1))(h:b D1=r):kOr a b D=r:=by unfold kOr;rw[e];exact h
theorem db(e:a D=some (true,D1))(h:b D1=r):bM a b D=r:=by unfold bM;rw[e];exact h
theorem fH(e:a D=some (false,D1)):bM a b D=some (false,D1):=by unfold bM;rw[e];rfl
theorem rV{j:Nat}(e1:g D=some (os,D1))(e2:aY os D1=some ([d1,d2],D2))(hi:i<D2.length)(hj:j<D2.length)(k:(D2.set i<|some d1).set j (some d2)=D3):eg i j g D=some (.nx,D3):=by
 unfold eg;rw[e1];show (aY os D1).bind _=_;rw[e2];show (if i<D2.length/\j<D2.length then _ else _)=_;rw[if_pos ⟨hi,hj⟩,k]
theorem Gu{g:M Bool}{b:Bool}(e:g D=some (b,D1)):eB g D=some (.im<|.bl b,D1):=by unfold eB;rw[e];rfl
variable{r:Vl}
theorem d_{G:Fn}(e1:g D=some (os,D1))(e0:os.length=n)(e2:aY os D1=some (ds,D2))(e3:G ds=some (r,outs))(k:wb os outs D2=D3):au n G g D=some (r,D3):=by rw[<- k];exact c_ e1 e0 e2 e3
theorem Kp{g:M Bool}(e:g D=some (true,D1)):cC g D=some (false,D1):=MH e
theorem N4{g:M Bool}(e:g D=some (false,D1)):cC g D=some (true,D1):=MH e
theorem P6{x y:List Im}(e1:g D=some (os,D1))(e2:bN D1 os=some [.im (.tup x),.im<|.tup y]):iZ g D=some ((cq x y,none),D1):=by
 unfold iZ;rw[e1];show (bN D1 os).bind _=_;rw[e2];rfl
theorem Jl{g:M Opd}{l h:M (Option Int)}{lo hi:Option Int}{d':Vl}(e1:g D=some (x,D1))(e2:l D1=some (lo,D2))(e3:h D2=some (hi,D3))(e4:rsl D3 x=some d)(e5:vSl d lo hi=some d'):eSl g l h D=some (d',D3):=by
 unfold eSl;rw[e1];show (l D1).bind _=_;rw[e2];show (h D2).bind _=_;rw[e3];show (rsl D3 x).bind _=_;rw[e4];show (vSl d lo hi).map _=_;rw[e5];rfl
theorem Ll(e1:g D=some (os,D1))(e2:bN D1 os=some [.im (.int j)])(h:jl j):iR1 g D=some ((ca 0 j.toNat,none),D1):=by
 unfold iR1;rw[e1];show (bN D1 os).bind _=_;rw[e2];show (if jl j then _ else _)=_;rw[if_pos h]
theorem bQ{m:Nat}{fix:List Nat}{g:MS}(hl:ds.length=n)(e:g (ds.map some++List.replicate (m - n) none)=some (.rt r,D))(ho:cV fix ds D 0=outs):bb n m fix g ds=some (r,outs):=yu D hl e ho
end
end L2
namespace G
open PySem L2
variable{o9 o13 o12 o11 o10 o1:Option Vl}{way c r sd tp wd hg:Int}{h:Vl}{ks:List (Int×Int)}{n:Nat}
theorem El{m:Nat}(h:Nat.ble (n+1) m=true):n<m:=le_of_ble_eq_true h
abbrev bV(b:Bool):Vl:=.im (.bl b)
def br(ks:List (Int×Int))(c:Int×Int):List (Int×Int):=if c∈ks then ks else ks++[c]
theorem mL(ks:List (Int×Int))(c:Int×Int):eE (mt ks) (kM c) (.bl true)=mt (br ks c):=by
 unfold br;by_cases h:c∈ks
 ·rw[if_pos h];unfold eE;rw[if_pos (by rw[me];simpa using h)];unfold mt;rw[List.map_map];refine List.map_congr_left fun x _=>?_;show (if kM x=kM c then (kM x,Im.bl true) else (kM x,Im.bl true))=_;split<;>rfl
 ·rw[if_neg h];exact yT h
structure E4(hg wd tp sd:Int)(ks:List (Int×Int)):Prop where
 nd:ks.Nodup
 FS:∀ c∈ks,tp<=c.1/\c.1<tp+hg/\sd<=c.2/\c.2<sd+wd
theorem E4.add(R:E4 hg wd tp sd ks){r c:Int}(r0:0<=r)(r1:r<hg)(c0:0<=c)(c1:c<wd):E4 hg wd tp sd (br ks (r+tp,c+sd)):=by
 unfold br;split
 ·exact R
 ·next h=>
  refine⟨nodup_append.mpr ⟨R.nd,pairwise_singleton _ _,fun a ha b hb e=>h (by rw[<- mem_singleton.mp hb,<- e];exact ha)⟩,fun x hx=>?_⟩;rcases mem_append.mp hx with hx | hx
  ·exact R.FS x hx
  ·rw[mem_singleton.mp hx];dsimp only;lia
theorem E4.len(R:E4 hg wd tp sd ks)(h1:hg<=12)(h2:wd<=12):ks.length<=144:=by
 have n1:(ks.map fun c=>((c.1 - tp) * 12+(c.2 - sd)).toNat).Nodup:=by
  refine pairwise_map.mpr (List.Pairwise.imp_of_mem (fun {a b} ha hb ne e=>ne ?_) R.nd);have i1:=R.FS a ha;have i2:=R.FS b hb;have:a.1=b.1/\a.2=b.2:=by lia
  exact Prod.ext this.1 this.2
 have q:=io (m:=range 144) n1 fun x hx=>by
  obtain⟨c,hc,rfl⟩:=mem_map.mp hx;have i1:=R.FS c hc;rw[mem_range];lia
 rwa [length_map,length_range] at q
theorem rW{D:SD}(h4:D[4]?=some (some<|iI tp))(h5:D[5]?=some (some<|iI sd))(h7:D[7]?=some (some<|.dT<|mt ks))(h8:D[8]?=some (some<|iI r))(h9:D[9]?=some (some<|iI c))(hl:ks.length<100000):
  cE (eC<|.bl true) (gIx 7 (ay<|aa (oV<|ad vAdd (oSl 8)<|oSl 4)<|aa (oV<|ad vAdd (oSl 9)<|oSl 5) aNil) putA) D=some (.nx,D.set 7<|some<|.dT<|mt<|br ks (r+tp,c+sd)):=by
 have hp:putA (.dT<|mt ks) (.im<|.tup<|kM (r+tp,c+sd)) (bV true)=some (.dT<|mt<|br ks (r+tp,c+sd)):=by
  rw[<- mL];exact if_pos ⟨rfl,by unfold mt;rw[length_map];exact hl⟩
 have s4:oSl 4 D=some (.sl 4,D):=by unfold oSl;rw[h4]
 have s5:oSl 5 D=some (.sl 5,D):=by unfold oSl;rw[h5]
 have s8:oSl 8 D=some (.sl 8,D):=by unfold oSl;rw[h8]
 have s9:oSl 9 D=some (.sl 9,D):=by unfold oSl;rw[h9]
 have r4:rsl D (.sl 4)=some (iI tp):=by show (D[4]?).getD none=_;rw[h4];rfl
 have r5:rsl D (.sl 5)=some (iI sd):=by show (D[5]?).getD none=_;rw[h5];rfl
 have r8:rsl D (.sl 8)=some (iI r):=by show (D[8]?).getD none=_;rw[h8];rfl
 have r9:rsl D (.sl 9)=some (iI c):=by show (D[9]?).getD none=_;rw[h9];rfl
 have t:ay (aa (oV<|ad vAdd (oSl 8)<|oSl 4)<|aa (oV<|ad vAdd (oSl 9)<|oSl 5) aNil) D=some (.im<|.tup<|kM (r+tp,c+sd),D):=
  Kn (a_ (v_<|b_ s8 s4 r8 r4 rfl)<|a_ (v_<|b_ s9 s5 r9 r5 rfl) rfl) rfl (le_of_ble_eq_true rfl) rfl;refine Li rfl ?_;unfold gIx;rw[h7];show (ay _ D).bind _=_;rw[t];show (match D[7]? with | some (some c)=>_ | _=>none)=_;rw[h7];show (putA _ _ _).map _=_;rw[hp];rfl
theorem Ad(H:aV (n+2) h)(w0:0<=way)(w1:way<6)(hw:0<wd)(hl:ks.length<100000):
  ∃ h' DK DL,j6 [some h,o1,some<|iI hg,some<|iI wd,some<|iI tp,some<|iI sd,some<|iI way,some<|.dT<|mt ks,some<|iI r,some<|iI c,o10,o11,o12,o13]=some (.nx,[some h',o1,some<|iI hg,some<|iI wd,some<|iI tp,some<|iI sd,some<|iI way,some<|.dT<|mt DL,some<|iI r,some<|iI c,DK,o11,o12,o13])/\aV n h'/\(DL=ks\/DL=br ks (r+tp,c+sd)):=by
 obtain⟨v1,h1,e1,_,_,H1⟩:=dN (n:=n+1) (m:=2) H (by decide) (by decide);obtain⟨v2,h2,e2,_,_,H2⟩:=dN (n:=n) (m:=6) H1 (by decide) (by decide);obtain⟨q,rfl⟩:=bg H;obtain⟨q1,rfl⟩:=bg H1;obtain⟨q2,rfl⟩:=bg H2;obtain⟨b3,P7⟩:∃ b3:Bool,eB (kOr (kB<|ad vEq (oV<|ad vMod (oSl 8)<|oV<|eC<|.int 2)<|oV<|eC<|.int 0)<|kB<|ad vEq (oSl 9)<|oV<|ad vMod (oV<|ad vDiv (oSl 8)<|oV<|eC<|.int 2)<|oSl 3) [some (.lst q2),o1,some<|iI hg,some<|iI wd,some<|iI tp,some<|iI sd,some<|iI way,some<|.dT<|mt ks,some<|iI r,some<|iI c,some<|.lst [.bl (decide (v1=0)),.bl<|decide (0<v2),.bl true],o11,o12,o13]=some (bV b3,[some (.lst q2),o1,some<|iI hg,some<|iI wd,some<|iI tp,some<|iI sd,some<|iI way,some<|.dT<|mt ks,some<|iI r,some<|iI c,some<|.lst [.bl (decide (v1=0)),.bl<|decide (0<v2),.bl true],o11,o12,o13]):=by
  have z1:kB (ad vEq (oV<|ad vMod (oSl 8)<|oV<|eC<|.int 2)<|oV<|eC<|.int 0) [some (.lst q2),o1,some<|iI hg,some<|iI wd,some<|iI tp,some<|iI sd,some<|iI way,some<|.dT<|mt ks,some<|iI r,some<|iI c,some<|.lst [.bl (decide (v1=0)),.bl<|decide (0<v2),.bl true],o11,o12,o13]=some (decide (r % 2=0),_):=Ds (b_ (v_ (b_ rfl rfl rfl rfl (rT (by decide)))) rfl rfl rfl<|dQ _ _);cases hb:decide (r % 2=0) with
  | true=>rw[hb] at z1;exact⟨true,Gu<|mK z1⟩
  | false=>rw[hb] at z1;exact⟨_,Gu (fG z1 (Ds (b_ rfl (v_ (b_ (v_ (b_ rfl rfl rfl rfl (Ac (by decide) (by decide)))) rfl rfl rfl<|rT hw)) rfl rfl<|dQ _ _)))⟩
 obtain⟨b4,P8⟩:∃ b4:Bool,eB (kOr (kB<|ad vIn (oSl 8)<|oV<|ay<|aa (oV<|eC<|.int 0)<|aa (oV<|ad vSub (oSl 2)<|oV<|eC<|.int 1) aNil)<|kB<|ad vIn (oSl 9)<|oV<|ay<|aa (oV<|eC<|.int 0)<|aa (oV<|ad vSub (oSl 3)<|oV<|eC<|.int 1) aNil) [some (.lst q2),o1,some<|iI hg,some<|iI wd,some<|iI tp,some<|iI sd,some<|iI way,some<|.dT<|mt ks,some<|iI r,some<|iI c,some<|.lst [.bl (decide (v1=0)),.bl<|decide (0<v2),.bl true,.bl b3],o11,o12,o13]=some (bV b4,[some (.lst q2),o1,some<|iI hg,some<|iI wd,some<|iI tp,some<|iI sd,some<|iI way,some<|.dT<|mt ks,some<|iI r,some<|iI c,some<|.lst [.bl (decide (v1=0)),.bl<|decide (0<v2),.bl true,.bl b3],o11,o12,o13]):=by
  obtain⟨x,hx⟩:∃ x:Bool,vIn (iI r) (.im<|.tup [.int 0,.int<|hg - 1])=some (bV x):=⟨_,rfl⟩;obtain⟨y,hy⟩:∃ y:Bool,vIn (iI c) (.im<|.tup [.int 0,.int<|wd - 1])=some (bV y):=⟨_,rfl⟩;cases x with
  | true=>exact⟨true,Gu<|mK<|Ds<|b_ rfl (v_<|Kn (a_ rfl<|a_ (v_<|b_ rfl rfl rfl rfl rfl) rfl) rfl (le_of_ble_eq_true rfl) rfl) rfl rfl hx⟩
  | false=>exact⟨y,Gu<|fG (Ds<|b_ rfl (v_<|Kn (a_ rfl<|a_ (v_<|b_ rfl rfl rfl rfl rfl) rfl) rfl (le_of_ble_eq_true rfl) rfl) rfl rfl hx)<|Ds<|b_ rfl (v_<|Kn (a_ rfl<|a_ (v_<|b_ rfl rfl rfl rfl rfl) rfl) rfl (le_of_ble_eq_true rfl) rfl) rfl rfl hy⟩
 obtain⟨b,hb⟩:∃ b:Bool,Eu [Im.bl (decide (v1=0)),.bl<|decide (0<v2),.bl true,.bl b3,.bl b4,.bl false] way=some (.bl b):=by
  have:way=0\/way=1\/way=2\/way=3\/way=4\/way=5:=by lia
  rcases this with rfl | rfl | rfl | rfl | rfl | rfl<;>exact⟨_,rfl⟩
 have g2:vGt (iI v2) (iI 0)=some (bV<|decide (0<v2)):=rfl;have vi:vIx (.lst [.bl (decide (v1=0)),.bl<|decide (0<v2),.bl true,.bl b3,.bl b4,.bl false]) (iI way)=some (bV b):=congrArg (Option.map Vl.im) hb;unfold j6;have s1:aA 10 (aT<|aa (oV<|ad vEq (oV<|au 2 G.bf<|aa (oSl 0)<|aa (oV<|eC<|.int 2) aNil)<|oV<|eC<|.int 0)<|aa (oV<|ad vGt (oV<|au 2 G.bf<|aa (oSl 0)<|aa (oV<|eC<|.int 6) aNil)<|oV<|eC<|.int 0)<|aa (oV<|eC<|.bl true) aNil) [some (.lst q),o1,some<|iI hg,some<|iI wd,some<|iI tp,some<|iI sd,some<|iI way,some<|.dT<|mt ks,some<|iI r,some<|iI c,o10,o11,o12,o13]=some (.nx,[some (.lst q2),o1,some<|iI hg,some<|iI wd,some<|iI tp,some<|iI sd,some<|iI way,some<|.dT<|mt ks,some<|iI r,some<|iI c,some<|.lst [.bl (decide (v1=0)),.bl<|decide (0<v2),.bl true],o11,o12,o13]):=
  bI (Ko (a_ (v_<|b_ (v_<|d_ (a_ rfl<|a_ rfl rfl) rfl rfl e1 rfl) rfl rfl rfl<|dQ _ _)<|a_ (v_<|b_ (v_<|d_ (a_ rfl<|a_ rfl rfl) rfl rfl e2 rfl) rfl rfl rfl g2) rfl) rfl (le_of_ble_eq_true rfl) rfl) (El rfl) rfl;have s2:ed (cW fw 10 mAppend<|aa (oV<|eB<|kOr (kB<|ad vEq (oV<|ad vMod (oSl 8)<|oV<|eC<|.int 2)<|oV<|eC<|.int 0)<|kB<|ad vEq (oSl 9)<|oV<|ad vMod (oV<|ad vDiv (oSl 8)<|oV<|eC<|.int 2)<|oSl 3) aNil) [some (.lst q2),o1,some<|iI hg,some<|iI wd,some<|iI tp,some<|iI sd,some<|iI way,some<|.dT<|mt ks,some<|iI r,some<|iI c,some<|.lst [.bl (decide (v1=0)),.bl<|decide (0<v2),.bl true],o11,o12,o13]=some (.nx,[some (.lst q2),o1,some<|iI hg,some<|iI wd,some<|iI tp,some<|iI sd,some<|iI way,some<|.dT<|mt ks,some<|iI r,some<|iI c,some<|.lst [.bl (decide (v1=0)),.bl<|decide (0<v2),.bl true,.bl b3],o11,o12,o13]):=
  Lj (Km rfl rfl (a_ (v_ P7) rfl) rfl rfl (Lk (by show 3<100000;decide)) rfl);have s3:aA 10 (ad vAdd (oSl 10)<|oV<|aT<|aa (oV<|eB<|kOr (kB<|ad vIn (oSl 8)<|oV<|ay<|aa (oV<|eC<|.int 0)<|aa (oV<|ad vSub (oSl 2)<|oV<|eC<|.int 1) aNil)<|kB<|ad vIn (oSl 9)<|oV<|ay<|aa (oV<|eC<|.int 0)<|aa (oV<|ad vSub (oSl 3)<|oV<|eC<|.int 1) aNil)<|aa (oV<|eC<|.bl false) aNil) [some (.lst q2),o1,some<|iI hg,some<|iI wd,some<|iI tp,some<|iI sd,some<|iI way,some<|.dT<|mt ks,some<|iI r,some<|iI c,some<|.lst [.bl (decide (v1=0)),.bl<|decide (0<v2),.bl true,.bl b3],o11,o12,o13]=some (.nx,[some (.lst q2),o1,some<|iI hg,some<|iI wd,some<|iI tp,some<|iI sd,some<|iI way,some<|.dT<|mt ks,some<|iI r,some<|iI c,some<|.lst [.bl (decide (v1=0)),.bl<|decide (0<v2),.bl true,.bl b3,.bl b4,.bl false],o11,o12,o13]):=
  bI (b_ rfl (v_<|Ko (a_ (v_ P8) rfl) rfl (le_of_ble_eq_true rfl) rfl) rfl rfl rfl) (El rfl) rfl;cases b with
 | true=>exact⟨.lst q2,_,br ks (r+tp,c+sd),CZ s1<|CZ s2<|CZ s3<|eJ (FR (v_<|b_ rfl rfl rfl rfl vi) rfl rfl)<|(rW rfl rfl rfl rfl rfl hl).trans rfl,H2,.inr rfl⟩
 | false=>exact⟨.lst q2,_,ks,CZ s1<|CZ s2<|CZ s3<|da (FR (v_<|b_ rfl rfl rfl rfl vi) rfl rfl) rfl,H2,.inl rfl⟩
theorem kc{i:Nat}{x:Im}(h:(ca 0 n)[i]?=some x):i<n/\x=.int (0+(i:Int)):=by
 have hi:i<n:=by
  have:=(List.getElem?_eq_some_iff.mp h).1
  rwa [ca,length_map,length_range] at this
 rw[ca,List.getElem?_map,List.getElem?_range hi] at h;exact⟨hi,(Option.some.inj h).symm⟩
theorem mM(lo:Int)(n:Nat):(ca lo n).length=n:=by rw[ca,length_map,length_range]
abbrev fD(h:Vl)(o1:Option Vl)(hg wd tp sd way:Int)(ks:List (Int×Int))(o8 o9 o10 o11 o12 o13:Option Vl):SD:=[some h,o1,some<|iI hg,some<|iI wd,some<|iI tp,some<|iI sd,some<|iI way,some<|.dT<|mt ks,o8,o9,o10,o11,o12,o13]
structure Kq(hg wd way:Int):Prop where
 h0:0<hg
 h1:hg<=12
 w0:0<wd
 w1:wd<=12
 y0:0<=way
 y1:way<6
theorem Ae{M:Nat}(H:aV (M+24) h)(d:Kq hg wd way)(R:E4 hg wd tp sd ks)(r0:0<=r)(r1:r<hg):
  ∃ h' DL E5 DK,j9 (fD h o1 hg wd tp sd way ks (some<|iI r) o9 o10 o11 o12 o13)=some (.nx,fD h' o1 hg wd tp sd way DL (some<|iI r) E5 DK o11 o12 o13)/\aV M h'/\E4 hg wd tp sd DL:=by
 have:=d.w0;have:=d.w1;obtain⟨D',l1,h',DL,E5,DK,rfl,l2,l3⟩:=jD (tg:=gN 9) (b:=j6) (xs:=ca 0 wd.toNat) (fun i D=>∃ h ks o9 o10,D=fD h o1 hg wd tp sd way ks (some<|iI r) o9 o10 o11 o12 o13/\aV (M+24 - 2 * i) h/\E4 hg wd tp sd ks) (D:=fD h o1 hg wd tp sd way ks (some<|iI r) o9 o10 o11 o12 o13)
  ⟨h,ks,o9,o10,rfl,H,R⟩ (fun i x D hx hI=>by
   obtain⟨h,ks,o9,o10,rfl,H,R⟩:=hI;obtain⟨hi,rfl⟩:=kc hx;have hl:=R.len d.h1 d.w1;obtain⟨h',DK,DL,e,H',k⟩:=Ad (n:=M+24 - 2 * (i+1)) (hg:=hg) (tp:=tp) (sd:=sd) (r:=r) (c:=0+(i:Int)) (ks:=ks) (o1:=o1) (o10:=o10) (o11:=o11) (o12:=o12) (o13:=o13) (H.mono (by lia)) d.y0 d.y1 d.w0 (by lia);refine⟨_,_,_,rfl,e,.inl rfl,h',DL,_,DK,rfl,H',?_⟩;rcases k with rfl | rfl
   ·exact R
   ·exact R.add r0 r1 (by lia) (by lia))
 rw[mM] at l2;refine⟨h',DL,E5,DK,eM (o:=none) (Ll (a_ rfl rfl) rfl ⟨by lia,by lia⟩) l1 rfl,l2.mono (by lia),l3⟩
theorem Af{M:Nat}{o8:Option Vl}(H:aV (M+300) h)(d:Kq hg wd way):
  ∃ h' DL Hf E5 DK,b9 (iR1<|aa (oSl 2) aNil) (gN 8) G.j9 (fD h o1 hg wd tp sd way [] o8 o9 o10 o11 o12 o13)=some (.nx,fD h' o1 hg wd tp sd way DL Hf E5 DK o11 o12 o13)/\aV M h'/\E4 hg wd tp sd DL:=by
 have:=d.h0;have:=d.h1;obtain⟨D',l1,h',DL,Hf,E5,DK,rfl,l2,l3⟩:=jD (tg:=gN 8) (b:=j9) (xs:=ca 0 hg.toNat) (fun i D=>∃ h ks o8 o9 o10,D=fD h o1 hg wd tp sd way ks o8 o9 o10 o11 o12 o13/\aV (M+300 - 24 * i) h/\E4 hg wd tp sd ks) (D:=fD h o1 hg wd tp sd way [] o8 o9 o10 o11 o12 o13)
  ⟨h,[],o8,o9,o10,rfl,H,nodup_nil,fun _ h=>(not_mem_nil h).elim⟩ (fun i x D hx hI=>by
   obtain⟨h,ks,o8,o9,o10,rfl,H,R⟩:=hI;obtain⟨hi,rfl⟩:=kc hx;obtain⟨h',DL,E5,DK,e,H',R'⟩:=Ae (M:=M+300 - 24 * (i+1)) (r:=0+(i:Int)) (o1:=o1) (o9:=o9) (o10:=o10) (o11:=o11) (o12:=o12) (o13:=o13) (H.mono (by lia)) d R (by lia) (by lia);exact⟨_,_,_,rfl,e,.inl rfl,h',DL,_,E5,DK,rfl,H',R'⟩)
 rw[mM] at l2;exact⟨h',DL,Hf,E5,DK,eM (o:=none) (Ll (a_ rfl rfl) rfl ⟨by lia,by lia⟩) l1 rfl,l2.mono (by lia),l3⟩
theorem N5{x m:Int}(h:0<m):0<=(if (if x > 0 then x else 0)<m - 1 then (if x > 0 then x else 0) else m - 1)/\(if (if x > 0 then x else 0)<m - 1 then (if x > 0 then x else 0) else m - 1)<m:=by
 split<;>split<;>lia
theorem Ag{M:Nat}(H:aV (M+1) h)(d:Kq hg wd way)(R:E4 hg wd tp sd ks)(r0:0<=r)(r1:r<hg)(c0:0<=c)(c1:c<wd):
  ∃ h' DL r' c' Eb Ec,iw (fD h o1 hg wd tp sd way ks (some<|iI r) (some<|iI c) o10 o11 o12 o13)=some (.nx,fD h' o1 hg wd tp sd way DL (some<|iI r') (some<|iI c') o10 o11 Eb Ec)/\aV M h'/\E4 hg wd tp sd DL/\0<=r'/\r'<hg/\0<=c'/\c'<wd:=by
 obtain⟨x,h',e,hx,H'⟩:=jQ (n:=M) (xs:=[cM (1,0),cM (0,1),cM (0,1),cM (-1,0),cM (0,-1),cM (1,0)]) H (by simp) (by decide);obtain⟨dn,rt,rfl⟩:∃ dn rt:Int,x=cM (dn,rt):=by
  simp at hx;rcases hx with rfl | rfl | rfl | rfl | rfl<;>exact⟨_,_,rfl⟩
 obtain⟨q,rfl⟩:=bg H;obtain⟨q1,rfl⟩:=bg H';have hl:=R.len d.h1 d.w1;obtain⟨a1,a2⟩:=N5 (x:=r+dn) d.h0;obtain⟨b1,b2⟩:=N5 (x:=c+rt) d.w0;refine⟨.lst q1,br ks (r+tp,c+sd),_,_,some<|iI dn,some<|iI rt,?_,H',R.add r0 r1 c0 c1,a1,a2,b1,b2⟩;unfold iw;refine CZ ((rW rfl rfl rfl rfl rfl (by lia)).trans rfl) (CZ (D1:=fD (.lst q1) o1 hg wd tp sd way (br ks (r+tp,c+sd)) (some<|iI r) (some<|iI c) o10 o11 (some<|iI dn) (some<|iI rt)) (Li (d:=.im (cM (dn,rt))) (d_ (os:=[.sl 0,.vl<|.lst [cM (1,0),cM (0,1),cM (0,1),cM (-1,0),cM (0,-1),cM (1,0)]]) (D1:=fD (.lst q) o1 hg wd tp sd way (br ks (r+tp,c+sd)) (some<|iI r) (some<|iI c) o10 o11 o12 o13) rfl rfl rfl e rfl) rfl)<|CZ (bI (Dr (a_ (v_<|b_ rfl rfl rfl rfl rfl)<|a_ (v_<|Dr (a_ rfl<|a_ (v_<|b_ rfl rfl rfl rfl rfl) rfl) rfl rfl) rfl) rfl rfl) (El rfl) rfl)<|bI (Dr (a_ (v_<|b_ rfl rfl rfl rfl rfl)<|a_ (v_<|Dr (a_ rfl<|a_ (v_<|b_ rfl rfl rfl rfl rfl) rfl) rfl rfl) rfl) rfl rfl) (El rfl) rfl)
theorem Ah{M:Nat}(H:aV (M+40) h)(d:Kq hg wd way)(R:E4 hg wd tp sd ks):
  ∃ h' DL Hf E5 E6 Eb Ec,b9 (iR1<|aa (oV<|ad vMul (oV<|eC<|.int 40)<|oV<|az vInt<|aa (oV<|ad vEq (oSl 6)<|oV<|eC<|.int 5) aNil) aNil) (gN 11) G.iw (fD h o1 hg wd tp sd way ks (some<|iI 0) (some<|iI 0) o10 o11 o12 o13)=some (.nx,fD h' o1 hg wd tp sd way DL Hf E5 o10 E6 Eb Ec)/\aV M h'/\E4 hg wd tp sd DL:=by
 obtain⟨k,hk,EK⟩:∃ k:Int,ad vMul (oV<|eC<|.int 40) (oV<|az vInt<|aa (oV<|ad vEq (oSl 6)<|oV<|eC<|.int 5) aNil) (fD h o1 hg wd tp sd way ks (some<|iI 0) (some<|iI 0) o10 o11 o12 o13)=some (iI k,fD h o1 hg wd tp sd way ks (some<|iI 0) (some<|iI 0) o10 o11 o12 o13)/\0<=k/\k<=40:=by
  have z:az vInt (aa (oV<|ad vEq (oSl 6)<|oV<|eC<|.int 5) aNil) (fD h o1 hg wd tp sd way ks (some<|iI 0) (some<|iI 0) o10 o11 o12 o13)=some (iI<|if decide (way=5) then 1 else 0,fD h o1 hg wd tp sd way ks (some<|iI 0) (some<|iI 0) o10 o11 o12 o13):=Dr (a_ (v_<|b_ rfl rfl rfl rfl<|dQ _ _) rfl) rfl rfl;refine⟨_,b_ rfl (v_ z) rfl rfl (Ab (gf (by decide) (by decide))),?_⟩;cases decide (way=5)<;>decide
 obtain⟨D',l1,h',DL,r',c',E6,Eb,Ec,rfl,l2,l3,_⟩:=jD (tg:=gN 11) (b:=iw) (xs:=ca 0 k.toNat) (fun i D=>∃ h ks r c o11 o12 o13,D=fD h o1 hg wd tp sd way ks (some<|iI r) (some<|iI c) o10 o11 o12 o13/\aV (M+40 - i) h/\E4 hg wd tp sd ks/\0<=r/\r<hg/\0<=c/\c<wd) (D:=fD h o1 hg wd tp sd way ks (some<|iI 0) (some<|iI 0) o10 o11 o12 o13)
  ⟨h,ks,0,0,o11,o12,o13,rfl,H,R,Int.le_refl _,d.h0,Int.le_refl _,d.w0⟩ (fun i x D hx hI=>by
   obtain⟨h,ks,r,c,o11,o12,o13,rfl,H,R,q1,q2,q3,q4⟩:=hI;obtain⟨hi,rfl⟩:=kc hx;obtain⟨h',DL,r',c',Eb,Ec,e,H',R',z⟩:=Ag (M:=M+40 - (i+1)) (o1:=o1) (o10:=o10) (o11:=some (iI<|0+(i:Int))) (o12:=o12) (o13:=o13) (H.mono (by lia)) d R q1 q2 q3 q4;exact⟨_,_,_,rfl,e,.inl rfl,h',DL,r',c',_,Eb,Ec,rfl,H',R',z⟩)
 rw[mM] at l2;exact⟨h',DL,_,_,E6,Eb,Ec,eM (o:=none) (Ll (a_ (v_ hk) rfl) rfl ⟨by lia,by lia⟩) l1 rfl,l2.mono (by lia),l3⟩
def Up(cs:List (Int×Int)):Prop:=cs.Pairwise fun a b=>t_ (cM a) (cM b)=true
theorem iy(nd:ks.Nodup)(hl:ks.length<=1000):∃ cs:List (Int×Int),bD t_ (ks.map cM)=cs.map cM/\cs.Perm ks/\Up cs:=by
 have o:=gr nd hl;obtain⟨cs,h1,h2⟩:=yQ (gp<|ks.map cM);refine⟨cs,h2,h1,?_⟩;have:=lZ o.ord.nd o.ord.EF;rw[h2] at this;exact pairwise_map.mp this
structure IG(cs:List (Int×Int)):Prop where
 up:Up cs
 FS:∀ c∈cs,0<=c.1/\c.1<=30/\0<=c.2/\c.2<=30
 len:cs.length<=144
theorem Ai{M:Nat}(H:aV (M+400) h):∃ cs h',ix [h]=some (cT cs,[h'])/\IG cs/\aV M h':=by
 obtain⟨v0,h0,e0,_,_,H0⟩:=dN (n:=M+399) (m:=8) H (by decide) (by decide);obtain⟨ms,P9,N6,QD⟩:∃ ms:Int,(if decide (v0=0) then 12 else 8)=ms/\0<ms/\ms<=12:=by
  cases decide (v0=0)
  ·exact⟨8,rfl,by decide,by decide⟩
  ·exact⟨12,rfl,by decide,by decide⟩
 obtain⟨v1,h1,e1,a1,b1,H1⟩:=dN (n:=M+398) (m:=ms) H0 N6 (by lia);obtain⟨v2,h2,e2,a2,b2,H2⟩:=dN (n:=M+397) (m:=ms) H1 N6 (by lia);obtain⟨x3,h3,e3,i3,H3⟩:=jQ (n:=M+396) (xs:=[.int 0,.int 0,.int 1,.int<|31 - (1+v1)]) H2 (by simp) (by simp);obtain⟨x4,h4,e4,i4,H4⟩:=jQ (n:=M+395) (xs:=[.int 0,.int 0,.int 2,.int<|31 - (1+v2)]) H3 (by simp) (by simp);obtain⟨v5,h5,e5,a5,b5,H5⟩:=dN (n:=M+340) (m:=6) (H4.mono (by lia)) (by decide) (by decide);obtain⟨tp,rfl,t0,t1⟩:∃ tp:Int,x3=.int tp/\0<=tp/\tp+(1+v1)<=31:=by
  simp at i3;rcases i3 with rfl | rfl | rfl<;>exact⟨_,rfl,by lia,by lia⟩
 obtain⟨sd,rfl,s0,s1⟩:∃ sd:Int,x4=.int sd/\0<=sd/\sd+(1+v2)<=31:=by
  simp at i4;rcases i4 with rfl | rfl | rfl<;>exact⟨_,rfl,by lia,by lia⟩
 obtain⟨q,rfl⟩:=bg H;obtain⟨q0,rfl⟩:=bg H0;obtain⟨q1,rfl⟩:=bg H1;obtain⟨q2,rfl⟩:=bg H2;obtain⟨q3,rfl⟩:=bg H3;obtain⟨q4,rfl⟩:=bg H4;obtain⟨q5,rfl⟩:=bg H5;have d:Kq (1+v1) (1+v2) v5:=⟨by lia,by lia,by lia,by lia,a5,b5⟩;obtain⟨h6,N7,o8,o9,o10,e6,H6,R6⟩:=Af (M:=M+40) (tp:=tp) (sd:=sd) (o1:=some (iI ms)) (o8:=none) (o9:=none) (o10:=none) (o11:=none) (o12:=none) (o13:=none) (H5.mono (by lia)) d;obtain⟨h7,Kr,Hf,E5,E6,Eb,Ec,e7,H7,R7⟩:=Ah (M:=M) (o1:=some (iI ms)) (o10:=o10) (o11:=none) (o12:=none) (o13:=none) H6 d R6;have hl:=R7.len d.h1 d.w1;obtain⟨cs,c1,c2,c3⟩:=iy R7.nd (by lia);obtain⟨q6,rfl⟩:=bg H6;obtain⟨q7,rfl⟩:=bg H7;refine⟨cs,.lst q7,?_,⟨c3,fun c hc=>?_,by rw[c2.length_eq];exact hl⟩,H7⟩
 ·have hs:CY [.dT (mt Kr)]=some (cL cs):=by
   show c9 ((mt Kr).map fun p=>Im.tup p.1)=_;rw[yU];unfold c9;rw[if_pos (gq.mpr (gr R7.nd (by lia))),c1]
  unfold ix rS;have z0:kB (ad vEq (oV<|au 2 G.bf<|aa (oSl 0)<|aa (oV<|eC<|.int 8) aNil)<|oV<|eC<|.int 0) [some (.lst q),some<|iI 8,none,none,none,none,none,none,none,none,none,none,none,none]=some (decide (v0=0),[some (.lst q0),some<|iI 8,none,none,none,none,none,none,none,none,none,none,none,none]):=Ds (b_ (v_<|d_ (a_ rfl<|a_ rfl rfl) rfl rfl e0 rfl) rfl rfl rfl<|dQ _ _);have z1:sIf (kB<|ad vEq (oV<|au 2 G.bf<|aa (oSl 0)<|aa (oV<|eC<|.int 8) aNil)<|oV<|eC<|.int 0) (aA 1<|eC<|.int 12) sNil [some (.lst q),some<|iI 8,none,none,none,none,none,none,none,none,none,none,none,none]=some (.nx,[some (.lst q0),some<|iI ms,none,none,none,none,none,none,none,none,none,none,none,none]):=by
   rw[<- P9];cases hb:decide (v0=0) with
   | true=>rw[hb] at z0;exact eJ z0 rfl
   | false=>rw[hb] at z0;exact da z0 rfl
  have z2:eg 2 3 (aa (oV<|ad vAdd (oV<|eC<|.int 1)<|oV<|au 2 G.bf<|aa (oSl 0)<|aa (oSl 1) aNil)<|aa (oV<|ad vAdd (oV<|eC<|.int 1)<|oV<|au 2 G.bf<|aa (oSl 0)<|aa (oSl 1) aNil) aNil) [some (.lst q0),some<|iI ms,none,none,none,none,none,none,none,none,none,none,none,none]=some (.nx,[some (.lst q2),some<|iI ms,some<|iI<|1+v1,some<|iI<|1+v2,none,none,none,none,none,none,none,none,none,none]):=
   rV (a_ (v_<|b_ rfl (v_<|d_ (os:=[.sl 0,.sl 1]) rfl rfl rfl e1 rfl) rfl rfl rfl)<|a_ (v_<|b_ rfl (v_<|d_ (os:=[.sl 0,.sl 1]) rfl rfl rfl e2 rfl) rfl rfl rfl) rfl) rfl (El rfl) (El rfl) rfl;have z3:eg 4 5 (aa (oV<|au 2 G.cw<|aa (oSl 0)<|aa (oV<|aT<|aa (oV<|eC<|.int 0)<|aa (oV<|eC<|.int 0)<|aa (oV<|eC<|.int 1)<|aa (oV<|ad vSub (oV<|eC<|.int 31)<|oSl 2) aNil) aNil)<|aa (oV<|au 2 G.cw<|aa (oSl 0)<|aa (oV<|aT<|aa (oV<|eC<|.int 0)<|aa (oV<|eC<|.int 0)<|aa (oV<|eC<|.int 2)<|aa (oV<|ad vSub (oV<|eC<|.int 31)<|oSl 3) aNil) aNil) aNil) [some (.lst q2),some<|iI ms,some<|iI<|1+v1,some<|iI<|1+v2,none,none,none,none,none,none,none,none,none,none]=some (.nx,[some (.lst q4),some<|iI ms,some<|iI<|1+v1,some<|iI<|1+v2,some<|iI tp,some<|iI sd,none,none,none,none,none,none,none,none]):=
   rV (a_ (v_<|d_ (os:=[.sl 0,.vl<|.lst [.int 0,.int 0,.int 1,.int<|31 - (1+v1)]]) (D1:=[some (.lst q2),some<|iI ms,some<|iI<|1+v1,some<|iI<|1+v2,none,none,none,none,none,none,none,none,none,none]) rfl rfl rfl e3 rfl)<|a_ (v_<|d_ (os:=[.sl 0,.vl<|.lst [.int 0,.int 0,.int 2,.int<|31 - (1+v2)]]) (D1:=[some (.lst q3),some<|iI ms,some<|iI<|1+v1,some<|iI<|1+v2,none,none,none,none,none,none,none,none,none,none]) rfl rfl rfl e4 rfl) rfl) rfl (El rfl) (El rfl) rfl;have z4:aA 6 (au 2 G.bf<|aa (oSl 0)<|aa (oV<|eC<|.int 6) aNil) [some (.lst q4),some<|iI ms,some<|iI<|1+v1,some<|iI<|1+v2,some<|iI tp,some<|iI sd,none,none,none,none,none,none,none,none]=some (.nx,[some (.lst q5),some<|iI ms,some<|iI<|1+v1,some<|iI<|1+v2,some<|iI tp,some<|iI sd,some<|iI v5,none,none,none,none,none,none,none]):=
   bI (d_ (os:=[.sl 0,.vl<|iI 6]) rfl rfl rfl e5 rfl) (El rfl) rfl;have z5:aA 7 eDict0T [some (.lst q5),some<|iI ms,some<|iI<|1+v1,some<|iI<|1+v2,some<|iI tp,some<|iI sd,some<|iI v5,none,none,none,none,none,none,none]=some (.nx,fD (.lst q5) (some<|iI ms) (1+v1) (1+v2) tp sd v5 [] none none none none none none):=rfl;have z6:cE (ay<|aa (oV<|eC<|.int 0)<|aa (oV<|eC<|.int 0) aNil) (gT 2<|c6 (gN 8)<|c6 (gN 9) gNil') (fD (.lst q6) (some<|iI ms) (1+v1) (1+v2) tp sd v5 N7 o8 o9 o10 none none none)=some (.nx,fD (.lst q6) (some<|iI ms) (1+v1) (1+v2) tp sd v5 N7 (some<|iI 0) (some<|iI 0) o10 none none none):=rfl;have z7:aU (az vTuple<|aa (oV<|az CY<|aa (oSl 7) aNil) aNil) (fD (.lst q7) (some<|iI ms) (1+v1) (1+v2) tp sd v5 Kr Hf E5 o10 E6 Eb Ec)=some (.rt<|cT cs,fD (.lst q7) (some<|iI ms) (1+v1) (1+v2) tp sd v5 Kr Hf E5 o10 E6 Eb Ec):=cu (Dr (a_ (v_<|Dr (a_ rfl rfl) rfl hs) rfl) rfl rfl);refine bQ (D:=fD (.lst q7) (some<|iI ms) (1+v1) (1+v2) tp sd v5 Kr Hf E5 o10 E6 Eb Ec) rfl ?_ rfl;refine CZ (D1:=[some (.lst q),some<|iI 8,none,none,none,none,none,none,none,none,none,none,none,none]) rfl ?_;exact CZ z1 (CZ z2<|CZ z3<|CZ z4<|CZ z5<|CZ e6<|CZ z6<|CZ e7 z7)
 ·have:=R7.FS c (c2.mem_iff.mp hc);lia
end G
namespace L2
open PySem PySem.Spec PyProof.Rows
section
variable{X:Cx}
end
end L2
namespace G
open PySem L2
variable{o1 o0:Option Vl}{f:Addr}{α:Type}{c:Int×Int}{D1 D:SD}{d:Im}
noncomputable def iz:MS:=(cE (eC<|.bl true)<|gIx 1 (bK 2) putA)
noncomputable def rX:MS:=(am (aA 1 eDict0T)<|am (b9 (bn<|oSl 0) (gN 2) G.iz)<|aU<|bK 1)
noncomputable def gC:Fn:=bb 1 3 [0] rX
noncomputable def Aj:MS:=(am (aA 1<|ad vIx (oSl 0)<|oV<|eC<|.int 0)<|am (aA 2<|ad vIx (oSl 0)<|oV<|eC<|.int 1)<|aU<|aT<|aa (oV<|ay<|aa (oV<|ad vSub (oSl 1)<|oV<|eC<|.int 1)<|aa (oSl 2) aNil)<|aa (oV<|ay<|aa (oSl 1)<|aa (oV<|ad vSub (oSl 2)<|oV<|eC<|.int 1) aNil)<|aa (oV<|ay<|aa (oSl 1)<|aa (oV<|ad vAdd (oSl 2)<|oV<|eC<|.int 1) aNil)<|aa (oV<|ay<|aa (oV<|ad vAdd (oSl 1)<|oV<|eC<|.int 1)<|aa (oSl 2) aNil) aNil)
noncomputable def ke:Fn:=bb 1 3 [0] Aj
noncomputable def rY:MS:=(aU<|ad vEq (oV<|ad vAdd (oV<|az vAbs<|aa (oV<|ad vSub (oV<|ad vIx (oSl 0)<|oV<|eC<|.int 0)<|oV<|ad vIx (oSl 1)<|oV<|eC<|.int 0) aNil)<|oV<|az vAbs<|aa (oV<|ad vSub (oV<|ad vIx (oSl 0)<|oV<|eC<|.int 1)<|oV<|ad vIx (oSl 1)<|oV<|eC<|.int 1) aNil)<|oV<|eC<|.int 1)
noncomputable def iA:Fn:=bb 2 2 [0,1] rY
noncomputable def rZ:M Vl:=(bK 0)
noncomputable def r6:M Bool:=(kB<|ad vNe (oSl 0)<|oSl 1)
noncomputable def mN:M Vl:=(au 2 G.iA<|aa (oSl 1)<|aa (oSl 0) aNil)
noncomputable def iB:MS:=(sIf (cH<|oV<|az vAny<|aa (oV<|bv 1 [6] (bn<|oSl 3) (gN 0) kYes G.mN) aNil) (ed<|cW fw 5 mAppend<|aa (oSl 6) aNil) sNil)
noncomputable def se:M Vl:=(bK 0)
noncomputable def sf:M Bool:=(kB<|ad vNotIn (oSl 0)<|oSl 1)
noncomputable def mO:M Bool:=(kB<|ad vNe (oSl 3)<|oV<|aT aNil)
noncomputable def kf:MS:=(am (aA 5<|aT aNil)<|am (b9 (bn<|oSl 4) (gN 6) G.iB)<|am (aA 2<|ad vAdd (oSl 2)<|oSl 5)<|am (aA 4<|bv 1 [5] (bn<|oSl 4) (gN 0) G.sf G.se)<|aA 3<|bK 5)
noncomputable def si:MS:=(am (eg 2 3<|aa (oV<|aT<|aa (oSl 1) aNil)<|aa (oV<|aT<|aa (oSl 1) aNil) aNil)<|am (aA 4<|bv 1 [1] (bn<|oSl 0) (gN 0) G.r6 G.rZ)<|am (dm G.mO G.kf 1000000)<|aU<|az vTuple<|aa (oV<|az CY<|aa (oSl 2) aNil) aNil)
noncomputable def dR:Fn:=bb 2 7 [0,1] si
abbrev p_:=Int×Int
variable{left h_ part cs:List p_}{s:p_}
theorem sj(o0:Option Vl):∀ (cs ks:List p_) (o2:Option Vl),ks.length+cs.length<100000->∃ MJ,ba (gN 2) iz (cs.map cM) [o0,some<|.dT<|mt ks,o2]=some (.nx,[o0,some<|.dT<|mt<|cs.foldl br ks,MJ])
 | [],ks,o2,_=>⟨o2,rfl⟩
 | c::cs,ks,o2,hl=>by
  have hp:putA (.dT<|mt ks) (.im<|.tup<|kM c) (bV true)=some (.dT<|mt<|br ks c):=by
   rw[<- mL];exact if_pos ⟨rfl,by unfold mt;rw[length_map];rw[length_cons] at hl;lia⟩
  have la:(br ks c).length<=ks.length+1:=by
   unfold br;split
   ·lia
   ·rw[length_append];exact Nat.le_refl _
  obtain⟨MJ,ih⟩:=sj o0 cs (br ks c) (some<|.im<|cM c) (by rw[length_cons] at hl;lia);refine⟨MJ,?_⟩;have e:iz [o0,some<|.dT<|mt ks,some<|.im<|cM c]=some (.nx,[o0,some<|.dT<|mt<|br ks c,some<|.im<|cM c]):=by
   unfold iz;refine Li rfl ?_;show (putA (.dT<|mt ks) (.im<|.tup<|kM c)<|bV true).map _=_;rw[hp];rfl
  rw[map_cons,ba];show (iz [o0,some<|.dT<|mt ks,some<|.im<|cM c]).bind _=_;rw[e];exact ih
theorem sk:∀ (cs ks:List p_),(ks++cs).Nodup->cs.foldl br ks=ks++cs
 | [],ks,_=>by rw[append_nil];rfl
 | c::cs,ks,nd=>by
  have hc:c∉ks:=fun h=>by
   have:=(nodup_append.mp nd).2.2 c h c (.head _);exact this rfl
  rw[foldl_cons,br,if_neg hc,sk cs (ks++[c]) (by rw[List.append_assoc];exact nd),List.append_assoc];rfl
theorem Ak(nd:cs.Nodup)(hl:cs.length<10000):gC [cT cs]=some (.dT<|mt cs,[cT cs]):=by
 obtain⟨o,lp⟩:=sj (some<|cT cs) cs [] none (by show 0+_ < _;lia);rw[sk cs [] nd] at lp;unfold gC rX;refine bQ (D:=[some (cT cs),some .jk,o]) rfl (CZ (D1:=[some (cT cs),some<|.dT [],none]) rfl<|CZ (eM (o:=none) rfl lp rfl) rfl) rfl
def FH(c:p_):List p_:=[(c.1 - 1,c.2),(c.1,c.2 - 1),(c.1,c.2+1),(c.1+1,c.2)]
theorem Al(c:p_):ke [.im (cM c)]=some (cL<|FH c,[.im (cM c)]):=rfl
theorem sn(ks:List p_)(c:p_):vIn (.im<|cM c) (.dT<|mt ks)=some (bV<|decide (c∈ks)):=by
 rw[<- yS];rfl
def FI(d:Im):Prop:=∀ a,d≠.fn a
def HC(d:Im):Prop:=FI d/\∀ es,d=.tup es->∀ y∈es,FI y
def HD(d:Im):Prop:=FI d/\∀ ds,d=.tup ds->ds.length<=290/\∀ x∈ds,HC x
def Hg:Im->Bool
 | .int _=>true
 | _=>false
theorem sq(h:FI d):fF [.im d]=some (bV<|Hg d,[.im d]):=by
 cases d with
 | fn a=>exact absurd rfl (h a)
 | _=>rfl
def Ks:Im->Bool
 | .tup [a,b]=>Hg a && Hg b
 | _=>false
theorem sr(h:Hg d=true):∃ i,d=.int i:=by
 cases d with
 | int i=>exact⟨i,rfl⟩
 | _=>cases h
theorem Am(h:HC d):gy [.im d]=some (bV<|Ks d,[.im d]):=by
 cases d with
 | fn a=>exact absurd rfl (h.1 a)
 | tup ds=>
  unfold gy rN
  match ds,h with
  | [],_=>rfl
  | [a],_=>rfl
  | [a,b],h=>
   have ha:=sq (h.2 _ rfl a<|.head _);have hb:=sq (h.2 _ rfl b<|.tail _<|.head _);refine bQ (D:=[some (.im<|.tup [a,b])]) rfl (cu<|Gu<|db (Ds rfl)<|db (Ds rfl) ?_) rfl;show _=some (Hg a && Hg b,_);have ka:kB (au 1 G.fF<|aa (oV<|ad vIx (oSl 0)<|oV<|eC<|.int 0) aNil) [some (.im<|.tup [a,b])]=some (Hg a,[some (.im<|.tup [a,b])]):=Ds (d_ (a_ (v_<|b_ (d:=.im a) rfl rfl rfl rfl rfl) rfl) rfl rfl ha rfl);have kb:kB (au 1 G.fF<|aa (oV<|ad vIx (oSl 0)<|oV<|eC<|.int 1) aNil) [some (.im<|.tup [a,b])]=some (Hg b,[some (.im<|.tup [a,b])]):=Ds (d_ (a_ (v_<|b_ (d:=.im b) rfl rfl rfl rfl rfl) rfl) rfl rfl hb rfl);cases hz:Hg a with
   | false=>rw[hz] at ka;exact fH ka
   | true=>rw[hz] at ka;exact db ka kb
  | a::b::c::r,_=>
   have e:vEq (iI ((a::b::c::r).length:Int)) (iI 2)=some (bV false):=(dQ _ _).trans (congrArg (fun b=>some<|bV b) (decide_eq_false (by rw[length_cons,length_cons,length_cons];lia)));exact bQ (D:=[some (.im<|.tup (a::b::c::r))]) rfl (cu<|Gu<|db (Ds rfl)<|fH<|Ds<|b_ (v_<|Dr (a_ rfl rfl) rfl rfl) rfl rfl rfl e) rfl
 | _=>rfl
theorem N8{D2 D3:SD}{f f':Op2}{ga gb gc:M Opd}{x y z:Opd}{d1 d2 Iz d3:Vl}{b b':Bool}(e1:ga D=some (x,D1))(e2:gb D1=some (y,D2))(e3:rsl D2 x=some d1)(e4:rsl D2 y=some d2)(e5:f d1 d2=some (bV b))(e6:gc D2=some (z,D3))(e7:rsl D3 y=some Iz)(e8:rsl D3 z=some d3)(e9:f' Iz d3=some (bV b'))(hD:D3=D2):eF f f' ga gb gc D=some (bV<|b && b',D2):=by
 subst hD;unfold eF;rw[e1];show (gb D1).bind _=_;rw[e2];show (rsl D3 x).bind _=_;rw[e3];show (rsl D3 y).bind _=_;rw[e4];show (f d1 d2).bind _=_;rw[e5];cases b
 ·rfl
 ·show (gc D3).bind _=_;rw[e6];show (rsl D3 y).bind _=_;rw[e7];show (rsl D3 z).bind _=_;rw[e8];show (f' Iz d3).bind _=_;rw[e9];rfl
def E7:Im->Bool
 | .tup [.int i,.int j]=>(decide (0<=i) && decide (i<=30)) && (decide (0<=j) && decide (j<=30))
 | _=>false
theorem mP(h:E7 d=true):∃ c:Int×Int,d=cM c/\0<=c.1/\c.1<=30/\0<=c.2/\c.2<=30:=by
 unfold E7 at h;split at h
 ·next i j=>
  rw[and_eq_true,and_eq_true,and_eq_true] at h;exact⟨(i,j),rfl,of_decide_eq_true h.1.1,of_decide_eq_true h.1.2,of_decide_eq_true h.2.1,of_decide_eq_true h.2.2⟩
 ·cases h
theorem An(h:0<=c.1/\c.1<=30/\0<=c.2/\c.2<=30):E7 (cM c)=true:=by
 show ((decide (0<=c.1) && decide (c.1<=30)) && (decide (0<=c.2) && decide (c.2<=30)))=true;rw[decide_eq_true h.1,decide_eq_true h.2.1,decide_eq_true h.2.2.1,decide_eq_true h.2.2.2];rfl
theorem Ao(h:Ks d=false):E7 d=false:=by
 cases hc:E7 d with
 | false=>rfl
 | true=>
  obtain⟨c,rfl,_⟩:=mP hc;cases h
theorem Ap(h:HC d):eI [.im d]=some (bV<|E7 d,[.im d]):=by
 have hp:=Am h;unfold eI rO;refine bQ (D:=[some (.im d)]) rfl (cu<|Gu ?_) rfl;have kp:kB (au 1 G.gy<|aa (oSl 0) aNil) [some (.im d)]=some (Ks d,[some (.im d)]):=Ds (d_ (a_ rfl rfl) rfl rfl hp rfl);cases hz:Ks d with
 | false=>rw[hz] at kp;rw[Ao hz];exact fH kp
 | true=>
  rw[hz] at kp;obtain⟨i,j,rfl⟩:∃ i j,d=.tup [.int i,.int j]:=by
   unfold Ks at hz;split at hz
   ·next a b=>
    rw[and_eq_true] at hz;obtain⟨i,rfl⟩:=sr hz.1;obtain⟨j,rfl⟩:=sr hz.2;exact⟨i,j,rfl⟩
   ·cases hz
  refine db kp ?_;have k1:kB (eF vLe vLe (oV<|eC<|.int 0) (oV<|ad vIx (oSl 0)<|oV<|eC<|.int 0)<|oV<|eC<|.int 30) [some (.im<|.tup [.int i,.int j])]=some (decide (0<=i) && decide (i<=30),[some (.im<|.tup [.int i,.int j])]):=Ds (N8 rfl (v_<|b_ (d:=iI i) rfl rfl rfl rfl rfl) rfl rfl rfl rfl rfl rfl rfl rfl);have k2:kB (eF vLe vLe (oV<|eC<|.int 0) (oV<|ad vIx (oSl 0)<|oV<|eC<|.int 1)<|oV<|eC<|.int 30) [some (.im<|.tup [.int i,.int j])]=some (decide (0<=j) && decide (j<=30),[some (.im<|.tup [.int i,.int j])]):=Ds (N8 rfl (v_<|b_ (d:=iI j) rfl rfl rfl rfl rfl) rfl rfl rfl rfl rfl rfl rfl rfl);show _=some ((decide (0<=i) && decide (i<=30)) && (decide (0<=j) && decide (j<=30)),_);cases hy:(decide (0<=i) && decide (i<=30)) with
  | false=>rw[hy] at k1;exact fH k1
  | true=>rw[hy] at k1;exact db k1 k2
def dA(ds:List Im):Bool:=(ds.zip<|ds.drop 1).all fun p=>t_ p.1 p.2
def IH:Im->Bool
 | .tup ds=>ds.all E7 && dA ds
 | _=>false
theorem MK{α:Type}(f:α->Bool):∀ xs:List α,bls (xs.map fun r=>.bl<|f r)=some (xs.map f)
 | []=>rfl
 | x::r=>by rw[map_cons,bls,MK f r];rfl
theorem ss(f:α->Bool)(xs:List α):vAll [.lst (xs.map fun r=>.bl<|f r)]=some (bV<|xs.all f):=by
 show (bls _).map _=_;rw[MK,map_some,List.all_map];rfl
theorem su(f:α->Bool)(xs:List α):vAny [.lst (xs.map fun r=>.bl<|f r)]=some (bV<|xs.any f):=by
 show (bls _).map _=_;rw[MK,map_some,any_map];rfl
theorem sv:∀ ds es:List Im,cq ds es=(ds.zip es).map fun p=>.tup [p.1,p.2]
 | [],_=>rfl
 | _::_,[]=>rfl
 | d::ds,e::es=>congrArg (_::·) (sv ds es)
theorem sw(a b:Int×Int):bH 6 (cM a) (cM b)=true:=rfl
theorem Aq(h:HD d):ir f [.im d,.im<|.fn f]=some (bV<|IH d,[.im d,.im<|.fn f]):=by
 cases d with
 | fn a=>exact absurd rfl (h.1 a)
 | tup ds=>
  obtain⟨hl,hd⟩:=h.2 ds rfl;unfold ir rQ;refine bQ (D:=[some (.im<|.tup ds),some<|.im<|.fn f]) rfl ?_ rfl;show am _ _ [some (.im<|.tup ds),some<|.im<|.fn f]=_;have c1:bv 1 [1] (bn<|oSl 0) (gN 0) kYes (jZ f) [some (.im<|.tup ds),some<|.im<|.fn f]=some (.lst<|ds.map fun d=>.bl<|E7 d,[some (.im<|.tup ds),some<|.im<|.fn f]):=by
   refine Jk (xs:=ds.map id) (o:=none) (D1:=[some (.im<|.tup ds),some<|.im<|.fn f]) (by rw[map_id];rfl) (jE id (fun d=>.bl<|E7 d) _ (fun x hx=>?_) (by lia)) rfl;refine⟨[some (.im x),some<|.im<|.fn f],_,[some (.im x),some<|.im<|.fn f],rfl,rfl,?_,rfl⟩;unfold jZ;show (if f=f then _ else _)=_;rw[if_pos rfl];exact d_ (a_ rfl rfl) rfl rfl (Ap<|hd x hx) rfl
  have c2:cC (cH<|oV<|az vAll<|aa (oV<|bv 1 [1] (bn<|oSl 0) (gN 0) kYes<|jZ f) aNil) [some (.im<|.tup ds),some<|.im<|.fn f]=some (!(ds.all E7),[some (.im<|.tup ds),some<|.im<|.fn f]):=MH (FR (v_<|Dr (a_ (v_ c1) rfl) rfl<|ss E7 ds) rfl rfl);show _=some (Fl.rt<|bV<|ds.all E7 && dA ds,_);cases ha:ds.all E7 with
  | false=>
   rw[ha] at c2;exact lQ (eJ (fG (Kp<|FR rfl rfl rfl) c2) rfl)
  | true=>
   rw[ha] at c2;refine CZ (da (fG (Kp<|FR rfl rfl rfl) c2) rfl) ?_;have GW:=all_eq_true.mp ha;have c3:bv 2 [] (iZ<|aa (oSl 0)<|aa (oV<|eSl (oSl 0) (dM<|eC<|.int 1) pNone) aNil) (gT 2<|c6 (gN 0)<|c6 (gN 1) gNil') kYes (rP f) [some (.im<|.tup ds),some<|.im<|.fn f]=some (.lst<|(ds.zip<|ds.drop 1).map fun p=>.bl<|t_ p.1 p.2,[some (.im<|.tup ds),some<|.im<|.fn f]):=by
    refine Jk (xs:=(ds.zip<|ds.drop 1).map fun p=>.tup [p.1,p.2]) (o:=none) (D1:=[some (.im<|.tup ds),some<|.im<|.fn f]) ?_ (jE (fun p:Im×Im=>.tup [p.1,p.2]) (fun p=>.bl<|t_ p.1 p.2) _ (fun p hp=>?_) ?_) rfl
    ·rw[<- sv];exact P6 (a_ rfl (a_ (v_ (Jl (d':=.im (.tup<|ds.drop 1)) rfl rfl rfl rfl (by show some (Vl.im<|.tup<|aC ds (some ((1:Nat):Int)) none)=_;rw[qk]))) rfl)) rfl
    ·obtain⟨a,ea,_⟩:=mP (GW p.1 (of_mem_zip hp).1);obtain⟨b,eb,_⟩:=mP (GW p.2<|mem_of_mem_drop (of_mem_zip hp).2);obtain⟨x,y⟩:=p;dsimp only at ea eb ⊢;subst ea eb;exact⟨[some (.im<|cM a),some<|.im<|cM b],_,[some (.im<|cM a),some<|.im<|cM b],rfl,rfl,b_ rfl rfl rfl rfl rfl,rfl⟩
    ·rw[List.length_zip,length_drop];lia
   exact cu (Dr (a_ (v_ c3) rfl) rfl<|ss (fun p:Im×Im=>t_ p.1 p.2) _)
 | _=>rfl
theorem mQ(h:HD d):gz f [.im d]=some (bV<|IH d,[.im d]):=by
 unfold gz rR;exact bQ (D:=[some (.im d)]) rfl (cu<|d_ (a_ rfl<|a_ rfl rfl) rfl rfl (Aq h) rfl) rfl
def P5:Im->Bool
 | .int i=>decide (0<=i) && decide (i<31)
 | _=>false
theorem Ar{a b:Int×Int}(h1:t_ (cM a) (cM b)=true)(h2:t_ (cM b) (cM c)=true):t_ (cM a) (cM c)=true:=jK (sw a b) (sw b c) h1 h2
theorem mR:∀ {cs:List (Int×Int)},dA (cs.map cM)=true->Up cs
 | [],_=>List.Pairwise.nil
 | [a],_=>pairwise_singleton _ _
 | a::b::r,h=>by
  have h':(t_ (cM a) (cM b) && dA ((b::r).map cM))=true:=h;rw[and_eq_true] at h';have ih:=mR h'.2;refine pairwise_cons.mpr ⟨fun c hc=>?_,ih⟩;rcases mem_cons.mp hc with rfl | hc
  ·exact h'.1
  ·exact Ar h'.1 ((pairwise_cons.mp ih).1 c hc)
theorem mS:∀ {cs:List (Int×Int)},Up cs->dA (cs.map cM)=true
 | [],_=>rfl
 | [a],_=>rfl
 | a::b::r,h=>by
  have h':=pairwise_cons.mp h;show (t_ (cM a) (cM b) && dA ((b::r).map cM))=true;rw[h'.1 b (.head _),mS h'.2];rfl
theorem dS{cs:List (Int×Int)}(h:Up cs):cs.Nodup:=h.imp fun {a b} e z=>by rw[z,lV] at e;cases e
theorem sx(cs:List (Int×Int)):∃ dc:List (Int×Int),bp (cs.map kM)=dc.map kM/\dc.Nodup/\∀ c,c∈dc↔c∈cs:=by
 have hm:=fun x=>zP (ks:=cs.map kM) (x:=x);have nd:=zR (cs.map kM);have key:∀ l:List (List Im),(∀ x∈l,x∈cs.map kM)->l=(l.map fun x=>uC<|.tup x).map kM:=fun l=>by
  induction l with
  | nil=>intro _;rfl
  | cons x l ih=>
   intro h;obtain⟨c,_,rfl⟩:=mem_map.mp (h x<|.head _);rw[map_cons,map_cons,<- ih fun y hy=>h y<|.tail _ hy];rfl
 have e:=key _ fun x hx=>(hm x).mp hx;refine⟨_,e,?_,fun c=>?_⟩
 ·rw[e] at nd;exact (pairwise_map.mp nd).imp fun {a b} h z=>h (by rw[z])
 ·have h1:kM c∈bp (cs.map kM)↔kM c∈cs.map kM:=hm (kM c);rw[e] at h1;have h2:∀ l:List (Int×Int),kM c∈l.map kM↔c∈l:=fun l=>by
   constructor
   ·intro h;obtain⟨d,hd,hh⟩:=mem_map.mp h;rw[<- ma hh];exact hd
   ·exact fun h=>List.mem_map_of_mem h
  rw[h2,h2] at h1;exact h1
theorem mT:∀ cs:List (Int×Int),Im.keys 8 (cs.map cM)=true
 | []=>rfl
 | c::r=>by rw[map_cons,Im.keys,mT r];rfl
theorem As{cs:List (Int×Int)}(hl:cs.length<=290):jX (cs.map kM)=true/\ig ((bp<|cs.map kM).map .tup)=true/\bj (cs.map cM) (bD t_<|(bp<|cs.map kM).map .tup)=dA (cs.map cM)/\Im.pls 8 (bD t_<|(bp<|cs.map kM).map .tup)=true:=by
 obtain⟨dc,e,nd,hm⟩:=sx cs;have hlen:dc.length<=cs.length:=io nd fun x hx=>(hm x).mp hx;have e2:(dc.map kM).map Im.tup=dc.map cM:=by rw[List.map_map];rfl
 obtain⟨es,s1,s2,s3⟩:=iy nd (by lia);rw[e,e2,s1];refine⟨rM.mpr ⟨fun k hk=>?_,by rw[e,length_map];lia⟩,gq.mpr (gr nd (by lia)),?_,jP es⟩
 ·obtain⟨c,_,rfl⟩:=mem_map.mp hk;exact yO c
 ·rw[kw (mT cs) (mT es)];cases ha:dA (cs.map cM) with
  | true=>
   have up:=mR ha;have pm:cs.Perm dc:=(List.perm_ext_iff_of_nodup (dS up) nd).mpr fun c=>(hm c).symm;have o:=gr nd (by lia);have:=jN o.ord (pm.map cM) (pairwise_map.mpr up);rw[s1] at this;exact decide_eq_true this
  | false=>
   refine decide_eq_false fun z=>?_;have:=mS s3;rw[<- z,ha] at this;cases this
theorem P'{g:M Vl}{d:Vl}{xs:List Im}(e:g D=some (d,D1))(k:dq d=some xs):bn (oV g) D=some ((xs,none),D1):=by
 unfold bn;rw[v_ e];show (dq d).map _=_;rw[k];rfl
def cx(a b:p_):Bool:=decide ((if a.1 - b.1<0 then -(a.1 - b.1) else a.1 - b.1)+(if a.2 - b.2<0 then -(a.2 - b.2) else a.2 - b.2)=1)
theorem At(a b:p_):iA [.im (cM a),.im<|cM b]=some (bV<|cx a b,[.im (cM a),.im<|cM b]):=by
 unfold iA rY;refine bQ (D:=[some (.im<|cM a),some<|.im<|cM b]) rfl (cu ?_) rfl;exact b_ (v_<|b_ (v_<|Dr (a_ (v_<|b_ (v_<|b_ (d:=iI a.1) rfl rfl rfl rfl rfl) (v_<|b_ (d:=iI b.1) rfl rfl rfl rfl rfl) rfl rfl rfl) rfl) rfl rfl) (v_<|Dr (a_ (v_<|b_ (v_<|b_ (d:=iI a.2) rfl rfl rfl rfl rfl) (v_<|b_ (d:=iI b.2) rfl rfl rfl rfl rfl) rfl rfl rfl) rfl) rfl rfl) rfl rfl rfl) rfl rfl rfl (dQ _ _)
theorem sy{a b:p_}:cx a b=true↔b∈FH a:=by
 obtain⟨a1,a2⟩:=a;obtain⟨b1,b2⟩:=b;unfold cx FH;rw[decide_eq_true_iff];simp only[mem_cons,not_mem_nil,or_false,Prod.mk.injEq];omega
theorem Au(ps:List p_)(c:p_):inB (cM c) (cL ps)=some (decide (c∈ps)):=by
 rw[yB,jO,jP,yP];rfl
theorem Av(l:List p_)(c:p_):vNotIn (.im<|cM c) (cL l)=some (bV<|!decide (c∈l)):=by
 show (inB (cM c)<|cL l).map (fun r=>Vl.im<|.bl<|!r)=_;rw[Au];rfl
theorem Aw(a b:p_):vNe (.im<|cM a) (.im<|cM b)=some (bV<|!decide (a=b)):=by
 show (if (Im.pl 8 (cM a) && Im.pl 8 (cM b))=true then some (Vl.im<|.bl<|!av (cM a) (cM b)) else none)=_;rw[jO,jO,if_pos<|show (true && true)=true from rfl,md]
theorem Ax(bs:List p_):vNe (cL bs) (.lst [])=some (bV<|!decide (bs=[])):=by
 show (if (Im.pls 8 (bs.map cM) && Im.pls 8 [])=true then some (Vl.im<|.bl<|!bj (bs.map cM) []) else none)=_;rw[jP,if_pos<|show (true && Im.pls 8 [])=true from rfl];cases bs with
 | nil=>rfl
 | cons a r=>rfl
theorem Ay(a b:p_):cx a b=cx b a:=by
 unfold cx;rw[decide_eq_decide];split<;>split<;>split<;>split<;>omega
inductive Cn (cs:List p_) (s:p_):p_->Prop
 | self:Cn cs s s
 | step {a b:p_}:Cn cs s a->b∈cs->cx a b=true->Cn cs s b
def Db(es:List p_)(c:p_):Bool:=es.any fun e=>cx e c
abbrev pD(o0 o1:Option Vl)(part h_:List p_)(o4:Option Vl)(near:List p_)(o6:Option Vl):SD:=[o0,o1,some<|cL part,some<|cL h_,o4,some<|cL near,o6]
theorem Az{o4:Option Vl}{near:List p_}{c:p_}(hl:near.length<10000)(he:h_.length<=10000):iB (pD o0 o1 part h_ o4 near<|some<|.im<|cM c)=some (.nx,pD o0 o1 part h_ o4 (if Db h_ c then near++[c] else near)<|some<|.im<|cM c):=by
 have c1:bv 1 [6] (bn<|oSl 3) (gN 0) kYes G.mN (pD o0 o1 part h_ o4 near<|some<|.im<|cM c)=some (.lst<|h_.map fun x=>.bl<|cx x c,pD o0 o1 part h_ o4 near<|some<|.im<|cM c):=by
  refine Jk (xs:=h_.map cM) (o:=some (3,cL h_)) (D1:=[o0,o1,some<|cL part,some .jk,o4,some<|cL near,some<|.im<|cM c]) rfl (jE cM (fun x=>.bl<|cx x c) _ (fun x hx=>?_) (by lia)) rfl;exact⟨[some (.im<|cM x),some<|.im<|cM c],_,[some (.im<|cM x),some<|.im<|cM c],rfl,rfl,d_ (a_ rfl<|a_ rfl rfl) rfl rfl ((At c x).trans (by rw[Ay])) rfl,rfl⟩
 have k:cH (oV<|az vAny<|aa (oV<|bv 1 [6] (bn<|oSl 3) (gN 0) kYes G.mN) aNil) (pD o0 o1 part h_ o4 near<|some<|.im<|cM c)=some (Db h_ c,pD o0 o1 part h_ o4 near<|some<|.im<|cM c):=FR (v_<|Dr (a_ (v_ c1) rfl) rfl<|su (fun x=>cx x c) h_) rfl rfl;unfold iB;cases hb:Db h_ c with
 | false=>rw[hb] at k;exact da k rfl
 | true=>
  rw[hb] at k;refine eJ k (Lj (Km rfl rfl (a_ rfl rfl) rfl rfl (Lk (by rw[length_map];lia)) ?_));rw[if_pos rfl];show _=[o0,o1,some<|cL part,some<|cL h_,o4,some<|cL<|near++[c],some<|.im<|cM c];unfold cL;rw[map_append];rfl
theorem sD{o0 o1 o4:Option Vl}{part h_:List p_}(he:h_.length<=10000):∀ (cs near:List p_) (o6:Option Vl),near.length+cs.length<10000->∃ FT,ba (gN 6) iB (cs.map cM) (pD o0 o1 part h_ o4 near o6)=some (.nx,pD o0 o1 part h_ o4 (near++cs.filter (Db h_)) FT)
 | [],near,o6,_=>⟨o6,by rw[List.filter_nil,append_nil];rfl⟩
 | c::cs,near,o6,hl=>by
  rw[length_cons] at hl;have e:=Az (o0:=o0) (o1:=o1) (o4:=o4) (part:=part) (near:=near) (c:=c) (by lia) he;obtain⟨FT,ih⟩:=sD he cs (if Db h_ c then near++[c] else near) (some<|.im<|cM c) (by split<;>(try rw[length_append,length_singleton])<;>lia);refine⟨FT,?_⟩;rw[map_cons,ba];show (iB<|pD o0 o1 part h_ o4 near<|some<|.im<|cM c).bind _=_;rw[e];refine ih.trans ?_;rw[List.filter_cons];cases Db h_ c with
  | true=>rw[if_pos rfl,if_pos rfl,List.append_assoc];rfl
  | false=>rw[if_neg Bool.false_ne_true,if_neg Bool.false_ne_true]
structure Hh(cs:List p_)(s:p_)(part h_ left:List p_):Prop where
 nd:(part++left).Nodup
 len:(part++left).length<=cs.length+1
 sub:∀ x∈left,x∈cs
 II:s∈part
 con:∀ x∈part,Cn cs s x
 P_:∀ x∈h_,x∈part
 ML:h_.length<=cs.length+1
 all:∀ x∈cs,x∈part++left
 out:∀ a∈part,a∉h_->∀ b∈left,cx a b=false
theorem Hh.next(P:Hh cs s part h_ left):Hh cs s (part++left.filter (Db h_)) (left.filter<|Db h_) (left.filter fun c=>!Db h_ c):=by
 have pm:(part++left.filter (Db h_)++left.filter fun c=>!Db h_ c).Perm (part++left):=by
  rw[List.append_assoc];exact (List.filter_append_perm (Db h_) left).append_left part
 refine⟨pm.nodup_iff.mpr P.nd,by rw[pm.length_eq];exact P.len,fun x hx=>P.sub x (List.mem_filter.mp hx).1,mem_append_left _ P.II,fun x hx=>?_,fun x hx=>mem_append_right _ hx,?_,fun x hx=>pm.mem_iff.mpr<|P.all x hx,fun a ha na b hb=>?_⟩
 ·rcases mem_append.mp hx with h | h
  ·exact P.con x h
  ·obtain⟨h1,h2⟩:=List.mem_filter.mp h;obtain⟨e,he,hb⟩:=any_eq_true.mp h2;exact .step (P.con e<|P.P_ e he) (P.sub x h1) hb
 ·have:=P.len;rw[length_append] at this;have:=List.length_filter_le (Db h_) left;lia
 ·obtain⟨b1,b2⟩:=List.mem_filter.mp hb;have ap:a∈part:=(mem_append.mp ha).resolve_right na;cases hc:cx a b with
  | false=>rfl
  | true=>
   by_cases N9:a∈h_
   ·have:Db h_ b=true:=any_eq_true.mpr ⟨a,N9,hc⟩;rw[this] at b2;cases b2
   ·rw[P.out a ap N9 b b1] at hc;cases hc
theorem Hh.done(P:Hh cs s part [] left)(x:p_):x∈part↔Cn cs s x:=by
 refine⟨P.con x,fun h=>?_⟩;induction h with
 | self=>exact P.II
 | step _ hb e ih=>
  rcases mem_append.mp (P.all _ hb) with h | h
  ·exact h
  ·rw[P.out _ ih (fun z=>by cases z) _ h] at e;cases e
theorem AA{o5 o6:Option Vl}(P:Hh cs s part h_ left)(hl:cs.length<=1000):∃ N_ FT,kf [o0,o1,some<|cL part,some<|cL h_,some<|cL left,o5,o6]=some (.nx,[o0,o1,some<|cL<|part++left.filter (Db h_),some<|cL<|left.filter<|Db h_,some<|cL<|left.filter fun c=>!Db h_ c,N_,FT]):=by
 have l1:part.length+left.length<=1001:=by have:=P.len;rw[length_append] at this;lia
 have l2:h_.length<=10000:=by have:=P.ML;lia
 have l3:=List.length_filter_le (Db h_) left;obtain⟨FT,lp⟩:=sD (o0:=o0) (o1:=o1) (o4:=some .jk) (part:=part) l2 left [] o6 (by show 0+_ < _;lia);have ne:∀ c∈left,(!decide (c∈left.filter (Db h_)))=!Db h_ c:=fun c hc=>by
  congr 1;rw[Bool.eq_iff_iff,decide_eq_true_iff,List.mem_filter];exact⟨fun h=>h.2,fun h=>⟨hc,h⟩⟩
 have c1:bv 1 [5] (bn<|oSl 4) (gN 0) G.sf G.se [o0,o1,some<|cL<|part++left.filter (Db h_),some<|cL h_,some<|cL left,some<|cL<|left.filter<|Db h_,FT]=some (cL<|left.filter fun c=>!Db h_ c,[o0,o1,some<|cL<|part++left.filter (Db h_),some<|cL h_,some<|cL left,some<|cL<|left.filter<|Db h_,FT]):=by
  refine Jk (xs:=left.map cM) (o:=some (4,cL left)) (D1:=[o0,o1,some<|cL<|part++left.filter (Db h_),some<|cL h_,some .jk,some<|cL<|left.filter<|Db h_,FT]) rfl (hU cM (fun c=>!Db h_ c) cM _ [] (fun x hx=>?_) (by rw[length_nil];lia)) rfl;refine⟨[some (.im<|cM x),some<|cL<|left.filter<|Db h_],[some (.im<|cM x),some<|cL<|left.filter<|Db h_],rfl,?_,fun _=>rfl,fun _=>⟨[some (.im<|cM x),some<|cL<|left.filter<|Db h_],rfl,rfl⟩⟩;rw[<- ne x hx];exact Ds (b_ rfl rfl rfl rfl<|Av _ x)
 refine⟨some .jk,FT,?_⟩;unfold kf;refine CZ (D1:=pD o0 o1 part h_ (some<|cL left) [] o6) rfl ?_;refine CZ (eM (o:=some (4,cL left)) (D1:=pD o0 o1 part h_ (some .jk) [] o6) rfl lp rfl) ?_;refine CZ (D1:=[o0,o1,some<|cL<|part++left.filter (Db h_),some<|cL h_,some<|cL left,some<|cL<|left.filter<|Db h_,FT]) ?_ ?_
 ·refine bI (d:=cL (part++left.filter (Db h_))) (b_ rfl rfl rfl rfl ?_) (El rfl) rfl;show (if (part.map cM).length+((left.filter<|Db h_).map cM).length<=100000 then some (Vl.lst<|part.map cM++(left.filter<|Db h_).map cM) else none)=_;rw[if_pos (by rw[length_map,length_map];lia),<- map_append]
 refine CZ (bI c1 (El rfl) rfl) ?_;rfl
theorem sE(nd:cs.Nodup)(hl:cs.length<=900):∃ pt,dR [cT cs,.im<|cM s]=some (cT pt,[cT cs,.im<|cM s])/\Up pt/\(∀ x,x∈pt↔Cn cs s x)/\pt.length<=cs.length+1:=by
 have hp:∀ x,(!decide (x=s))=true↔x≠s:=fun x=>by
  rw[not_eq_true',decide_eq_false_iff_not]
 have c1:bv 1 [1] (bn<|oSl 0) (gN 0) G.r6 G.rZ [some (cT cs),some<|.im<|cM s,some<|cL [s],some<|cL [s],none,none,none]=some (cL<|cs.filter fun c=>!decide (c=s),[some (cT cs),some<|.im<|cM s,some<|cL [s],some<|cL [s],none,none,none]):=by
  refine Jk (xs:=cs.map cM) (o:=none) (D1:=[some (cT cs),some<|.im<|cM s,some<|cL [s],some<|cL [s],none,none,none]) rfl (hU cM (fun c=>!decide (c=s)) cM _ [] (fun x hx=>?_) (by rw[length_nil];lia)) rfl;exact⟨[some (.im<|cM x),some<|.im<|cM s],[some (.im<|cM x),some<|.im<|cM s],rfl,Ds<|b_ rfl rfl rfl rfl<|Aw x s,fun _=>rfl,fun _=>⟨[some (.im<|cM x),some<|.im<|cM s],rfl,rfl⟩⟩
 have P0:Hh cs s [s] [s] (cs.filter fun c=>!decide (c=s)):=by
  have lf:=List.length_filter_le (fun c=>!decide (c=s)) cs;refine⟨?_,by rw[length_append,length_singleton];lia,fun x hx=>(List.mem_filter.mp hx).1,.head _,fun x hx=>?_,fun x hx=>hx,by show 1<=_;lia,fun x hx=>?_,fun a ha na=>absurd ha na⟩
  ·refine nodup_cons.mpr ⟨fun h=>?_,nd.filter _⟩;exact (hp s).mp (List.mem_filter.mp h).2 rfl
  ·rw[mem_singleton.mp hx];exact .self
  ·by_cases h:x=s
   ·rw[h];exact .head _
   ·exact .tail _ (List.mem_filter.mpr ⟨hx,(hp x).mpr h⟩)
 obtain⟨D',w1,part,left,o4,o5,o6,rfl,P⟩:=qm (c:=mO) (b:=kf) (fun m D=>∃ part h_ left o5 o6,D=[some (cT cs),some<|.im<|cM s,some<|cL part,some<|cL h_,some<|cL left,o5,o6]/\Hh cs s part h_ left/\m=left.length+(if h_=[] then 0 else 1)) (fun D=>∃ part left o4 o5 o6,D=[some (cT cs),some<|.im<|cM s,some<|cL part,o4,some<|cL left,o5,o6]/\Hh cs s part [] left) (fun m D ⟨part,h_,left,o5,o6,e,P,em⟩=>by
  subst e;have k:mO [some (cT cs),some<|.im<|cM s,some<|cL part,some<|cL h_,some<|cL left,o5,o6]=some (!decide (h_=[]),[some (cT cs),some<|.im<|cM s,some<|cL part,some<|cL h_,some<|cL left,o5,o6]):=Ds (b_ rfl rfl rfl rfl<|Ax h_);refine⟨_,_,k,fun ht=>?_,fun hf=>?_⟩
  ·have he:h_≠[]:=fun z=>by rw[z] at ht;cases ht
   obtain⟨N_,FT,e⟩:=AA (o0:=some (cT cs)) (o1:=some (.im<|cM s)) (o5:=o5) (o6:=o6) P (by lia);refine⟨_,_,e,.inl rfl,_,?_,_,_,_,_,_,rfl,P.next,rfl⟩;rw[em,if_neg he];have hs:=(List.filter_append_perm (Db h_) left).length_eq;rw[length_append] at hs;by_cases hn:left.filter (Db h_)=[]
   ·rw[if_pos hn];rw[hn,length_nil] at hs;lia
   ·rw[if_neg hn];have:=List.length_pos_iff.mpr hn;lia
  ·have he:h_=[]:=by
    by_cases z:h_=[]
    ·exact z
    ·rw[decide_eq_false z] at hf;cases hf
   subst he;exact⟨part,left,_,o5,o6,rfl,P⟩) 1000000 _ [some (cT cs),some<|.im<|cM s,some<|cL [s],some<|cL [s],some<|cL<|cs.filter fun c=>!decide (c=s),none,none] ⟨_,_,_,_,_,rfl,P0,rfl⟩ (by
    have lf:=List.length_filter_le (fun c=>!decide (c=s)) cs;split<;>lia)
 have Kt:part.Nodup:=(nodup_append.mp P.nd).1;have lp:part.length<=cs.length+1:=by have:=P.len;rw[length_append] at this;lia
 obtain⟨pt,s1,s2,s3⟩:=iy Kt (by lia);refine⟨pt,?_,s3,fun x=>s2.mem_iff.trans<|P.done x,by rw[s2.length_eq];exact lp⟩;have hs:CY [cL part]=some (cL pt):=by
  have hi:Ea (part.map cM)=none:=by
   cases part with
   | nil=>cases P.II
   | cons a r=>rfl
  show (match Ea (part.map cM) with | some ns=>vSorted [.lst (part.map cM)] | none=>c9<|part.map cM)=_;rw[hi];dsimp only;unfold c9;rw[if_pos (gq.mpr (gr Kt (by lia))),s1]
 unfold dR si;refine bQ (D:=[some (cT cs),some<|.im<|cM s,some<|cL part,o4,some<|cL left,o5,o6]) rfl ?_ rfl;refine CZ (D1:=[some (cT cs),some<|.im<|cM s,some<|cL [s],some<|cL [s],none,none,none]) rfl ?_;refine CZ (bI c1 (El rfl) rfl) (CZ w1<|cu ?_);exact Dr (a_ (v_<|Dr (a_ rfl rfl) rfl hs) rfl) rfl rfl
theorem AB(ks:List p_)(c:p_):vNotIn (.im<|cM c) (.dT<|mt ks)=some (bV<|!decide (c∈ks)):=by
 have:=sn ks c;show (inB (cM c)<|.dT<|mt ks).map (fun r=>Vl.im<|.bl<|!r)=_;have h2:(inB (cM c)<|.dT<|mt ks).map (fun r=>Vl.im<|.bl r)=some (bV<|decide (c∈ks)):=this;obtain⟨r,e1,e2⟩:=map_eq_some_iff.mp h2;rw[e1];cases e2;rfl
end G
namespace HT
variable{sl:Addr}
def ev{α:Type}:List α->List α
 | []=>[]
 | [a]=>[a]
 | a::_::r=>a::ev r
open PySem PySem.Spec PyProof.Rows
section
variable{prog:Program}{w:World}{A:Around}{E:Value->Shared->Prop}{s:Shared}
theorem AC(n:Nat):Builtin.Slice.slicePlaces 0 (n:Int) 2=(n+1) / 2:=by
 unfold Builtin.Slice.slicePlaces;rw[if_pos (by decide)];split<;>lia
theorem AD{t:Tok}{n:Nat}{Q:Int×Int×Nat->Shared->Prop}(hs:s.heap.IsSliceOf sl .none .none (.int 2 t))(h:Q (0,2,(n+1) / 2) s):wpAny (model prog w) A (Builtin.Slice.sliceApplied (.ref sl)<|pure (n:Int)) Q E s:=by
 obtain⟨os,F7,H9,F8⟩:=id hs;unfold Builtin.Slice.sliceApplied Builtin.Slice.sliceFields;refine wpAny_bind (wpAny_bind<|wpAny_field F7 F8 (x:=.none) rfl<|wpAny_bind<|wpAny_field F7 F8 (x:=.none) rfl<|wpAny_bind<|wpAny_field F7 F8 (x:=.int 2 t) rfl<|wpAny_pure ?_);refine wpAny_bind (slicePart_int ?_);show wpAny _ _ (if ((2:Int) == 0)=true then _ else _) _ _ s;rw[if_neg (by decide)];refine wpAny_bind (slicePart_none<|wpAny_bind<|slicePart_none<|wpAny_bind<|wpAny_pure ?_);show wpAny _ _ (pure ((0:Int),(2:Int),Builtin.Slice.slicePlaces 0 (n:Int) 2)) _ _ s;rw[AC];exact wpAny_pure h
theorem kg{α:Type}:∀ l:List α,(ev l).length=(l.length+1) / 2
 | []=>by show 0=(0+1) / 2;decide
 | [_]=>by show 1=(0+1+1) / 2;decide
 | _::_::r=>by show (ev r).length+1=(r.length+1+1+1) / 2;rw[kg r];lia
theorem sF{α:Type}:∀ (l:List α) (m:Nat),(ev l)[m]?=l[2 * m]?
 | [],_=>rfl
 | [_],0=>rfl
 | [_],m+1=>rfl
 | _::_::_,0=>rfl
 | _::_::r,m+1=>by rw[show 2 * (m+1)=2 * m+1+1 by lia];exact sF r m
theorem AE(xs:Array Value):((range<|(xs.size+1) / 2).filterMap fun (m:Nat)=>xs[((0:Int)+(m:Int) * 2).toNat]?).toArray=(ev xs.toList).toArray:=by
 have e:(range<|(xs.size+1) / 2).filterMap (fun (m:Nat)=>xs[((0:Int)+(m:Int) * 2).toNat]?)=(range (ev xs.toList).toArray.size).filterMap ((ev xs.toList).toArray[·]?):=by
  rw[show (ev xs.toList).toArray.size=(ev xs.toList).length from size_toArray,kg,length_toList];refine qq _ fun k hk=>?_;show xs[_]?=(ev xs.toList).toArray[k]?;rw[show (ev xs.toList).toArray[k]?=(ev xs.toList)[k]? from List.getElem?_toArray,sF,getElem?_toList,show ((0:Int)+(k:Int) * 2).toNat=2 * k by lia]
 rw[e,PySem.W.krv_all]
theorem AF{t:Addr}{items:Array Value}{tk:Tok}{Q:Value->Shared->Prop}(ht:IsTup s.heap t items)(hs:s.heap.IsSliceOf sl .none .none (.int 2 tk))(h:Q (.ref s.heap.objs.size) { s with heap:=s.heap.push { cls:=.type "tuple",data:=.seq (ev items.toList).toArray } })(hsz:items.size<=sizeLine):wpAny (model prog w) A (getItem (.ref t)<|.ref sl) Q E s:=by
 obtain⟨os,F7,H9,F8⟩:=id hs;have LL:s.TypeIs (.ref sl) "slice" := ⟨os,F7,H9⟩;unfold getItem;try with_reducible refine wpAny_holding ?_
 first | refine wpAny_bind (wpAny_pure ?_) | skip
 refine wpAny_bind (wpAny_sequenceKey ht.typeIs (by decide) ?_);refine wpAny_bind (wpAny_callSpecial?_slot (name:=Str.ofString "__getitem__") ht.typeIs PyProof.Rows.slot_tuple_getitem<|wpAny_call_entry PyProof.Rows.slot_tuple_getitem ht.typeIs entry_tuple_getitem ?_<|args_tuple_getitem _ _);show wpAny _ _ (Builtin.Tuple.tupleItemsOf (.ref t) >>= _) _ _ s;refine wpAny_bind (tupleItemsOf_ ht<|wpAny_bind<|wpAny_typeOf LL ?_);rw[if_pos (by decide)];refine wpAny_bind (AD hs ?_);show wpAny _ _ (if ((0:Int) == 0 && (2:Int) == 1 && (items.size+1) / 2 == items.size)=true then _ else _) _ _ s;rw[if_neg (by simp),AE];have hz:sizeOk (.seq (ev items.toList).toArray):=by
  show (ev items.toList).toArray.size<=sizeLine;rw[size_toArray,kg,length_toList];lia
 first
  | exact wpAny_bind (m:=Builtin.Tuple.tupleExact _) (wpAny_newObj_type (wpAny_pure ⟨_,rfl,wpAny_pure h⟩) hz)
  | exact wpAny_bind (m:=Builtin.Tuple.tupleExact _) (wpAny_newObj_type (wpAny_bind<|wpAny_pure<|wpAny_pure ⟨_,rfl,wpAny_pure h⟩) hz)
  | exact wpAny_bind (wpAny_bind (m:=Builtin.Tuple.tupleExact _)<|wpAny_newObj_type (wpAny_pure<|wpAny_pure ⟨_,rfl,wpAny_pure h⟩) hz)
  | exact wpAny_bind (wpAny_bind (m:=Builtin.Tuple.tupleExact _)<|wpAny_newObj_type (wpAny_pure ⟨_,rfl,wpAny_pure h⟩) hz)
end
end HT
namespace L2
open PySem PySem.Spec PyProof.Rows
section
variable{X:Cx}
def Qa(K:PySem.W.Frag)(te ts:TE):TE:=fun σ H Q=>te σ H fun x H1=>ts σ H1 fun y H2=>y=.int 2/\∃ a xs,x=.ref a/\A_ K H2 a xs/\∀ p,H2 p=none->Q (.ref p) (upd H2 p<|.tup<|HT.ev xs)
theorem ak.ev:∀ {xs:List V}{ys:List Value},ak xs ys->ak (HT.ev xs) (HT.ev ys)
 | _,_,.nil=>.nil
 | _,_,.cons a .nil=>.cons a .nil
 | _,_,.cons a (.cons _ r)=>.cons a (ak.ev r)
variable{e st:Expr}{p2 pos:Pos}
theorem AG{te ts:TE}(he:PE X e te)(hs:PE X st ts):PE X (.Subscript e (.Slice none none (some st) p2) pos) (Qa X.K te ts):=by
 intro pins s σ H Q I h;refine Subscript_ (u_ (he pins s σ H _ I h) fun v s1 ⟨x,H1,I1,r1,q1⟩=>?_);refine wpAny_Slice ?_;rw[evalPart_none,evalPart_some];refine wpAny_pure (wpAny_pure ?_);refine u_ (hs pins s1 σ H1 _ I1 q1) fun vs s2 ⟨y,H2,I2,r2,e1,a,xs,ex,hx,q⟩=>?_;subst e1 ex;cases r1;obtain⟨t,rfl⟩:=r2;have I3:Inv X pins σ H2 { s2 with heap:=s2.heap.push { cls:=.type "slice",data:=.fields #[.none,.none,.int 2 t] } }:=I2.kept (t':=s2.toks) fun b ob q=>Heap.get?_push_of_some _ q;obtain⟨f_,r,ht,hz⟩:=I3.tuple hx;show wpAny (model X.prog X.w) X.A (subscriptTail e (.Slice none none (some st) p2) (.ref a)<|.ref s2.heap.objs.size) (EP X pins σ Q) X.xe { s2 with heap:=s2.heap.push { cls:=.type "slice",data:=.fields #[.none,.none,.int 2 t] } };refine tail_any (ops:=[.ref a,.ref s2.heap.objs.size]) ht.typeIs PyProof.Rows.slot_tuple_getitem.lookup (HT.AF ht (Heap.IsSliceOf.new ..) ?_ (by rw[size_toArray,<- r.length];exact hz)) (by with_unfolding_all rfl);refine⟨.ref _,_,I3.laid (t':=s2.toks) (o:=.tup (HT.ev xs)) (fun b ob q=>Heap.get?_push_of_some _ q) (Nat.le_refl _) ?_,rfl,q _<|I3.l_.fresh<|Nat.le_refl _⟩;exact⟨by rw[HT.kg];have:=hz;lia,HT.ev f_,ak.ev r,IsTup.new _ _⟩
theorem aj.ev{H:Hp}:∀ {ds:List Im}{xs:List V},aj H ds xs->aj H (HT.ev ds) (HT.ev xs)
 | [],xs,h=>by cases (show xs=[] from h);rfl
 | [d],xs,h=>by obtain⟨v,r,rfl,h1,h2⟩:=h;cases (show r=[] from h2);exact⟨v,[],rfl,h1,rfl⟩
 | d::_::ds,xs,h=>by obtain⟨v,r,rfl,h1,_,r',rfl,h2,h3⟩:=h;exact⟨v,_,rfl,h1,h3.ev⟩
@[simp] def eEv(g:M Opd):M Vl:=fun D=>(g D).bind fun p=>(rsl p.2 p.1).bind fun d=>match d with
 | .im (.tup x)=>some (.im<|.tup<|HT.ev x,p.2)
 | _=>none
theorem AH{g:M Opd}(he:VO X e g)(hs:VE X st (eC<|.int 2)):VE X (.Subscript e (.Slice none none (some st) p2) pos) (eEv g):=by
 refine aR (AG he hs) fun σ H Q ⟨D,F,r,D',st,nd,hg,q⟩=>?_;obtain⟨⟨x,D1⟩,h1,h2⟩:=bind_eq_some_iff.mp hg;obtain⟨d,h3,h4⟩:=bind_eq_some_iff.mp h2;split at h4
 ·rename_i x';cases h4;refine⟨D,F,x,D1,st,nd,h1,fun v H1 F1 R r_ o1 s1=>⟨D1,F1,.im<|.int 2,D1,r_,(nodup_append.mp s1.nd).1,rfl,fun w H2 F2 R2 o_ Qb s2=>?_⟩⟩;obtain⟨e2,rfl⟩:=Qb;rw[append_nil] at s2;have o3:b7 H2 σ x v R:=o1.mono s2.tup fun a ha o e=>s2.keep a o e fun h=>(nodup_append.mp s1.nd).2.2 a h a ha rfl;have s5:=s1.trans s2 o1.chg;obtain⟨p,xs,rfl,k1,k2⟩:=(o3.read o_ h3).i;refine⟨e2,p,xs,rfl,A_.of k1,fun l hl=>?_⟩;have s6:aB H2 (upd H2 l<|.tup<|HT.ev xs):=(aB.refl H2).upd hl;exact q _ _ F2 [] (o_.mono s6.tupS fun a _ o e=>s6 a o e) ⟨⟨l,_,rfl,aW,(k2.mono s6.tupS.tup).ev⟩,rfl⟩ (s5.new s6 nodup_nil (fun a ha=>nomatch ha) o_.chg)
 ·cases h4
end
end L2
namespace G
open PySem L2
variable{R:SD->Prop}{h g:MS}{α:Type}{D1 D:SD}{r w cs:List p_}{P:Im->Prop}{d:Im}{ds y x:List Im}{o4 o1:Option Vl}{f:Addr}{s c:p_}{p:List p_×List p_}
noncomputable def iC:MS:=(sIf (bM (kB<|ad vIn (oSl 4)<|oSl 0)<|kB<|ad vNotIn (oSl 4)<|oSl 2) (am (cE (eC<|.bl true)<|gIx 2 (bK 4) putA)<|ed<|cW fw 3 mAppend<|aa (oSl 4) aNil) sNil)
noncomputable def sG:M Bool:=(cH<|oSl 3)
noncomputable def kh:MS:=(b9 (bn<|oV<|au 1 G.ke<|aa (oV<|cW fw 3 mPop aNil) aNil) (gN 4) G.iC)
noncomputable def sH:MS:=(am (aA 2<|qM (bK 1)<|eC<|.bl true)<|am (aA 3<|aT<|aa (oSl 1) aNil)<|am (dm G.sG G.kh 1000000)<|aU<|az vTuple<|aa (oV<|az CY<|aa (oSl 2) aNil) aNil)
noncomputable def eO:Fn:=bb 2 5 [0,1] sH
noncomputable def kj(e_:Addr):MS:=(am (sIf (kOr (cC<|cH<|oV<|au 1 (G.gz e_)<|aa (oSl 0) aNil)<|kB<|ad vEq (oV<|az vLen<|aa (oSl 0) aNil)<|oV<|eC<|.int 0) (aU<|eC<|.bl false) sNil)<|aU<|ad vEq (oV<|az vLen<|aa (oV<|au 2 G.eO<|aa (oV<|au 1 G.gC<|aa (oSl 0) aNil)<|aa (oV<|ad vIx (oSl 0)<|oV<|eC<|.int 0) aNil) aNil)<|oV<|az vLen<|aa (oSl 0) aNil)
noncomputable def cf(e_:Addr):Fn:=bb 1 1 [0] (kj e_)
noncomputable def mU:MS:=(aU<|eB<|bM (kB<|ad vGt (oV<|az vLen<|aa (oSl 0) aNil)<|oV<|eC<|.int 0)<|kB<|ad vEq (oV<|az vLen<|aa (oV<|au 2 G.dR<|aa (oSl 0)<|aa (oV<|ad vIx (oSl 0)<|oV<|eC<|.int 0) aNil) aNil)<|oV<|az vLen<|aa (oSl 0) aNil)
noncomputable def eQ:Fn:=bb 1 1 [0] mU
noncomputable def iD(e_:Addr):MS:=(am (aA 9<|au 1 (G.cf e_)<|aa (oSl 8) aNil)<|sIf (kOr (cC<|cH<|oV<|f6 "bool"<|oSl 9)<|kB<|ad vNe (oSl 9)<|oV<|au 1 G.eQ<|aa (oSl 8) aNil) (aU<|eC<|.bl false) sNil)
noncomputable def kl(e_:Addr):MS:=(am (aA 2<|au 2 G.gs<|aa (oSl 0)<|aa (oSl 1) aNil)<|am (aA 3<|au 1 G.ix<|aa (oSl 2) aNil)<|am (aA 4<|aT<|aa (oSl 3)<|aa (oV<|ay aNil)<|aa (oV<|eSl (oSl 3) (dM<|eC<|.int 1) pNone)<|aa (oV<|eEv<|oSl 3) aNil)<|am (sIf (kB<|ad vNe (oSl 3)<|oV<|ay aNil) (am (aA 5<|au 2 G.dR<|aa (oSl 3)<|aa (oV<|au 2 G.cw<|aa (oSl 2)<|aa (oSl 3) aNil) aNil)<|am (aA 6<|au 2 G.bf<|aa (oSl 2)<|aa (oV<|az vLen<|aa (oSl 5) aNil) aNil)<|am (aA 7<|au 2 G.cw<|aa (oSl 2)<|aa (oV<|aT<|aa (oV<|ay<|aa (oV<|eC<|.int 0)<|aa (oV<|eC<|.int 0) aNil)<|aa (oV<|ay<|aa (oV<|eC<|.int 30)<|aa (oV<|eC<|.int 30) aNil)<|aa (oV<|ay<|aa (oV<|eC<|.int 15)<|aa (oV<|eC<|.int 15) aNil) aNil) aNil)<|am (aA 4<|ad vAdd (oSl 4)<|oV<|aT<|aa (oSl 5)<|aa (oV<|ad vAdd (oV<|eSl (oSl 5) pNone<|dM<|bK 6)<|oV<|eSl (oSl 5) (dM<|ad vAdd (oSl 6)<|oV<|eC<|.int 1) pNone) aNil)<|am (aA 4<|ad vAdd (oSl 4)<|oV<|aT<|aa (oV<|eSl (oSl 5) (dM<|bK 6)<|dM<|ad vAdd (oSl 6)<|oV<|eC<|.int 1) aNil)<|ed<|cW fw 4 mAppend<|aa (oV<|az vTuple<|aa (oV<|jY<|aa (oV<|ad vAdd (oSl 5)<|oV<|ay<|aa (oSl 7) aNil) aNil) aNil) aNil) sNil)<|am (b9 (bn<|oSl 4) (gN 8)<|G.iD e_)<|am (sIf (bM (kB<|ad vNe (oSl 3)<|oV<|ay aNil)<|kB<|ad (oIs true) (oV<|au 1 (G.cf e_)<|aa (oV<|ad vAdd (oSl 3)<|oV<|eSl (oSl 3) pNone<|dM<|eC<|.int 1) aNil)<|oV<|eC<|.bl false) (aU<|eC<|.bl false) sNil)<|sIf (kB<|ad (oIs true) (oV<|au 1 (G.cf e_)<|aa (oV<|az vList<|aa (oSl 3) aNil) aNil)<|oV<|eC<|.bl false) (aU<|eC<|.bl false) sNil)
noncomputable def sI(e_:Addr):M Vl:=(au 1 (G.cf e_)<|aa (oSl 0) aNil)
noncomputable def mV(e_:Addr):MS:=(am (b9 (iR1<|aa (oV<|az vMax2<|aa (oV<|eC<|.int 1)<|aa (oV<|az vMin2<|aa (oV<|eC<|.int 12)<|aa (oV<|az vLen<|aa (oSl 0) aNil) aNil) aNil) aNil) (gN 1)<|G.kl e_)<|am (aA 10<|aT<|aa (oV<|eC .j_)<|aa (oV<|eC<|.bl true)<|aa (oV<|eC<|.int 0)<|aa (oV<|eC<|.str "")<|aa (oV<|eFz<|aT aNil)<|aa (oV<|eFz eDict0T)<|aa (oV<|ay<|aa (oV<|eC<|.int 1)<|aa (oV<|eC<|.int 2) aNil)<|aa (oV<|ay<|aa (oV<|ay<|aa (oV<|eC<|.int 0)<|aa (oV<|eC<|.int 0) aNil)<|aa (oV<|eFz<|aT<|aa (oV<|eC<|.int 0)<|aa (oV<|eC<|.int 1) aNil) aNil)<|aa (oV<|eFz<|aT<|aa (oV<|ay<|aa (oV<|eC<|.int 0)<|aa (oV<|eC<|.int 0) aNil) aNil)<|aa (oV<|ay<|aa (oV<|ay<|aa (oV<|eC<|.int 0)<|aa (oV<|eC<|.int 1) aNil)<|aa (oV<|ay<|aa (oV<|eC<|.int 0)<|aa (oV<|eC<|.int 0) aNil) aNil)<|aa (oV<|ay<|aa (oV<|ay<|aa (oV<|eC<|.int 0)<|aa (oV<|eC<|.int 31) aNil) aNil) aNil)<|am (aA 10<|ad vAdd (oSl 10)<|oV<|aT<|aa (oV<|ay<|aa (oV<|ay<|aa (oV<|eC<|.int 0)<|aa (oV<|eC<|.bl true) aNil) aNil) aNil)<|aU<|eB<|bM (kB<|eB<|cC<|kB<|az vAny<|aa (oV<|bv 1 [] (bn<|oSl 10) (gN 0) kYes<|G.sI e_) aNil)<|kB<|ad (oIs false) (oV<|au 1 (G.cf e_)<|aa (oV<|ay<|aa (oV<|ay<|aa (oV<|eC<|.int 0)<|aa (oV<|eC<|.int 0) aNil) aNil) aNil)<|oV<|eC<|.bl true)
noncomputable def iE(e_:Addr):Fn:=bb 1 11 [0] (mV e_)
theorem fI{α:Type}[DecidableEq α]:∀ {l m:List α},l.Nodup->(∀ x∈l,x∈m)->l.length<=m.length
 | [],_,_,_=>zero_le _
 | x::l,m,nd,h=>by
  have nx:=nodup_cons.mp nd;have:=fI (m:=m.erase x) nx.2 fun y hy=>(List.mem_erase_of_ne (fun e=>nx.1 (by rw[<- e];exact hy))).mpr (h y<|.tail _ hy);have e:=List.length_erase_of_mem (h x<|.head _);have p:=List.length_pos_of_mem (h x<|.head _);rw[length_cons];lia
def Di(cs:List p_)(p:List p_×List p_)(c:p_):List p_×List p_:=if c∈cs/\c∉p.1 then (p.1++[c],p.2++[c]) else p
abbrev rD(o1:Option Vl)(cs:List p_)(p:List p_×List p_)(o4:Option Vl):SD:=[some (.dT<|mt cs),o1,some<|.dT<|mt p.1,some<|cL p.2,o4]
theorem AI(h1:p.1.length<10000)(h2:p.2.length<10000):iC (rD o1 cs p<|some<|.im<|cM c)=some (.nx,rD o1 cs (Di cs p c)<|some<|.im<|cM c):=by
 have k1:kB (ad vIn (oSl 4)<|oSl 0) (rD o1 cs p<|some<|.im<|cM c)=some (decide (c∈cs),rD o1 cs p<|some<|.im<|cM c):=Ds (b_ rfl rfl rfl rfl<|sn cs c);have k2:kB (ad vNotIn (oSl 4)<|oSl 2) (rD o1 cs p<|some<|.im<|cM c)=some (!decide (c∈p.1),rD o1 cs p<|some<|.im<|cM c):=Ds (b_ rfl rfl rfl rfl<|AB p.1 c);unfold iC Di;by_cases a:c∈cs
 ·rw[decide_eq_true a] at k1;by_cases b:c∈p.1
  ·rw[decide_eq_true b] at k2;rw[if_neg fun z=>z.2 b];exact da (db k1 k2) rfl
  ·rw[decide_eq_false b] at k2;rw[if_pos ⟨a,b⟩];have hp:putA (.dT<|mt p.1) (.im<|.tup<|kM c) (bV true)=some (.dT<|mt<|p.1++[c]):=by
    have e:br p.1 c=p.1++[c]:=by unfold br;rw[if_neg b]
    rw[<- e,<- mL];exact if_pos ⟨rfl,by unfold mt;rw[length_map];lia⟩
   refine eJ (db k1 k2) (CZ (D1:=[some (.dT<|mt cs),o1,some<|.dT<|mt<|p.1++[c],some<|cL p.2,some<|.im<|cM c]) ?_ ?_)
   ·refine Li rfl ?_;show (putA (.dT<|mt p.1) (.im<|.tup<|kM c)<|bV true).map _=_;rw[hp];rfl
   ·refine Lj (Km rfl rfl (a_ rfl rfl) rfl rfl (Lk (by rw[length_map];lia)) ?_);show _=[some (.dT<|mt cs),o1,some<|.dT<|mt<|p.1++[c],some<|cL<|p.2++[c],some<|.im<|cM c];unfold cL;rw[map_append];rfl
 ·rw[decide_eq_false a] at k1;rw[if_neg fun z=>a z.1];exact da (fH k1) rfl
theorem AJ(cs:List p_)(p:List p_×List p_)(c:p_):(Di cs p c).1.length<=p.1.length+1/\(Di cs p c).2.length<=p.2.length+1:=by
 unfold Di;split
 ·rw[length_append,length_append];exact⟨Nat.le_refl _,Nat.le_refl _⟩
 ·exact⟨by lia,by lia⟩
theorem sJ{o1:Option Vl}{cs:List p_}:∀ (xs:List p_) (p:List p_×List p_) (o4:Option Vl),p.1.length+xs.length<10000->p.2.length+xs.length<10000->∃ Hi,ba (gN 4) iC (xs.map cM) (rD o1 cs p o4)=some (.nx,rD o1 cs (xs.foldl (Di cs) p) Hi)
 | [],p,o4,_,_=>⟨o4,rfl⟩
 | c::xs,p,o4,h1,h2=>by
  rw[length_cons] at h1 h2;have l:=AJ cs p c;obtain⟨Hi,ih⟩:=sJ (o1:=o1) xs (Di cs p c) (some<|.im<|cM c) (by lia) (by lia);refine⟨Hi,?_⟩;rw[map_cons,ba];show (iC<|rD o1 cs p<|some<|.im<|cM c).bind _=_;rw[AI (by lia) (by lia)];exact ih
structure HE(cs:List p_)(s:p_)(p:List p_×List p_):Prop where
 nd:p.1.Nodup
 II:s∈p.1
 con:∀ x∈p.1,Cn cs s x
 sub:∀ x∈p.1,x=s\/x∈cs
 wt:∀ x∈p.2,x∈p.1
theorem HE.step{x:p_}(P:HE cs s p)(hx:x∈p.1){c:p_}(hc:c∈FH x):HE cs s (Di cs p c):=by
 unfold Di;split
 ·rename_i h;refine⟨?_,mem_append_left _ P.II,fun y hy=>?_,fun y hy=>?_,fun y hy=>?_⟩
  ·rw[nodup_append];exact⟨P.nd,pairwise_singleton _ _,fun a ha b hb e=>h.2 (by rw[<- mem_singleton.mp hb,<- e];exact ha)⟩
  ·rcases mem_append.mp hy with z | z
   ·exact P.con y z
   ·rw[mem_singleton.mp z];exact .step (P.con x hx) h.1 (sy.mpr hc)
  ·rcases mem_append.mp hy with z | z
   ·exact P.sub y z
   ·rw[mem_singleton.mp z];exact .inr h.1
  ·rcases mem_append.mp hy with z | z
   ·exact mem_append_left _ (P.wt y z)
   ·exact mem_append_right _ z
 ·exact P
theorem AK{y:p_}:(y∈p.1->y∈(Di cs p c).1)/\(y∈p.2->y∈(Di cs p c).2)/\(y∈(Di cs p c).1->y∈p.1\/y∈(Di cs p c).2)/\(c∈cs->c∈(Di cs p c).1):=by
 unfold Di;split
 ·rename_i h;refine⟨fun z=>mem_append_left _ z,fun z=>mem_append_left _ z,fun z=>?_,fun _=>mem_append_right _<|.head _⟩;rcases mem_append.mp z with z | z
  ·exact .inl z
  ·exact .inr (mem_append_right _ z)
 ·rename_i h;refine⟨fun z=>z,fun z=>z,.inl,fun z=>?_⟩;by_cases q:c∈p.1
  ·exact q
  ·exact absurd ⟨z,q⟩ h
theorem sK{cs:List p_}{s x:p_}:∀ (xs:List p_) (p:List p_×List p_),(∀ c∈xs,c∈FH x)->x∈p.1->HE cs s p->HE cs s (xs.foldl (Di cs) p)/\(∀ y,y∈p.1->y∈(xs.foldl (Di cs) p).1)/\(∀ y,y∈p.2->y∈(xs.foldl (Di cs) p).2)/\(∀ y,y∈(xs.foldl (Di cs) p).1->y∈p.1\/y∈(xs.foldl (Di cs) p).2)/\(∀ c∈xs,c∈cs->c∈(xs.foldl (Di cs) p).1)/\(xs.foldl (Di cs) p).1.length+p.2.length=(xs.foldl (Di cs) p).2.length+p.1.length
 | [],p,_,_,P=>⟨P,fun _ h=>h,fun _ h=>h,fun _ h=>.inl h,fun c h=>(by cases h),add_comm _ _⟩
 | c::xs,p,ha,hx,P=>by
  have m:=fun y=>AK (cs:=cs) (p:=p) (c:=c) (y:=y);obtain⟨i1,i2,i3,i4,i5,i6⟩:=sK xs (Di cs p c) (fun d hd=>ha d<|.tail _ hd) ((m x).1 hx) (P.step hx<|ha c<|.head _);refine⟨i1,fun y h=>i2 y<|(m y).1 h,fun y h=>i3 y<|(m y).2.1 h,fun y h=>?_,fun d hd h=>?_,?_⟩
  ·rcases i4 y h with z | z
   ·rcases (m y).2.2.1 z with w | w
    ·exact .inl w
    ·exact .inr (i3 y w)
   ·exact .inr z
  ·rcases mem_cons.mp hd with rfl | hd
   ·exact i2 d ((m d).2.2.2 h)
   ·exact i5 d hd h
  ·have e:(Di cs p c).1.length+p.2.length=(Di cs p c).2.length+p.1.length:=by
    unfold Di;split
    ·rw[length_append,length_append,length_singleton];lia
    ·exact add_comm _ _
   show (xs.foldl (Di cs)<|Di cs p c).1.length+p.2.length=(xs.foldl (Di cs)<|Di cs p c).2.length+p.1.length;lia
structure HF(cs:List p_)(s:p_)(p:List p_×List p_):Prop where
 i:HE cs s p
 done:∀ a∈p.1,a∉p.2->∀ b∈cs,cx a b=true->b∈p.1
theorem HE.len(P:HE cs s p):p.1.length<=cs.length+1:=
 fI (m:=s::cs) P.nd fun x hx=>by
  rcases P.sub x hx with h | h
  ·rw[h];exact .head _
  ·exact .tail _ h
theorem HF.next{x:p_}{f:List p_}(P:HF cs s (f,w++[x])):HF cs s ((FH x).foldl (Di cs) (f,w))/\((FH x).foldl (Di cs) (f,w)).1.length+w.length=((FH x).foldl (Di cs) (f,w)).2.length+f.length:=by
 have hx:x∈f:=P.i.wt x (mem_append_right _<|.head _);obtain⟨i1,i2,i3,i4,i5,i6⟩:=sK (cs:=cs) (s:=s) (FH x) (f,w) (fun _ h=>h) hx ⟨P.i.nd,P.i.II,P.i.con,P.i.sub,fun y hy=>P.i.wt y<|mem_append_left _ hy⟩;refine⟨⟨i1,fun a ha na b hb e=>?_⟩,i6⟩;have af:a∈f:=(i4 a ha).resolve_right na;by_cases ax:a=x
 ·subst ax;exact i5 b (sy.mp e) hb
 ·refine i2 b (P.done a af (fun z=>?_) b hb e);rcases mem_append.mp z with z | z
  ·exact na (i3 a z)
  ·exact ax (mem_singleton.mp z)
theorem HF.fin{f:List p_}(P:HF cs s (f,[]))(x:p_):x∈f↔Cn cs s x:=by
 refine⟨P.i.con x,fun h=>?_⟩;induction h with
 | self=>exact P.i.II
 | step _ hb e ih=>exact P.done _ ih (fun z=>by cases z) _ hb e
theorem AL{s x:p_}{f:List p_}(h1:f.length<5000)(h2:w.length<5000):∃ Hi,kh (rD o1 cs (f,w++[x]) o4)=some (.nx,rD o1 cs ((FH x).foldl (Di cs) (f,w)) Hi):=by
 obtain⟨Hi,lp⟩:=sJ (o1:=o1) (cs:=cs) (FH x) (f,w) o4 (by show _+4 < _;lia) (by show _+4 < _;lia);refine⟨Hi,?_⟩;unfold kh;refine eM (o:=none) (D1:=rD o1 cs (f,w) o4) (P' (d:=cL (FH x)) (d_ (a_ (v_<|Km (c:=cL (w++[x])) (c':=cL w) rfl rfl rfl rfl rfl ?_ rfl) rfl) rfl rfl (Al x) rfl) rfl) lp rfl;show (((w++[x]).map cM).getLast?).map (fun d=>(Vl.im d,Vl.lst ((w++[x]).map cM).dropLast))=some (.im<|cM x,cL w);rw[map_append,List.map_singleton,List.getLast?_concat,List.dropLast_concat];rfl
theorem sL(hl:cs.length<=900):∃ pt,eO [.dT (mt cs),.im<|cM s]=some (cT pt,[.dT (mt cs),.im<|cM s])/\Up pt/\(∀ x,x∈pt↔Cn cs s x):=by
 have P0:HF cs s ([s],[s]):=⟨⟨pairwise_singleton _ _,.head _,fun x hx=>by rw[mem_singleton.mp hx];exact .self,fun x hx=>.inl<|mem_singleton.mp hx,fun x hx=>hx⟩,fun a ha na=>absurd ha na⟩;obtain⟨D',w1,f,o4,rfl,P⟩:=qm (c:=sG) (b:=kh) (fun m D=>∃ f w o4,D=rD (some<|.im<|cM s) cs (f,w) o4/\HF cs s (f,w)/\w.length<=f.length/\m+f.length=cs.length+1+w.length) (fun D=>∃ f o4,D=rD (some<|.im<|cM s) cs (f,[]) o4/\HF cs s (f,[])) (fun m D ⟨f,w,o4,e,P,lw,em⟩=>by
  subst e;have fl:=P.i.len;rcases List.eq_nil_or_concat w with rfl | ⟨w,x,rfl⟩
  ·exact⟨false,_,FR rfl rfl rfl,fun h=>(by cases h),fun _=>⟨f,o4,rfl,P⟩⟩
  ·rw[List.concat_eq_append] at *;refine⟨true,_,FR (d:=cL (w++[x])) rfl rfl ?_,fun _=>?_,fun h=>by cases h⟩
   ·show some (!((w++[x]).map cM).isEmpty)=some true;rw[map_append,List.isEmpty_eq_false_iff.mpr (by simp)];rfl
   ·rw[length_append,length_singleton] at lw em;obtain⟨Hi,e0⟩:=AL (cs:=cs) (s:=s) (x:=x) (f:=f) (w:=w) (o1:=some (.im<|cM s)) (o4:=o4) (by show _ < _;dsimp only at fl;lia) (by dsimp only at fl;lia);obtain⟨N,nl⟩:=P.next;have l2:=N.i.len;generalize (FH x).foldl (Di cs) (f,w)=p at e0 N nl l2;obtain⟨p1,p2⟩:=p;dsimp only at fl l2 nl;exact⟨.nx,_,e0,.inl rfl,m - 1,by omega,p1,p2,Hi,rfl,N,by omega,by omega⟩) 1000000 (cs.length+1) (rD (some<|.im<|cM s) cs ([s],[s]) none) ⟨[s],[s],none,rfl,P0,Nat.le_refl _,by show _=cs.length+1+1;rfl⟩ (by lia)
 have Kt:=P.i.nd;have lp:=P.i.len;obtain⟨pt,s1,s2,s3⟩:=iy Kt (by dsimp only at lp ⊢;lia);refine⟨pt,?_,s3,fun x=>s2.mem_iff.trans<|P.fin x⟩;have hs:CY [.dT (mt f)]=some (cL pt):=by
  show c9 ((mt f).map fun p=>.tup p.1)=_;have e:((mt f).map fun p=>Im.tup p.1)=f.map cM:=by unfold mt;rw[List.map_map];rfl
  rw[e];unfold c9;rw[if_pos (gq.mpr (gr Kt (by dsimp only at lp ⊢;lia))),s1]
 unfold eO sH;refine bQ (D:=rD (some<|.im<|cM s) cs (f,[]) o4) rfl (CZ (D1:=[some (.dT<|mt cs),some<|.im<|cM s,some<|.dT<|mt [s],none,none]) rfl<|CZ (D1:=rD (some<|.im<|cM s) cs ([s],[s]) none) rfl<|CZ w1 ?_) rfl;exact (cu<|Dr (a_ (v_<|Dr (a_ rfl rfl) rfl hs) rfl) rfl rfl)
theorem mW(h:x.length+y.length<=100000):vAdd (.im<|.tup x) (.im<|.tup y)=some (.im<|.tup<|x++y):=if_pos h
theorem sM(h:x.length+y.length<=100000):vAdd (.lst x) (.lst y)=some (.lst<|x++y):=if_pos h
theorem gD(i:Int):FI (.int i):=fun a e=>by cases e
theorem gE(c:Int×Int):HC (cM c):=⟨(fun a e=>by cases e),fun es e y hy=>by
 cases e;rcases mem_cons.mp hy with rfl | hy
 ·exact gD _
 ·rw[mem_singleton.mp hy];exact gD _⟩
theorem sN{cs:List (Int×Int)}{x:Im}(h:x∈cs.map cM):HC x:=by
 obtain⟨c,_,rfl⟩:=mem_map.mp h;exact gE c
theorem AM(h:∀ x∈ds,FI x):HC (.tup ds):=⟨(fun a e=>by cases e),fun es e=>by cases e;exact h⟩
theorem mX(h:∀ ds,d≠.tup ds)(h0:FI d):HC d:=⟨h0,fun es e=>absurd e<|h es⟩
theorem eS(h:∀ x∈ds,HC x)(hl:ds.length<=290):HD (.tup ds):=⟨(fun a e=>by cases e),fun es e=>by cases e;exact⟨hl,h⟩⟩
theorem cK:∀ x∈([]:List Im),P x:=fun _ h=>(not_mem_nil h).elim
theorem all_cons{l:List Im}(h:P d)(k:∀ x∈l,P x):∀ x∈d::l,P x:=fun x hx=>by
 rcases mem_cons.mp hx with rfl | hx
 ·exact h
 ·exact k x hx
theorem sO(b:Bool):FI (.bl b):=fun a e=>by cases e
theorem AN(x:Str):FI (.str x):=fun a e=>by cases e
theorem AO:FI .j_:=fun a e=>by cases e
theorem AQ(b:Bool):vNe (bV b) (bV b)=some (bV false):=by cases b<;>rfl
theorem AR:HD (.tup []):=eS cK (by decide)
theorem AS{n:Nat}{h:Vl}{xs:List Im}(x:aV (n+1) h)(h0:xs≠[])(h1:xs.length<1073741824):∃ d h',cw [h,.im<|.tup xs]=some (.im d,[h',.im<|.tup xs])/\d∈xs/\aV n h':=by
 have hl:0<xs.length:=List.length_pos_iff.mpr h0;obtain⟨v,h',e,e1,e2,e3⟩:=dN (m:=xs.length) x (by lia) (by lia);obtain⟨d,hd⟩:∃ d,xs[v.toNat]?=some d:=⟨xs[v.toNat]'(by lia),by simp⟩;have Kc:Eu xs v=some d:=jC e1 hd;obtain⟨q,rfl⟩:=bg x;obtain⟨q',rfl⟩:=bg e3;refine⟨d,.lst q',?_,mem_of_getElem? hd,e3⟩;have hv:vIx (.im<|.tup xs) (iI v)=some (.im d):=by
  show (Eu xs v).map Vl.im=_;rw[Kc];rfl
 unfold cw mo;exact bQ (D:=[some (.lst q'),some<|.im<|.tup xs]) rfl (cu<|b_ rfl (v_<|d_ (os:=[.sl 0,.vl<|iI xs.length]) (a_ rfl<|a_ (v_<|Dr (a_ rfl rfl) rfl rfl) rfl) rfl rfl e rfl) rfl rfl hv) rfl
theorem sP:∀ bs:List p_,Im.pls 7 (bs.map cM)=true
 | []=>rfl
 | b::bs=>by
  rw[map_cons,Im.pls,sP bs];rfl
theorem sQ(bs:List p_):vNe (cT bs) (.im<|.tup [])=some (bV<|!decide (bs=[])):=by
 show (if (Im.pls 7 (bs.map cM) && true)=true then some (Vl.im<|.bl<|!av (.tup<|bs.map cM) (.tup [])) else none)=_;rw[sP,if_pos<|show (true && true)=true from rfl];cases bs with
 | nil=>rfl
 | cons a r=>rfl
theorem sR(h:HD d)(hf:IH d=false):cf f [.im d]=some (bV false,[.im d]):=by
 have e:=mQ (f:=f) h;rw[hf] at e;unfold cf kj;exact bQ (D:=[some (.im d)]) rfl (lQ<|eJ (mK<|N4<|FR (v_<|d_ (os:=[.sl 0]) rfl rfl rfl e rfl) rfl rfl) rfl) rfl
theorem AT:cf f [.lst x]=some (bV false,[.lst x]):=rfl
structure E8(cs:List p_):Prop where
 up:Up cs
 FS:∀ c∈cs,0<=c.1/\c.1<=30/\0<=c.2/\c.2<=30
 len:cs.length<=200
theorem IG.e(F:IG cs):E8 cs:=⟨F.up,F.FS,by have:=F.len;lia⟩
theorem E8.sub{ds:List p_}(F:E8 cs)(h:ds.Sublist cs):E8 ds:=⟨F.up.sublist h,fun c hc=>F.FS c<|h.subset hc,Nat.le_trans h.length_le F.len⟩
theorem E8.th(F:E8 cs):HD (.tup<|cs.map cM):=eS (fun x hx=>sN hx) (by rw[length_map];have:=F.len;lia)
theorem E8.is(F:E8 cs):IH (.tup<|cs.map cM)=true:=by
 show ((cs.map cM).all E7 && dA (cs.map cM))=true;rw[mS F.up,Bool.and_true,all_eq_true];intro x hx;obtain⟨c,hc,rfl⟩:=mem_map.mp hx;exact An (F.FS c hc)
theorem sS(a b:List p_):vEq (iI ((a.map cM).length:Int)) (iI ((b.map cM).length:Int))=some (bV<|decide (a.length=b.length)):=by
 rw[dQ,length_map,length_map];have:decide ((a.length:Int)=(b.length:Int))=decide (a.length=b.length):=decide_eq_decide.mpr ⟨fun h=>by lia,fun h=>by lia⟩;rw[this]
theorem sT(s:p_)(r:List p_):vIx (cT (s::r)) (iI 0)=some (.im<|cM s):=by
 show (Eu ((s::r).map cM) 0).map Vl.im=_;rw[jC (Int.le_refl 0) (d:=cM s) rfl];rfl
theorem AU:cf f [cT []]=some (bV false,[cT []]):=by
 have e:=mQ (f:=f) AR;unfold cf kj;exact bQ (D:=[some (cT [])]) rfl (lQ<|eJ (fG (Kp<|FR (v_<|d_ (os:=[.sl 0]) (outs:=[cT []]) (r:=bV true) rfl rfl rfl e rfl) rfl rfl)<|Ds<|b_ (v_<|Dr (a_ rfl rfl) rfl rfl) rfl rfl rfl rfl) rfl) rfl
theorem AV:eQ [cT []]=some (bV false,[cT []]):=by
 unfold eQ mU;exact bQ (D:=[some (cT [])]) rfl (cu<|Gu<|fH<|Ds<|b_ (v_<|Dr (a_ rfl rfl) rfl rfl) rfl rfl rfl rfl) rfl
theorem sU{p1:List p_}(F:E8 (s::r))(r1:eO [.dT (mt (s::r)),.im<|cM s]=some (cT p1,[.dT (mt (s::r)),.im<|cM s])):cf f [cT (s::r)]=some (bV<|decide (p1.length=(s::r).length),[cT (s::r)]):=by
 have e:=mQ (f:=f) F.th;rw[F.is] at e;have fl:=F.len;have g:=Ak (cs:=s::r) (dS F.up) (by lia);have ne:vEq (iI (((s::r).map cM).length:Int)) (iI 0)=some (bV false):=by
  rw[dQ,decide_eq_false (by rw[length_map,length_cons];lia)]
 have k1:cH (oV<|au 1 (G.gz f)<|aa (oSl 0) aNil) [some (cT (s::r))]=some (true,[some (cT (s::r))]):=FR (v_<|d_ (os:=[.sl 0]) (outs:=[cT (s::r)]) (r:=bV true) rfl rfl rfl e rfl) rfl rfl;have k2:kB (ad vEq (oV<|az vLen<|aa (oSl 0) aNil)<|oV<|eC<|.int 0) [some (cT (s::r))]=some (false,[some (cT (s::r))]):=Ds (b_ (v_<|Dr (a_ rfl rfl) rfl rfl) rfl rfl rfl ne);have k3:au 2 G.eO (aa (oV<|au 1 G.gC<|aa (oSl 0) aNil)<|aa (oV<|ad vIx (oSl 0)<|oV<|eC<|.int 0) aNil) [some (cT (s::r))]=some (cT p1,[some (cT (s::r))]):=d_ (os:=[.vl (.dT<|mt (s::r)),.vl<|.im<|cM s]) (a_ (v_<|d_ (os:=[.sl 0]) (outs:=[cT (s::r)]) rfl rfl rfl g rfl)<|a_ (v_<|b_ rfl rfl rfl rfl<|sT s r) rfl) rfl rfl r1 rfl;unfold cf kj;exact bQ (D:=[some (cT (s::r))]) rfl (CZ (da (fG (Kp k1) k2) rfl)<|cu<|b_ (v_<|Dr (a_ (v_ k3) rfl) rfl rfl) (v_<|Dr (a_ rfl rfl) rfl rfl) rfl rfl<|sS p1 (s::r)) rfl
theorem AW{p2:List p_}(r2:dR [cT (s::r),.im<|cM s]=some (cT p2,[cT (s::r),.im<|cM s])):eQ [cT (s::r)]=some (bV<|decide (p2.length=(s::r).length),[cT (s::r)]):=by
 have gt:vGt (iI (((s::r).map cM).length:Int)) (iI 0)=some (bV true):=congrArg (fun b=>some<|Vl.im<|.bl b) (decide_eq_true (by rw[length_map,length_cons];lia));have k3:au 2 G.dR (aa (oSl 0)<|aa (oV<|ad vIx (oSl 0)<|oV<|eC<|.int 0) aNil) [some (cT (s::r))]=some (cT p2,[some (cT (s::r))]):=d_ (os:=[.sl 0,.vl<|.im<|cM s]) (a_ rfl<|a_ (v_<|b_ rfl rfl rfl rfl<|sT s r) rfl) rfl rfl r2 rfl;unfold eQ mU;exact bQ (D:=[some (cT (s::r))]) rfl (cu<|Gu<|db (Ds<|b_ (v_<|Dr (a_ rfl rfl) rfl rfl) rfl rfl rfl gt)<|Ds<|b_ (v_<|Dr (a_ (v_ k3) rfl) rfl rfl) (v_<|Dr (a_ rfl rfl) rfl rfl) rfl rfl<|sS p2 (s::r)) rfl
theorem AX(F:E8 cs):∃ b,cf f [cT cs]=some (bV b,[cT cs])/\eQ [cT cs]=some (bV b,[cT cs]):=by
 have fl:=F.len;cases cs with
 | nil=>exact⟨false,AU,AV⟩
 | cons s r=>
  obtain⟨p1,r1,u1,m1⟩:=sL (cs:=s::r) (s:=s) (by lia);obtain⟨p2,r2,u2,m2,_⟩:=sE (cs:=s::r) (s:=s) (dS F.up) (by lia);have hl:p2.length=p1.length:=Nat.le_antisymm (fI (dS u2) fun x hx=>(m1 x).mpr<|(m2 x).mp hx) (fI (dS u1) fun x hx=>(m2 x).mpr<|(m1 x).mp hx);have h2:=AW r2;rw[hl] at h2;exact⟨_,sU F r1,h2⟩
theorem Qc{g:M (List Opd)}{os:List Opd}(hl:cs.length<=290)(e1:g D=some (os,D1))(e2:bN D1 os=some [cT cs]):∃ es:List p_,jY g D=some (cL es,D1)/\es.length<=cs.length/\Up es/\∀ x,x∈es↔x∈cs:=by
 obtain⟨dc,e,nd,hm⟩:=sx cs;have hlen:dc.length<=cs.length:=fI nd fun x hx=>(hm x).mp hx;have e3:(dc.map kM).map Im.tup=dc.map cM:=by rw[List.map_map];rfl
 obtain⟨es,s1,s2,s3⟩:=iy nd (by lia);obtain⟨q1,q2,_,_⟩:=As hl;refine⟨es,?_,by rw[s2.length_eq];exact hlen,s3,fun x=>s2.mem_iff.trans<|hm x⟩;unfold jY;rw[e1];show (bN D1 os).bind _=_;rw[e2];show (Ex<|cs.map cM).bind _=_;rw[show cs.map cM=(cs.map kM).map .tup by rw[List.map_map];rfl,rL];refine (if_pos ⟨q1,q2⟩).trans ?_;rw[e,e3,s1]
theorem sV{α:Type}:∀ l:List α,(HT.ev l).Sublist l
 | []=>.slnil
 | [a]=>.refl _
 | a::b::r=>.cons₂ a (.cons b<|sV r)
theorem sW{α β:Type}(g:α->β):∀ l:List α,HT.ev (l.map g)=(HT.ev l).map g
 | []=>rfl
 | [a]=>rfl
 | a::b::r=>congrArg (g a::·) (sW g r)
theorem mY(W:List α)(lo hi:Option Int):(aC W lo hi).Sublist W:=(take_sublist _ _).trans (drop_sublist _ _)
theorem AY(W:List α)(n:Nat):(aC W none (some (n:Int))++aC W (some<|(n:Int)+1) none).Sublist W:=by
 have e:=qk W (n+1);rw[Int.natCast_add] at e;rw[ql,show ((n:Int)+1)=(n:Int)+((1:Nat):Int) from rfl,e];have:=(List.Sublist.refl<|W.take n).append (List.drop_sublist_drop_left W<|le_succ n);rw[take_append_drop] at this;exact this
theorem AZ{P:SD->Prop}(e:∃ D1,g D=some (.nx,D1)/\P D1)(k:∀ D1,P D1->∃ D2,h D1=some (.nx,D2)/\R D2):∃ D2,am g h D=some (.nx,D2)/\R D2:=
 have ⟨_,e1,p⟩:=e;have ⟨D2,e2,r⟩:=k _ p
 ⟨D2,CZ e1 e2,r⟩
theorem dB(e:g D=some (.nx,D1))(k:∃ D2,h D1=some (.nx,D2)/\R D2):∃ D2,am g h D=some (.nx,D2)/\R D2:=
 have ⟨D2,e2,r⟩:=k
 ⟨D2,CZ e e2,r⟩
theorem A3{c:M Bool}{a b:MS}(e:c D=some (true,D1))(k:∃ D2,a D1=some (.nx,D2)/\R D2):∃ D2,sIf c a b D=some (.nx,D2)/\R D2:=
 have ⟨D2,e2,r⟩:=k
 ⟨D2,eJ e e2,r⟩
def PF(d:Im):Prop:=∃ ds:List p_,d=.tup (ds.map cM)/\E8 ds
abbrev zD(o0 o1 o2 o3 o4 o5 o6 o7 o8 o9 o10:Option Vl):SD:=[o0,o1,o2,o3,o4,o5,o6,o7,o8,o9,o10]
section
variable{f:Addr}{o0 o1 o2 o3 o4 o5 o6 o7 o8 o9 o10:Option Vl}
theorem A4(h:PF d):∃ p9,iD f (zD o0 o1 o2 o3 o4 o5 o6 o7 (some<|.im d) o9 o10)=some (.nx,zD o0 o1 o2 o3 o4 o5 o6 o7 (some<|.im d) p9 o10):=by
 obtain⟨ds,rfl,F⟩:=h;obtain⟨b,e1,e2⟩:=AX (f:=f) F;refine⟨some<|bV b,?_⟩;unfold iD;refine CZ (D1:=zD o0 o1 o2 o3 o4 o5 o6 o7 (some<|cT ds) (some<|bV b) o10) (bI (d_ (os:=[.sl 8]) rfl rfl rfl e1 rfl) (El rfl) rfl) ?_;exact da (fG (Kp<|FR rfl rfl rfl)<|Ds<|b_ rfl (v_<|d_ (os:=[.sl 8]) rfl rfl rfl e2 rfl) rfl rfl<|AQ b) rfl
theorem sX:∀ (xs:List Im) (o8 o9:Option Vl),(∀ x∈xs,PF x)->∃ p8 p9,ba (gN 8) (iD f) xs (zD o0 o1 o2 o3 o4 o5 o6 o7 o8 o9 o10)=some (.nx,zD o0 o1 o2 o3 o4 o5 o6 o7 p8 p9 o10)
 | [],o8,o9,_=>⟨o8,o9,rfl⟩
 | d::xs,o8,o9,h=>by
  obtain⟨p9,e⟩:=A4 (f:=f) (o0:=o0) (o1:=o1) (o2:=o2) (o3:=o3) (o4:=o4) (o5:=o5) (o6:=o6) (o7:=o7) (o9:=o9) (o10:=o10) (h d<|.head _);obtain⟨a,b,ih⟩:=sX xs (some<|.im d) p9 fun x hx=>h x (.tail _ hx);refine⟨a,b,?_⟩;rw[ba];show (iD f<|zD o0 o1 o2 o3 o4 o5 o6 o7 (some<|.im d) o9 o10).bind _=_;rw[e];exact ih
end
theorem A5(h:d∈[cM (0,0),cM (30,30),cM (15,15)]):∃ u:p_,d=cM u/\0<=u.1/\u.1<=30/\0<=u.2/\u.2<=30:=by
 simp at h;rcases h with rfl | rfl | rfl<;>exact⟨_,rfl,by decide,by decide,by decide,by decide⟩
theorem A6(F:E8 (s::r)):IH (.tup<|(s::r).map cM++[cM s])=false:=by
 cases hb:IH (.tup<|(s::r).map cM++[cM s]) with
 | false=>rfl
 | true=>
  have h:(((s::r).map cM++[cM s]).all E7 && dA ((s::r).map cM++[cM s]))=true:=hb;rw[and_eq_true] at h;have h2:=h.2;rw[show (s::r).map cM++[cM s]=(s::r++[s]).map cM by rw[map_append];rfl] at h2;have u:=mR h2;exact absurd (.head _) ((nodup_append.mp<|dS u).2.2 s · s (.head _) rfl)
theorem A7{ns:List Int}{k:Int}{o2 o3 o5 o6 o7 o8 o9 o10:Option Vl}(hk:0<=k)(EK:k<1000):
  ∃ D2,kl f (zD (some<|.fz<|ns.map .int) (some<|iI k) o2 o3 o4 o5 o6 o7 o8 o9 o10)=some (.nx,D2)/\∃ p2 p3 p4 p5 p6 p7 p8 p9,D2=zD (some<|.fz<|ns.map .int) (some<|iI k) p2 p3 p4 p5 p6 p7 p8 p9 o10:=by
 obtain⟨h,e1,H⟩:=yW (ns:=ns) hk EK;obtain⟨cs,h',e2,F,H'⟩:=Ai (M:=999600) H;obtain⟨q,rfl⟩:=bg H;obtain⟨q',rfl⟩:=bg H';have hl:=F.len;have nd:=dS F.up;have FE:=F.e;unfold kl;refine dB (D1:=zD (some<|.fz<|ns.map .int) (some<|iI k) (some<|.lst q) o3 o4 o5 o6 o7 o8 o9 o10) (bI (d_ (os:=[.sl 0,.sl 1]) rfl rfl rfl e1 rfl) (El rfl) rfl) ?_;generalize some (Vl.fz<|ns.map .int)=o0;generalize some (iI k)=o1;refine dB (D1:=zD o0 o1 (some<|.lst q') (some<|cT cs) o4 o5 o6 o7 o8 o9 o10) (bI (d_ (os:=[.sl 2]) rfl rfl rfl e2 rfl) (El rfl) rfl) ?_;refine dB (D1:=zD o0 o1 (some<|.lst q') (some<|cT cs) (some<|.lst [.tup (cs.map cM),.tup [],.tup<|aC (cs.map cM) (some 1) none,.tup<|HT.ev<|cs.map cM]) o5 o6 o7 o8 o9 o10) (bI (Ko (a_ rfl<|a_ rfl<|a_ (v_<|Jl rfl rfl rfl rfl rfl)<|a_ (v_ rfl) rfl) rfl (le_of_ble_eq_true rfl) rfl) (El rfl) rfl) ?_;have b0:∀ x∈[Im.tup (cs.map cM),.tup [],.tup<|aC (cs.map cM) (some 1) none,.tup<|HT.ev<|cs.map cM],PF x:=by
  refine all_cons ⟨cs,rfl,FE⟩ (all_cons ⟨[],rfl,FE.sub<|List.nil_sublist _⟩ (all_cons ⟨aC cs (some 1) none,by rw[jF],FE.sub<|mY _ _ _⟩ (all_cons ⟨HT.ev cs,by rw[sW],FE.sub<|sV _⟩ cK)))
 refine AZ (P:=fun D=>∃ xs g5 g6 g7 h2,D=zD o0 o1 (some h2) (some<|cT cs) (some<|.lst xs) g5 g6 g7 o8 o9 o10/\∀ x∈xs,PF x) ?_ ?_
 ·have kk:kB (ad vNe (oSl 3)<|oV<|ay aNil) (zD o0 o1 (some<|.lst q') (some<|cT cs) (some<|.lst [.tup (cs.map cM),.tup [],.tup<|aC (cs.map cM) (some 1) none,.tup<|HT.ev<|cs.map cM]) o5 o6 o7 o8 o9 o10)=some (!decide (cs=[]),zD o0 o1 (some<|.lst q') (some<|cT cs) (some<|.lst [.tup (cs.map cM),.tup [],.tup<|aC (cs.map cM) (some 1) none,.tup<|HT.ev<|cs.map cM]) o5 o6 o7 o8 o9 o10):=Ds (b_ rfl rfl rfl rfl<|sQ cs);cases hn:decide (cs=[]) with
  | true=>
   rw[hn] at kk;exact⟨_,da kk rfl,_,_,_,_,_,rfl,b0⟩
  | false=>
   rw[hn] at kk;have Jn:cs≠[]:=of_decide_eq_false hn;refine A3 kk ?_;obtain⟨y,h1,e3,i3,H1⟩:=AS (n:=999599) (xs:=cs.map cM) H' (fun z=>Jn<|List.map_eq_nil_iff.mp z) (by rw[length_map];lia);obtain⟨s,hs,rfl⟩:=mem_map.mp i3;obtain⟨q1,rfl⟩:=bg H1;obtain⟨pt,e4,up,hc,_⟩:=sE (s:=s) nd (by lia);have sb:∀ x∈pt,x∈cs:=fun x hx=>by
    cases (hc x).mp hx with
    | self=>exact hs
    | step _ hb _=>exact hb
   have lp:pt.length<=144:=Nat.le_trans (fI (dS up) sb) hl;have PE:E8 pt:=⟨up,fun c hx=>F.FS c<|sb c hx,by lia⟩;have pp:0<pt.length:=List.length_pos_of_mem ((hc s).mpr .self);obtain⟨v,h2,e5,v0,v1,H2⟩:=dN (n:=999598) (m:=((pt.map cM).length:Int)) H1 (by rw[length_map];lia) (by rw[length_map];lia);obtain⟨q2,rfl⟩:=bg H2;obtain⟨y,h3,e6,i6,H3⟩:=jQ (n:=999597) (xs:=[cM (0,0),cM (30,30),cM (15,15)]) H2 (by simp) (by simp);obtain⟨u,rfl,hu⟩:=A5 i6;obtain⟨q3,rfl⟩:=bg H3;obtain⟨m,rfl⟩:∃ m:Nat,v=(m:Int):=⟨v.toNat,by lia⟩;have lc:∀ lo hi,(aC (pt.map cM) lo hi).length<=144:=fun lo hi=>Nat.le_trans (mY _ lo hi).length_le (by rw[length_map];exact lp);generalize hb:[Im.tup (cs.map cM),.tup [],.tup<|aC (cs.map cM) (some 1) none,.tup<|HT.ev<|cs.map cM]=B at *;have lB:B.length=4:=by rw[<- hb];rfl
   refine dB (D1:=zD o0 o1 (some<|.lst q1) (some<|cT cs) (some<|.lst B) (some<|cT pt) o6 o7 o8 o9 o10) (bI (d_ (os:=[.sl 3,.vl<|.im<|cM s]) (a_ rfl<|a_ (v_<|d_ (os:=[.sl 2,.sl 3]) rfl rfl rfl e3 rfl) rfl) rfl rfl e4 rfl) (El rfl) rfl) ?_;refine dB (D1:=zD o0 o1 (some<|.lst q2) (some<|cT cs) (some<|.lst B) (some<|cT pt) (some<|iI m) o7 o8 o9 o10) (bI (d_ (os:=[.sl 2,.vl<|iI ((pt.map cM).length:Int)]) (a_ rfl<|a_ (v_<|Dr (a_ rfl rfl) rfl rfl) rfl) rfl rfl e5 rfl) (El rfl) rfl) ?_;refine dB (D1:=zD o0 o1 (some<|.lst q3) (some<|cT cs) (some<|.lst B) (some<|cT pt) (some<|iI m) (some<|.im<|cM u) o8 o9 o10) (bI (d_ (os:=[.sl 2,.vl<|.lst [cM (0,0),cM (30,30),cM (15,15)]]) rfl rfl rfl e6 rfl) (El rfl) rfl) ?_;obtain⟨es,e7,l7,u7,m7⟩:=Qc (D:=zD o0 o1 (some<|.lst q3) (some<|cT cs) (some<|.lst<|B++[.tup (pt.map cM),.tup<|aC (pt.map cM) none (some (m:Int))++aC (pt.map cM) (some<|(m:Int)+1) none]++[.tup (aC (pt.map cM) (some (m:Int))<|some<|(m:Int)+1)]) (some<|cT pt) (some<|iI m) (some<|.im<|cM u) o8 o9 o10) (D1:=zD o0 o1 (some<|.lst q3) (some<|cT cs) (some<|.lst<|B++[.tup (pt.map cM),.tup<|aC (pt.map cM) none (some (m:Int))++aC (pt.map cM) (some<|(m:Int)+1) none]++[.tup (aC (pt.map cM) (some (m:Int))<|some<|(m:Int)+1)]) (some<|cT pt) (some<|iI m) (some<|.im<|cM u) o8 o9 o10) (g:=aa (oV<|ad vAdd (oSl 5)<|oV<|ay<|aa (oSl 7) aNil) aNil) (os:=[.vl (cT<|pt++[u])]) (cs:=pt++[u]) (by rw[length_append,length_singleton];lia) (a_ (v_ (b_ rfl (v_<|Kn (a_ rfl rfl) rfl (le_of_ble_eq_true rfl) rfl) rfl rfl (by
    show vAdd (.im<|.tup<|pt.map cM) (.im<|.tup [cM u])=some (.im<|.tup<|(pt++[u]).map cM);rw[map_append];exact mW (by rw[length_map];show _+1<=_;lia)))) rfl) rfl
   rw[length_append,length_singleton] at l7;have EE:E8 es:=⟨u7,fun c hx=>(mem_append.mp<|(m7 c).mp hx).elim (PE.FS c) fun z=>by rw[mem_singleton.mp z];exact hu,by lia⟩;refine dB (D1:=zD o0 o1 (some<|.lst q3) (some<|cT cs) (some<|.lst<|B++[.tup (pt.map cM),.tup<|aC (pt.map cM) none (some (m:Int))++aC (pt.map cM) (some<|(m:Int)+1) none]) (some<|cT pt) (some<|iI m) (some<|.im<|cM u) o8 o9 o10) (bI (b_ rfl (v_ (Ko (a_ rfl (a_ (v_ (b_ (v_<|Jl rfl rfl rfl rfl rfl) (v_<|Jl rfl rfl rfl rfl rfl) rfl rfl (mW (by have:=lc none (some (m:Int));have:=lc (some<|(m:Int)+1) none;lia)))) rfl)) rfl (le_of_ble_eq_true rfl) rfl)) rfl rfl (sM (by rw[lB];show 4+2<=_;decide))) (El rfl) rfl) ?_;refine dB (D1:=zD o0 o1 (some<|.lst q3) (some<|cT cs) (some<|.lst<|B++[.tup (pt.map cM),.tup<|aC (pt.map cM) none (some (m:Int))++aC (pt.map cM) (some<|(m:Int)+1) none]++[.tup (aC (pt.map cM) (some (m:Int))<|some<|(m:Int)+1)]) (some<|cT pt) (some<|iI m) (some<|.im<|cM u) o8 o9 o10) (bI (b_ rfl (v_<|Ko (a_ (v_<|Jl rfl rfl rfl rfl rfl) rfl) rfl (le_of_ble_eq_true rfl) rfl) rfl rfl (sM (by rw[length_append,lB];show 4+2+1<=_;decide))) (El rfl) rfl) ?_;refine⟨_,Lj (Km (c':=.lst (B++[.tup (pt.map cM),.tup<|aC (pt.map cM) none (some (m:Int))++aC (pt.map cM) (some<|(m:Int)+1) none]++[.tup (aC (pt.map cM) (some (m:Int))<|some<|(m:Int)+1)]++[.tup (es.map cM)])) rfl rfl (a_ (v_<|Dr (a_ (v_ e7) rfl) rfl rfl) rfl) rfl rfl (Lk (by rw[length_append,length_append,lB];show 4+2+1 < _;decide)) rfl),_,_,_,_,_,rfl,?_⟩;intro x hx;rcases mem_append.mp hx with hx | hx
   ·rcases mem_append.mp hx with hx | hx
    ·rcases mem_append.mp hx with hx | hx
     ·exact b0 x hx
     ·refine all_cons ⟨pt,rfl,PE⟩ (all_cons ⟨aC pt none (some (m:Int))++aC pt (some<|(m:Int)+1) none,?_,PE.sub<|AY pt m⟩ cK) x hx;rw[map_append,jF,jF]
    ·exact all_cons ⟨aC pt (some (m:Int))<|some<|(m:Int)+1,by rw[jF],PE.sub<|mY _ _ _⟩ cK x hx
   ·exact all_cons ⟨es,rfl,EE⟩ cK x hx
 ·rintro _ ⟨xs,g5,g6,g7,h2,rfl,hx⟩;obtain⟨p8,p9,lp⟩:=sX (f:=f) (o0:=o0) (o1:=o1) (o2:=some h2) (o3:=some (cT cs)) (o4:=some .jk) (o5:=g5) (o6:=g6) (o7:=g7) (o10:=o10) xs o8 o9 hx;refine dB (D1:=zD o0 o1 (some h2) (some<|cT cs) (some<|.lst xs) g5 g6 g7 p8 p9 o10) (eM (o:=some (4,.lst xs)) (D1:=zD o0 o1 (some h2) (some<|cT cs) (some .jk) g5 g6 g7 o8 o9 o10) rfl lp rfl) ?_;have kk:kB (ad vNe (oSl 3)<|oV<|ay aNil) (zD o0 o1 (some h2) (some<|cT cs) (some<|.lst xs) g5 g6 g7 p8 p9 o10)=some (!decide (cs=[]),zD o0 o1 (some h2) (some<|cT cs) (some<|.lst xs) g5 g6 g7 p8 p9 o10):=Ds (b_ rfl rfl rfl rfl<|sQ cs);refine dB (D1:=zD o0 o1 (some h2) (some<|cT cs) (some<|.lst xs) g5 g6 g7 p8 p9 o10) (da ?_ rfl) ⟨_,da (Ds<|b_ (v_<|d_ (os:=[.vl (cL cs)]) (a_ (v_<|Dr (a_ rfl rfl) rfl rfl) rfl) rfl rfl AT rfl) rfl rfl rfl rfl) rfl,_,_,_,_,_,_,_,_,rfl⟩;cases cs with
  | nil=>exact fH kk
  | cons s r=>
   refine db kk (Ds (b_ (v_ (d_ (os:=[.vl (.im<|.tup<|(s::r).map cM++[cM s])]) (a_ (v_<|b_ rfl (v_<|Jl rfl rfl rfl rfl rfl) rfl rfl ?_) rfl) rfl rfl (sR (eS (fun x hx=>(mem_append.mp hx).elim sN<|all_cons (gE s) cK x) (by rw[length_append,length_map];show _+1<=_;lia))<|A6 FE) rfl)) rfl rfl rfl rfl));show vAdd (.im<|.tup<|(s::r).map cM) (.im<|.tup<|aC ((s::r).map cM) none<|some ((1:Nat):Int))=_;rw[ql];exact mW (by rw[length_map];show _+1<=_;lia)
def mZ:List Im:=[.j_,.bl true,.int 0,.str "",.fl [],.fd,.tup [.int 1,.int 2],.tup [cM (0,0),.fl [.int 0,.int 1]],.fl [cM (0,0)],.tup [cM (0,1),cM (0,0)],.tup [cM (0,31)]]
def de:List Im:=mZ++[.tup [.tup [.int 0,.bl true]]]
theorem sY:∀ x∈de,HD x/\IH x=false:=by
 have s:∀ {d:Im},(∀ ds,d≠.tup ds)->FI d->HD d:=fun h h0=>⟨h0,fun ds e=>absurd e<|h ds⟩;have tf:∀ x,FI (.fl x):=fun x a e=>by cases e
 have td:FI .fd:=fun a e=>by cases e
 unfold de mZ;refine all_cons ⟨s (fun _ e=>by cases e) AO,rfl⟩ (all_cons ⟨s (fun _ e=>by cases e)<|sO _,rfl⟩ (all_cons ⟨s (fun _ e=>by cases e)<|gD _,rfl⟩ (all_cons ⟨s (fun _ e=>by cases e)<|AN _,rfl⟩ (all_cons ⟨s (fun _ e=>by cases e)<|tf _,rfl⟩ (all_cons ⟨s (fun _ e=>by cases e) td,rfl⟩ (all_cons ⟨eS (all_cons (mX (fun _ e=>by cases e)<|gD _) (all_cons (mX (fun _ e=>by cases e)<|gD _) cK)) (by decide),rfl⟩ ?_))))));refine all_cons ⟨eS (all_cons (gE _) (all_cons (mX (fun _ e=>by cases e)<|tf _) cK)) (by decide),rfl⟩ (all_cons ⟨s (fun _ e=>by cases e)<|tf _,rfl⟩ (all_cons ⟨eS (all_cons (gE _)<|all_cons (gE _) cK) (by decide),by decide⟩ (all_cons ⟨eS (all_cons (gE _) cK) (by decide),by decide⟩ (all_cons ⟨eS (all_cons (AM<|all_cons (gD _)<|all_cons (sO _) cK) cK) (by decide),rfl⟩ cK))))
theorem A8:E8 [(0,0)]:=⟨pairwise_singleton _ _,fun c hc=>by rw[mem_singleton.mp hc];decide,by decide⟩
theorem A9:∃ p,eO [.dT (mt [(0,0)]),.im<|cM (0,0)]=some (cT p,[.dT (mt [(0,0)]),.im<|cM (0,0)])/\p.length=1:=by
 obtain⟨p,e,u,m⟩:=sL (cs:=[(0,0)]) (s:=(0,0)) (by decide);refine⟨p,e,Nat.le_antisymm (fI (m:=[(0,0)]) (dS u) fun x hx=>?_)<|List.length_pos_of_mem<|(m _).mpr .self⟩;cases (m x).mp hx with
 | self=>exact .head _
 | step _ hb _=>exact hb
theorem Ba(f:Addr)(ns:List Int)(LR:ns.length<100000):∃ outs,iE f [.fz (ns.map .int)]=some (.im<|.bl true,outs):=by
 obtain⟨n,hn,n0,n1⟩:∃ n:Int,az vMax2 (aa (oV<|eC<|.int 1)<|aa (oV<|az vMin2<|aa (oV<|eC<|.int 12)<|aa (oV<|az vLen<|aa (oSl 0) aNil) aNil) aNil) (zD (some<|.fz<|ns.map .int) none none none none none none none none none none)=some (iI n,zD (some<|.fz<|ns.map .int) none none none none none none none none none none)/\0<=n/\n<=12:=by
  refine⟨_,Dr (a_ rfl<|a_ (v_<|Dr (a_ rfl<|a_ (v_<|Dr (a_ rfl rfl) rfl rfl) rfl) rfl rfl) rfl) rfl rfl,?_,?_⟩
  ·split<;>split<;>lia
  ·split<;>split<;>lia
 obtain⟨D',l1,k',o2,o3,o4,o5,o6,o7,o8,o9,rfl⟩:=jD (tg:=gN 1) (b:=kl f) (xs:=ca 0 n.toNat) (fun i D=>∃ o1 o2 o3 o4 o5 o6 o7 o8 o9,D=zD (some<|.fz<|ns.map .int) o1 o2 o3 o4 o5 o6 o7 o8 o9 none) (D:=zD (some<|.fz<|ns.map .int) none none none none none none none none none none)
  ⟨_,_,_,_,_,_,_,_,_,rfl⟩ (fun i x D hx hI=>by
   obtain⟨o1,o2,o3,o4,o5,o6,o7,o8,o9,rfl⟩:=hI;obtain⟨hi,rfl⟩:=kc hx;obtain⟨D2,e,p2,p3,p4,p5,p6,p7,p8,p9,rfl⟩:=A7 (ns:=ns) (k:=0+(i:Int)) (f:=f) (o2:=o2) (o3:=o3) (o4:=o4) (o5:=o5) (o6:=o6) (o7:=o7) (o8:=o8) (o9:=o9) (o10:=none) (by lia) (by lia);exact⟨_,_,_,rfl,e,.inl rfl,_,p2,p3,p4,p5,p6,p7,p8,p9,rfl⟩)
 have c1:bv 1 [] (bn<|oSl 10) (gN 0) kYes (sI f) (zD (some<|.fz<|ns.map .int) k' o2 o3 o4 o5 o6 o7 o8 o9<|some<|.lst de)=some (.lst<|de.map fun _=>.bl false,zD (some<|.fz<|ns.map .int) k' o2 o3 o4 o5 o6 o7 o8 o9<|some<|.lst de):=by
  refine Jk (xs:=de.map id) (o:=some (10,.lst de)) (D1:=zD (some<|.fz<|ns.map .int) k' o2 o3 o4 o5 o6 o7 o8 o9 (some .jk)) (by rw[map_id];rfl) (jE id (fun _=>.bl false) _ (fun x hx=>?_) (show 12<=100000 by decide)) rfl;exact⟨[some (.im x)],_,[some (.im x)],rfl,rfl,d_ (a_ rfl rfl) rfl rfl (sR (sY x hx).1 (sY x hx).2) rfl,rfl⟩
 have c2:vAny [.lst (de.map fun _=>.bl false)]=some (bV false):=(su (fun _=>false) de).trans rfl;obtain⟨p,r1,lp⟩:=A9;have en:=sU (f:=f) A8 r1;rw[lp] at en;refine⟨_,bQ (D:=zD (some<|.fz<|ns.map .int) k' o2 o3 o4 o5 o6 o7 o8 o9 (some<|.lst de)) rfl ?_ rfl⟩;show mV f (zD (some<|.fz<|ns.map .int) none none none none none none none none none none)=_;unfold mV;refine CZ (eM (o:=none) (Ll (a_ (v_ hn) rfl) rfl ⟨by lia,by lia⟩) l1 rfl) ?_;refine CZ (D1:=zD (some<|.fz<|ns.map .int) k' o2 o3 o4 o5 o6 o7 o8 o9 (some<|.lst mZ)) rfl ?_;refine CZ (D1:=zD (some<|.fz<|ns.map .int) k' o2 o3 o4 o5 o6 o7 o8 o9 (some<|.lst de)) (bI (b_ rfl rfl rfl rfl rfl) (El rfl) rfl) ?_;exact cu (Gu<|db (Ds<|Gu<|N4<|Ds<|Dr (a_ (v_ c1) rfl) rfl c2)<|Ds<|b_ (v_<|d_ (os:=[.vl (cT [(0,0)])]) rfl rfl rfl en rfl) rfl rfl rfl rfl)
end G
namespace L2
open PySem
end L2
namespace L2
open PySem PySem.Spec PyProof.Rows
variable{g:M (List Opd)}{es:List Expr}{e:Expr}{pos p:Pos}{k n:Nat}{ps:List Str}{f:Addr}{st:Stmt}{qual x:Str}{K:PySem.W.Frag}{G:Fn}
def iF:List (Addr×Obj)->Bool
 | []=>true
 | (_,o)::r=>(match o.data with
  | .seq _ _=>(match o.cls with | .type n=>n != "list" | _=>true)
  | _=>true) && iF r
theorem Bb{K:List (Addr×Obj)}{a:Addr}{o:Obj}{f_:Array Value}(h:iF K=true)(e:K.lookup a=some o)(hc:o.cls=.type "list")(hd:o.data=.seq f_ n):False:=by
 induction K with
 | nil=>cases e
 | cons p r ih=>
  obtain⟨b,x⟩:=p;rw[iF,and_eq_true] at h;simp only[List.lookup] at e;split at e
  ·cases e;have h1:=h.1;rw[hd] at h1;dsimp only at h1;rw[hc] at h1;exact absurd h1 (by decide)
  ·exact ih h.2 e
theorem sZ{H:Hp}:∀ ns:List Int,aj H (ns.map .int) (ns.map V.int)
 | []=>rfl
 | n::r=>⟨.int n,_,rfl,rfl,sZ r⟩
theorem Bc(hK:iF K=true)(H:Hp)(a:Addr)(ns:List Int)(hO:jc H)(hS:CT K H a (ns.map V.int))(ht:∃ outs,G [.fz (ns.map .int)]=some (.im<|.bl true,outs)){E:XK}:Gf 1 G [.ref a] H (fun v _=>v=.bl true) E:=by
 obtain⟨outs,ht⟩:=ht;have hf:∃ o,H a=some (.Da o<|.lst<|ns.map V.int):=by
  rcases hS with (h | h) | ⟨o,f_,n,h1,h2,h3,h4,_⟩
  ·rcases hO a with e | ⟨o,xs,e⟩
   ·rw[e] at h;cases h
   ·rw[e] at h;cases h
  ·exact h
  ·exact (Bb hK h1 h2 h4).elim
 obtain⟨o,ho⟩:=hf;refine⟨rfl,[.fz (ns.map .int)],[],.im<|.bl true,outs,⟨_,_,[],[],rfl,⟨a,_,o,rfl,ho,sZ ns,rfl⟩,⟨rfl,rfl⟩,rfl⟩,nodup_nil,ht,fun v H' R R' h _ _=>?_⟩;exact h.1
theorem m5{us:List Value}(h:us.length=n+1):∃ a r,us=a::r/\r.length=n:=by
 cases us with
 | nil=>cases h
 | cons a r=>exact⟨a,r,rfl,Nat.succ.inj h⟩
theorem Fj.IJ{fd:FuncData}(F:Fj K x qual st f fd)(h:∀ (kV doc pm:Value) (an:Option Addr) (z_ ct:Value) (a:Value),bindArgs (PySem.W.fnOf x qual (di st) (cy st) (aD st) .none kV doc pm an z_ ct) ⟨[a],[]⟩=pure (ps.zip [a]))(hp:ps.length=1:=by rfl):cP K fd ps []:=
 F.binds fun kV doc pm an z_ ct us hl=>by
  replace hl:=hl.trans hp;obtain⟨a,u1,rfl,h1⟩:=m5 hl;obtain rfl:=List.eq_nil_of_length_eq_zero h1;exact h kV doc pm an z_ ct a
theorem Fj.IK{fd:FuncData}(F:Fj K x qual st f fd)(h:∀ (kV doc pm:Value) (an:Option Addr) (z_ ct:Value) (a b:Value),bindArgs (PySem.W.fnOf x qual (di st) (cy st) (aD st) .none kV doc pm an z_ ct) ⟨[a,b],[]⟩=pure (ps.zip [a,b]))(hp:ps.length=2:=by rfl):cP K fd ps []:=
 F.binds fun kV doc pm an z_ ct us hl=>by
  replace hl:=hl.trans hp;obtain⟨a,u1,rfl,h1⟩:=m5 hl;obtain⟨b,u2,rfl,h2⟩:=m5 h1;obtain rfl:=List.eq_nil_of_length_eq_zero h2;exact h kV doc pm an z_ ct a b
def Raw(K:PySem.W.Frag)(x:Str)(st:Stmt)(f:Addr):Prop:=∃ fd,Fj K x x st f fd/\PySem.W.nsIn K mainGlobals x=some (some<|.ref f)
def Ey(K:PySem.W.Frag)(mg:Str->Option Value)(x:Str)(st:Stmt)(f:Addr)(ps:List Str):Prop:=∃ fd,Fj K x x st f fd/\cP K fd ps []/\mg x=some (.ref f)
def CO(P:Program)(w:World)(K:PySem.W.Frag)(mg:Str->Option Value)(base:Heap)(k:Nat)(x:Str)(st:Stmt)(f:Addr)(ps:List Str)(n:Nat)(G:Fn):Prop:=∃ fd,Fj K x x st f fd/\cP K fd ps []/\mg x=some (.ref f)/\Dw P w K mg base Fi k f fd ps (Gf n G)
theorem Bd{oc:Value}{od an:Option Addr}{FN:Array (Option Value)}{kV doc pm z_ ct:Value}(a:PySem.W.nsIn K mainGlobals x=some (some<|.ref f))(l:K.lookup f=some ⟨oc,od,.func<|PySem.W.fnOf x x (di st) (cy st) (aD st) .none kV doc pm an z_ ct,FN⟩)(c:PySem.W.codeIn K z_ x=true)(k:PySem.W.keepIn K (.ref f)=true):Raw K x st f:=⟨_,wH l c k,a⟩
section
variable{P:Program}{w:World}{K:PySem.W.Frag}{mg:Str->Option Value}{base h:Heap}{k n:Nat}{x:Str}{st:Stmt}{f:Addr}{ps:List Str}{G:Fn}
theorem Raw.b1(r:Raw K x st f)(X:K.In h)(Gg:h.Ns mainGlobals mg)(hb:∀ (kV doc pm:Value) (an:Option Addr) (z_ ct a:Value),bindArgs (PySem.W.fnOf x x (di st) (cy st) (aD st) .none kV doc pm an z_ ct) ⟨[a],[]⟩=pure (ps.zip [a]))(hp:ps.length=1:=by rfl):Ey K mg x st f ps:=
 have ⟨_,U,a⟩:=r
 ⟨_,U,U.IJ hb hp,PySem.W.mg_of X Gg a⟩
theorem Raw.b2(r:Raw K x st f)(X:K.In h)(Gg:h.Ns mainGlobals mg)(hb:∀ (kV doc pm:Value) (an:Option Addr) (z_ ct a b:Value),bindArgs (PySem.W.fnOf x x (di st) (cy st) (aD st) .none kV doc pm an z_ ct) ⟨[a,b],[]⟩=pure (ps.zip [a,b]))(hp:ps.length=2:=by rfl):Ey K mg x st f ps:=
 have ⟨_,U,a⟩:=r
 ⟨_,U,U.IK hb hp,PySem.W.mg_of X Gg a⟩
theorem CO.m(C:CO P w K mg base k x st f ps n G):mg x=some (.ref f):=have ⟨_,_,_,m,_⟩:=C;m
theorem CO.fd{fd:FuncData}(C:CO P w K mg base k x st f ps n G)(U:Fj K x x st f fd):Dw P w K mg base Fi k f fd ps (Gf n G):=by
 obtain⟨QE,U',_,_,g⟩:=C;obtain⟨oc,od,kV,doc,pm,an,z_,ct,FN,e,l,_⟩:=U.ex;obtain⟨QF,QG,QH,Qd,QI,QJ,Qe,QK,Qf,e',l',_⟩:=U'.ex;rw[l] at l';cases l';exact g
theorem Be(r:Raw K x st f)(X:K.In h)(Gg:h.Ns mainGlobals mg){fa:Addr}(MM:mg x=some (.ref fa)){p:Str}(hb:∀ (kV doc pm:Value) (an:Option Addr) (z_ ct:Value) (s:Shared) (v:Value),BindsTo s (PySem.W.fnOf x x (di st) (cy st) (aD st) .none kV doc pm an z_ ct) ⟨[v],[]⟩ [(p,v)])(C:∀ base,CO P w K mg base k x st f [p] n G):
  ∃ fd:FuncData,(∀ (s:Shared) (v:Value),BindsTo s fd ⟨[v],[]⟩ [(p,v)])/\∀ base:Heap,K.In base->base.Ns mainGlobals mg->Dw P w K mg base Fi k fa fd [p] (Gf n G):=by
 obtain⟨fd,U,a⟩:=r;cases MM.symm.trans (PySem.W.mg_of X Gg a);refine⟨fd,?_,fun b _ _=>(C b).fd U⟩;obtain⟨oc,od,kV,doc,pm,an,z_,ct,FN,rfl,l,_⟩:=U.ex;exact hb kV doc pm an z_ ct
theorem bR{N:List Str}{fix:List Nat}{g:MS}(F:Ey K mg x st f ps)(S:k_ N ps (aD st))(hn:ps.length=n)(NF:∀ i∈fix,i<n)(hb:N.Nodup->∀ (z_:Value) (A:Around) (outer:List Env) (s:Shared) (H:Hp) (E:XK),CM k (A.deeper<|envOfC x (aD st) s.heap.objs.size f z_)->Gh (dY Fi P w K mg base N x (aD st) f z_ A outer s H E).IO fix (cy st) g):
  CO P w K mg base (k+1) x st f ps n (bb n N.length fix g):=
 have ⟨_,U,b,m⟩:=F
 ⟨_,U,b,m,O' U S hn NF<|hb S.nd⟩
end
section
variable{X:Cx}
variable{m:Nat}
theorem aN(C:CO X.prog X.w X.K X.mg X.base k x st f ps n G)(hr:CM m X.A)(hg:Gl X x)(ha:VA X (e::es) g)(hm:k<=m:=by decide)(Fv:(x == ("__debug__" : Str))=false:=by decide)(he:starEach (e::es) X.env=(false,eval e X.env)::starEach es X.env:=by rfl)(Eh:(backTo pos<|starEach es X.env).any (·.1)=false:=by rfl):
  VE X (.Call (.Name x p) (e::es) [] pos) (au n G g):=
 have ⟨_,U,b,m,F⟩:=C
 xC F (hr.mono hm) hg m U.kp b ha Fv he Eh
theorem Bf{i:Nat}{y:Str}(C:CO X.prog X.w X.K X.mg X.base k y st f ps n G)(hr:CM m X.A)(hv:PE X (.Name x p) (dE i))(ha:VA X (e::es) g)(hm:k<=m:=by decide)(he:starEach (e::es) X.env=(false,eval e X.env)::starEach es X.env:=by rfl)(Eh:(backTo pos<|starEach es X.env).any (·.1)=false:=by rfl):
  VE X (.Call (.Name x p) (e::es) [] pos) (jI i f n G g):=
 have ⟨_,U,b,_,F⟩:=C
 yA F (hr.mono hm) hv U.kp b ha he Eh
theorem ag{i:Int}{j pos}:VO X (.Constant (.int i) j pos) (oV<|eC<|.int i):=ab cQ
theorem vv(i:Nat){x:Str}{pos:Pos}(hN:X.N[i]?=some x:=by rfl)(hv:KJ X.env.scope x:=by first | exact Or.inl rfl | exact Or.inr (Or.inl rfl) | exact Or.inr (Or.inr rfl))(hd:(x == ("__debug__" : Str))=false:=by decide)(Fu:(x == ("__classdict__" : Str))=false:=by decide):VO X (.Name x pos) (oSl i):=xw (nv hN hv hd Fu)
theorem ae{g:M Opd}(he:VO X e g)(hs:starEach [e] X.env=(false,eval e X.env)::starEach [] X.env:=by rfl):VA X [e] (aa g aNil):=ah he fj hs
theorem bt{a b:Expr}{ga gb:M Opd}(hr:CM m X.A)(ha:VO X a ga)(hb:VO X b gb)(hs:kL b:=by exact fun _ _=>rfl):VE X (.Subscript a b pos) (ad vIx ga gb):=xz (xX (by have:=hr.un;omega)) ha hb hs
end
end L2
set_option maxHeartbeats 4000000
namespace K02
open PySem L2 PyProof.Rows
variable{Gv f:Addr}{l:PySem.W.OpenLaw}{k:Nat}{A:Around}
def top(i:Nat):Stmt:=PySem.Challenge.pw_mowfloor_k02_fields_of_anything.main.body.getD i (.Pass ⟨0,0,0,0⟩)
structure Txt(mg:Str->Option Value):Prop where
 HG:mg "abs" = none
 HH:mg "all" = none
 HI:mg "any" = none
 Gw:mg "bool" = none
 Gx:mg "int" = none
 CK:mg "isinstance" = none
 Dk:mg "len" = none
 IL:mg "list" = none
 Gy:mg "max" = none
 Gz:mg "min" = none
 DU:mg "range" = none
 Ku:mg "set" = none
 DD:mg "sorted" = none
 Dp:mg "tuple" = none
 Kv:mg "zip" = none
 Ed:∃ t,mg "GREATEST" = some (.int 30 t)
theorem tj:bootBuiltins "abs" = some (.builtin "abs"):=by decide +kernel
theorem tm:bootBuiltins "all" = some (.builtin "all"):=by decide +kernel
theorem tq:bootBuiltins "any" = some (.builtin "any"):=by decide +kernel
theorem tu:bootBuiltins "bool" = some (.type "bool"):=by decide +kernel
theorem m6:bootBuiltins "int" = some (.type "int"):=by decide +kernel
theorem iG:bootBuiltins "isinstance" = some (.builtin "isinstance"):=by decide +kernel
theorem df:bootBuiltins "len" = some (.builtin "len"):=by decide +kernel
theorem Bg:bootBuiltins "list" = some (.type "list"):=by decide +kernel
theorem m8:bootBuiltins "max" = some (.builtin "max"):=by decide +kernel
theorem m9:bootBuiltins "min" = some (.builtin "min"):=by decide +kernel
theorem ng:bootBuiltins "sorted" = some (.builtin "sorted"):=by decide +kernel
theorem gF:bootBuiltins "tuple" = some (.type "tuple"):=by decide +kernel
theorem aO(hr:CM k A):A.units+20<cLine:=by have:=hr.un;omega
theorem Bh(hr:CM k A):A.units+30<cLine:=by have:=hr.un;omega
abbrev iH:Stmt:=top 2
abbrev Bi:List Str:=["thing"]
abbrev iJ:Stmt:=top 3
abbrev Bj:List Str:=["thing"]
abbrev eT:Stmt:=top 4
abbrev Bk:List Str:=["thing"]
abbrev fJ:Stmt:=top 5
abbrev nh:List Str:=["thing","is_kind"]
abbrev iK:Stmt:=top 6
abbrev Bl:List Str:=["things","found","thing"]
abbrev iL:Stmt:=top 7
abbrev Bm:List Str:=["cell","row","column"]
abbrev iM:Stmt:=top 8
abbrev Bn:List Str:=["free","start","found","waiting","cell"]
abbrev iN:Stmt:=top 10
abbrev Bo:List Str:=["thing"]
abbrev iO:Stmt:=top 11
abbrev Bp:List Str:=["thing"]
abbrev iP:Stmt:=top 13
abbrev Bq:List Str:=["_law_script","_law_k","_law_cell","_law_bound","_law_digits"]
abbrev fK:Stmt:=top 14
abbrev Br:List Str:=["_law_hand_here","_law_many","_law_digit","_law_turn","_law_mixed","_law_odd"]
abbrev gG:Stmt:=top 15
abbrev Bs:List Str:=["_law_hand_here","_law_some"]
abbrev iQ:Stmt:=top 16
abbrev Bt:List Str:=["_law_hand_here","_law_most","_law_high","_law_wide","_law_top","_law_side","_law_way","_law_cells","_law_row","_law_column","_law_free","_law_turn","_law_down","_law_right"]
abbrev iR:Stmt:=top 17
abbrev Bu:List Str:=["_law_one","_law_other"]
abbrev dU:Stmt:=top 18
abbrev km:List Str:=["_law_floor_here","_law_cell","_law_part_here","_law_last","_law_rest","_law_more","_law_one"]
abbrev iS:Stmt:=top 19
abbrev Bv:List Str:=["_law_floor_here"]
abbrev iT:Stmt:=top 20
abbrev tw:List Str:=["_law_script","_law_k","_law_hand_here","_law_floor_here","_law_some","_law_part_here","_law_at","_law_far","_law_thing","_law_told","_law_odd"]
section
variable{P:Program}{w:World}{K:PySem.W.Frag}{mg:Str->Option Value}{base:Heap}
theorem Bw:k_ Bi ["thing"] (aD iH):=⟨rfl,rfl,rfl,by decide +kernel,rfl,by decide +kernel,by decide +kernel⟩
theorem Bx(F:Ey K mg "is_whole" iH f ["thing"])(T:Txt mg):
  CO P w K mg base 1 "is_whole" iH f ["thing"] 1 G.fF:=by
 refine bR F Bw rfl (by decide) fun nd z_ A outer s H E hr=>?_;exact (aE<|be<|d8 (bB<|gZ rfl T.CK iG rfl T.Gx m6<|vv 0)<|bB<|fi<|pc<|bB<|gZ rfl T.CK iG rfl T.Gw tu<|vv 0)
theorem By:k_ Bj ["thing"] (aD iJ):=⟨rfl,rfl,rfl,by decide +kernel,rfl,by decide +kernel,by decide +kernel⟩
theorem Bz(F:Ey K mg "is_pair" iJ f ["thing"])(T:Txt mg){E9:Addr}(C0:CO P w K mg base 1 "is_whole" iH E9 ["thing"] 1 G.fF):
  CO P w K mg base 2 "is_pair" iJ f ["thing"] 1 G.gy:=by
 refine bR F By rfl (by decide) fun nd z_ A outer s H E hr=>?_;exact (aE (be (d8 (bB<|gZ rfl T.CK iG rfl T.Dp gF<|vv 0) (d8 (bB (b8 (dv<|aO hr) (ab (aZ c8 (by rfl) T.Dk df<|ae<|vv 0)) ag<|a9 _))<|d8 (bB<|aN C0 hr rfl<|ae<|ab<|bt hr (vv 0) ag)<|bB<|fi<|aN C0 hr rfl<|ae<|ab<|bt hr (vv 0) ag))))
theorem BA:k_ Bk ["thing"] (aD eT):=⟨rfl,rfl,rfl,by decide +kernel,rfl,by decide +kernel,by decide +kernel⟩
theorem BB(F:Ey K mg "is_cell" eT f ["thing"])(T:Txt mg){FJ:Addr}(C1:CO P w K mg base 2 "is_pair" iJ FJ ["thing"] 1 G.gy):
  CO P w K mg base 3 "is_cell" eT f ["thing"] 1 G.eI:=by
 refine bR F BA rfl (by decide) fun nd z_ A outer s H E hr=>?_;exact (aE<|be<|d8 (bB<|aN C1 hr rfl<|ae<|vv 0)<|d8 (bB<|qu jt jt ag (ab<|bt hr (vv 0) ag)<|ab<|pS rfl T.Ed.choose_spec)<|bB<|fi<|qu jt jt ag (ab<|bt hr (vv 0) ag)<|ab<|pS rfl T.Ed.choose_spec)
theorem BC:k_ nh ["thing","is_kind"] (aD fJ):=⟨rfl,rfl,rfl,by decide +kernel,rfl,by decide +kernel,by decide +kernel⟩
theorem BD(F:Ey K mg "is_rising" fJ f ["thing","is_kind"])(T:Txt mg){e_:Addr}(C2:CO P w K mg base 3 "is_cell" eT e_ ["thing"] 1 G.eI):
  CO P w K mg base 4 "is_rising" fJ f ["thing","is_kind"] 2 (G.ir e_):=by
 refine bR F BC rfl (by decide) fun nd z_ A outer s H E hr=>?_;exact (ar (cU (VW.vt (k9 (jh<|fu<|ab<|gZ rfl T.CK iG rfl T.Dp gF<|vv 0) (k8 (jh (fu (ab (aZ (pQ rfl) (by rfl) T.HH tm (ae (ab (jp (own:=["part"]) (caps:=[1]) rfl (fP (aD fJ) nh (by decide +kernel)) (by decide) (dJ<|vv 0) (fun Y=>(bC (i:=0) (show (["part","is_kind"]:List Str).Nodup by decide +kernel) rfl (Or.inl rfl) (by decide))) (fun Y=>jo)<|fun Y=>(Bf C2 hr (pv 1)<|ae<|vv 0))))))))))) (aE<|be bL) cS) (aE (be (aZ (pQ rfl) (by rfl) T.HH tm (ae (ab (jp (own:=["ahead","behind"]) (caps:=[]) rfl (fP (aD fJ) nh (by decide +kernel)) (by decide) (yh rfl T.Kv (ah (vv 0) (by exact (ae<|ab<|fZ (vv 0) (ft cQ) gY)))) (fun Y=>(lm rfl (fW (bC (i:=0) (show (["ahead","behind"]:List Str).Nodup by decide +kernel) rfl (Or.inl rfl) (by decide)) (fW (bC (i:=1) (show (["ahead","behind"]:List Str).Nodup by decide +kernel) rfl (Or.inl rfl) (by decide)) ll)))) (fun Y=>jo)<|fun Y=>(b8 (z9<|aO hr) (vv 0) (vv 1)<|a9 _))))))))
theorem BE:k_ Bl ["things"] (aD iK):=⟨rfl,rfl,rfl,by decide +kernel,rfl,by decide +kernel,by decide +kernel⟩
theorem BF(F:Ey K mg "lookup" iK f ["things"])(T:Txt mg):
  CO P w K mg base 1 "lookup" iK f ["things"] 1 G.gC:=by
 refine bR F BE rfl (by decide) fun nd z_ A outer s H E hr=>?_;exact (ar (aI (i:=1) nd rfl (Or.inl rfl) lR (by decide)) (ar (ej (fx:=[0]) PassesOwn.never rfl (dJ<|vv 0) (bC (i:=2) nd rfl (Or.inl rfl) (by decide)) (aE<|ee bL<|f7 (pv 1) (dj<|pv 2)<|jG<|aO hr) (by decide) (lu (by decide)))<|aE<|be<|dj<|pv 1))
theorem BG:k_ Bm ["cell"] (aD iL):=⟨rfl,rfl,rfl,by decide +kernel,rfl,by decide +kernel,by decide +kernel⟩
theorem BH(F:Ey K mg "around" iL f ["cell"])(T:Txt mg):
  CO P w K mg base 1 "around" iL f ["cell"] 1 G.ke:=by
 refine bR F BG rfl (by decide) fun nd z_ A outer s H E hr=>?_;exact (ar (aI (i:=1) nd rfl (Or.inl rfl) (bt hr (vv 0) ag) (by decide)) (ar (aI (i:=2) nd rfl (Or.inl rfl) (bt hr (vv 0) ag) (by decide)) (aE (be (bm (by exact (ah (ab (aJ (by exact (ah (ab<|ao du (vv 1) ag) (by exact (ae<|vv 2)))))) (by exact (ah (ab (aJ (by exact (ah (vv 1) (by exact (ae<|ab<|ao du (vv 2) ag)))))) (by exact (ah (ab (aJ (by exact (ah (vv 1) (by exact (ae<|ab<|ao aS (vv 2) ag)))))) (by exact (ae (ab (aJ (by exact (ah (ab<|ao aS (vv 1) ag) (by exact (ae<|vv 2)))))))))))))))))))
theorem BI:k_ Bn ["free","start"] (aD iM):=⟨rfl,rfl,rfl,by decide +kernel,rfl,by decide +kernel,by decide +kernel⟩
theorem BJ(F:Ey K mg "reached" iM f ["free","start"])(T:Txt mg){GA:Addr}(C5:CO P w K mg base 1 "around" iL GA ["cell"] 1 G.ke):
  CO P w K mg base 2 "reached" iM f ["free","start"] 2 G.eO:=by
 refine bR F BI rfl (by decide) fun nd z_ A outer s H E hr=>?_;exact (ar (aI (i:=2) nd rfl (Or.inl rfl) (yK (aO hr) (dj<|pv 1) bL) (by decide)) (ar (aI (i:=3) nd rfl (Or.inl rfl) (bm (by exact (ae<|vv 1))) (by decide)) (ar (pz 1000000 PassesOwn.never (fu<|vv 3) (aE (ej (fx:=[0,1]) PassesOwn.never rfl (dJ<|ab<|aN C5 hr rfl<|ae<|ab<|yc g9 PySem.F.plainAttrs_list PySem.F.slot_list_pop PySem.F.type_list_pop yd<|pv 3) (bC (i:=4) nd rfl (Or.inl rfl) (by decide)) (aE<|cU (VW.vt<|oZ (cn (lT<|aO hr) (vv 4) (vv 0) rfl)<|oY<|cn (qt<|aO hr) (vv 4) (vv 2) rfl) (ar (ee bL<|f7 (pv 2) (dj<|pv 4)<|jG<|aO hr)<|aE<|jj<|jw g9 PySem.F.plainAttrs_list PySem.F.slot_list_append PySem.F.type_list_append jx (pv 3)<|ae<|vv 4) cS) (by decide) xJ))) (aE (be (fo ju rfl T.Dp gF (ae (ab (aZ (l9 rfl<|aO hr) (by rfl) T.DD ng<|ae<|vv 2)))))))))
theorem BK:k_ Bo ["thing"] (aD iN):=⟨rfl,rfl,rfl,by decide +kernel,rfl,by decide +kernel,by decide +kernel⟩
theorem BL(F:Ey K mg "is_floor" iN f ["thing"])(T:Txt mg){e_:Addr}(C2:CO P w K mg base 3 "is_cell" eT e_ ["thing"] 1 G.eI){ET:Addr}(C3:CO P w K mg base 4 "is_rising" fJ ET ["thing","is_kind"] 2 (G.ir e_)):
  CO P w K mg base 5 "is_floor" iN f ["thing"] 1 (G.gz e_):=by
 refine bR F BK rfl (by decide) fun nd z_ A outer s H E hr=>?_;exact (aE (be (aN C3 hr rfl (ah (vv 0) (by exact (ae<|ab<|yb rfl C2.m))))))
theorem BM:k_ Bp ["thing"] (aD iO):=⟨rfl,rfl,rfl,by decide +kernel,rfl,by decide +kernel,by decide +kernel⟩
theorem BN(F:Ey K mg "is_field" iO f ["thing"])(T:Txt mg){e_:Addr}(C2:CO P w K mg base 3 "is_cell" eT e_ ["thing"] 1 G.eI){E_:Addr}(C7:CO P w K mg base 5 "is_floor" iN E_ ["thing"] 1 (G.gz e_)){FK:Addr}(C6:CO P w K mg base 2 "reached" iM FK ["free","start"] 2 G.eO){GB:Addr}(C4:CO P w K mg base 1 "lookup" iK GB ["things"] 1 G.gC):
  CO P w K mg base 6 "is_field" iO f ["thing"] 1 (G.cf e_):=by
 refine bR F BM rfl (by decide) fun nd z_ A outer s H E hr=>?_;exact (ar (cU (VW.vt (k9 (jh<|fu<|ab<|aN C7 hr rfl<|ae<|vv 0) (k8 (cn (dv<|aO hr) (ab (aZ c8 (by rfl) T.Dk df<|ae<|vv 0)) ag<|a9 _)))) (aE<|be bL) cS) (aE (be (b8 (dv<|aO hr) (ab (aZ c8 (by rfl) T.Dk df (ae (ab (aN C6 hr rfl (ah (ab<|aN C4 hr rfl<|ae<|vv 0) (by exact (ae<|ab<|bt hr (vv 0) ag)))))))) (ab (aZ c8 (by rfl) T.Dk df<|ae<|vv 0))<|a9 _))))
theorem BO:k_ Bq ["_law_script","_law_k"] (aD iP):=⟨rfl,rfl,rfl,by decide +kernel,rfl,by decide +kernel,by decide +kernel⟩
theorem BP(F:Ey K mg "_law_hand" iP f ["_law_script","_law_k"])(T:Txt mg):
  CO P w K mg base 1 "_law_hand" iP f ["_law_script","_law_k"] 2 G.gs:=by
 refine bR F BO rfl (by decide) fun nd z_ A outer s H E hr=>?_;exact (ar (aI (i:=2) nd rfl (Or.inl rfl) cQ (by decide)) (ar (cU (cn xO (vv 1) (ab (aZ c8 (by rfl) T.Dk df<|ae<|vv 0))<|a9 _) (aE (aI (i:=2) nd rfl (Or.inl rfl) (bt hr (vv 0)<|vv 1) (by decide))) cS) (ar (aI (i:=3) nd rfl (Or.inl rfl) (ao c7 (ab<|ao c7 (ab<|ao js ag ag)<|ab<|ao js ag ag)<|ab<|ao js ag ag) (by decide)) (ar (aI (i:=4) nd rfl (Or.inl rfl) (ao c7 (ab<|ao dL (vv 2)<|vv 3)<|ab<|fo pO rfl T.Gx m6<|ae<|ab<|b8 xP (vv 2) (ab<|ao js ag ag)<|a9 _) (by decide)) (aE (be (bm (by exact (ah (vv 4) (by exact (ah (ab<|ao aS (ab<|ao aS (ab<|ao dL (vv 2) ag)<|ab<|ao c7 ag<|vv 1) ag) (by exact (ae ag)))))))))))))
theorem BQ:k_ Br ["_law_hand_here","_law_many"] (aD fK):=⟨rfl,rfl,rfl,by decide +kernel,rfl,by decide +kernel,by decide +kernel⟩
theorem BR(F:Ey K mg "_law_take" fK f ["_law_hand_here","_law_many"])(T:Txt mg):
  CO P w K mg base 1 "_law_take" fK f ["_law_hand_here","_law_many"] 2 G.bf:=by
 refine bR F BQ rfl (by decide) fun nd z_ A outer s H E hr=>?_;exact (ar (cU (cn lD (ab<|bt hr (vv 0) ag) ag<|a9 _) (ar (aI (i:=2) nd rfl (Or.inl rfl) (ao dL (ab<|bt hr (vv 0) ag)<|vv 1) (by decide))<|ar (ee (ao jr (ab<|bt hr (vv 0) ag)<|vv 1)<|f7 (pv 0) cQ<|qi<|aO hr)<|aE<|be<|dj<|pv 2) cS) (ar (ee (ao aS (ab<|bt hr (vv 0) ag) ag)<|f7 (pv 0) cQ<|qi<|aO hr) (ar (aI (i:=3) nd rfl (Or.inl rfl) (bt hr (vv 0) ag) (by decide)) (ar (aI (i:=4) nd rfl (Or.inl rfl) (ao dL (ab<|ao c7 (ab<|bt hr (vv 0) ag)<|ab<|ao aS (ab<|ao aS ag<|ab<|ao c7 (ab<|ao c7 ag<|vv 3)<|vv 3)<|ab<|ao c7 ag<|vv 3) ag) (by decide)) (ar (aI (i:=5) nd rfl (Or.inl rfl) (ao aS (ab<|ao aS (ab<|ao dL (vv 4) ag)<|ab<|ao c7 (vv 3) ag) ag) (by decide)) (ar (aI (i:=4) nd rfl (Or.inl rfl) (ao dL (ab<|ao c7 (vv 4)<|vv 5) ag) (by decide))<|aE<|be<|ao dL (ab<|ao aS (ab<|ao jr (vv 4) ag)<|ab<|ao jr (vv 4) ag)<|vv 1))))))
theorem BS:k_ Bs ["_law_hand_here","_law_some"] (aD gG):=⟨rfl,rfl,rfl,by decide +kernel,rfl,by decide +kernel,by decide +kernel⟩
theorem BT(F:Ey K mg "_law_of" gG f ["_law_hand_here","_law_some"])(T:Txt mg){Dl:Addr}(GK:CO P w K mg base 1 "_law_take" fK Dl ["_law_hand_here","_law_many"] 2 G.bf):
  CO P w K mg base 2 "_law_of" gG f ["_law_hand_here","_law_some"] 2 G.cw:=by
 refine bR F BS rfl (by decide) fun nd z_ A outer s H E hr=>?_;exact (aE (be (bt hr (vv 1) (ab (aN GK hr rfl (ah (vv 0) (by exact (ae (ab (aZ c8 (by rfl) T.Dk df<|ae<|vv 1))))))))))
theorem BU:k_ Bt ["_law_hand_here"] (aD iQ):=⟨rfl,rfl,rfl,by decide +kernel,rfl,by decide +kernel,by decide +kernel⟩
theorem BV(F:Ey K mg "_law_floor" iQ f ["_law_hand_here"])(T:Txt mg){Dl:Addr}(GK:CO P w K mg base 1 "_law_take" fK Dl ["_law_hand_here","_law_many"] 2 G.bf){Fa:Addr}(Jm:CO P w K mg base 2 "_law_of" gG Fa ["_law_hand_here","_law_some"] 2 G.cw):
  CO P w K mg base 3 "_law_floor" iQ f ["_law_hand_here"] 1 G.ix:=by
 refine bR F BU rfl (by decide) fun nd z_ A outer s H E hr=>?_;exact (ar (aI (i:=1) nd rfl (Or.inl rfl) cQ (by decide)) (ar (cU (cn (dv<|aO hr) (ab (aN GK hr rfl (ah (vv 0) (by exact (ae ag))))) ag<|a9 _) (aE (aI (i:=1) nd rfl (Or.inl rfl) cQ (by decide))) cS) (ar (lq (i:=2) (j:=3) rfl nd rfl rfl (by decide) rfl rfl (ah (ab (ao aS ag (ab (aN GK hr rfl (ah (vv 0) (by exact (ae<|vv 1))))))) (by exact (ae (ab (ao aS ag (ab (aN GK hr rfl (ah (vv 0) (by exact (ae<|vv 1)))))))))) (by decide) (by decide) rfl) (ar (lq (i:=4) (j:=5) rfl nd rfl rfl (by decide) rfl rfl (ah (ab (aN Jm hr rfl (ah (vv 0) (by exact (ae (ab (bm (by exact (ah ag (by exact (ah ag (by exact (ah ag (by exact (ae<|ab<|ao du ag<|vv 2))))))))))))))) (by exact (ae (ab (aN Jm hr rfl (ah (vv 0) (by exact (ae (ab (bm (by exact (ah ag (by exact (ah ag (by exact (ah ag (by exact (ae<|ab<|ao du ag<|vv 3)))))))))))))))))) (by decide) (by decide) rfl) (ar (aI (i:=6) nd rfl (Or.inl rfl) (aN GK hr rfl (ah (vv 0) (by exact (ae ag)))) (by decide)) (ar (aI (i:=7) nd rfl (Or.inl rfl) lR (by decide)) (ar (ej (fx:=[0]) PassesOwn.never rfl (jm rfl T.DU<|ae<|vv 2) (bC (i:=8) nd rfl (Or.inl rfl) (by decide)) (aE (ej (fx:=[0]) PassesOwn.never rfl (jm rfl T.DU<|ae<|vv 3) (bC (i:=9) nd rfl (Or.inl rfl) (by decide)) (ar (aI (i:=10) nd rfl (Or.inl rfl) (bm (by exact (ah (ab (b8 (dv<|aO hr) (ab (aN GK hr rfl (ah (vv 0) (by exact (ae ag))))) ag<|a9 _)) (by exact (ah (ab (b8 lD (ab (aN GK hr rfl (ah (vv 0) (by exact (ae ag))))) ag<|a9 _)) (by exact (ae<|ab bL))))))) (by decide)) (ar (jj<|jw g9 PySem.F.plainAttrs_list PySem.F.slot_list_append PySem.F.type_list_append jx (pv 10)<|ae<|ab<|pd (bB<|b8 (dv<|aO hr) (ab<|ao dL (vv 8) ag) ag<|a9 _)<|bB<|fi<|b8 (dv<|aO hr) (vv 9) (ab<|ao dL (ab<|ao jr (vv 8) ag)<|vv 3)<|a9 _) (ar (aI (i:=10) nd rfl (Or.inl rfl) (ao aS (vv 10) (ab (bm (by exact (ah (ab (pd (bB (b8 (lT<|aO hr) (vv 8) (ab (aJ (by exact (ah ag (by exact (ae<|ab<|ao du (vv 2) ag)))))) rfl)) (bB (fi (b8 (lT<|aO hr) (vv 9) (ab (aJ (by exact (ah ag (by exact (ae<|ab<|ao du (vv 3) ag)))))) rfl))))) (by exact (ae<|ab bL))))))) (by decide)) (aE (cU (fu<|ab<|bt hr (vv 10)<|vv 6) (aE (ee bL (f7 (pv 7) (aJ (by exact (ah (ab<|ao aS (vv 8)<|vv 4) (by exact (ae<|ab<|ao aS (vv 9)<|vv 5)))))<|jG<|aO hr))) cS))))) (by decide) jn)) (by decide) jn) (ar (ee (aJ (by exact (ah ag (by exact (ae ag))))) (lm rfl (fW (bC (i:=8) nd rfl (Or.inl rfl) (by decide)) (fW (bC (i:=9) nd rfl (Or.inl rfl) (by decide)) ll)))) (ar (ej (fx:=[0]) PassesOwn.never rfl (jm rfl T.DU<|ae<|ab<|ao c7 ag<|ab<|fo pO rfl T.Gx m6<|ae<|ab<|b8 (dv<|aO hr) (vv 6) ag<|a9 _) (bC (i:=11) nd rfl (Or.inl rfl) (by decide)) (ar (ee bL (f7 (pv 7) (aJ (by exact (ah (ab<|ao aS (vv 8)<|vv 4) (by exact (ae<|ab<|ao aS (vv 9)<|vv 5)))))<|jG<|aO hr)) (ar (ee (aN Jm hr rfl (ah (vv 0) (by exact (ae (ab (bm (by exact (ah (ab (aJ (by exact (ah ag (by exact (ae ag)))))) (by exact (ah (ab (aJ (by exact (ah ag (by exact (ae ag)))))) (by exact (ah (ab (aJ (by exact (ah ag (by exact (ae ag)))))) (by exact (ah (ab (aJ (by exact (ah (ab<|pL cQ) (by exact (ae ag)))))) (by exact (ah (ab (aJ (by exact (ah ag (by exact (ae<|ab<|pL cQ)))))) (by exact (ae (ab (aJ (by exact (ah ag (by exact (ae ag)))))))))))))))))))))))) (lm rfl (fW (bC (i:=12) nd rfl (Or.inl rfl) (by decide)) (fW (bC (i:=13) nd rfl (Or.inl rfl) (by decide)) ll)))) (ar (aI (i:=8) nd rfl (Or.inl rfl) (aZ (lI rfl) (by rfl) T.Gz m9 (ah (ab<|ao du (vv 2) ag) (by exact (ae (ab (aZ (lH rfl) (by rfl) T.Gy m8 (ah ag (by exact (ae<|ab<|ao aS (vv 8)<|vv 12))))))))) (by decide)) (aE (aI (i:=9) nd rfl (Or.inl rfl) (aZ (lI rfl) (by rfl) T.Gz m9 (ah (ab<|ao du (vv 3) ag) (by exact (ae (ab (aZ (lH rfl) (by rfl) T.Gy m8 (ah ag (by exact (ae<|ab<|ao aS (vv 9)<|vv 13))))))))) (by decide)))))) (by decide) jn) (aE (be (fo ju rfl T.Dp gF (ae (ab (aZ (l9 rfl<|aO hr) (by rfl) T.DD ng<|ae<|vv 7)))))))))))))))
theorem BW:k_ Bu ["_law_one","_law_other"] (aD iR):=⟨rfl,rfl,rfl,by decide +kernel,rfl,by decide +kernel,by decide +kernel⟩
theorem BX(F:Ey K mg "_law_are_beside" iR f ["_law_one","_law_other"])(T:Txt mg):
  CO P w K mg base 1 "_law_are_beside" iR f ["_law_one","_law_other"] 2 G.iA:=by
 refine bR F BW rfl (by decide) fun nd z_ A outer s H E hr=>?_;exact (aE (be (b8 (dv<|aO hr) (ab (ao aS (ab (aZ pP (by rfl) T.HG tj<|ae<|ab<|ao du (ab<|bt hr (vv 0) ag)<|ab<|bt hr (vv 1) ag)) (ab (aZ pP (by rfl) T.HG tj<|ae<|ab<|ao du (ab<|bt hr (vv 0) ag)<|ab<|bt hr (vv 1) ag)))) ag<|a9 _)))
theorem BY:k_ km ["_law_floor_here","_law_cell"] (aD dU):=⟨rfl,rfl,rfl,by decide +kernel,rfl,by decide +kernel,by decide +kernel⟩
theorem BZ(F:Ey K mg "_law_part" dU f ["_law_floor_here","_law_cell"])(T:Txt mg){Ee:Addr}(Qg:CO P w K mg base 1 "_law_are_beside" iR Ee ["_law_one","_law_other"] 2 G.iA):
  CO P w K mg base 2 "_law_part" dU f ["_law_floor_here","_law_cell"] 2 G.dR:=by
 refine bR F BY rfl (by decide) fun nd z_ A outer s H E hr=>?_;exact (ar (lq (i:=2) (j:=3) rfl nd rfl rfl (by decide) rfl rfl (ah (ab (bm (by exact (ae<|vv 1)))) (by exact (ae (ab (bm (by exact (ae<|vv 1))))))) (by decide) (by decide) rfl) (ar (qp (i:=4) (own:=["_law_one"]) (caps:=[1]) nd rfl (Or.inl rfl) rfl (fP (aD dU) km (by decide +kernel)) (by decide) (dJ<|vv 0) (fun Y=>(bC (i:=0) (show (["_law_one","_law_cell"]:List Str).Nodup by decide +kernel) rfl (Or.inl rfl) (by decide))) (fun Y=>(pB<|cn (gX<|aO hr) (vv 0) (vv 1)<|a9 _)) (fun Y=>(dj<|pv 0)) (by decide)) (ar (pz 1000000 PassesOwn.never (cn (gX<|aO hr) (vv 3) (ab (bm (by exact fj)))<|a9 _) (ar (aI (i:=5) nd rfl (Or.inr rfl) (bm (by exact fj)) (by decide)) (ar (ej (fx:=[4,0,1]) PassesOwn.never rfl (dJ<|vv 4) (bC (i:=6) nd rfl (Or.inr rfl) (by decide)) (aE (cU (fu (ab (aZ (pR rfl) (by rfl) T.HI tq (ae (ab (jp (own:=["_law_other"]) (caps:=[6]) rfl (fP (aD dU) km (by decide +kernel)) (by decide) (dJ<|vv 3) (fun Y=>(bC (i:=0) (show (["_law_other","_law_one"]:List Str).Nodup by decide +kernel) rfl (Or.inl rfl) (by decide))) (fun Y=>jo) (fun Y=>(aN Qg hr rfl (ah (vv 1) (by exact (ae<|vv 0))))))))))) (aE<|jj<|jw g9 PySem.F.plainAttrs_list PySem.F.slot_list_append PySem.F.type_list_append jx (pv 5)<|ae<|vv 6) cS)) (by decide) (lu (by decide))) (ar (aI (i:=2) nd rfl (Or.inl rfl) (ao aS (vv 2)<|vv 5) (by decide)) (ar (qp (i:=4) (own:=["_law_one"]) (caps:=[5]) nd rfl (Or.inl rfl) rfl (fP (aD dU) km (by decide +kernel)) (by decide) (dJ<|vv 4) (fun Y=>(bC (i:=0) (show (["_law_one","_law_more"]:List Str).Nodup by decide +kernel) rfl (Or.inl rfl) (by decide))) (fun Y=>(pB<|cn (qt<|aO hr) (vv 0) (vv 1) rfl)) (fun Y=>(dj<|pv 0)) (by decide)) (aE (aI (i:=3) nd rfl (Or.inl rfl) (dj<|pv 5) (by decide)))))))) (aE (be (fo ju rfl T.Dp gF (ae (ab (aZ (l9 rfl<|aO hr) (by rfl) T.DD ng<|ae<|vv 2)))))))))
theorem B1:k_ Bv ["_law_floor_here"] (aD iS):=⟨rfl,rfl,rfl,by decide +kernel,rfl,by decide +kernel,by decide +kernel⟩
theorem B2(F:Ey K mg "_law_due" iS f ["_law_floor_here"])(T:Txt mg){Ef:Addr}(MN:CO P w K mg base 2 "_law_part" dU Ef ["_law_floor_here","_law_cell"] 2 G.dR):
  CO P w K mg base 3 "_law_due" iS f ["_law_floor_here"] 1 G.eQ:=by
 refine bR F B1 rfl (by decide) fun nd z_ A outer s H E hr=>?_;exact (aE (be (d8 (bB (b8 lD (ab (aZ c8 (by rfl) T.Dk df<|ae<|vv 0)) ag<|a9 _)) (bB (fi (b8 (dv<|aO hr) (ab (aZ c8 (by rfl) T.Dk df (ae (ab (aN MN hr rfl (ah (vv 0) (by exact (ae<|ab<|bt hr (vv 0) ag)))))))) (ab (aZ c8 (by rfl) T.Dk df<|ae<|vv 0))<|a9 _))))))
theorem B3:k_ tw ["_law_script"] (aD iT):=⟨rfl,rfl,rfl,by decide +kernel,rfl,by decide +kernel,by decide +kernel⟩
theorem B4(F:Ey K mg "law" iT f ["_law_script"])(T:Txt mg){e_:Addr}(C2:CO P w K mg base 3 "is_cell" eT e_ ["thing"] 1 G.eI){GC:Addr}(C9:CO P w K mg base 1 "_law_hand" iP GC ["_law_script","_law_k"] 2 G.gs){FL:Addr}(Qh:CO P w K mg base 3 "_law_floor" iQ FL ["_law_hand_here"] 1 G.ix){Ef:Addr}(MN:CO P w K mg base 2 "_law_part" dU Ef ["_law_floor_here","_law_cell"] 2 G.dR){Fa:Addr}(Jm:CO P w K mg base 2 "_law_of" gG Fa ["_law_hand_here","_law_some"] 2 G.cw){Dl:Addr}(GK:CO P w K mg base 1 "_law_take" fK Dl ["_law_hand_here","_law_many"] 2 G.bf){Fb:Addr}(C8:CO P w K mg base 6 "is_field" iO Fb ["thing"] 1 (G.cf e_)){Hj:Addr}(Qi:CO P w K mg base 3 "_law_due" iS Hj ["_law_floor_here"] 1 G.eQ):
  CO P w K mg base 7 "law" iT f ["_law_script"] 1 (G.iE e_):=by
 refine bR F B3 rfl (by decide) fun nd z_ A outer s H E hr=>?_;exact (ar (ej (fx:=[0]) PassesOwn.never rfl (jm rfl T.DU (ae (ab (aZ (lH rfl) (by rfl) T.Gy m8 (ah ag (by exact (ae (ab (aZ (lI rfl) (by rfl) T.Gz m9 (ah ag (by exact (ae (ab (aZ c8 (by rfl) T.Dk df<|ae<|vv 0)))))))))))))) (bC (i:=1) nd rfl (Or.inl rfl) (by decide)) (ar (aI (i:=2) nd rfl (Or.inl rfl) (aN C9 hr rfl (ah (vv 0) (by exact (ae<|vv 1)))) (by decide)) (ar (aI (i:=3) nd rfl (Or.inl rfl) (aN Qh hr rfl<|ae<|vv 2) (by decide)) (ar (aI (i:=4) nd rfl (Or.inl rfl) (bm (by exact (ah (vv 3) (by exact (ah (ab (aJ (by exact fj))) (by exact (ah (ab<|fZ (vv 3) (ft cQ) gY) (by exact (ae<|ab<|AH (vv 3) cQ))))))))) (by decide)) (ar (cU (cn (gX<|aO hr) (vv 3) (ab (aJ (by exact fj)))<|a9 _) (ar (aI (i:=5) nd rfl (Or.inl rfl) (aN MN hr rfl (ah (vv 3) (by exact (ae (ab (aN Jm hr rfl (ah (vv 2) (by exact (ae<|vv 3))))))))) (by decide)) (ar (aI (i:=6) nd rfl (Or.inl rfl) (aN GK hr rfl (ah (vv 2) (by exact (ae (ab (aZ c8 (by rfl) T.Dk df<|ae<|vv 5)))))) (by decide)) (ar (aI (i:=7) nd rfl (Or.inl rfl) (aN Jm hr rfl (ah (vv 2) (by exact (ae (ab (bm (by exact (ah (ab (aJ (by exact (ah ag (by exact (ae ag)))))) (by exact (ah (ab (aJ (by exact (ah ag (by exact (ae ag)))))) (by exact (ae (ab (aJ (by exact (ah ag (by exact (ae ag)))))))))))))))))) (by decide)) (ar (aI (i:=4) nd rfl (Or.inl rfl) (ao aS (vv 4) (ab (bm (by exact (ah (vv 5) (by exact (ae<|ab<|ao aS (ab<|fZ (vv 5) gY<|ft<|dj<|pv 6)<|ab<|fZ (vv 5) (ft<|ao aS (vv 6) ag) gY))))))) (by decide)) (ar (aI (i:=4) nd rfl (Or.inl rfl) (ao aS (vv 4) (ab (bm (by exact (ae<|ab<|fZ (vv 5) (ft<|dj<|pv 6)<|ft<|ao aS (vv 6) ag))))) (by decide)) (aE (jj (jw g9 PySem.F.plainAttrs_list PySem.F.slot_list_append PySem.F.type_list_append jx (pv 4) (ae (ab (fo ju rfl T.Dp gF (ae (ab (zZ (Bh hr) rfl T.DD rfl T.Ku (ae (ab (ao aS (vv 5) (ab (aJ (by exact (ae<|vv 7))))))))))))))))))))) cS) (ar (ej (fx:=[4,0]) PassesOwn.never rfl (dJ<|vv 4) (bC (i:=8) nd rfl (Or.inl rfl) (by decide)) (ar (aI (i:=9) nd rfl (Or.inl rfl) (aN C8 hr rfl<|ae<|vv 8) (by decide))<|aE<|cU (VW.vt<|k9 (jh<|fu<|ab<|gZ rfl T.CK iG rfl T.Gw tu<|vv 9)<|k8<|cn (gX<|aO hr) (vv 9) (ab<|aN Qi hr rfl<|ae<|vv 8)<|a9 _) (aE<|be bL) cS) (by decide) (lu (by decide))) (ar (cU (VW.vt (oZ (cn (gX<|aO hr) (vv 3) (ab (aJ (by exact fj)))<|a9 _)<|oY<|cn pK (ab<|aN C8 hr rfl<|ae<|ab<|ao aS (vv 3)<|ab<|fZ (vv 3) gY<|ft cQ) (ab bL)<|a9 _)) (aE<|be bL) cS)<|aE<|cU (cn pK (ab<|aN C8 hr rfl<|ae<|ab<|fo x6 rfl T.IL Bg<|ae<|vv 3) (ab bL)<|a9 _) (aE<|be bL) cS)))))) (by decide) jn) (ar (aI (i:=10) nd rfl (Or.inl rfl) (bm (by exact (ah (ab xx) (by exact (ah (ab bL) (by exact (ah ag (by exact (ah (ab xy) (by exact (ah (ab (jH (bm (by exact fj)))) (by exact (ah (ab<|jH lR) (by exact (ah (ab (aJ (by exact (ah ag (by exact (ae ag)))))) (by exact (ah (ab (aJ (by exact (ah (ab (aJ (by exact (ah ag (by exact (ae ag)))))) (by exact (ae (ab (jH (bm (by exact (ah ag (by exact (ae ag))))))))))))) (by exact (ah (ab (jH (bm (by exact (ae (ab (aJ (by exact (ah ag (by exact (ae ag))))))))))) (by exact (ah (ab (aJ (by exact (ah (ab (aJ (by exact (ah ag (by exact (ae ag)))))) (by exact (ae (ab (aJ (by exact (ah ag (by exact (ae ag)))))))))))) (by exact (ae (ab (aJ (by exact (ae (ab (aJ (by exact (ah ag (by exact (ae ag))))))))))))))))))))))))))))))))) (by decide)) (ar (aI (i:=10) nd rfl (Or.inl rfl) (ao aS (vv 10) (ab (bm (by exact (ae (ab (aJ (by exact (ae (ab (aJ (by exact (ah ag (by exact (ae<|ab bL))))))))))))))) (by decide)) (aE (be (d8 (bB (pc (bB (aZ (pR rfl) (by rfl) T.HI tq (ae (ab (jp (own:=["_law_thing"]) (caps:=[]) rfl (fP (aD iT) tw (by decide +kernel)) (by decide) (dJ<|vv 10) (fun Y=>(bC (i:=0) (show (["_law_thing"]:List Str).Nodup by decide +kernel) rfl (Or.inl rfl) (by decide))) (fun Y=>jo)<|fun Y=>(aN C8 hr rfl<|ae<|vv 0)))))))) (bB (fi (b8 xV (ab (aN C8 hr rfl (ae (ab (aJ (by exact (ae (ab (aJ (by exact (ah ag (by exact (ae ag))))))))))))) (ab bL)<|a9 _)))))))))
end
theorem all_mk{w:World}{K:PySem.W.Frag}{h:Heap}{mg:Str->Option Value}{fa MO MP MQ MR MT MU MV MW MX Kw Kx Ky Kz KA KB KC:Addr}(X:K.In h)(Gg:h.Ns mainGlobals mg)(MM:mg "law" = some (.ref fa)){Eg:Tok}(r_w0:Raw K "is_whole" iH MO)(r_w1:Raw K "is_pair" iJ MP)(r_w2:Raw K "is_cell" eT Gv)(r_w3:Raw K "is_rising" fJ MQ)(r_w4:Raw K "lookup" iK MR)(r_w5:Raw K "around" iL MT)(r_w6:Raw K "reached" iM MU)(r_w7:Raw K "is_floor" iN MV)(r_w8:Raw K "is_field" iO MW)(r_w9:Raw K "_law_hand" iP MX)(r_w10:Raw K "_law_take" fK Kw)(r_w11:Raw K "_law_of" gG Kx)(r_w12:Raw K "_law_floor" iQ Ky)(r_w13:Raw K "_law_are_beside" iR Kz)(r_w14:Raw K "_law_part" dU KA)(r_w15:Raw K "_law_due" iS KB)(r_law:Raw K "law" iT KC)(g_GREATEST:PySem.W.nsIn K mainGlobals "GREATEST" = some (some<|.int 30 Eg))(z_abs:PySem.W.nsIn K mainGlobals "abs" = some none)(z_all:PySem.W.nsIn K mainGlobals "all" = some none)(z_any:PySem.W.nsIn K mainGlobals "any" = some none)(z_bool:PySem.W.nsIn K mainGlobals "bool" = some none)(z_int:PySem.W.nsIn K mainGlobals "int" = some none)(z_isinstance:PySem.W.nsIn K mainGlobals "isinstance" = some none)(z_len:PySem.W.nsIn K mainGlobals "len" = some none)(z_list:PySem.W.nsIn K mainGlobals "list" = some none)(z_max:PySem.W.nsIn K mainGlobals "max" = some none)(z_min:PySem.W.nsIn K mainGlobals "min" = some none)(z_range:PySem.W.nsIn K mainGlobals "range" = some none)(z_set:PySem.W.nsIn K mainGlobals "set" = some none)(z_sorted:PySem.W.nsIn K mainGlobals "sorted" = some none)(z_tuple:PySem.W.nsIn K mainGlobals "tuple" = some none)(z_zip:PySem.W.nsIn K mainGlobals "zip" = some none):
  ∃ fd:FuncData,(∀ (s:Shared) (v:Value),BindsTo s fd ⟨[v],[]⟩ [("_law_script",v)])/\∀ base:Heap,K.In base->base.Ns mainGlobals mg->Dw l.prog w K mg base Fi 7 fa fd ["_law_script"] (Gf 1<|G.iE Gv):=by
 have T:Txt mg:=⟨PySem.W.mg_none_of X Gg z_abs,PySem.W.mg_none_of X Gg z_all,PySem.W.mg_none_of X Gg z_any,PySem.W.mg_none_of X Gg z_bool,PySem.W.mg_none_of X Gg z_int,PySem.W.mg_none_of X Gg z_isinstance,PySem.W.mg_none_of X Gg z_len,PySem.W.mg_none_of X Gg z_list,PySem.W.mg_none_of X Gg z_max,PySem.W.mg_none_of X Gg z_min,PySem.W.mg_none_of X Gg z_range,PySem.W.mg_none_of X Gg z_set,PySem.W.mg_none_of X Gg z_sorted,PySem.W.mg_none_of X Gg z_tuple,PySem.W.mg_none_of X Gg z_zip,⟨Eg,PySem.W.mg_of X Gg g_GREATEST⟩⟩;have h_w0:=r_w0.b1 (ps:=["thing"]) X Gg fun _ _ _ _ _ _ _=>rfl;have h_w1:=r_w1.b1 (ps:=["thing"]) X Gg fun _ _ _ _ _ _ _=>rfl;have h_w2:=r_w2.b1 (ps:=["thing"]) X Gg fun _ _ _ _ _ _ _=>rfl;have h_w3:=r_w3.b2 (ps:=["thing","is_kind"]) X Gg fun _ _ _ _ _ _ _ _=>rfl;have h_w4:=r_w4.b1 (ps:=["things"]) X Gg fun _ _ _ _ _ _ _=>rfl;have h_w5:=r_w5.b1 (ps:=["cell"]) X Gg fun _ _ _ _ _ _ _=>rfl;have h_w6:=r_w6.b2 (ps:=["free","start"]) X Gg fun _ _ _ _ _ _ _ _=>rfl;have h_w7:=r_w7.b1 (ps:=["thing"]) X Gg fun _ _ _ _ _ _ _=>rfl;have h_w8:=r_w8.b1 (ps:=["thing"]) X Gg fun _ _ _ _ _ _ _=>rfl;have h_w9:=r_w9.b2 (ps:=["_law_script","_law_k"]) X Gg fun _ _ _ _ _ _ _ _=>rfl;have h_w10:=r_w10.b2 (ps:=["_law_hand_here","_law_many"]) X Gg fun _ _ _ _ _ _ _ _=>rfl;have h_w11:=r_w11.b2 (ps:=["_law_hand_here","_law_some"]) X Gg fun _ _ _ _ _ _ _ _=>rfl;have h_w12:=r_w12.b1 (ps:=["_law_hand_here"]) X Gg fun _ _ _ _ _ _ _=>rfl;have h_w13:=r_w13.b2 (ps:=["_law_one","_law_other"]) X Gg fun _ _ _ _ _ _ _ _=>rfl;have h_w14:=r_w14.b2 (ps:=["_law_floor_here","_law_cell"]) X Gg fun _ _ _ _ _ _ _ _=>rfl;have h_w15:=r_w15.b1 (ps:=["_law_floor_here"]) X Gg fun _ _ _ _ _ _ _=>rfl;have h_law:=r_law.b1 (ps:=["_law_script"]) X Gg fun _ _ _ _ _ _ _=>rfl;refine Be r_law X Gg MM (fun _ _ _ _ _ _ _ _=>.of_eq rfl) fun base=>?_;have MY:=Bx (P:=l.prog) (w:=w) (base:=base) h_w0 T;have MZ:=Bz (P:=l.prog) (w:=w) (base:=base) h_w1 T MY;have Hk:=BB (P:=l.prog) (w:=w) (base:=base) h_w2 T MZ;have M0:=BD (P:=l.prog) (w:=w) (base:=base) h_w3 T Hk;have M1:=BF (P:=l.prog) (w:=w) (base:=base) h_w4 T;have M2:=BH (P:=l.prog) (w:=w) (base:=base) h_w5 T;have M3:=BJ (P:=l.prog) (w:=w) (base:=base) h_w6 T M2;have M4:=BL (P:=l.prog) (w:=w) (base:=base) h_w7 T Hk M0;have M5:=BN (P:=l.prog) (w:=w) (base:=base) h_w8 T Hk M4 M3 M1;have M6:=BP (P:=l.prog) (w:=w) (base:=base) h_w9 T;have GD:=BR (P:=l.prog) (w:=w) (base:=base) h_w10 T;have HJ:=BT (P:=l.prog) (w:=w) (base:=base) h_w11 T GD;have KD:=BV (P:=l.prog) (w:=w) (base:=base) h_w12 T GD HJ;have KE:=BX (P:=l.prog) (w:=w) (base:=base) h_w13 T;have HK:=BZ (P:=l.prog) (w:=w) (base:=base) h_w14 T KE;have KF:=B2 (P:=l.prog) (w:=w) (base:=base) h_w15 T HK;exact B4 h_law T Hk M6 KD HK HJ GD M5 KF
theorem walk{q:Program}{loose:List Str}{XP:(Str->Option Value)->Heap->Prop}{YP:World->Heap->Prop}{d:DefRec}{K:Params->PySem.W.Frag}(hn:l.most=some 63)(JG:d.params.defaults=[])(hY:∀ (w:World) (h:Heap),YP w h->(K w.params).In h)(hK:∀ p,iF (K p)=true)(F:∀ (w:World) (mg:Str->Option Value) (fa:Addr) (h:Heap),(K w.params).In h->h.Ns mainGlobals mg->mg d.name=some (.ref fa)->
   ∃ fd:FuncData,(∀ (s:Shared) (u:Value),BindsTo s fd ⟨[u],[]⟩ [("_law_script",u)])/\∀ base:Heap,(K w.params).In base->base.Ns mainGlobals mg->Dw l.prog w (K w.params) mg base Fi 7 fa fd ["_law_script"] (Gf 1<|G.iE Gv)):
  PySem.W.WalkO q loose XP YP l.row.toRowW d [] (fun f vs=>PySem.call f vs):=
 L2.wG (n:=63) (k:=7) (x := "_law_script") (CX:=fun _=>Fi) (sp:=fun w=>Gf 1<|G.iE Gv) hn (by decide) JG ⟨rfl,by decide,by decide,rfl⟩ hY F (fun w H a ns hl hO hS=>Bc (hK w.params) H a ns hO hS (G.Ba Gv ns (Nat.lt_of_le_of_lt hl (by decide)))) fun _ _ _ _ _ z=>z
end K02
def PySem.W.Fast.tw2515005115481848925:=0
def PySem.W.Fast.tw2172115739037788768:=0
def PySem.W.Fast.tw146283842227115045:=0
def PySem.W.Fast.tw7299419823497807749:=0
def PySem.W.Fast.tw10491430325747678566:=0
def PySem.W.Fast.tw5697889757481376422:=0
def PySem.W.Fast.tw17789494765448959048:=0
def PySem.W.Fast.tw2110390615812343433:=0
def PySem.W.Fast.tw13773715942097370698:=0
def PySem.W.Fast.tw12341315840147593067:=0
def PySem.W.Fast.tw3185387127240200332:=0
def PySem.W.Fast.tw11289667946072663150:=0
def PySem.W.Fast.tw3191221779979751087:=0
def PySem.W.Fast.tw5530385464380115025:=0
def PySem.W.Fast.tw457343047896594195:=0
def PySem.W.Fast.tw17212845583880549139:=0
def PySem.W.Fast.tw1696781128260757332:=0
def PySem.W.Fast.tw800105228271635253:=0
def PySem.W.Fast.tw3375141533500966742:=0
def PySem.W.Fast.tw13878641698759190486:=0
def PySem.W.Fast.tw9481259401406153880:=0
def PySem.W.Fast.tw7161311204258917531:=0
def PySem.W.Fast.tw7303484650450986747:=0
def PySem.W.Fast.tw16231743749212656479:=0
open PySem PySem.W PyProof.Rows
set_option maxRecDepth 100000 in
set_option maxHeartbeats 0 in
theorem PySem.Challenge.cw_mowfloor_k02_fields_of_anything_holds : PySem.Challenge.rw_mowfloor_k02_fields_of_anything.Holds := by
  w_on; o_law; k_head; (case hw => w_witness2)
  k_fill
  refine' K02.walk (l := PySem.Challenge.rw_mowfloor_k02_fields_of_anything) rfl rfl (fun w h Y => PySem.W.kIn_of Y) ?hK ?F
  case hK => intro p; rfl
  case F =>
    intro w mg fa h KX G hmg
    refine' K02.all_mk KX G hmg ?r_w0 ?r_w1 ?r_w2 ?r_w3 ?r_w4 ?r_w5 ?r_w6 ?r_w7 ?r_w8 ?r_w9 ?r_w10 ?r_w11 ?r_w12 ?r_w13 ?r_w14 ?r_w15 ?r_law ?g_GREATEST ?z_abs ?z_all ?z_any ?z_bool ?z_int ?z_isinstance ?z_len ?z_list ?z_max ?z_min ?z_range ?z_set ?z_sorted ?z_tuple ?z_zip
    case r_w0 | r_w1 | r_w2 | r_w3 | r_w4 | r_w5 | r_w6 | r_w7 | r_w8 | r_w9 | r_w10 | r_w11 | r_w12 | r_w13 | r_w14 | r_w15 | r_law => refine' L2.Bd ?a ?l ?c ?k; (case a => k_is); (case l => k_is); (case c => k_is); (case k => k_is)
    case g_GREATEST | z_abs | z_all | z_any | z_bool | z_int | z_isinstance | z_len | z_list | z_max | z_min | z_range | z_set | z_sorted | z_tuple | z_zip => k_is
