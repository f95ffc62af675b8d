import PyProof.Rows.All
import Wide.All
import OpenK.AllK
import Wide.FinOn
import Lean
import PyProof.EqAt
import PyProof.EqKinds
import PyProof.TupleCall
import PyProof.IsiNone
import PyProof.NeKinds
import PyProof.MaxThree
import PyProof.Rows.SetFrom
import PyProof.WalksMore
import PyProof.CallStr
import PySem.Challenge.RW_mowfloor_k09_papers_of_never
set_option maxHeartbeats 4000000
set_option Elab.async false
set_option linter.all false
set_option maxRecDepth 100000
open Bool (and_eq_true false_eq_true not_eq_true' or_eq_true)
open List (all_eq_true all_map any_cons any_eq_true any_map any_toArray append_nil cons_append drop_drop drop_eq_getElem_cons drop_of_length_le drop_sublist drop_take drop_zero eq_nil_of_length_eq_zero ext_getElem? filterMap_cons find?_cons foldl_cons forIn_cons getD_eq_getElem?_getD getElem?_append_left getElem?_append_right getElem?_drop getElem?_of_mem getElem?_set_ne getElem?_take getElem_drop getElem_mem getElem_take length_append length_cons length_drop length_filter_le length_map length_nil length_range length_set length_singleton length_take lookup_cons map_append map_congr_left map_cons map_drop map_id map_take mem_append mem_append_left mem_append_right mem_cons mem_cons_of_mem mem_cons_self mem_filterMap mem_iff_getElem mem_map mem_nil_iff mem_of_getElem? mem_of_mem_drop mem_of_mem_take mem_range mem_singleton nil_append nodup_append nodup_cons nodup_nil nodup_range not_mem_nil of_mem_zip pairwise_cons pairwise_iff_getElem pairwise_map pairwise_singleton perm_append_comm range range' reverse_cons set_comm set_set size_toArray take_append_drop take_length take_sublist take_take take_zero)
open Array (ext' forIn_toList getElem?_toList length_toList size_map toList_push)
open Nat (add_assoc beq le_add_right le_of_ble_eq_true le_of_lt le_of_lt_succ lt_irrefl lt_of_le_of_lt lt_of_lt_of_le lt_or_ge lt_succ_self lt_trans min_eq_left mod_lt ne_of_gt ne_of_lt not_lt_zero succ_pos zero_le)
open Int (emod_lt_of_pos emod_nonneg toNat_natCast)
open Option (bind_eq_some_iff getD_none getD_some isSome_map map_eq_some_iff map_some)
namespace L2
open PySem PySem.Spec PyProof.Rows
variable{scope:Scope}{qual x:Str}{base h:Heap}{mg:Str->Option Value}{ps N:List Str}{op:CmpOp}{f:Value->Value->Sem Value}{fp ch:List Addr}{body:List Stmt}{j n k i t':Nat}{g:Int->Int->Int}{tg c e:Expr}{es:List Expr}{K:PySem.W.Frag}{pins:List (Addr×Obj)}{pos:Pos}{s s':Shared}{Q E:Value->Shared->Prop}{A:Around}{it b a:Addr}{d':Drawn}{g':Array GenState}{w:World}{P:Program}{u:Value}{us:List Value}
inductive Im where
 | j_ | bl (b:Bool) | int (i:Int) | str (x:Str) | tup (ds:List Im) | fn (a:Addr) | fl (ds:List Im) | fd
mutual
def Im.beq:Im->Im->Bool
 | .j_,.j_=>true
 | .bl a,.bl b=>a == b
 | .int i,.int j=>decide (i=j)
 | .str x,.str y=>decide (x=y)
 | .tup a,.tup b=>Im.FQ a b
 | .fn a,.fn b=>decide (a=b)
 | .fl a,.fl b=>Im.FQ a b
 | .fd,.fd=>true
 | _,_=>false
def Im.FQ:List Im->List Im->Bool
 | [],[]=>true
 | a::r,b::t=>Im.beq a b && Im.FQ r t
 | _,_=>false
end
mutual
theorem Im.beq_iff:∀ a b:Im,Im.beq a b=true↔a=b
 | .j_,b=>by cases b<;>simp[Im.beq]
 | .bl a,b=>by cases b<;>simp[Im.beq]
 | .int i,b=>by cases b<;>simp[Im.beq]
 | .str x,b=>by cases b<;>simp[Im.beq]
 | .tup x,b=>by
  cases b with
  | tup y=>rw[Im.beq,Im.Fk x y];simp
  | _=>simp[Im.beq]
 | .fn a,b=>by cases b<;>simp[Im.beq]
 | .fl x,b=>by
  cases b with
  | fl y=>rw[Im.beq,Im.Fk x y];simp
  | _=>simp[Im.beq]
 | .fd,b=>by cases b<;>simp[Im.beq]
theorem Im.Fk:∀ a b:List Im,Im.FQ a b=true↔a=b
 | [],b=>by cases b<;>simp[Im.FQ]
 | x::r,b=>by
  cases b with
  | nil=>simp[Im.FQ]
  | cons y t=>rw[Im.FQ,and_eq_true,Im.beq_iff x y,Im.Fk r t];simp
end
instance:DecidableEq Im:=fun a b=>decidable_of_iff (Im.beq a b=true) (Im.beq_iff a b)
mutual
def EH(h:Heap):Im->Value->Prop
 | .j_,v=>v=.none
 | .bl b,v=>v=.bool b
 | .int i,v=>∃ t,v=.int i t
 | .str x,v=>∃ t,v=.str x t
 | .fn a,v=>v=.ref a
 | .fl _,v=>∃ a,v=.ref a
 | .fd,v=>∃ a,v=.ref a
 | .tup ds,v=>∃ a o items n,v=.ref a/\h.get? a=some o/\o.cls=.type "tuple" /\ o.data=.seq items n/\aO h ds items.toList
def aO(h:Heap):List Im->List Value->Prop
 | [],vs=>vs=[]
 | d::ds,vs=>∃ v r,vs=v::r/\EH h d v/\aO h ds r
end
mutual
def Im.key:Nat->Im->Bool
 | _,.int _=>true
 | _,.str _=>true
 | n+1,.tup ds=>Im.keys n ds
 | _,_=>false
def Im.keys:Nat->List Im->Bool
 | _,[]=>true
 | n,d::ds=>Im.key n d && Im.keys n ds
end
mutual
def Es(w:World):Im->Int
 | .int i=>hashInt i
 | .str x=>hashStr w x
 | .tup ds=>reduceHash (Builtin.Tuple.tupleHashOf<|cG w ds)
 | _=>0
def cG(w:World):List Im->List Int
 | []=>[]
 | d::ds=>Es w d::cG w ds
end
mutual
def Mc:Im->Nat
 | .tup ds=>dm ds+1
 | _=>1
def dm:List Im->Nat
 | []=>0
 | d::ds=>Mc d+dm ds
end
theorem lx(w:World):∀ a b:List Im,cG w (a++b)=cG w a++cG w b
 | [],b=>rfl
 | d::a,b=>by rw[cons_append,cG,cG,lx w a b,cons_append]
theorem lE:∀ a b:List Im,dm (a++b)=dm a+dm b
 | [],b=>by simp[dm]
 | d::a,b=>by rw[cons_append,dm,dm,lE a b];lia
theorem oD{n:Nat}:∀ {a b:List Im},Im.keys n (a++b)=true->Im.keys n b=true
 | [],b,h=>h
 | d::a,b,h=>by rw[cons_append,Im.keys,and_eq_true] at h;exact oD h.2
theorem aO.length{h:Heap}:∀ {ds:List Im}{vs:List Value},aO h ds vs->ds.length=vs.length
 | [],vs,e=>by rw[show vs=[] from e];rfl
 | d::ds,vs,e=>by
  obtain⟨v,r,rfl,_,e⟩:=e;rw[length_cons,length_cons,aO.length e]
def jG(h h':Heap):Prop:=∀ a o items n,h.get? a=some o->o.cls=.type "tuple" -> o.data=.seq items n->h'.get? a=some o
mutual
theorem EH.keep{h h':Heap}(k:jG h h'):∀ {d:Im}{v:Value},EH h d v->EH h' d v
 | .j_,_,e=>e
 | .bl _,_,e=>e
 | .int _,_,e=>e
 | .str _,_,e=>e
 | .fn _,_,e=>e
 | .fl _,_,e=>e
 | .fd,_,e=>e
 | .tup ds,_,e=>by
  obtain⟨a,o,items,n,rfl,h1,h2,h3,h4⟩:=e;exact⟨a,o,items,n,rfl,k a o items n h1 h2 h3,h2,h3,aO.keep k h4⟩
theorem aO.keep{h h':Heap}(k:jG h h'):∀ {ds:List Im}{vs:List Value},aO h ds vs->aO h' ds vs
 | [],_,e=>e
 | d::ds,_,e=>by
  obtain⟨v,r,rfl,h1,h2⟩:=e;exact⟨v,r,rfl,EH.keep k h1,aO.keep k h2⟩
end
theorem oE{h:Heap}:∀ (n:Nat) {x y:Im}{v:Value},Im.key n x=true->Im.key n y=true->EH h x v->EH h y v->x=y
 | n,.int i,y,v,_,ky,hx,hy=>by
  obtain⟨t,rfl⟩:=hx;cases y with
  | int j=>obtain⟨u,e⟩:=hy;injection e with e;rw[e]
  | str z=>obtain⟨u,e⟩:=hy;cases e
  | tup ds=>obtain⟨_,_,_,_,e,_⟩:=hy;cases e
  | _=>cases n<;>cases ky
 | n,.str z,y,v,_,ky,hx,hy=>by
  obtain⟨t,rfl⟩:=hx;cases y with
  | int j=>obtain⟨u,e⟩:=hy;cases e
  | str z=>obtain⟨u,e⟩:=hy;injection e with e;rw[e]
  | tup ds=>obtain⟨_,_,_,_,e,_⟩:=hy;cases e
  | _=>cases n<;>cases ky
 | n+1,.tup ds,y,v,kx,ky,hx,hy=>by
  obtain⟨a,o,items,m,rfl,h1,h2,h3,h4⟩:=hx;cases y with
  | int j=>obtain⟨u,e⟩:=hy;cases e
  | str z=>obtain⟨u,e⟩:=hy;cases e
  | tup es=>
   obtain⟨a',o',x_,m',e,g1,g2,g3,g4⟩:=hy;cases e;rw[h1] at g1;cases g1;rw[h3] at g3;injection g3 with g3 _;subst g3;have all:∀ (ds es:List Im) (vs:List Value),Im.keys n ds=true->Im.keys n es=true->aO h ds vs->aO h es vs->ds=es:=by
    intro ds;induction ds with
    | nil=>
     intro es vs _ _ a b;cases es with
     | nil=>rfl
     | cons e es=>obtain⟨_,_,q,_⟩:=b;rw[show vs=[] from a] at q;cases q
    | cons d ds ih=>
     intro es vs k1 k2 a b;obtain⟨v,r,rfl,a1,a2⟩:=a;cases es with
     | nil=>cases (show v::r=[] from b)
     | cons e es=>
      obtain⟨v',r',q,b1,b2⟩:=b;cases q;rw[Im.keys,and_eq_true] at k1 k2;rw[oE n k1.1 k2.1 a1 b1,ih es r k1.2 k2.2 a2 b2]
   rw[all ds es _ kx ky h4 g4]
  | _=>cases ky
 | _,.j_,_,_,k,_,_,_=>by cases ‹Nat›<;>cases k
 | _,.bl _,_,_,k,_,_,_=>by cases ‹Nat›<;>cases k
 | _,.fn _,_,_,k,_,_,_=>by cases ‹Nat›<;>cases k
 | _,.fl _,_,_,k,_,_,_=>by cases ‹Nat›<;>cases k
 | _,.fd,_,_,k,_,_,_=>by cases ‹Nat›<;>cases k
 | 0,.tup _,_,_,k,_,_,_=>by cases k
section
variable{prog:Program}{w:World}
theorem oF:∀ (n:Nat) {A:Around}{E:Value->Shared->Prop}{s:Shared}{d:Im}{v:Value}{Q:Int->Shared->Prop},Im.key n d=true->A.units+n<cLine->EH s.heap d v->Q (Es w d) { s with toks:=s.toks+Mc d }->
  wpAny (model prog w) A (pyHash v) Q E s
 | n,A,E,s,.int i,v,Q,_,_,hv,h=>by
  obtain⟨t,rfl⟩:=hv;exact wpAny_pyHash_int h
 | n,A,E,s,.str i,v,Q,_,_,hv,h=>by
  obtain⟨t,rfl⟩:=hv;exact wpAny_pyHash_str h
 | n+1,A,E,s,.tup ds,v,Q,k,hu,hv,h=>by
  obtain⟨a,o,items,m,rfl,ho,hc,hd,hi⟩:=hv;have hT:s.TypeIs (.ref a) "tuple" := ⟨o,ho,hc⟩;unfold pyHash;first | unfold pyHashByItsType | skip
  first | refine wpAny_bind (wpAny_cRoomFor_or (.inr (by lia)) ?_) | skip
  refine wpAny_bind (wpAny_specialOf hT F.slot_tuple_hash.lookup ?_);show wpAny _ _ (if (some (Value.builtin "tuple.__hash__") == some Value.none)=true then _ else _) Q E s;rw[if_neg (by rw[beq_builtin_none];exact Bool.false_ne_true)];refine wpAny_bind (wpAny_specialOf hT F.slot_tuple_hash.lookup ?_);show wpAny _ _ (callSpecialIfBoundUnlessNone? (.ref a) "__hash__" _ >>= _) Q E s;refine wpAny_bind (wpAny_callSpecialIfBoundUnlessNone?_slot hT F.slot_tuple_hash<|wpAny_call_entry F.slot_tuple_hash hT F.entry_tuple_hash ?_<|F.args_tuple_hash_1 _);show wpAny _ _ (Builtin.Tuple.tupleItemsOf (.ref a) >>= _) _ _ s;refine wpAny_bind (wpAny_tupleItemsOf ho hd ?_);refine wpAny_bind ?_;rw[<- forIn_toList];refine wpAny_forIn_list _
   (fun rest (b:Array Int) s'=>∃ done left,ds=done++left/\aO s.heap left rest/\b.toList=cG w done/\s'={ s with toks:=s.toks+dm done })
   _ ?_ ?_ _ _ ⟨[],ds,rfl,hi,rfl,rfl⟩
  ·rintro x rest b s' ⟨done,left,rfl,hl,hb,rfl⟩;cases left with
   | nil=>cases (show x::rest=[] from hl)
   | cons d left=>
    obtain⟨v,r,e,h1,Fm⟩:=hl;cases e;have k2:=oD (a:=done) (show Im.keys n (done++d::left)=true from k);rw[Im.keys,and_eq_true] at k2;refine wpAny_bind (oF n k2.1 (by show A.units+1+n<cLine;lia) h1 ?_);first
     | exact wpAny_pure ⟨done++[d],left,by simp,Fm,by simp[hb,lx,cG],by simp[lE,dm,add_assoc]⟩
     | exact wpAny_bind (wpAny_pure (wpAny_pure ⟨done++[d],left,by simp,Fm,by simp[hb,lx,cG],by simp[lE,dm,add_assoc]⟩))
  ·rintro b s' ⟨done,left,rfl,hl,hb,rfl⟩;cases left with
   | cons d left=>obtain⟨_,_,e,_⟩:=hl;cases e
   | nil=>
   rw[append_nil] at h;show wpAny _ _ (retInt<|Builtin.Tuple.tupleHashOf b.toList) _ _ _;rw[hb];refine wpAny_ret_mkInt ?_;show wpAny _ _ (if (decide (-(2:Int) ^ 63<=Builtin.Tuple.tupleHashOf (cG w done)) && decide (Builtin.Tuple.tupleHashOf (cG w done)<2 ^ 63))=true then _ else _) Q E _;rw[Es,Mc] at h;unfold reduceHash at h;by_cases hr:(decide (-(2:Int) ^ 63<=Builtin.Tuple.tupleHashOf (cG w done)) && decide (Builtin.Tuple.tupleHashOf (cG w done)<2 ^ 63))=true
   ·rw[if_pos hr];rw[if_pos hr] at h;exact wpAny_pure (by simpa [add_assoc] using h)
   ·rw[if_neg hr];rw[if_neg hr] at h;exact wpAny_bind (wpAny_rule (wpAny_pure (by simpa [add_assoc] using h)))
 | _,_,_,_,.j_,_,_,k,_,_,_=>by cases ‹Nat›<;>cases k
 | _,_,_,_,.bl _,_,_,k,_,_,_=>by cases ‹Nat›<;>cases k
 | _,_,_,_,.fn _,_,_,k,_,_,_=>by cases ‹Nat›<;>cases k
 | _,_,_,_,.fl _,_,_,k,_,_,_=>by cases ‹Nat›<;>cases k
 | _,_,_,_,.fd,_,_,k,_,_,_=>by cases ‹Nat›<;>cases k
 | 0,_,_,_,.tup _,_,_,k,_,_,_=>by cases k
mutual
def aA:Im->Im->Bool
 | .j_,.j_=>true
 | .bl a,.bl b=>a == b
 | .bl a,.int j=>(if a then 1 else 0) == j
 | .int i,.bl b=>i == (if b then 1 else 0)
 | .int i,.int j=>i == j
 | .str x,.str y=>x == y
 | .tup a,.tup b=>bD a b
 | _,_=>false
def bD:List Im->List Im->Bool
 | [],[]=>true
 | a::r,b::t=>aA a b && bD r t
 | _,_=>false
end
mutual
def Im.pl:Nat->Im->Bool
 | _,.j_=>true
 | _,.bl _=>true
 | _,.int _=>true
 | _,.str _=>true
 | n+1,.tup ds=>Im.pls n ds
 | _,_=>false
def Im.pls:Nat->List Im->Bool
 | _,[]=>true
 | n,d::ds=>Im.pl n d && Im.pls n ds
end
theorem dq{n:Nat}:∀ {ds:List Im}{j:Nat}{d:Im},Im.pls n ds=true->ds[j]?=some d->Im.pl n d=true
 | [],j,d,_,h=>by simp at h
 | e::ds,0,d,k,h=>by
  rw[Im.pls,and_eq_true] at k;simp at h;subst h;exact k.1
 | e::ds,j+1,d,k,h=>by
  rw[Im.pls,and_eq_true] at k;exact dq k.2 (by simpa using h)
theorem aO.get{h:Heap}:∀ {ds:List Im}{vs:List Value}{j:Nat}{v:Value},aO h ds vs->vs[j]?=some v->∃ d,ds[j]?=some d/\EH h d v
 | [],vs,j,v,a,e=>by rw[show vs=[] from a] at e;simp at e
 | d::ds,vs,0,v,a,e=>by
  obtain⟨u,r,rfl,a1,a2⟩:=a;simp at e;subst e;exact⟨d,rfl,a1⟩
 | d::ds,vs,j+1,v,a,e=>by
  obtain⟨u,r,rfl,a1,a2⟩:=a;obtain⟨d',h1,h2⟩:=aO.get (j:=j) a2 (by simpa using e);exact⟨d',by simpa using h1,h2⟩
theorem oG{h:Heap}:∀ (n:Nat) {x y:Im}{v:Value},Im.pl n x=true->Im.pl n y=true->EH h x v->EH h y v->aA x y=true
 | n,.j_,y,v,_,ky,hx,hy=>by
  cases (show v=.none from hx);cases y with
  | j_=>rfl
  | bl b=>cases hy
  | int j=>obtain⟨u,e⟩:=hy;cases e
  | str z=>obtain⟨u,e⟩:=hy;cases e
  | tup ds=>obtain⟨_,_,_,_,e,_⟩:=hy;cases e
  | fn a=>cases n<;>cases ky
  | fl a=>cases n<;>cases ky
  | fd=>cases n<;>cases ky
 | n,.bl b,y,v,_,ky,hx,hy=>by
  cases (show v=.bool b from hx);cases y with
  | j_=>cases hy
  | bl c=>cases hy;simp[aA]
  | int j=>obtain⟨u,e⟩:=hy;cases e
  | str z=>obtain⟨u,e⟩:=hy;cases e
  | tup ds=>obtain⟨_,_,_,_,e,_⟩:=hy;cases e
  | fn a=>cases n<;>cases ky
  | fl a=>cases n<;>cases ky
  | fd=>cases n<;>cases ky
 | n,.int i,y,v,_,ky,hx,hy=>by
  obtain⟨t,rfl⟩:=hx;cases y with
  | j_=>cases hy
  | bl c=>cases hy
  | int j=>obtain⟨u,e⟩:=hy;cases e;simp[aA]
  | str z=>obtain⟨u,e⟩:=hy;cases e
  | tup ds=>obtain⟨_,_,_,_,e,_⟩:=hy;cases e
  | fn a=>cases n<;>cases ky
  | fl a=>cases n<;>cases ky
  | fd=>cases n<;>cases ky
 | n,.str i,y,v,_,ky,hx,hy=>by
  obtain⟨t,rfl⟩:=hx;cases y with
  | j_=>cases hy
  | bl c=>cases hy
  | int j=>obtain⟨u,e⟩:=hy;cases e
  | str z=>obtain⟨u,e⟩:=hy;cases e;simp[aA]
  | tup ds=>obtain⟨_,_,_,_,e,_⟩:=hy;cases e
  | fn a=>cases n<;>cases ky
  | fl a=>cases n<;>cases ky
  | fd=>cases n<;>cases ky
 | n+1,.tup ds,y,v,kx,ky,hx,hy=>by
  obtain⟨a,o,items,m,rfl,h1,h2,h3,h4⟩:=hx;cases y with
  | j_=>cases hy
  | bl c=>cases hy
  | int j=>obtain⟨u,e⟩:=hy;cases e
  | str z=>obtain⟨u,e⟩:=hy;cases e
  | fn a=>cases ky
  | fl a=>cases ky
  | fd=>cases ky
  | tup es=>
   obtain⟨a',o',x_,m',e,g1,g2,g3,g4⟩:=hy;cases e;rw[h1] at g1;cases g1;rw[h3] at g3;injection g3 with g3 _;subst g3;have all:∀ (ds es:List Im) (vs:List Value),Im.pls n ds=true->Im.pls n es=true->aO h ds vs->aO h es vs->bD ds es=true:=by
    intro ds;induction ds with
    | nil=>
     intro es vs _ _ a b;cases es with
     | nil=>rfl
     | cons e es=>obtain⟨_,_,q,_⟩:=b;rw[show vs=[] from a] at q;cases q
    | cons d ds ih=>
     intro es vs k1 k2 a b;obtain⟨v,r,rfl,a1,a2⟩:=a;cases es with
     | nil=>cases (show v::r=[] from b)
     | cons e es=>
      obtain⟨v',r',q,b1,b2⟩:=b;cases q;rw[Im.pls,and_eq_true] at k1 k2;rw[bD,oG n k1.1 k2.1 a1 b1,ih es r k1.2 k2.2 a2 b2];rfl
   rw[aA];exact all ds es _ kx ky h4 g4
 | n,.fn _,_,_,k,_,_,_=>by cases n<;>cases k
 | n,.fl _,_,_,k,_,_,_=>by cases n<;>cases k
 | n,.fd,_,_,k,_,_,_=>by cases n<;>cases k
 | 0,.tup _,_,_,k,_,_,_=>by cases k
theorem iB{e:Nat->Bool}:∀ {ds es:List Im},(∀ (j:Nat) (x y:Im),ds[j]?=some x->es[j]?=some y->e j=aA x y)->((range<|min ds.length es.length).all e && ds.length == es.length)=bD ds es:=by
 have key:∀ (ds es:List Im) (f:Nat->Bool),(∀ (j:Nat) (x y:Im),ds[j]?=some x->es[j]?=some y->f j=aA x y)->((range<|min ds.length es.length).all f && ds.length == es.length)=bD ds es:=by
  intro ds;induction ds with
  | nil=>intro es f _;cases es<;>simp[bD]
  | cons d ds ih=>
   intro es f h;cases es with
   | nil=>simp[bD]
   | cons c es=>
    have:=ih es (fun j=>f<|j+1) fun j x y a b=>h (j+1) x y (by simpa using a) (by simpa using b);rw[bD,<- this,<- h 0 d c rfl rfl];rw[length_cons,length_cons,show min (ds.length+1) (es.length+1)=min ds.length es.length+1 by lia,List.range_succ_eq_map,List.all_cons,all_map,Bool.and_assoc];congr 2;rw[Bool.eq_iff_iff];simp
 exact fun {ds es} h=>key ds es e h
theorem dg{s:Shared}:∀ (n:Nat) {A:Around}{x y:Im}{u v:Value},Im.pl n x=true->Im.pl n y=true->A.units+n+1<cLine->EH s.heap x u->EH s.heap y v->SeqAt.EqAt A s u v (aA x y)
 | n,A,.j_,y,u,v,_,ky,hu,hx,hy=>by
  cases (show u=.none from hx);cases y with
  | j_=>cases (show v=.none from hy);exact SeqAt.EqAt.same _
  | bl b=>cases (show v=.bool b from hy);exact SeqAt.EqAt.none_bool b
  | int j=>obtain⟨t,rfl⟩:=hy;exact SeqAt.EqAt.none_int j t
  | str z=>obtain⟨t,rfl⟩:=hy;exact SeqAt.EqAt.none_str z t
  | tup ds=>obtain⟨a,o,items,m,rfl,h1,h2,h3,_⟩:=hy;exact SeqAt.EqAt.none_tuple ⟨o,h1,h2,m,h3⟩ (by lia)
  | fn a=>cases n<;>cases ky
  | fl a=>cases n<;>cases ky
  | fd=>cases n<;>cases ky
 | n,A,.bl b,y,u,v,_,ky,hu,hx,hy=>by
  cases (show u=.bool b from hx);cases y with
  | j_=>cases (show v=.none from hy);exact SeqAt.EqAt.bool_none b
  | bl c=>cases (show v=.bool c from hy);exact SeqAt.EqAt.bool_bool b c
  | int j=>obtain⟨t,rfl⟩:=hy;exact SeqAt.EqAt.bool_int b j t
  | str z=>obtain⟨t,rfl⟩:=hy;exact SeqAt.EqAt.bool_str b z t
  | tup ds=>obtain⟨a,o,items,m,rfl,h1,h2,h3,_⟩:=hy;exact SeqAt.EqAt.bool_tuple b ⟨o,h1,h2,m,h3⟩ (by lia)
  | fn a=>cases n<;>cases ky
  | fl a=>cases n<;>cases ky
  | fd=>cases n<;>cases ky
 | n,A,.int i,y,u,v,_,ky,hu,hx,hy=>by
  obtain⟨t0,rfl⟩:=hx;cases y with
  | j_=>cases (show v=.none from hy);exact SeqAt.EqAt.int_none i t0
  | bl c=>cases (show v=.bool c from hy);exact SeqAt.EqAt.int_bool i t0 c
  | int j=>obtain⟨t,rfl⟩:=hy;exact SeqAt.EqAt.int_int i t0 j t
  | str z=>obtain⟨t,rfl⟩:=hy;exact SeqAt.EqAt.int_str i t0 z t
  | tup ds=>obtain⟨a,o,items,m,rfl,h1,h2,h3,_⟩:=hy;exact SeqAt.EqAt.int_tuple i t0 ⟨o,h1,h2,m,h3⟩ (by lia)
  | fn a=>cases n<;>cases ky
  | fl a=>cases n<;>cases ky
  | fd=>cases n<;>cases ky
 | n,A,.str i,y,u,v,_,ky,hu,hx,hy=>by
  obtain⟨t0,rfl⟩:=hx;cases y with
  | j_=>cases (show v=.none from hy);exact SeqAt.EqAt.str_none i t0
  | bl c=>cases (show v=.bool c from hy);exact SeqAt.EqAt.str_bool i t0 c
  | int j=>obtain⟨t,rfl⟩:=hy;exact SeqAt.EqAt.str_int i t0 j t
  | str z=>obtain⟨t,rfl⟩:=hy;exact SeqAt.EqAt.str_str i t0 z t
  | tup ds=>obtain⟨a,o,items,m,rfl,h1,h2,h3,_⟩:=hy;exact SeqAt.EqAt.str_tuple i t0 ⟨o,h1,h2,m,h3⟩ (by lia)
  | fn a=>cases n<;>cases ky
  | fl a=>cases n<;>cases ky
  | fd=>cases n<;>cases ky
 | n+1,A,.tup ds,y,u,v,kx,ky,hu,hx,hy=>by
  have Gx:=hx;obtain⟨a,o,items,m,rfl,h1,h2,h3,h4⟩:=hx;have ta:s.heap.IsTuple a items:=⟨o,h1,h2,m,h3⟩;cases y with
  | j_=>cases (show v=.none from hy);exact SeqAt.EqAt.tuple_none ta (by lia)
  | bl c=>cases (show v=.bool c from hy);exact SeqAt.EqAt.tuple_bool c ta (by lia)
  | int j=>obtain⟨t,rfl⟩:=hy;exact SeqAt.EqAt.tuple_int j t ta (by lia)
  | str z=>obtain⟨t,rfl⟩:=hy;exact SeqAt.EqAt.tuple_str z t ta (by lia)
  | fn a=>cases ky
  | fl a=>cases ky
  | fd=>cases ky
  | tup es=>
   have PL:=hy;obtain⟨b,o',x_,m',rfl,g1,g2,g3,g4⟩:=hy;by_cases e:a=b
   ·subst e;rw[oG (n+1) kx ky Gx PL];exact SeqAt.EqAt.same _
   ·have tb:s.heap.IsTuple b x_:=⟨o',g1,g2,m',g3⟩;have l1:=h4.length;have l2:=g4.length;have l3:items.toList.length=items.size:=by simp
    have l4:x_.toList.length=x_.size:=by simp
    rw[l3] at l1;rw[l4] at l2;have q:=SeqAt.EqAt.of_refs (A:=A) e (SeqAt.RcAt.tuples (e:=fun j=>aA (ds.getD j .j_)<|es.getD j .j_) ta tb (by lia) fun j j1 j2=>by
     obtain⟨d1,e1,r1⟩:=h4.get (j:=j) (v:=items[j]) (by rw[getElem?_toList];simp[j1]);obtain⟨d2,e2,r2⟩:=g4.get (j:=j) (v:=x_[j]) (by rw[getElem?_toList];simp[j2]);rw[getD_eq_getElem?_getD,e1,getD_eq_getElem?_getD,e2];exact dg n (dq kx e1) (dq ky e2) (by show A.units+1+n+1<cLine;lia) r1 r2)
    rw[<- l1,<- l2,iB (ds:=ds) (es:=es) (fun j x y a b=>by rw[getD_eq_getElem?_getD,a,getD_eq_getElem?_getD,b];rfl)] at q;rw[aA];exact q
 | n,A,.fn _,_,_,_,k,_,_,_,_=>by cases n<;>cases k
 | n,A,.fl _,_,_,_,k,_,_,_,_=>by cases n<;>cases k
 | n,A,.fd,_,_,_,k,_,_,_,_=>by cases n<;>cases k
 | 0,A,.tup _,_,_,_,k,_,_,_,_=>by cases k
mutual
theorem lF:∀ {n:Nat}{d:Im},Im.key n d=true->Im.pl n d=true
 | n,.int _,_=>by cases n<;>rfl
 | n,.str _,_=>by cases n<;>rfl
 | n+1,.tup ds,h=>by rw[Im.key] at h;rw[Im.pl];exact oH h
 | 0,.tup _,h=>by cases h
 | n,.j_,h=>by cases n<;>cases h
 | n,.bl _,h=>by cases n<;>cases h
 | n,.fn _,h=>by cases n<;>cases h
 | n,.fl _,h=>by cases n<;>cases h
 | n,.fd,h=>by cases n<;>cases h
theorem oH:∀ {n:Nat}{ds:List Im},Im.keys n ds=true->Im.pls n ds=true
 | n,[],_=>by rw[Im.pls]
 | n,d::ds,h=>by rw[Im.keys,and_eq_true] at h;rw[Im.pls,lF h.1,oH h.2];rfl
end
mutual
theorem oI:∀ {n:Nat}{x y:Im},Im.key n x=true->Im.key n y=true->aA x y=decide (x=y)
 | n,.int i,y,_,hy=>by
  cases y with
  | int j=>rw[aA];by_cases e:i=j<;>simp[e]
  | str z=>simp[aA]
  | tup z=>simp[aA]
  | _=>cases n<;>cases hy
 | n,.str i,y,_,hy=>by
  cases y with
  | int j=>simp[aA]
  | str z=>rw[aA];by_cases e:i=z<;>simp[e]
  | tup z=>simp[aA]
  | _=>cases n<;>cases hy
 | n+1,.tup ds,y,hx,hy=>by
  cases y with
  | int j=>simp[aA]
  | str z=>simp[aA]
  | tup es=>
   rw[Im.key] at hx hy;rw[aA,lG hx hy];simp
  | _=>cases hy
 | 0,.tup _,_,h,_=>by cases h
 | n,.j_,_,h,_=>by cases n<;>cases h
 | n,.bl _,_,h,_=>by cases n<;>cases h
 | n,.fn _,_,h,_=>by cases n<;>cases h
 | n,.fl _,_,h,_=>by cases n<;>cases h
 | n,.fd,_,h,_=>by cases n<;>cases h
theorem lG:∀ {n:Nat}{x y:List Im},Im.keys n x=true->Im.keys n y=true->bD x y=decide (x=y)
 | n,[],y,_,_=>by cases y<;>simp[bD]
 | n,d::ds,[],_,_=>by simp[bD]
 | n,d::ds,e::es,hx,hy=>by
  rw[Im.keys,and_eq_true] at hx hy;rw[bD,oI hx.1 hy.1,lG hx.2 hy.2];by_cases h1:d=e<;>by_cases h2:ds=es<;>simp[h1,h2]
end
theorem jH:∀ (n:Nat) {A:Around}{E:Value->Shared->Prop}{s:Shared}{d:Im}{v:Value}{Q:Bool->Shared->Prop},Im.key n d=true->EH s.heap d v->Q true s->wpAny (model prog w) A (eqIsQuiet n v) Q E s
 | n,A,E,s,.int i,v,Q,_,hv,h=>by
  obtain⟨t,rfl⟩:=hv;rw[eqIsQuiet_byValue n rfl];exact wpAny_pure h
 | n,A,E,s,.str i,v,Q,_,hv,h=>by
  obtain⟨t,rfl⟩:=hv;rw[eqIsQuiet_byValue n rfl];exact wpAny_pure h
 | n+1,A,E,s,.tup ds,v,Q,k,hv,h=>by
  obtain⟨a,o,items,m,rfl,ho,hc,hd,hi⟩:=hv;have hT:s.TypeIs (.ref a) "tuple" := ⟨o,ho,hc⟩;unfold eqIsQuiet;refine wpAny_bind (wpAny_specialOf hT F.slot_tuple_eq.lookup ?_);show wpAny _ _ (isInstance (.ref a) (.type "tuple") >>= _) _ _ s;refine wpAny_bind (wpAny_isInstance hT isSubtype_tuple_tuple ?_);simp only[Bool.not_true,false_eq_true,if_false];refine wpAny_bind (wpAny_seqItems ho hd ?_);refine wpAny_bind ?_;show wpAny _ _ (forIn items _ _) _ _ s;rw[<- forIn_toList];rw[Im.key] at k;refine wpAny_forIn_list _ (fun rest r s'=>r.1=none/\s'=s/\∃ left,Im.keys n left=true/\aO s.heap left rest) _ ?_ ?_ _ _ ⟨rfl,rfl,ds,k,hi⟩
  ·rintro v rest r s' ⟨hr,rfl,left,hk,hl⟩;cases left with
   | nil=>cases (show v::rest=[] from hl)
   | cons d left=>
    obtain⟨v',r',e,h1,Fm⟩:=hl;cases e;rw[Im.keys,and_eq_true] at hk;refine wpAny_bind (jH n hk.1 h1 ?_);simp only[Bool.not_true,false_eq_true,if_false];exact wpAny_pure ⟨rfl,rfl,left,hk.2,Fm⟩
  ·rintro⟨r1,r2⟩ s' ⟨hr,rfl,_⟩;simp only at hr;subst hr;exact wpAny_pure h
 | _,_,_,_,.j_,_,_,k,_,_=>by cases ‹Nat›<;>cases k
 | _,_,_,_,.bl _,_,_,k,_,_=>by cases ‹Nat›<;>cases k
 | _,_,_,_,.fn _,_,_,k,_,_=>by cases ‹Nat›<;>cases k
 | _,_,_,_,.fl _,_,_,k,_,_=>by cases ‹Nat›<;>cases k
 | _,_,_,_,.fd,_,_,k,_,_=>by cases ‹Nat›<;>cases k
 | 0,_,_,_,.tup _,_,_,k,_,_=>by cases k
def be(prog:Program)(w:World):HeapKind prog w (List Im) where
 is:=fun h ds a=>Im.keys 7 ds=true/\EH h (.tup ds) (.ref a)
 hash:=fun ds=>Es w (.tup ds)
 draws:=fun ds=>Mc (.tup ds)
 room:=fun A=>A.units+10<cLine
 inj:=fun hx hy=>by
  have:=oE 8 (x:=.tup _) (y:=.tup _) hx.1 hy.1 hx.2 hy.2;injection this
 keeps:=fun {h h' k a d o es ep} x ho hd hs=>⟨x.1,x.2.keep fun b u items n hb hc Js=>by
  have Ip:b≠d:=by
   rintro rfl;rw[ho] at hb;cases hb;rw[hd] at Js;cases Js
  exact (hs.2 b Ip).trans hb⟩
 pyHash:=fun hu hk h=>oF 8 (d:=.tup _) hk.1 (show _ < _ by have:_+10<cLine:=hu;lia) hk.2 h
 eqBool:=fun {A E s x y a b Q} hu hx hy h=>by
  have q:=dg (s:=s) 8 (A:=A) (x:=.tup x) (y:=.tup y) (lF (n:=8) (d:=.tup x) hx.1) (lF (n:=8) (d:=.tup y) hy.1) (show _ < _ by have:A.units+10<cLine:=hu;lia) hx.2 hy.2;rw[oI (n:=8) (x:=.tup x) (y:=.tup y) hx.1 hy.1] at q;exact q _ _ E Q (by simpa using h)
 quiet:=fun hk h=>jH 8 (d:=.tup _) hk.1 hk.2 h
end
abbrev Key:=Sum Int Str
def gx:Key->Value->Bool
 | .inl k,v=>Value.isInt k v
 | .inr x,v=>Value.isStrOf x v
def uN(w:World):Key->Int
 | .inl k=>hashInt k
 | .inr x=>hashStr w x
theorem dX:∀ {k:Key}{v:Value},gx k v=true->(∃ i t,k=Sum.inl i/\v=Value.int i t)\/(∃ x t,k=Sum.inr x/\v=Value.str x t)
 | .inl i,v,h=>by
  obtain⟨t,e⟩:=Value.isInt_shape (k:=i) (v:=v) h;exact .inl ⟨i,t,rfl,e⟩
 | .inr x,v,h=>by
  obtain⟨t,e⟩:=Value.isStrOf_shape (x:=x) (v:=v) h;exact .inr ⟨x,t,rfl,e⟩
theorem uO(i:Int)(t:Tok):gx (.inl i) (.int i t)=true:=by simp[gx,Value.isInt]
theorem uP(x:Str)(t:Tok):gx (.inr x) (.str x t)=true:=by simp[gx,Value.isStrOf]
theorem uQ(a b:Int):decide ((Sum.inl a:Key)=Sum.inl b)=(a == b):=by
 by_cases e:a=b
 ·subst e;simp
 ·have h:¬ (Sum.inl a:Key)=Sum.inl b:=fun q=>e (Sum.inl.inj q);rw[decide_eq_false h];exact (beq_eq_false_iff_ne.mpr e).symm
theorem uR(a b:Str):decide ((Sum.inr a:Key)=Sum.inr b)=decide (a=b):=by
 by_cases e:a=b
 ·subst e;simp
 ·have h:¬ (Sum.inr a:Key)=Sum.inr b:=fun q=>e (Sum.inr.inj q);rw[decide_eq_false h,decide_eq_false e]
theorem uS(a:Int)(b:Str):decide ((Sum.inl a:Key)=Sum.inr b)=false:=decide_eq_false (fun q=>nomatch q)
theorem uT(a:Str)(b:Int):decide ((Sum.inr a:Key)=Sum.inl b)=false:=decide_eq_false (fun q=>nomatch q)
def eF(prog:Program)(w:World):PySem.KeyKind prog w Key where
 is:=gx
 hash:=uN w
 inj:=fun v a b ha hb=>by
  rcases dX ha with ⟨i,t,rfl,rfl⟩ | ⟨x,t,rfl,rfl⟩
  ·rcases dX hb with ⟨j,u,rfl,e⟩ | ⟨y,u,rfl,e⟩
   ·injection e with e1 _;rw[e1]
   ·exact nomatch e
  ·rcases dX hb with ⟨j,u,rfl,e⟩ | ⟨y,u,rfl,e⟩
   ·exact nomatch e
   ·injection e with e1 _;rw[e1]
 byValue:=fun k v h=>by
  rcases dX h with ⟨i,t,rfl,rfl⟩ | ⟨x,t,rfl,rfl⟩<;>rfl
 pyHash:=fun hv h=>by
  rcases dX hv with ⟨i,t,rfl,rfl⟩ | ⟨x,t,rfl,rfl⟩
  ·exact wpAny_pyHash_int h
  ·exact wpAny_pyHash_str h
 eqBool:=fun hu hv h=>by
  rcases dX hu with ⟨i,t,rfl,rfl⟩ | ⟨x,t,rfl,rfl⟩
  ·rcases dX hv with ⟨j,u,rfl,rfl⟩ | ⟨y,u,rfl,rfl⟩
   ·rw[uQ] at h;exact wpAny_eqBool_int h
   ·rw[uS] at h;exact SeqAt.EqAt.int_str i t y u _ _ _ _ h
  ·rcases dX hv with ⟨j,u,rfl,rfl⟩ | ⟨y,u,rfl,rfl⟩
   ·rw[uT] at h;exact SeqAt.EqAt.str_int x t j u _ _ _ _ h
   ·rw[uR] at h;exact wpAny_eqBool_str h
 «strs»:=fun k x t v h=>by
  rcases dX h with ⟨i,u,rfl,e⟩ | ⟨y,u,rfl,e⟩
  ·exact nomatch e
  ·injection e with e1 _;subst e1;cases v<;>rfl
theorem uU(prog:Program)(w:World)(i:Int)(t:Tok):(eF prog w).is (.inl i) (.int i t)=true:=uO i t
theorem uV(prog:Program)(w:World)(x:Str)(t:Tok):(eF prog w).is (.inr x) (.str x t)=true:=uP x t
inductive V where
 | j_ | bl (b:Bool) | int (i:Int) | str (x:Str) | KF (b:Array UInt8) | MR (b:UInt64) | ref (a:Addr) | ty (n:String)
 deriving DecidableEq
variable{vs xs:List V}{y v:V}
def aw:V->Value->Prop
 | .j_,u=>u=Value.none
 | .bl b,u=>u=Value.bool b
 | .int i,u=>∃ t,u=Value.int i t
 | .str x,u=>∃ t,u=Value.str x t
 | .KF b,u=>∃ t,u=Value.bytes b t
 | .MR b,u=>∃ t,u=Value.float b t
 | .ref a,u=>u=Value.ref a
 | .ty n,u=>u=Value.type n
abbrev au:List V->List Value->Prop:=Paired aw
theorem au.length(r:au xs us):xs.length=us.length:=Paired.length r
theorem au.get:∀ {xs:List V}{us:List Value}{i:Nat}{x:V},au xs us->xs[i]?=some x->∃ u,us[i]?=some u/\aw x u
 | _,_,_,_,.nil,e=>by simp at e
 | _,_,0,_,.cons r _,e=>by simp at e;subst e;exact⟨_,rfl,r⟩
 | _,_,i+1,x,.cons _ t,e=>by
  obtain⟨u,h1,h2⟩:=au.get (i:=i) (x:=x) t (by simpa using e);exact⟨u,by simpa using h1,h2⟩
theorem au.set{x:V}{u:Value}(r:aw x u):∀ {xs:List V}{us:List Value} (i:Nat),au xs us->au (xs.set i x) (us.set i u)
 | _,_,_,.nil=>.nil
 | _,_,0,.cons _ t=>.cons r t
 | _,_,i+1,.cons q t=>.cons q (au.set r i t)
theorem au.append:∀ {xs ys:List V}{us ws:List Value},au xs us->au ys ws->au (xs++ys) (us++ws)
 | _,_,_,_,.nil,s=>s
 | _,_,_,_,.cons r t,s=>.cons r (au.append t s)
theorem au.take:∀ {xs:List V}{us:List Value} (n:Nat),au xs us->au (xs.take n) (us.take n)
 | _,_,0,_=>.nil
 | _,_,_+1,.nil=>.nil
 | _,_,n+1,.cons r t=>.cons r (au.take n t)
theorem au.drop:∀ {xs:List V}{us:List Value} (n:Nat),au xs us->au (xs.drop n) (us.drop n)
 | _,_,0,r=>r
 | _,_,_+1,.nil=>.nil
 | _,_,n+1,.cons _ t=>au.drop n t
def dF:Option V->Option Value->Prop
 | some v,some u=>aw v u
 | none,none=>True
 | _,_=>False
def KV{κ:Type}:List (κ×V)->List (κ×Value)->Prop:=Paired fun (p:κ×V) (q:κ×Value)=>p.1=q.1/\aw p.2 q.2
def kV:Key->V
 | .inl i=>.int i
 | .inr x=>.str x
inductive HO where
 | lst (xs:List V)
 | tup (xs:List V)
 | dK (kvs:List (Key×V)) | dT (kvs:List (List Im×V))
 | set (S:Int->Bool) (n:Nat)
 | ins (C dx:Addr) (fs:List (Str×V))
 | own (x:Addr)
 | xd (fs:List (Str×V))
 | met (f x:Addr)
 | MT (lo hi:Int)
 | Et (o:Obj) (u:HO)
 | Jt (ps:Array Value)
 | ext (φ:Heap->Prop)
variable{o:HO}
abbrev Hp:=Addr->Option HO
variable{H' H:Hp}
def upd(H:Hp)(a:Addr)(o:HO):Hp:=fun b=>if b=a then some o else H b
theorem bp:upd H a o a=some o:=by unfold upd;rw[if_pos rfl]
theorem aK(h:b≠a):upd H a o b=H b:=by unfold upd;rw[if_neg h]
theorem uW{u:HO}(h:H a=some o)(h':H b=some u)(d:o≠u):a≠b:=by
 intro e;subst e;rw[h] at h';exact d (Option.some.inj h')
theorem cj(h:H a=some o)(h':H b=none):a≠b:=by
 intro e;subst e;rw[h] at h';cases h'
mutual
def Ef(H:Hp):Im->V->Prop
 | .j_,v=>v=.j_
 | .bl b,v=>v=.bl b
 | .int i,v=>v=.int i
 | .str x,v=>v=.str x
 | .fn a,v=>v=.ref a
 | .fl ds,v=>∃ a xs o,v=.ref a/\H a=some (.Et o<|.lst xs)/\ak H ds xs
 | .fd,v=>∃ a o,v=.ref a/\H a=some (.Et o<|.dT [])
 | .tup ds,v=>∃ a xs,v=.ref a/\H a=some (.tup xs)/\ak H ds xs
def ak(H:Hp):List Im->List V->Prop
 | [],vs=>vs=[]
 | d::ds,vs=>∃ v r,vs=v::r/\Ef H d v/\ak H ds r
end
def iC(H H':Hp):Prop:=∀ a xs,H a=some (.tup xs)->H' a=some (.tup xs)
structure G8(H H':Hp):Prop where
 t:iC H H'
 z:∀ a o u,H a=some (.Et o u)->H' a=some (.Et o u)
instance {H H':Hp}:CoeFun (G8 H H') (fun _=>∀ a xs,H a=some (.tup xs)->H' a=some (.tup xs)):=⟨fun t=>t.t⟩
mutual
theorem Ef.mono{H H':Hp}(k:G8 H H'):∀ {d:Im}{v:V},Ef H d v->Ef H' d v
 | .j_,_,e=>e
 | .bl _,_,e=>e
 | .int _,_,e=>e
 | .str _,_,e=>e
 | .fn _,_,e=>e
 | .tup ds,_,e=>by
  obtain⟨a,xs,rfl,h1,h2⟩:=e;exact⟨a,xs,rfl,k.t a xs h1,ak.mono k h2⟩
 | .fl ds,_,e=>by
  obtain⟨a,xs,o,rfl,h1,h2⟩:=e;exact⟨a,xs,o,rfl,k.z a _ _ h1,ak.mono k h2⟩
 | .fd,_,e=>by
  obtain⟨a,o,rfl,h1⟩:=e;exact⟨a,o,rfl,k.z a _ _ h1⟩
theorem ak.mono{H H':Hp}(k:G8 H H'):∀ {ds:List Im}{vs:List V},ak H ds vs->ak H' ds vs
 | [],_,e=>e
 | d::ds,_,e=>by
  obtain⟨v,r,rfl,h1,h2⟩:=e;exact⟨v,r,rfl,Ef.mono k h1,ak.mono k h2⟩
end
def GN(H:Hp)(k:List Im)(b:Addr):Prop:=Im.keys 7 k=true/\Ef H (.tup k) (.ref b)
mutual
theorem Ef.Gd{H H':Hp}(k:iC H H'):∀ {d:Im}{n:Nat}{v:V},Im.key n d=true->Ef H d v->Ef H' d v
 | .j_,_,_,_,e=>e
 | .bl _,_,_,_,e=>e
 | .int _,_,_,_,e=>e
 | .str _,_,_,_,e=>e
 | .fn _,_,_,_,e=>e
 | .tup ds,n+1,_,q,e=>by
  obtain⟨a,xs,rfl,h1,h2⟩:=e;exact⟨a,xs,rfl,k a xs h1,ak.Gd k q h2⟩
 | .tup ds,0,_,q,e=>nomatch q
 | .fl ds,0,_,q,e=>nomatch q
 | .fl ds,n+1,_,q,e=>nomatch q
 | .fd,0,_,q,e=>nomatch q
 | .fd,n+1,_,q,e=>nomatch q
theorem ak.Gd{H H':Hp}(k:iC H H'):∀ {ds:List Im}{n:Nat}{vs:List V},Im.keys n ds=true->ak H ds vs->ak H' ds vs
 | [],_,_,_,e=>e
 | d::ds,n,_,q,e=>by
  obtain⟨v,r,rfl,h1,h2⟩:=e;rw[Im.keys,and_eq_true] at q;exact⟨v,r,rfl,Ef.Gd k q.1 h1,ak.Gd k q.2 h2⟩
end
theorem GN.mono{k:List Im}(h:GN H k b)(t:iC H H'):GN H' k b:=by
 obtain⟨h0,a,xs,e,h1,h2⟩:=h;exact⟨h0,a,xs,e,t a xs h1,h2.Gd t h0⟩
section
variable(P:Program)(w:World)
def bm(H:Hp)(h:Heap)(a:Addr):HO->Prop
 | .lst xs=>xs.length<=sizeLine/\∃ (e_:List Value) (n:Nat),au xs e_/\h.get? a=some { cls:=.type "list",data:=.seq e_.toArray n }
 | .tup xs=>xs.length<=sizeLine/\∃ e_:List Value,au xs e_/\IsTup h a e_.toArray
 | .dK kvs=>kvs.length<=sizeLine/\(a == sysModules)=false/\∃ vs,KV kvs vs/\h.DictOf (eF P w) a vs
 | .dT kvs=>kvs.length<=sizeLine/\(a == sysModules)=false/\∃ xs:List (List Im×Addr×Value),
   Paired (fun (p:List Im×V) (q:List Im×Addr×Value)=>p.1=q.1/\GN H p.1 q.2.1/\aw p.2 q.2.2) kvs xs/\
   ∃ o es ep,h.get? a=some o/\o.ExactDict/\o.data=.dict es ep/\es.toList=xs.map (entryOfKey<|be P w)/\(xs.map (·.1)).Nodup
 | .set S n=>h.SetOf (intKind P w) a S n
 | .ins C dx fs=>H dx=some (.own a)/\fs.length<=1000/\dx≠a/\h.get? a=some (PySem.W.instObj C dx)/\
   ∃ mA,h.Ns1 dx mA/\(∀ f,dF (fs.lookup f)<|mA f)/\PySem.Within mA (fs.map (·.1))
 | .own _=>∃ o,h.get? a=some o
 | .xd fs=>∃ mA,h.Ns1 a mA/\∀ f,dF (fs.lookup f) (mA f)
 | .MT lo hi=>∃ t u v,h.get? a=some { cls:=.type "range",data:=.fields #[.int lo t,.int hi u,.int 1 v] }
 | .Et o u=>h.get? a=some o/\bm H h a u
 | .Jt ps=>h.get? a=some { cls:=.none,data:=.fields ps }
 | .met f x=>h.get? a=some (PySem.W.methodObj (.ref f)<|.ref x)
 | .ext φ=>φ h/\(∃ o,h.get? a=some o)/\∀ h1 h2:Heap,φ h1->(∀ o,h1.get? a=some o->h2.get? a=some o)->φ h2
def EI(H:Hp)(h:Heap):Prop:=∀ a o,H a=some o->bm P w H h a o
end
section
variable{P:Program}{w:World}{H H':Hp}{h h':Heap}{a:Addr}{o:HO}
theorem bm.lt(x:bm P w H h a o):a<h.objs.size:=by
 cases o with
 | lst xs=>obtain⟨_,_,_,_,e⟩:=x;exact Heap.lt_size e
 | tup xs=>obtain⟨_,_,_,p⟩:=x;exact p.lt
 | dK kvs=>obtain⟨_,_,_,_,o,_,_,e,_⟩:=x;exact Heap.lt_size e
 | dT kvs=>obtain⟨_,_,_,_,o,_,_,e,_⟩:=x;exact Heap.lt_size e
 | set S n=>obtain⟨o,_,_,_,e,_⟩:=x;exact Heap.lt_size e
 | ins C dx fs=>obtain⟨_,_,_,e,_⟩:=x;exact Heap.lt_size e
 | own y=>obtain⟨_,e⟩:=x;exact Heap.lt_size e
 | xd fs=>obtain⟨_,⟨_,_,_,e,_⟩,_⟩:=x;exact Heap.lt_size e
 | MT lo hi=>obtain⟨_,_,_,e⟩:=x;exact Heap.lt_size e
 | Et ob u=>obtain⟨e,_⟩:=x;exact Heap.lt_size e
 | Jt ps=>exact Heap.lt_size (show h.get? a=some _ from x)
 | met f y=>exact Heap.lt_size (show h.get? a=some _ from x)
 | ext φ=>obtain⟨_,⟨_,e⟩,_⟩:=x;exact Heap.lt_size e
theorem Paired.Iq{α β:Type}{F G:α->β->Prop}:∀ {l₁:List α}{l₂:List β},Paired F l₁ l₂->(∀ a b,F a b->G a b)->Paired G l₁ l₂
 | _,_,.nil,_=>.nil
 | _,_,.cons r t,f=>.cons (f _ _ r) (Paired.Iq t f)
theorem bm.EU(x:bm P w H h a o)(k:∀ b u,(b=a\/H b=some (.own a))->h.get? b=some u->h'.get? b=some u)(ho:∀ b,H b=some (.own a)->H' b=some (.own a))(ht:∀ b xs,H b=some (.tup xs)->H' b=some (.tup xs)):bm P w H' h' a o:=by
 induction o with
 | lst xs=>obtain⟨z,e_,n,r,e⟩:=x;exact⟨z,e_,n,r,k _ _ (.inl rfl) e⟩
 | tup xs=>obtain⟨z,e_,r,ob,e,c⟩:=x;exact⟨z,e_,r,ob,k _ _ (.inl rfl) e,c⟩
 | dK kvs=>obtain⟨z,y,vs,r,ob,es,ep,e,c⟩:=x;exact⟨z,y,vs,r,ob,es,ep,k _ _ (.inl rfl) e,c⟩
 | dT kvs=>
  obtain⟨z,y,xs,r,ob,es,ep,e,c⟩:=x;exact⟨z,y,xs,Paired.Iq r fun p q z=>⟨z.1,z.2.1.mono ht,z.2.2⟩,ob,es,ep,k _ _ (.inl rfl) e,c⟩
 | set S n=>obtain⟨ob,es,ep,t,e,c⟩:=x;exact⟨ob,es,ep,t,k _ _ (.inl rfl) e,c⟩
 | ins C dx fs=>
  obtain⟨d,z,ne,e,mA,⟨od,es,ep,e2,c⟩,r⟩:=x;exact⟨ho _ d,z,ne,k _ _ (.inl rfl) e,mA,⟨od,es,ep,k _ _ (.inr d) e2,c⟩,r⟩
 | own y=>obtain⟨ob,e⟩:=x;exact⟨ob,k _ _ (.inl rfl) e⟩
 | xd fs=>obtain⟨mA,⟨od,es,ep,e,c⟩,r⟩:=x;exact⟨mA,⟨od,es,ep,k _ _ (.inl rfl) e,c⟩,r⟩
 | MT lo hi=>obtain⟨t,u,v,e⟩:=x;exact⟨t,u,v,k _ _ (.inl rfl) e⟩
 | Et ob u ih=>obtain⟨e,q⟩:=x;exact⟨k _ _ (.inl rfl) e,ih q⟩
 | Jt ps=>
  have e:h.get? a=some { cls:=.none,data:=.fields ps }:=x;show h'.get? a=some { cls:=.none,data:=.fields ps };exact k a _ (.inl rfl) e
 | met f y=>
  have e:h.get? a=some (PySem.W.methodObj (.ref f)<|.ref y):=x;show h'.get? a=some (PySem.W.methodObj (.ref f)<|.ref y);exact k a _ (.inl rfl) e
 | ext φ=>obtain⟨p,⟨o,e⟩,st⟩:=x;exact⟨st _ _ p fun o q=>k _ _ (.inl rfl) q,⟨o,k _ _ (.inl rfl) e⟩,st⟩
theorem EI.lt(x:EI P w H h)(e:H a=some o):a<h.objs.size:=(x a o e).lt
theorem EI.fresh(x:EI P w H h)(e:h.objs.size<=a):H a=none:=by
 cases q:H a with
 | none=>rfl
 | some u=>exact absurd (lt_of_lt_of_le (x.lt q) e) (lt_irrefl _)
theorem EI.kept(x:EI P w H h)(k:∀ b u,h.get? b=some u->h'.get? b=some u):EI P w H h':=fun a o e=>
 (x a o e).EU (fun b u _ q=>k b u q) (fun _ q=>q) fun _ _ q=>q
theorem EI.laid(x:EI P w H h)(k:∀ b u,h.get? b=some u->h'.get? b=some u)(hp:h.objs.size<=a)(new:bm P w (upd H a o) h' a o):EI P w (upd H a o) h':=fun b u e=>by
 have hn:=x.fresh hp;by_cases hb:b=a
 ·subst hb;rw[bp] at e;cases e;exact new
 ·rw[aK hb] at e;exact (x b u e).EU (fun c v _ q=>k c v q) (fun c q=>by rw[aK (cj q hn)];exact q) fun c xs q=>by rw[aK (cj q hn)];exact q
end
def Rd(H:Hp)(a:Addr)(u:HO):Prop:=H a=some u\/∃ o,H a=some (.Et o u)
theorem Rd.ok{u:HO}(r:Rd H a u)(x:EI P w H h):bm P w H h a u:=by
 rcases r with r | ⟨o,r⟩
 ·exact x a u r
 ·obtain⟨_,q⟩:=x a _ r;exact q
def KG:Option HO->Prop
 | some (.lst _)=>True
 | some (.dK _)=>True
 | some (.dT _)=>True
 | some (.set _ _)=>True
 | some (.ins _ _ _)=>True
 | some (.ext _)=>True
 | _=>False
section
variable{P:Program}{w:World}{H:Hp}{h h':Heap}{x e:Addr}{o':HO}
theorem EI.write(ok:EI P w H h)(mu:KG (H x))(he:e=x\/H e=some (.own x))(k:∀ b u,b≠e->h.get? b=some u->h'.get? b=some u)(Ki:∃ u,h'.get? e=some u)(new:bm P w (upd H x o') h' x o'):EI P w (upd H x o') h':=fun b u q=>by
 have KH:∀ c y,H c=some (.own y)->c≠x:=fun c y r z=>by subst z;rw[r] at mu;exact mu
 have MU:∀ c xs,H c=some (.tup xs)->c≠x:=fun c xs r z=>by subst z;rw[r] at mu;exact mu
 by_cases hb:b=x
 ·subst hb;rw[bp] at q;cases q;exact new
 ·rw[aK hb] at q;by_cases Ju:b=e
  ·have q':H b=some (.own x):=by
    rcases he with z | z
    ·exact absurd (Ju.trans z) hb
    ·rw[Ju];exact z
   rw[q] at q';cases q';obtain⟨v,hv⟩:=Ki;exact⟨v,by rw[Ju];exact hv⟩
  ·refine (ok b u q).EU (fun c v hc r=>k c v ?_ r) (fun c r=>by rw[aK (KH c b r)];exact r) fun c xs r=>by rw[aK (MU c xs r)];exact r
   rcases hc with rfl | hc
   ·exact Ju
   ·rintro rfl;rcases he with z | z
    ·exact KH c b hc z
    ·rw[hc] at z;cases z;exact hb rfl
end
structure Un(fs ex:List Addr)(H H':Hp)(h h':Heap):Prop where
 keep:∀ b o,h.get? b=some o->H b=none->b∉fs->b∉ex->h'.get? b=some o
 slot:∀ b o,h.get? b=some o->H b=none->b∈fs->b∉ex->∃ sl,h'.get? b=some { o with slots:=sl }
 free:∀ b o,h.get? b=some o->H b=none->b∉ex->H' b=none
 there:∀ b o,h.get? b=some o->b∉ex->∃ o',h'.get? b=some o'
 FC:∀ b xs,H b=some (.tup xs)->H' b=some (.tup xs)
 Fp:∀ b o u,H b=some (.Et o u)->H' b=some (.Et o u)
 FR:∀ b ps,H b=some (.Jt ps)->∃ more,H' b=some (.Jt<|ps++more)
section
variable{fs PM ex Sc:List Addr}{H H1 H2:Hp}{h h1 h2 h':Heap}{a x e:Addr}{o:HO}
theorem Un.any(u:Un fs ex H H1 h h1){b:Addr}{ob:Obj}(q:h.get? b=some ob)(n:H b=none)(hx:b∉ex):∃ sl,h1.get? b=some { ob with slots:=sl }:=by
 by_cases hb:b∈fs
 ·exact u.slot b ob q n hb hx
 ·exact⟨ob.slots,u.keep b ob q n hb hx⟩
theorem Un.kept(k:∀ b u,h.get? b=some u->h'.get? b=some u):Un fs ex H H h h':=
 ⟨fun b ob q _ _ _=>k b ob q,fun b ob q _ _ _=>⟨ob.slots,k b ob q⟩,fun _ _ _ n _=>n,fun b ob q _=>⟨ob,k b ob q⟩,fun _ _ q=>q,fun _ _ _ q=>q,fun _ ps q=>⟨#[],by rw[q];simp⟩⟩
theorem Un.refl:Un fs ex H H h h:=Un.kept fun _ _ q=>q
theorem Un.laid(k:∀ b u,h.get? b=some u->h'.get? b=some u)(hp:h.objs.size<=a)(hn:H a=none):Un fs ex H (upd H a o) h h' where
 keep:=fun b u q _ _ _=>k b u q
 slot:=fun b u q _ _ _=>⟨u.slots,k b u q⟩
 free:=fun b u q n _=>by rw[aK (ne_of_lt<|lt_of_lt_of_le (Heap.lt_size q) hp)];exact n
 there:=fun b u q _=>⟨u,k b u q⟩
 FC:=fun b xs q=>by rw[aK (cj q hn)];exact q
 Fp:=fun b u xs q=>by rw[aK (cj q hn)];exact q
 FR:=fun b ps q=>⟨#[],by rw[aK (cj q hn),q];simp⟩
theorem Un.write(mu:KG (H x))(he:e=x\/H e=some (.own x))(k:∀ b u,b≠e->h.get? b=some u->h'.get? b=some u)(Ki:∃ u,h'.get? e=some u):Un fs ex H (upd H x o) h h':=by
 have hx:∀ b,H b=none->b≠x:=fun b n z=>by subst z;rw[n] at mu;exact mu
 have hb:∀ b,H b=none->b≠e:=fun b n z=>by
  subst z;rcases he with r | r
  ·exact hx b n r
  ·rw[n] at r;cases r
 have hm:∀ b u,H b=some u->¬ KG (some u)->b≠x:=fun b u q nm z=>by subst z;rw[q] at mu;exact nm mu
 refine⟨fun b u q n _ _=>k b u (hb b n) q,fun b u q n _ _=>⟨u.slots,k b u (hb b n) q⟩,fun b u q n _=>by rw[aK (hx b n)];exact n,fun b u q _=>?_,
  fun b xs q=>by rw[aK (hm b _ q fun z=>z)];exact q,fun b u xs q=>by rw[aK (hm b _ q fun z=>z)];exact q,fun b ps q=>⟨#[],by rw[aK (hm b _ q fun z=>z),q];simp⟩⟩;by_cases Ju:b=e
 ·subst Ju;exact Ki
 ·exact⟨u,k b u Ju q⟩
end
def Md(h:Heap)(H:Hp):List Addr:=(range h.objs.size).filter fun a=>(H a).isSome
def dY(h:Heap)(H:Hp):Heap:=PySem.W.hideAll h (Md h H)
theorem uX(h:Heap)(H:Hp):(dY h H).objs.size=h.objs.size:=PySem.W.hideAll_size _ _
theorem uY{o:Obj}(e:h.get? b=some o)(n:H b=none):(dY h H).get? b=some o:=
 PySem.W.hideAll_get _ e fun hm=>by
  have q:(H b).isSome=true:=(List.mem_filter.mp hm).2;rw[n] at q;simp at q
theorem uZ{o:Obj}(e:(dY h H).get? b=some o):h.get? b=some o/\H b=none:=by
 have e':h.get? b=some o:=PySem.W.of_hideAll (Md h H) e;refine⟨e',?_⟩;cases q:H b with
 | none=>rfl
 | some x=>
  have hm:b∈Md h H:=List.mem_filter.mpr ⟨mem_range.mpr<|Heap.lt_size e',by simp[q]⟩;have z:(dY h H).get? b=none:=PySem.W.hideAll_none (Md h H) hm;rw[z] at e;cases e
def u0(g h:Heap)(L:Addr):List (Addr×Obj):=(range h.objs.size).filterMap fun a=>if a=L\/(g.get? a).isSome=true then none else (h.get? a).map fun o=>(a,o)
def rest(g h:Heap)(L d:Addr):List (Addr×Obj):=(u0 g h L).filter fun p=>decide (p.1≠d)
structure Mod(K:PySem.W.Frag)(mg:Str->Option Value)(base:Heap):Prop where
 Me:K.In base
 glob:base.Ns mainGlobals mg
 blt:∃ mb,base.Ns builtinsNs mb/\∀ x:Str,x ≠ "__name__" -> mb x=bootBuiltins x
 nolimit:base.NoLimit
structure Cx where
 prog:Program
 w:World
 K:PySem.W.Frag
 mg:Str->Option Value
 base:Heap
 A:Around
 N:List Str
 s₀:Shared
 H₀:Hp
 env:Env
 outer:List Env
 stack:List Env
 ex:List Addr
 fn:Str->Bool
 calm:Bool
 pn:List (Addr×Obj)
 xe:Value->Shared->Prop
variable{X:Cx}
def GO(l:List Env):List Addr:=l.filterMap (·.frame)
abbrev Cx.fs(X:Cx):List Addr:=GO X.outer
def Mf(sc:Scope)(x:Str):Prop:=sc.names.lookup x=some .local\/sc.names.lookup x=some .cell\/sc.names.lookup x=some .free
def Loc(sc:Scope)(x:Str):Prop:=sc.names.lookup x=some .local\/sc.names.lookup x=some .cell
def u6(env:Env)(h:Heap)(m:Str->Option Value)(x:Str)(u:Value):Prop:=
 (env.kindOf x=some .local/\m x=some u)\/((env.kindOf x=some .cell\/env.kindOf x=some .free)/\∃ c,env.cells.lookup x=some c/\h.IsCell c (some u))
structure Cx.Ok(X:Cx):Prop where
 mod:Mod X.K X.mg X.base
 kind:X.env.scope.kind=.function
 glob:X.env.globals=mainGlobals
 blt:X.env.builtins=builtinsNs
 above:X.s₀.heap.objs.size<=X.env.locals
 inj:∀ x y c,X.env.cells.lookup x=some c->X.env.cells.lookup y=some c->x=y
 has:∀ x,(X.env.kindOf x=some .cell\/X.env.kindOf x=some .free)->∃ c,X.env.cells.lookup x=some c
 Kj:∀ x c,X.fn x=true->X.env.cells.lookup x=some c->X.s₀.heap.objs.size<=c
 hd:X.calm=true->X.A.handled=none
 frames:X.A.frames=some X.stack
 KI:X.stack=X.outer\/(X.stack=X.env::X.outer/\X.env.frame=some X.env.locals)
 MV:∀ b∈X.ex,b≠X.env.locals/\∀ x c,X.env.cells.lookup x=some c->c≠b
 bs:∀ b o,X.base.get? b=some o->X.s₀.heap.get? b=some o/\X.H₀ b=none
 Ir:X.base.objs.size<=X.s₀.heap.objs.size
 G9:∀ b o,X.base.get? b=some o->b∉X.ex
 G':∀ b∈X.ex,b∉X.fs
 E4:X.s₀.heap.FunFrames X.base X.outer
 Jv:∀ b∈X.fs,X.H₀ b=none
structure Inv(X:Cx)(pins:List (Addr×Obj))(σ:List (Option V))(H:Hp)(s:Shared):Prop where
 ok:X.Ok
 os:s.os=X.s₀.os
 bare:AllBare s.gens
 base:Un X.fs X.ex X.H₀ H X.s₀.heap s.heap
 loc:∃ m,s.heap.Ns X.env.locals m/\∀ (i:Nat) (x:Str) (v:V),X.N[i]?=some x->σ[i]?=some (some v)->Mf X.env.scope x->∃ u,aw v u/\u6 X.env s.heap m x u
 cell:∀ x c,X.env.cells.lookup x=some c->∃ v,s.heap.IsCell c v
 free:H X.env.locals=none
 Eo:∀ x c,X.env.cells.lookup x=some c->H c=none
 pin:∀ p∈X.pn++pins,s.heap.get? p.1=some p.2/\H p.1=none/\p.1≠X.env.locals/\p.1∉X.fs/\∀ v,p.2.data≠.cell v
 l_:EI X.prog X.w H s.heap
 len:σ.length=X.N.length
section
variable{X:Cx}{pins:List (Addr×Obj)}{σ:List (Option V)}{H H':Hp}{s:Shared}{h':Heap}
theorem Cx.Ok.MW(ok:X.Ok){b:Addr}{o:Obj}(e:X.base.get? b=some o):b∉X.fs:=fun hb=>by
 have:=(ok.E4.mem hb).1;rw[e] at this;cases this
theorem Inv.bs(I:Inv X pins σ H s):∀ b o,X.base.get? b=some o->s.heap.get? b=some o/\H b=none:=fun b o e=>
 ⟨I.base.keep b o (I.ok.bs b o e).1 (I.ok.bs b o e).2 (I.ok.MW e) (I.ok.G9 b o e),I.base.free b o (I.ok.bs b o e).1 (I.ok.bs b o e).2 (I.ok.G9 b o e)⟩
theorem Inv.bk(I:Inv X pins σ H s):∀ b o,X.base.get? b=some o->s.heap.get? b=some o:=fun b o e=>(I.bs b o e).1
theorem Inv.mod(I:Inv X pins σ H s):Mod X.K X.mg X.base:=I.ok.mod
theorem Inv.Jw(I:Inv X pins σ H s):X.K.In s.heap:=I.ok.mod.Me.keeps I.bk
theorem Inv.lt(I:Inv X pins σ H s):X.env.locals<s.heap.objs.size:=let ⟨_,hn,_⟩:=I.loc;hn.lt
theorem Inv.sz(I:Inv X pins σ H s):X.s₀.heap.objs.size<=s.heap.objs.size:=Nat.le_trans I.ok.above (le_of_lt I.lt)
theorem Inv.MX(I:Inv X pins σ H s){a:Addr}(h:s.heap.objs.size<=a):a∉X.fs:=fun hb=>by
 obtain⟨_,o,ho,_⟩:=I.ok.E4.mem hb;exact absurd (lt_of_lt_of_le (Heap.lt_size ho)<|Nat.le_trans I.sz h) (lt_irrefl _)
theorem Inv.Jx(I:Inv X pins σ H s):∀ x c,X.env.cells.lookup x=some c->c≠X.env.locals:=fun x c e z=>by
 obtain⟨v,o,ho,hd⟩:=I.cell x c e;obtain⟨m,⟨o',es,ep,Jy,Js,_⟩,_⟩:=I.loc;rw[z,Jy] at ho;cases ho;rw[Js] at hd;cases hd
theorem Inv.E4(I:Inv X pins σ H s):s.heap.FunFrames X.base X.outer:=by
 have all:∀ (l:List Env),(∀ b∈GO l,b∈X.fs)->X.s₀.heap.FunFrames X.base l->s.heap.FunFrames X.base l:=by
  intro l;induction l with
  | nil=>intro _ _;trivial
  | cons env r ih=>
   intro hs hl;obtain⟨hk,⟨L,o,hf,hn,ho,hd⟩,hr⟩:=hl;have hL:L∈X.fs:=hs L (by unfold GO;rw[filterMap_cons,hf];exact mem_cons_self);obtain⟨sl,e⟩:=I.base.slot L o ho (I.ok.Jv L hL) hL fun z=>I.ok.G' L z hL;exact⟨hk,⟨L,_,hf,hn,e,hd⟩,ih (fun b hb=>hs b (by unfold GO;rw[filterMap_cons,hf];exact mem_cons_of_mem _ hb)) hr⟩
 exact all X.outer (fun _ hb=>hb) I.ok.E4
theorem Inv.stack(I:Inv X pins σ H s):s.heap.FunFrames X.base X.stack:=by
 rcases I.ok.KI with e | ⟨e,hf⟩
 ·rw[e];exact I.E4
 ·rw[e];obtain⟨m,hn,_⟩:=I.loc;refine .cons (by rw[I.ok.kind];decide) hf hn ?_ I.E4;exact Heap.get?_none_of_le (Nat.le_trans I.ok.Ir I.ok.above)
theorem Inv.Gy(I:Inv X pins σ H s):∀ b∈GO X.stack,b∈X.env.locals::X.fs:=fun b hb=>by
 rcases I.ok.KI with e | ⟨e,hf⟩
 ·rw[e] at hb;exact mem_cons_of_mem _ hb
 ·rw[e] at hb;unfold GO at hb;rw[filterMap_cons,hf] at hb;exact hb
theorem Inv.GP(I:Inv X pins σ H s):∀ b∈GO X.stack,H b=none:=fun b hb=>by
 rcases mem_cons.mp (I.Gy b hb) with e | hb
 ·rw[e];exact I.free
 ·obtain⟨_,o,ho,_⟩:=I.ok.E4.mem hb;exact I.base.free b o ho (I.ok.Jv b hb) fun z=>I.ok.G' b z hb
theorem Inv.step(I:Inv X pins σ H s)(Fh:∀ b∈ch,(b∈X.ex\/X.s₀.heap.objs.size<=b)/\b≠X.env.locals/\(∀ x c,X.env.cells.lookup x=some c->c≠b)/\∀ p∈X.pn++pins,p.1≠b)(keep:∀ b o,b≠X.env.locals->b∉X.fs->b∉ch->s.heap.get? b=some o->H b=none->h'.get? b=some o)(slot:∀ b o,b≠X.env.locals->b∈X.fs->b∉ch->s.heap.get? b=some o->H b=none->∃ sl,h'.get? b=some { o with slots:=sl })(free:∀ b o,b∉ch->s.heap.get? b=some o->H b=none->H' b=none)(there:∀ b o,b∉ch->s.heap.get? b=some o->∃ o',h'.get? b=some o')(FC:∀ b xs,H b=some (.tup xs)->H' b=some (.tup xs))(Fp:∀ b o u,H b=some (.Et o u)->H' b=some (.Et o u))(FR:∀ b ps,H b=some (.Jt ps)->∃ more,H' b=some (.Jt<|ps++more))(ns:∀ m,s.heap.Ns X.env.locals m->h'.Ns X.env.locals m)(l_:EI X.prog X.w H' h')(hg:AllBare g'):
  Inv X pins σ H' { s with heap:=h',gens:=g',drawn:=d',toks:=t' }:=by
 have OC:∀ b o,X.s₀.heap.get? b=some o->b≠X.env.locals:=fun b o e=>ne_of_lt (lt_of_lt_of_le (Heap.lt_size e) I.ok.above);have Mg:∀ b o,X.s₀.heap.get? b=some o->b∉X.ex->b∉ch:=fun b o e hx hb=>by
  rcases (Fh b hb).1 with z | z
  ·exact hx z
  ·exact absurd (lt_of_lt_of_le (Heap.lt_size e) z) (lt_irrefl _)
 have cellK:∀ x c,X.env.cells.lookup x=some c->∀ v,s.heap.IsCell c v->h'.IsCell c v:=fun x c e v ⟨o,ho,hd⟩=>by
  have KJ:c∉ch:=fun z=>(Fh c z).2.2.1 x c e rfl;by_cases hc:c∈X.fs
  ·obtain⟨sl,q⟩:=slot c o (I.Jx x c e) hc KJ ho (I.Eo x c e);exact⟨_,q,hd⟩
  ·exact⟨o,keep c o (I.Jx x c e) hc KJ ho<|I.Eo x c e,hd⟩
 refine⟨I.ok,I.os,hg,⟨fun b o e n hb hx=>?_,fun b o e n hb hx=>?_,fun b o e n hx=>?_,fun b o e hx=>?_,fun b xs e=>FC b xs<|I.base.FC b xs e,fun b o xs e=>Fp b o xs<|I.base.Fp b o xs e,fun b ps e=>?_⟩,?_,fun x c e=>?_,?_,fun x c e=>?_,fun p hp=>?_,l_,I.len⟩
 ·exact keep b o (OC b o e) hb (Mg b o e hx) (I.base.keep b o e n hb hx) (I.base.free b o e n hx)
 ·obtain⟨sl,e1⟩:=I.base.slot b o e n hb hx;obtain⟨MY,e2⟩:=slot b _ (OC b o e) hb (Mg b o e hx) e1 (I.base.free b o e n hx);exact⟨MY,e2⟩
 ·obtain⟨o',e1⟩:=I.base.there b o e hx;exact free b o' (Mg b o e hx) e1 (I.base.free b o e n hx)
 ·obtain⟨o',e1⟩:=I.base.there b o e hx;exact there b o' (Mg b o e hx) e1
 ·obtain⟨m1,e1⟩:=I.base.FR b ps e;obtain⟨m2,e2⟩:=FR b _ e1;exact⟨m1++m2,by rw[e2,Array.append_assoc]⟩
 ·obtain⟨m,hn,hl⟩:=I.loc;refine⟨m,ns m hn,fun i x v e1 e2 e3=>?_⟩;obtain⟨u,r,l⟩:=hl i x v e1 e2 e3;refine⟨u,r,?_⟩;rcases l with l | ⟨k,c,e,z⟩
  ·exact .inl l
  ·exact .inr ⟨k,c,e,cellK x c e _ z⟩
 ·obtain⟨v,z⟩:=I.cell x c e;exact⟨v,cellK x c e v z⟩
 ·obtain⟨m,⟨o,_,_,ho,_⟩,_⟩:=I.loc;exact free _ o (fun z=>(Fh _ z).2.1 rfl) ho I.free
 ·obtain⟨v,o,ho,hd⟩:=I.cell x c e;exact free c o (fun z=>(Fh c z).2.2.1 x c e rfl) ho (I.Eo x c e)
 ·obtain⟨e,n,ne,nf,d⟩:=I.pin p hp;have KJ:p.1∉ch:=fun z=>(Fh p.1 z).2.2.2 p hp rfl;exact⟨keep p.1 p.2 ne nf KJ e n,free p.1 p.2 KJ e n,ne,nf,d⟩
theorem Inv.un(I:Inv X pins σ H s)(u:Un X.fs [] H H' s.heap h')(l_:EI X.prog X.w H' h'):Inv X pins σ H' { s with heap:=h',toks:=t' }:=by
 obtain⟨m,⟨o,es,ep,ho,r⟩,_⟩:=id I.loc;obtain⟨sl,hL⟩:=u.any ho I.free (by simp);exact I.step (g':=s.gens) (d':=s.drawn) (ch:=[]) (fun _ z=>nomatch z) (fun b o _ hb _ e n=>u.keep b o e n hb (by simp)) (fun b o _ hb _ e n=>u.slot b o e n hb (by simp)) (fun b o _ e n=>u.free b o e n (by simp)) (fun b o _ e=>u.there b o e (by simp)) u.FC u.Fp u.FR (fun m' hm=>by
  obtain⟨o',es',MZ,Jy,r'⟩:=hm;rw[ho] at Jy;cases Jy;exact⟨_,es',MZ,hL,r'⟩) l_ I.bare
theorem Inv.call(I:Inv X pins σ H s)(u:Un (GO X.stack) ch H H' s.heap h')(l_:EI X.prog X.w H' h')(hg:AllBare g')(Fh:∀ b∈ch,(b∈X.ex\/X.s₀.heap.objs.size<=b)/\b≠X.env.locals/\(∀ x c,X.env.cells.lookup x=some c->c≠b)/\∀ p∈X.pn++pins,p.1≠b):
  Inv X pins σ H' { s with heap:=h',gens:=g',drawn:=d',toks:=t' }:=by
 obtain⟨m,⟨o,es,ep,ho,r⟩,_⟩:=id I.loc;obtain⟨sl,hL⟩:=u.any ho I.free fun z=>(Fh _ z).2.1 rfl;exact I.step (ch:=ch) Fh (fun b o hL hb hc e n=>u.keep b o e n (fun z=>(mem_cons.mp<|I.Gy b z).elim hL hb) hc) (fun b o _ _ hc e n=>u.any e n hc) (fun b o hc e n=>u.free b o e n hc) (fun b o hc e=>u.there b o e hc) u.FC u.Fp u.FR (fun m' hm=>by
  obtain⟨o',es',MZ,Jy,r'⟩:=hm;rw[ho] at Jy;cases Jy;exact⟨_,es',MZ,hL,r'⟩) l_ hg
theorem Inv.turned(I:Inv X pins σ H s)(k:∀ b o,b≠it->s.heap.get? b=some o->h'.get? b=some o)(hn:H it=none)(hL:it≠X.env.locals)(h1:it∈X.ex\/X.s₀.heap.objs.size<=it)(h2:∀ x c,X.env.cells.lookup x=some c->c≠it)(h3:∀ p∈X.pn++pins,p.1≠it):Inv X pins σ H { s with heap:=h',toks:=t' }:=by
 have OD:∀ b u,H b=some u->b≠it:=fun b u e z=>by rw[z,hn] at e;cases e
 refine I.step (g':=s.gens) (d':=s.drawn) (ch:=[it]) (fun b hb=>?_) (fun b o _ _ hc e _=>k b o (fun z=>hc (by simp[z])) e) (fun b o _ _ hc e _=>⟨o.slots,k b o (fun z=>hc (by simp[z])) e⟩) (fun _ _ _ _ n=>n)
  (fun b o hc e=>⟨o,k b o (fun z=>hc (by simp[z])) e⟩) (fun _ _ e=>e) (fun _ _ _ e=>e) (fun b ps e=>⟨#[],by rw[e];simp⟩) (fun m hm=>?_) (fun b u e=>?_) I.bare
 ·have e:b=it:=by simpa using hb
  subst e;exact⟨h1,hL,h2,h3⟩
 ·obtain⟨o,es,ep,ho,r⟩:=hm;exact⟨o,es,ep,k _ o (Ne.symm hL) ho,r⟩
 ·refine (I.l_ b u e).EU (fun c v hc q=>k c v ?_ q) (fun _ q=>q) fun _ _ q=>q;rcases hc with z | z
  ·rw[z];exact OD b u e
  ·exact OD c _ z
theorem Inv.tok(I:Inv X pins σ H s)(t:Nat):Inv X pins σ H { s with toks:=t }:=I.un (h':=s.heap) (t':=t) Un.refl I.l_
theorem Inv.kept(I:Inv X pins σ H s)(k:∀ b u,s.heap.get? b=some u->h'.get? b=some u):Inv X pins σ H { s with heap:=h',toks:=t' }:=I.un (Un.kept k) (I.l_.kept k)
theorem Inv.laid(I:Inv X pins σ H s)(k:∀ b u,s.heap.get? b=some u->h'.get? b=some u)(hp:s.heap.objs.size<=a)(new:bm X.prog X.w (upd H a o) h' a o):
  Inv X pins σ (upd H a o) { s with heap:=h',toks:=t' }:=I.un (Un.laid k hp<|I.l_.fresh hp) (I.l_.laid k hp new)
theorem Inv.write{x e:Addr}(I:Inv X pins σ H s)(mu:KG (H x))(he:e=x\/H e=some (.own x))(k:∀ b u,b≠e->s.heap.get? b=some u->h'.get? b=some u)(Ki:∃ u,h'.get? e=some u)(new:bm X.prog X.w (upd H x o) h' x o):Inv X pins σ (upd H x o) { s with heap:=h',toks:=t' }:=I.un (Un.write mu he k Ki) (I.l_.write mu he k Ki new)
theorem Inv.weak{σ':List (Option V)}(I:Inv X pins σ H s)(hl:σ'.length=σ.length)(w:∀ (i:Nat) v,σ'[i]?=some (some v)->σ[i]?=some (some v)):Inv X pins σ' H s:=
 ⟨I.ok,I.os,I.bare,I.base,let ⟨m,hn,Fm⟩:=I.loc;⟨m,hn,fun i x v e1 e2 e3=>Fm i x v e1 (w i v e2) e3⟩,I.cell,I.free,I.Eo,I.pin,I.l_,hl.trans I.len⟩
theorem Inv.ED{FI:List (Addr×Obj)}(I:Inv X pins σ H s)(h:∀ p∈FI,s.heap.get? p.1=some p.2/\H p.1=none/\p.1≠X.env.locals/\p.1∉X.fs/\∀ v,p.2.data≠.cell v):Inv X FI σ H s:=
 ⟨I.ok,I.os,I.bare,I.base,I.loc,I.cell,I.free,I.Eo,fun p hp=>(mem_append.mp hp).elim (fun z=>I.pin p<|mem_append_left _ z)<|h p,I.l_,I.len⟩
theorem oJ(hN:N.Nodup){i j:Nat}{x:Str}(a:N[i]?=some x)(b:N[j]?=some x):i=j:=by
 obtain⟨h1,e1⟩:=List.getElem?_eq_some_iff.mp a;obtain⟨h2,e2⟩:=List.getElem?_eq_some_iff.mp b;exact (List.getElem_inj hN).mp (e1.trans e2.symm)
variable{Q:Unit->Shared->Prop}
theorem oK{M:Model}(I:Inv X pins σ H s)(hN:X.N.Nodup)(hi:X.N[i]?=some x)(hx:Loc X.env.scope x)(r:aw v u)(h:∀ s',Inv X pins (σ.set i<|some v) H s'->(∃ a,Heap.SameBut a s.heap s'.heap/\(a=X.env.locals\/X.env.cells.lookup x=some a))->Q () s')(hf:X.fn x=true\/X.env.scope.names.lookup x=some .local:=by first | exact .inl rfl | exact .inr rfl | assumption):wpAny M A (storeName X.env x u) Q E s:=by
 obtain⟨m,hn,hl⟩:=id I.loc;have M0:(X.env.scope.kind == .class || (X.env.scope.kind == .module && X.env.locals != X.env.globals))=false:=by rw[I.ok.kind];rfl
 have KK:i < σ.length:=by rw[I.len];exact (List.getElem?_eq_some_iff.mp hi).1
 have Jx:=I.Jx;have tracked:∀ {a:Addr}{h':Heap},(∃ o,s.heap.get? a=some o/\H a=none)->Heap.SameBut a s.heap h'->EI X.prog X.w H h':=fun {a h'} ha hs b ob e=>by
  obtain⟨_,_,Ge⟩:=ha;refine (I.l_ b ob e).EU (fun c w' hc q=>(hs.2 c ?_).trans q) (fun _ q=>q) fun _ _ q=>q;rintro rfl;rcases hc with rfl | hc
  ·rw[Ge] at e;cases e
  ·rw[Ge] at hc;cases hc
 rcases hx with hk | hk
 ·refine wpAny_storeName_local hk hn (fun h' KL hs=>?_) M0;obtain⟨oL,_,_,PN,_⟩:=id hn;refine h _ ⟨I.ok,I.os,I.bare,⟨fun b o e n hb hx=>?_,fun b o e n hb hx=>?_,I.base.free,fun b o e hx=>?_,I.base.FC,I.base.Fp,I.base.FR⟩,⟨_,KL,fun j y v' e1 e2 e3=>?_⟩,fun y c e=>?_,I.free,I.Eo,fun p hp=>?_,tracked ⟨oL,PN,I.free⟩ hs,by simpa using I.len⟩ ⟨_,hs,.inl rfl⟩
  ·exact (hs.2 b<|ne_of_lt<|lt_of_lt_of_le (Heap.lt_size e) I.ok.above).trans (I.base.keep b o e n hb hx)
  ·obtain⟨sl,e1⟩:=I.base.slot b o e n hb hx;exact⟨sl,(hs.2 b<|ne_of_lt<|lt_of_lt_of_le (Heap.lt_size e) I.ok.above).trans e1⟩
  ·obtain⟨o',e1⟩:=I.base.there b o e hx;exact⟨o',(hs.2 b<|ne_of_lt<|lt_of_lt_of_le (Heap.lt_size e) I.ok.above).trans e1⟩
  ·by_cases hj:j=i
   ·subst hj;rw[hi] at e1;cases e1;rw[List.getElem?_set_self KK] at e2;cases e2;exact⟨u,r,.inl ⟨hk,by simp⟩⟩
   ·rw[getElem?_set_ne (Ne.symm hj)] at e2;obtain⟨u',r',q⟩:=hl j y v' e1 e2 e3;refine⟨u',r',?_⟩;rcases q with ⟨k,e⟩ | ⟨k,c,e,z⟩
    ·refine .inl ⟨k,?_⟩;have:y≠x:=fun e=>hj (oJ hN e1<|e ▸ hi);simp[this,e]
    ·exact .inr ⟨k,c,e,z.sameBut hs<|Jx y c e⟩
  ·obtain⟨w',z⟩:=I.cell y c e;exact⟨w',z.sameBut hs<|Jx y c e⟩
  ·obtain⟨e,n,ne,nf,d⟩:=I.pin p hp;exact⟨(hs.2 p.1 ne).trans e,n,ne,nf,d⟩
 ·have Jz:X.fn x=true:=by
   rcases hf with z | z
   ·exact z
   ·rw[z] at hk;cases hk
  obtain⟨c,hc⟩:=I.ok.has x (.inl hk);obtain⟨w',z⟩:=I.cell x c hc;refine wpAny_storeName_cell I.ok.kind hk hc z (fun h' KM hs=>?_);obtain⟨oc,Mh,M1⟩:=id z;refine h { s with heap:=h' } ⟨I.ok,I.os,I.bare,⟨fun b o e n hb hx=>?_,fun b o e n hb hx=>?_,I.base.free,fun b o e hx=>?_,I.base.FC,I.base.Fp,I.base.FR⟩,⟨m,hn.sameBut hs<|Ne.symm<|Jx x c hc,fun j y v' e1 e2 e3=>?_⟩,fun y c' e=>?_,I.free,I.Eo,fun p hp=>?_,tracked ⟨oc,Mh,I.Eo x c hc⟩ hs,by simpa using I.len⟩ ⟨c,hs,.inr hc⟩
  ·exact (hs.2 b<|ne_of_lt<|lt_of_lt_of_le (Heap.lt_size e)<|I.ok.Kj x c Jz hc).trans (I.base.keep b o e n hb hx)
  ·obtain⟨sl,e1⟩:=I.base.slot b o e n hb hx;exact⟨sl,(hs.2 b<|ne_of_lt<|lt_of_lt_of_le (Heap.lt_size e)<|I.ok.Kj x c Jz hc).trans e1⟩
  ·obtain⟨o',e1⟩:=I.base.there b o e hx;exact⟨o',(hs.2 b<|ne_of_lt<|lt_of_lt_of_le (Heap.lt_size e)<|I.ok.Kj x c Jz hc).trans e1⟩
  ·by_cases hj:j=i
   ·subst hj;rw[hi] at e1;cases e1;rw[List.getElem?_set_self KK] at e2;cases e2;exact⟨u,r,.inr ⟨.inl hk,c,hc,KM⟩⟩
   ·rw[getElem?_set_ne (Ne.symm hj)] at e2;obtain⟨u',r',q⟩:=hl j y v' e1 e2 e3;refine⟨u',r',?_⟩;rcases q with q | ⟨k,c',e,z'⟩
    ·exact .inl q
    ·refine .inr ⟨k,c',e,z'.sameBut hs ?_⟩;rintro rfl;exact hj (oJ hN e1<|I.ok.inj _ _ _ e hc ▸ hi)
  ·by_cases OE:c'=c
   ·subst OE;exact⟨_,KM⟩
   ·obtain⟨w2,z2⟩:=I.cell y c' e;exact⟨w2,z2.sameBut hs OE⟩
  ·obtain⟨e,n,ne,nf,d⟩:=I.pin p hp;refine⟨(hs.2 p.1 ?_).trans e,n,ne,nf,d⟩;intro q;rw[q,Mh] at e;have q':oc=p.2:=Option.some.inj e;exact d w' (by rw[<- q'];exact M1)
theorem jI{M:Model}(I:Inv X pins σ H s)(hN:X.N.Nodup)(hi:X.N[i]?=some x)(hx:Loc X.env.scope x)(r:aw v u)(h:∀ s',Inv X pins (σ.set i<|some v) H s'->Q () s')(hf:X.fn x=true\/X.env.scope.names.lookup x=some .local:=by first | exact .inl rfl | exact .inr rfl | assumption):wpAny M A (storeName X.env x u) Q E s:=
 oK I hN hi hx r (fun s' I' _=>h s' I') hf
theorem Inv.KN(I:Inv X pins σ H s)(ho:s'.os=s.os)(u:Un (GO X.stack) ch H H' s.heap s'.heap)(l_:EI X.prog X.w H' s'.heap)(hg:AllBare s'.gens)(Fh:∀ b∈ch,(b∈X.ex\/X.s₀.heap.objs.size<=b)/\b≠X.env.locals/\(∀ x c,X.env.cells.lookup x=some c->c≠b)/\∀ p∈X.pn++pins,p.1≠b):Inv X pins σ H' s':=by
 obtain⟨h',g',d',t',o'⟩:=s';have e:o'=s.os:=ho;subst e;exact I.call (g':=g') (t':=t') (d':=d') u l_ hg Fh
end
abbrev XK:=Value->Option Addr->Hp->Prop
abbrev St:=List (Option V)
variable{σ:St}
abbrev VK:=V->Hp->Prop
abbrev TE:=St->Hp->VK->Prop
variable{te:TE}
abbrev TT:=St->Hp->(Bool->Hp->Prop)->Prop
variable{tc:TT}
abbrev TA:=St->Hp->(List V->Hp->Prop)->Prop
variable{ta:TA}
structure Ends where
 nx:St->Hp->Prop
 rt:VK
 bk:St->Hp->Prop:=fun _ _=>False
 ct:St->Hp->Prop:=fun _ _=>False
abbrev TS:=Ends->St->Hp->Prop
variable{tb:TS}
def EP(X:Cx)(pins:List (Addr×Obj))(σ:St)(Q:VK)(u:Value)(s':Shared):Prop:=∃ v H',Inv X pins σ H' s'/\aw v u/\Q v H'
def TP(X:Cx)(pins:List (Addr×Obj))(σ:St)(Q:Bool->Hp->Prop)(b:Bool)(s':Shared):Prop:=∃ H',Inv X pins σ H' s'/\Q b H'
def AP(X:Cx)(pins:List (Addr×Obj))(σ:St)(Q:List V->Hp->Prop)(us:List Value)(s':Shared):Prop:=∃ vs H',Inv X pins σ H' s'/\au vs us/\Q vs H'
def SP(X:Cx)(pins:List (Addr×Obj))(D:Ends)(f:Flow)(s':Shared):Prop:=
 match f with
 | .next=>∃ σ' H',Inv X pins σ' H' s'/\D.nx σ' H'
 | .brk=>∃ σ' H',Inv X pins σ' H' s'/\D.bk σ' H'
 | .cont=>∃ σ' H',Inv X pins σ' H' s'/\D.ct σ' H'
 | .ret u=>∃ v σ' H',Inv X pins σ' H' s'/\aw v u/\D.rt v H'
def M2(X:Cx)(e:Expr)(t:TE)(pins:List (Addr×Obj)):Prop:=
 ∀ (s:Shared) (σ:St) (H:Hp) (Q:VK),Inv X pins σ H s->t σ H Q->wpAny (model X.prog X.w) X.A (eval e X.env) (EP X pins σ Q) X.xe s
def PE(X:Cx)(e:Expr)(t:TE):Prop:=∀ pins,M2 X e t pins
def OF(X:Cx)(e:Expr)(t:TT)(pins:List (Addr×Obj)):Prop:=
 ∀ (s:Shared) (σ:St) (H:Hp) (Q:Bool->Hp->Prop),Inv X pins σ H s->t σ H Q->wpAny (model X.prog X.w) X.A (isTrue e X.env<|eval e X.env) (TP X pins σ Q) X.xe s
def PT(X:Cx)(e:Expr)(t:TT):Prop:=∀ pins,OF X e t pins
def OG(X:Cx)(e:Expr)(t:TT)(whole:Sem Value):Prop:=
 ∀ (pins:List (Addr×Obj)) (s:Shared) (σ:St) (H:Hp) (Q:Bool->Hp->Prop),Inv X pins σ H s->t σ H Q->wpAny (model X.prog X.w) X.A (isTrue e X.env whole) (TP X pins σ Q) X.xe s
def PW(X:Cx)(e:Expr)(t:TT):Prop:=∀ whole,OG X e t whole
theorem PW.pt{t:TT}(h:PW X e t):PT X e t:=h _
def OH(X:Cx)(es:List Expr)(t:TA)(pos:Pos):Prop:=
 ∀ (pins:List (Addr×Obj)) (s:Shared) (σ:St) (H:Hp) (Q:List V->Hp->Prop),Inv X pins σ H s->t σ H Q->wpAny (model X.prog X.w) X.A (spliced<|backTo pos<|starEach es X.env) (AP X pins σ Q) X.xe s
def PA(X:Cx)(es:List Expr)(t:TA):Prop:=∀ pos,OH X es t pos
def OI(X:Cx)(st:Stmt)(t:TS)(pins:List (Addr×Obj)):Prop:=
 ∀ (s:Shared) (σ:St) (H:Hp) (D:Ends),Inv X pins σ H s->t D σ H->wpAny (model X.prog X.w) X.A (exec st X.env) (SP X pins D) X.xe s
def PS(X:Cx)(st:Stmt)(t:TS):Prop:=∀ pins,OI X st t pins
def oM(X:Cx)(st:List Stmt)(t:TS)(pins:List (Addr×Obj)):Prop:=
 ∀ (s:Shared) (σ:St) (H:Hp) (D:Ends),Inv X pins σ H s->t D σ H->wpAny (model X.prog X.w) X.A (execs st X.env) (SP X pins D) X.xe s
def Gz(X:Cx)(st:List Stmt)(t:TS):Prop:=∀ pins,oM X st t pins
theorem z_{α:Type}{t:Sem α}{Q Q':α->Shared->Prop}{M:Model}(h:wpAny M A t Q E s)(hQ:∀ a s,Q a s->Q' a s):wpAny M A t Q' E s:=wpAny_mono h hQ fun _ _ x=>x
section
variable{X:Cx}
def eG(i:Nat):TE:=fun σ H Q=>∃ v,σ[i]?=some (some v)/\Q v H
def tC(v:V):TE:=fun _ H Q=>Q v H
theorem oN(hN:X.N[i]?=some x)(hv:Mf X.env.scope x)(hd:(x == ("__debug__" : Str))=false:=by decide)(G_:(x == ("__classdict__" : Str))=false:=by decide):PE X (.Name x pos) (eG i):=by
 intro pins s σ H Q I h;obtain⟨v,e,h⟩:=h;obtain⟨m,hn,hl⟩:=I.loc;obtain⟨u,r,l⟩:=hl i x v hN e hv;have fin:EP X pins σ Q u s:=⟨v,H,I,r,h⟩;rcases l with ⟨hk,hm⟩ | ⟨hk,c,hc,GQ⟩
 ·exact wpAny_Name (wpAny_loadName_local I.ok.kind hk hn hm fin) hd
 ·rcases hk with hk | hk
  ·exact wpAny_Name (wpAny_loadName_cell I.ok.kind hk hc GQ fin) hd
  ·exact wpAny_Name (wpAny_loadName_free I.ok.kind hk hc GQ fin G_) hd
theorem u7{i j pos}:PE X (.Constant (.int i) j pos) (tC<|.int i):=fun _ _ _ H _ I h=>wpAny_Constant_int ⟨.int i,H,I.tok _,⟨_,rfl⟩,h⟩
theorem u8{b j pos}:PE X (.Constant (.bool b) j pos) (tC<|.bl b):=fun _ _ _ H _ I h=>Constant_bool ⟨.bl b,H,I,rfl,h⟩
theorem u9{j pos}:PE X (.Constant .none j pos) (tC .j_):=fun _ _ _ H _ I h=>Constant_none ⟨.j_,H,I,rfl,h⟩
theorem va{x j pos}:PE X (.Constant (.str x) j pos) (tC<|.str x):=fun _ _ _ H _ I h=>Calls.Constant_str ⟨.str x,H,I.tok _,⟨_,rfl⟩,h⟩
def Gl(X:Cx)(x:Str):Prop:=X.env.kindOf x=some .globalImplicit
theorem oO(I:Inv X pins σ H s)(hg:Gl X x)(hm:X.mg x=some u)(h:Q u s)(hd:(x == ("__debug__" : Str))=false:=by decide):wpAny (model X.prog X.w) X.A (eval (.Name x pos) X.env) Q E s:=
 Calls.Name_function_global I.ok.kind hg (Calls.loadGlobal_global (by rw[I.ok.glob];exact I.mod.glob.keeps I.bk) hm h) hd
theorem fJ(I:Inv X pins σ H s)(hg:Gl X x)(hm:X.mg x=none)(hv:bootBuiltins x=some u)(h:Q u s)(hn:x ≠ "__name__" := by decide)(hd:(x == ("__debug__" : Str))=false:=by decide):wpAny (model X.prog X.w) X.A (eval (.Name x pos) X.env) Q E s:=by
 obtain⟨mb,h1,h2⟩:=I.mod.blt;exact Calls.Name_function_global I.ok.kind hg (Calls.loadGlobal_builtin (by rw[I.ok.glob];exact I.mod.glob.keeps I.bk) hm (by rw[I.ok.blt];exact h1.keeps I.bk) ((h2 x hn).trans hv) h) hd
theorem vb(hg:Gl X x)(hm:X.mg x=some u)(r:aw v u)(hd:(x == ("__debug__" : Str))=false:=by decide):PE X (.Name x pos) (tC v):=
 fun _ _ _ H _ I h=>oO I hg hm ⟨v,H,I,r,h⟩ hd
theorem vc(hg:Gl X x)(hm:X.mg x=none)(hv:bootBuiltins x=some u)(r:aw v u)(hn:x ≠ "__name__" := by decide)(hd:(x == ("__debug__" : Str))=false:=by decide):PE X (.Name x pos) (tC v):=
 fun _ _ _ H _ I h=>fJ I hg hm hv ⟨v,H,I,r,h⟩ hn hd
variable{a b:Expr}{ta tb:TE}{pos:Pos}
variable{tA Mi:TT}{rest:List Expr}
def oP(t u:TT):TT:=fun σ H Q=>t σ H fun c H1=>if c=true then u σ H1 Q else Q false H1
def OJ(t u:TT):TT:=fun σ H Q=>t σ H fun c H1=>if c=true then Q true H1 else u σ H1 Q
def vd(t:TT):TT:=fun σ H Q=>t σ H fun c H1=>Q (!c) H1
theorem ve(ha:PT X a tA):PW X (.BoolOp .And [a] pos) tA:=by
 intro wh pins s σ H Q I h;refine isTrue_and (z_ (ha pins s σ H Q I h) fun c s1 e=>?_);cases c with
 | true=>exact isTrue_and_nil e
 | false=>exact e
theorem vf(ha:PT X a tA):PW X (.BoolOp .Or [a] pos) tA:=by
 intro wh pins s σ H Q I h;refine isTrue_or (z_ (ha pins s σ H Q I h) fun c s1 e=>?_);cases c with
 | false=>exact isTrue_or_nil e
 | true=>exact e
theorem vg(ha:PT X a tA)(hb:PW X (.BoolOp .And (b::rest) pos) Mi):PW X (.BoolOp .And (a::b::rest) pos) (oP tA Mi):=by
 intro wh pins s σ H Q I h;refine isTrue_and (z_ (ha pins s σ H _ I h) fun c s1 ⟨H1,I1,q1⟩=>?_);cases c with
 | true=>exact hb wh pins s1 σ H1 Q I1 q1
 | false=>exact⟨H1,I1,q1⟩
theorem vh(ha:PT X a tA)(hb:PW X (.BoolOp .Or (b::rest) pos) Mi):PW X (.BoolOp .Or (a::b::rest) pos) (OJ tA Mi):=by
 intro wh pins s σ H Q I h;refine isTrue_or (z_ (ha pins s σ H _ I h) fun c s1 ⟨H1,I1,q1⟩=>?_);cases c with
 | true=>exact⟨H1,I1,q1⟩
 | false=>exact hb wh pins s1 σ H1 Q I1 q1
theorem vj(ha:PT X a tA):PT X (.UnaryOp .Not a pos) (vd tA):=by
 intro pins s σ H Q I h;exact isTrue_not (ha pins s σ H (fun c H1=>Q (!c) H1) I h)
def vk(ta tb:TE):TE:=fun σ H Q=>ta σ H fun x H1=>∃ c,x=.bl c/\if c=true then tb σ H1 Q else Q (.bl false) H1
def vm(ta tb:TE):TE:=fun σ H Q=>ta σ H fun x H1=>∃ c,x=.bl c/\if c=true then Q (.bl true) H1 else tb σ H1 Q
def vn(ta:TE):TE:=fun σ H Q=>ta σ H fun x H1=>∃ c,x=.bl c/\Q (.bl<|!c) H1
theorem vo{op}{t:TE}(h:PE X a t):PE X (.BoolOp op [a] pos) t:=fun pins s σ H Q I hw=>BoolOp_one (h pins s σ H Q I hw)
theorem vp(ha:PE X a ta)(hb:PE X (.BoolOp .And (b::rest) pos) tb):PE X (.BoolOp .And (a::b::rest) pos) (vk ta tb):=by
 intro pins s σ H Q I h;refine BoolOp_and (z_ (ha pins s σ H _ I h) fun v s1 ⟨x,H1,I1,r1,q1⟩=>?_);obtain⟨c,rfl,q1⟩:=q1;cases r1;refine wpAny_truthy_bool ?_;cases c with
 | true=>exact hb pins s1 σ H1 Q I1 q1
 | false=>exact⟨.bl false,H1,I1,rfl,q1⟩
theorem vq(ha:PE X a ta)(hb:PE X (.BoolOp .Or (b::rest) pos) tb):PE X (.BoolOp .Or (a::b::rest) pos) (vm ta tb):=by
 intro pins s σ H Q I h;refine BoolOp_or (z_ (ha pins s σ H _ I h) fun v s1 ⟨x,H1,I1,r1,q1⟩=>?_);obtain⟨c,rfl,q1⟩:=q1;cases r1;refine wpAny_truthy_bool ?_;cases c with
 | false=>exact hb pins s1 σ H1 Q I1 q1
 | true=>exact⟨.bl true,H1,I1,rfl,q1⟩
theorem vw(ha:PE X a ta):PE X (.UnaryOp .Not a pos) (vn ta):=by
 intro pins s σ H Q I h;refine UnaryOp_ (z_ (ha pins s σ H _ I h) fun v s1 ⟨x,H1,I1,r1,q1⟩=>?_);obtain⟨c,rfl,q1⟩:=q1;cases r1;exact not_of (wpAny_truthy_bool ⟨.bl<|!c,H1,I1,rfl,q1⟩)
end
def En(K:PySem.W.Frag)(H:Hp)(a:Addr)(xs:List V):Prop:=
 Rd H a (.lst xs)\/
  ∃ (o:Obj) (e_:Array Value) (n:Nat),K.lookup a=some o/\o.cls=.type "list" /\ o.dict=none/\o.data=.seq e_ n/\e_.size<=sizeLine/\au xs e_.toList
def A_(K:PySem.W.Frag)(H:Hp)(a:Addr)(xs:List V):Prop:=
 Rd H a (.tup xs)\/
  ∃ (o:Obj) (e_:Array Value) (n:Nat),K.lookup a=some o/\o.cls=.type "tuple" /\ o.data=.seq e_ n/\e_.size<=sizeLine/\au xs e_.toList
def vx:Value->Option V
 | .none=>some .j_
 | .bool b=>some (.bl b)
 | .int i _=>some (.int i)
 | .str x _=>some (.str x)
 | .bytes b _=>some (.KF b)
 | .float b _=>some (.MR b)
 | .ref a=>some (.ref a)
 | .type n=>some (.ty n)
 | _=>none
theorem aw.abs{x:V}(r:aw x u):vx u=some x:=by
 cases x with
 | j_=>cases r;rfl
 | bl _=>cases r;rfl
 | int _=>obtain⟨t,rfl⟩:=r;rfl
 | str _=>obtain⟨t,rfl⟩:=r;rfl
 | KF _=>obtain⟨t,rfl⟩:=r;rfl
 | MR _=>obtain⟨t,rfl⟩:=r;rfl
 | ref _=>cases r;rfl
 | ty _=>cases r;rfl
theorem aw.inj{x:V}(r:aw x u)(q:aw y u):x=y:=Option.some.inj (r.abs.symm.trans q.abs)
theorem au.inj:∀ {xs ys:List V}{us:List Value},au xs us->au ys us->xs=ys
 | _,_,_,.nil,.nil=>rfl
 | _,_,_,.cons r t,.cons r' t'=>by rw[r.inj r',au.inj t t']
section
variable{X:Cx}{pins:List (Addr×Obj)}{σ:St}{H:Hp}{s:Shared}{a:Addr}{xs ys:List V}
theorem En.of(h:H a=some (.lst xs)):En K H a xs:=.inl (.inl h)
theorem A_.of(h:H a=some (.tup xs)):A_ K H a xs:=.inl (.inl h)
theorem Inv.list(I:Inv X pins σ H s)(h:En X.K H a xs):∃ e_:List Value,au xs e_/\PlainL s.heap a e_.toArray/\xs.length<=sizeLine:=by
 rcases h with h | ⟨o,e_,n,hk,hc,hd,hs,hz,r⟩
 ·obtain⟨z,e_,n,r,e⟩:=h.ok I.l_;exact⟨e_,r,⟨_,n,e,rfl,rfl,rfl⟩,z⟩
 ·refine⟨e_.toList,r,⟨o,n,I.Jw a o hk,hc,hd,by simpa using hs⟩,?_⟩;have e:=r.length;simp only[length_toList] at e;lia
theorem Inv.tuple(I:Inv X pins σ H s)(h:A_ X.K H a xs):∃ e_:List Value,au xs e_/\IsTup s.heap a e_.toArray/\xs.length<=sizeLine:=by
 rcases h with h | ⟨o,e_,n,hk,hc,hs,hz,r⟩
 ·obtain⟨z,e_,r,p⟩:=h.ok I.l_;exact⟨e_,r,p,z⟩
 ·refine⟨e_.toList,r,⟨o,I.Jw a o hk,hc,n,by simpa using hs⟩,?_⟩;have e:=r.length;simp only[length_toList] at e;lia
theorem Inv.Hv(I:Inv X pins σ H s)(h:En X.K H a xs)(h':En X.K H a ys):xs=ys:=by
 obtain⟨e_,r,⟨o,n,e,_,_,d⟩,_⟩:=I.list h;obtain⟨its',r',⟨o',n',e',_,_,d'⟩,_⟩:=I.list h';rw[e] at e';cases e';rw[d] at d';injection d' with d1 _;have:e_=its':=by simpa using congrArg Array.toList d1
 subst this;exact r.inj r'
theorem Inv.E5(I:Inv X pins σ H s)(h:A_ X.K H a xs)(h':A_ X.K H a ys):xs=ys:=by
 obtain⟨e_,r,⟨o,e,_,n,d⟩,_⟩:=I.tuple h;obtain⟨its',r',⟨o',e',_,n',d'⟩,_⟩:=I.tuple h';rw[e] at e';cases e';rw[d] at d';injection d' with d1 _;have:e_=its':=by simpa using congrArg Array.toList d1
 subst this;exact r.inj r'
end
abbrev Cx.FD(X:Cx)(E:Value->Shared->Prop):Cx:={ X with xe:=E }
abbrev Cx.Kk(X:Cx):Cx:=X.FD fun _ _=>False
theorem Cx.Ok.FD(ok:X.Ok)(E:Value->Shared->Prop):(X.FD E).Ok:=
 ⟨ok.mod,ok.kind,ok.glob,ok.blt,ok.above,ok.inj,ok.has,ok.Kj,ok.hd,ok.frames,ok.KI,ok.MV,ok.bs,ok.Ir,ok.G9,ok.G',ok.E4,ok.Jv⟩
theorem Cx.Ok.Ey(ok:(X.FD E).Ok):X.Ok:=
 ⟨ok.mod,ok.kind,ok.glob,ok.blt,ok.above,ok.inj,ok.has,ok.Kj,ok.hd,ok.frames,ok.KI,ok.MV,ok.bs,ok.Ir,ok.G9,ok.G',ok.E4,ok.Jv⟩
section
variable{X:Cx}{pins:List (Addr×Obj)}{σ:St}{H:Hp}{s:Shared}{E:Value->Shared->Prop}
theorem Inv.FD(I:Inv X pins σ H s)(E:Value->Shared->Prop):Inv (X.FD E) pins σ H s:=⟨I.ok.FD E,I.os,I.bare,I.base,I.loc,I.cell,I.free,I.Eo,I.pin,I.l_,I.len⟩
theorem Inv.Ey(I:Inv (X.FD E) pins σ H s):Inv X pins σ H s:=⟨I.ok.Ey,I.os,I.bare,I.base,I.loc,I.cell,I.free,I.Eo,I.pin,I.l_,I.len⟩
theorem SP.Ey{D:Ends}{f:Flow}(h:SP (X.FD E) pins D f s'):SP X pins D f s':=by
 cases f with
 | next=>obtain⟨σ',H',I,q⟩:=h;exact⟨σ',H',I.Ey,q⟩
 | brk=>obtain⟨σ',H',I,q⟩:=h;exact⟨σ',H',I.Ey,q⟩
 | cont=>obtain⟨σ',H',I,q⟩:=h;exact⟨σ',H',I.Ey,q⟩
 | ret u=>obtain⟨v,σ',H',I,r,q⟩:=h;exact⟨v,σ',H',I.Ey,r,q⟩
theorem Gz.Kk{st:List Stmt}{t:TS}(h:Gz X.Kk st t):Gz X st t:=fun pins s σ H D I hw=>
 wpAny_mono (h pins s σ H D (I.FD _) hw) (fun _ _ q=>q.Ey) fun _ _ z=>False.elim z
end
section
variable{X:Cx}{st:Stmt}{rest:List Stmt}{t u:TS}{e:Expr}{te:TE}{pos:Pos}
def KO:TS:=fun D σ H=>D.nx σ H
def oQ(t u:TS):TS:=fun D σ H=>t { D with nx:=u D } σ H
theorem vy:Gz X [] KO:=fun _ _ σ H _ I h=>wpAny_execs_nil ⟨σ,H,I,h⟩
theorem vz(h1:PS X st t)(h2:Gz X rest u):Gz X (st::rest) (oQ t u):=by
 intro pins s σ H D I h;refine wpAny_execs_cons (z_ (h1 pins s σ H { D with nx:=u D } I h) fun f s1 q=>?_);cases f with
 | next=>
  obtain⟨σ',H',I',q⟩:=q;exact h2 pins s1 σ' H' D I' q
 | ret v=>exact q
 | brk=>exact q
 | cont=>exact q
theorem vA(h1:PS X st t):Gz X [st] t:=by
 intro pins s σ H D I h;refine wpAny_execs_cons (z_ (h1 pins s σ H D I h) fun f s1 q=>?_);cases f with
 | next=>exact wpAny_execs_nil q
 | ret v=>exact q
 | brk=>exact q
 | cont=>exact q
theorem Inv.quiet(I:Inv X pins σ H s):interactive X.env=false:=by simp[interactive,I.ok.kind]
def vB(te:TE):TS:=fun D σ H=>te σ H fun _ H1=>D.nx σ H1
theorem vC(he:PE X e te)(hs:swapsWith e none pos.line X.env=pure false:=by rfl):PS X (.Expr e pos) (vB te):=by
 intro pins s σ H D I h;exact wpAny_Expr_any (z_ (he pins s σ H _ I h) fun v s1 ⟨x,H1,I1,r1,q1⟩=>⟨σ,H1,I1,q1⟩) I.quiet hs
def vD(te:TE):TS:=fun D σ H=>te σ H D.rt
theorem vE(he:PE X e te):PS X (.Return (some e) pos) (vD te):=by
 intro pins s σ H D I h;exact wpAny_Return_some (z_ (he pins s σ H _ I h) fun v s1 ⟨x,H1,I1,r1,q1⟩=>⟨x,σ,H1,I1,r1,q1⟩)
def vF(c:TT)(t u:TS):TS:=fun D σ H=>c σ H fun b H1=>if b=true then t D σ H1 else u D σ H1
theorem vG{a b:List Stmt}(hc:PT X c tc)(ha:Gz X a t)(hb:Gz X b u):PS X (.If c a b pos) (vF tc t u):=by
 intro pins s σ H D I h;refine wpAny_If (z_ (hc pins s σ H _ I h) fun d s1 ⟨H1,I1,q1⟩=>?_);cases d with
 | true=>exact ha pins s1 σ H1 D I1 q1
 | false=>exact hb pins s1 σ H1 D I1 q1
end
abbrev TG:=V->St->Hp->(St->Hp->Prop)->Prop
abbrev Ig:=List V->St->Hp->(St->Hp->Prop)->Prop
def OK(X:Cx)(target:Expr)(t:TG)(pins:List (Addr×Obj)):Prop:=
 ∀ (s:Shared) (σ:St) (H:Hp) (v:V) (u:Value) (Q:St->Hp->Prop),Inv X pins σ H s->aw v u->t v σ H Q->
  wpAny (model X.prog X.w) X.A (assign target X.env u) (fun _ s'=>∃ σ' H',Inv X pins σ' H' s'/\Q σ' H') X.xe s
def PG(X:Cx)(target:Expr)(t:TG):Prop:=∀ pins,OK X target t pins
def oR(X:Cx)(ts:List Expr)(t:Ig)(pins:List (Addr×Obj)):Prop:=
 ∀ (s:Shared) (σ:St) (H:Hp) (vs:List V) (us:List Value) (Q:St->Hp->Prop),Inv X pins σ H s->au vs us->t vs σ H Q->
  wpAny (model X.prog X.w) X.A (assignInOrder ((assignEach ts X.env).map (·.2)) us) (fun _ s'=>∃ σ' H',Inv X pins σ' H' s'/\Q σ' H') X.xe s
def Kl(X:Cx)(ts:List Expr)(t:Ig):Prop:=∀ pins,oR X ts t pins
abbrev JA:=V->V->V->Hp->(Hp->Prop)->Prop
def lH(X:Cx)(t:JA):Prop:=
 ∀ (pins:List (Addr×Obj)) (s:Shared) (σ:St) (H:Hp) (o i v:V) (ov iv u:Value) (Q:Hp->Prop),Inv X pins σ H s->aw o ov->aw i iv->aw v u->t o i v H Q->
  wpAny (model X.prog X.w) X.A (setItem ov iv u) (fun _ s'=>∃ H',Inv X pins σ H' s'/\Q H') X.xe s
section
variable{X:Cx}{pos:Pos}
def lJ(i:Nat):TG:=fun v σ H Q=>Q (σ.set i<|some v) H
theorem vH(hN:X.N.Nodup)(hi:X.N[i]?=some x)(hx:Loc X.env.scope x)(hf:X.fn x=true\/X.env.scope.names.lookup x=some .local:=by first | exact .inl rfl | exact .inr rfl | assumption):PG X (.Name x pos) (lJ i):=by
 intro pins s σ H v u Q I r h;exact wpAny_assign_Name (jI I hN hi hx r (fun s' I'=>⟨_,H,I',h⟩) hf)
def M3:Ig:=fun vs σ H Q=>vs=[]/\Q σ H
def vI(t:TG)(u:Ig):Ig:=fun vs σ H Q=>∃ v r,vs=v::r/\t v σ H fun σ' H'=>u r σ' H' Q
theorem vJ:Kl X [] M3:=by
 intro pins s σ H vs us Q I r h;obtain⟨e,h⟩:=h;subst e;cases r;exact assignInOrder_nil ⟨σ,H,I,h⟩
theorem vK{t:TG}{u:Ig}(h1:PG X e t)(h2:Kl X es u)(hs:(assignEach (e::es) X.env).map (·.2)=assign e X.env::(assignEach es X.env).map (·.2):=by rfl):Kl X (e::es) (vI t u):=by
 intro pins s σ H vs us Q I r h;obtain⟨v,vr,e1,h⟩:=h;subst e1;cases r with
 | cons r rr=>
  rw[hs];refine assignInOrder_cons (z_ (h1 pins s σ H _ _ _ I r h) fun _ s1 ⟨σ1,H1,I1,q1⟩=>?_);exact h2 pins s1 σ1 H1 _ _ Q I1 rr q1
def vL(K:PySem.W.Frag)(n:Nat)(t:Ig):TG:=fun v σ H Q=>∃ a xs,v=.ref a/\A_ K H a xs/\xs.length=n/\t xs σ H Q
theorem vM{t:Ig}(hc:X.calm=true)(h:Kl X es t)(hn:(assignEach es X.env).length=n:=by rfl)(Iu:(assignEach es X.env).findIdx? (·.1)=none:=by rfl):PG X (.Tuple es k pos) (vL X.K n t):=by
 intro pins s σ H v u Q I r hw;obtain⟨a,xs,e1,hq,hl,hw⟩:=hw;subst e1;cases r;obtain⟨e_,rv,ht,hz⟩:=I.tuple hq;refine assign_Tuple_tuple (I.ok.hd hc) ht (by simp[hn,<- hl,rv.length]) Iu fun h' hx=>?_;have I1:Inv X pins σ H { s with heap:=h' }:=I.kept (t':=s.toks) fun b o e=>hx b o (ne_of_lt<|Heap.lt_size e) e;exact h pins _ σ H xs _ Q I1 (by simpa using rv) hw
def vN(to ti:TE)(t:JA):TG:=fun v σ H Q=>to σ H fun o H1=>ti σ H1 fun i H2=>t o i v H2 fun H3=>Q σ H3
theorem vO{o i:Expr}{to ti:TE}{t:JA}(ho:PE X o to)(hi:PE X i ti)(hs:lH X t)(ha:∀ v,assign (.Subscript o i pos) X.env v=(do
   let ov <- holding [v] (eval o X.env)
   let iv <- holding [v,ov] (eval i X.env)
   standAt pos
   holding [v,ov,iv] (setItem ov iv v)
   release [v,ov,iv] []):=by intro _;rfl):PG X (.Subscript o i pos) (vN to ti t):=by
 intro pins s σ H v u Q I r h;rw[ha];refine wpAny_bind (wpAny_holding<|z_ (ho pins s σ H _ I h) fun ov s1 ⟨x,H1,I1,r1,q1⟩=>?_);refine wpAny_bind (wpAny_holding<|z_ (hi pins s1 σ H1 _ I1 q1) fun iv s2 ⟨y,H2,I2,r2,q2⟩=>?_);refine wpAny_bind (wpAny_standAt<|wpAny_bind<|wpAny_holding<|z_ (hs pins s2 σ H2 x y v ov iv u _ I2 r1 r2 r q2) fun _ s3 ⟨H3,I3,q3⟩=>?_);exact wpAny_release ⟨σ,H3,I3,q3⟩
def lK(te:TE)(g:TG):TS:=fun D σ H=>te σ H fun x H1=>g x σ H1 D.nx
theorem vP{g:TG}(he:PE X e te)(hg:PG X tg g)(hs:swapsWithSole [tg] e pos.line X.env=pure false:=by rfl)(hw:swappedStores [tg] e X.env=pure none:=by rfl)(h1:(assignEach [tg] X.env).map (·.2)=[assign tg X.env]:=by rfl):PS X (.Assign [tg] e pos) (lK te g):=by
 intro pins s σ H D I h;refine wpAny_Assign_stores (z_ (he pins s σ H _ I h) fun v s1 ⟨x,H1,I1,r1,q1⟩=>?_) hs hw;rw[h1];exact z_ (hg pins s1 σ H1 x v _ I1 r1 q1) fun _ s2 q=>q
theorem vQ{pos':Pos}(hN:X.N.Nodup)(hi:X.N[i]?=some x)(hx:Loc X.env.scope x)(he:PE X e te)(hs:swapsWith e (some<|.Name x pos') pos.line X.env=pure false:=by rfl)(hf:X.fn x=true\/X.env.scope.names.lookup x=some .local:=by first | exact .inl rfl | exact .inr rfl | assumption):
  PS X (.Assign [.Name x pos'] e pos) (lK te<|lJ i):=by
 intro pins s σ H D I h;refine wpAny_Assign_Name (z_ (he pins s σ H _ I h) fun v s1 ⟨y,H1,I1,r1,q1⟩=>?_) hs;exact jI I1 hN hi hx r1 (fun s2 I2=>⟨_,H1,I2,q1⟩) hf
def vR(i j:Nat)(ta:TA):TS:=fun D σ H=>ta σ H fun vs H1=>∃ v w,vs=[v,w]/\D.nx ((σ.set i<|some v).set j<|some w) H1
theorem vS{y:Str}{a b:Expr}{px py pt:Pos}{kt k2 JB}(hc:X.calm=true)(hN:X.N.Nodup)(hi:X.N[i]?=some x)(hj:X.N[j]?=some y)(Fq:i≠j)(hx:X.env.scope.names.lookup x=some .local)(hy:X.env.scope.names.lookup y=some .local)(ha:PA X [a,b] ta)(hw:swappedStores [.Tuple [.Name x px,.Name y py] kt pt] (.Tuple [a,b] k2 JB) X.env=pure (some [x,y]))(hs:swapsWithSole [.Tuple [.Name x px,.Name y py] kt pt] (.Tuple [a,b] k2 JB) pos.line X.env=pure false:=by rfl):
  PS X (.Assign [.Tuple [.Name x px,.Name y py] kt pt] (.Tuple [a,b] k2 JB) pos) (vR i j ta):=by
 intro pins s σ H D I h;rw[exec_Assign_arm];refine wpAny_bind (wpAny_standAt ?_);rw[hs];refine wpAny_bind (wpAny_pure ?_);rw[if_neg (by decide)];refine wpAny_bind (Tuple_<|z_ (ha _ pins s σ H _ I h) fun us s1 ⟨vs,H1,I1,r1,q1⟩=>?_);obtain⟨v,w,e1,q1⟩:=q1;subst e1;obtain⟨u1,u2,rfl,rv,Hw⟩:∃ u1 u2,us=[u1,u2]/\aw v u1/\aw w u2:=by
  cases r1 with
  | cons p q=>
   cases q with
   | cons p' q'=>
    cases q';exact⟨_,_,rfl,p,p'⟩
 refine wpAny_newObj_type ?_ (by show 2<=sizeLine;decide);have I2:Inv X pins σ H1 { s1 with heap:=s1.heap.push { cls:=.type "tuple",data:=.seq [u1,u2].toArray } }:=I1.kept (t':=s1.toks) fun b o e=>Heap.get?_push_of_some _ e;rw[hw];refine wpAny_bind (wpAny_pure ?_);show wpAny (model X.prog X.w) X.A (do rule "assign.swapped-stores";let items <- unpackItems (.ref s1.heap.objs.size) 2 none;assignInOrder [fun v=>bindName X.env y v,fun v=>bindName X.env x v] items.reverse;pure Flow.next) _ _ _;refine wpAny_bind (wpAny_rule<|wpAny_bind<|unpackItems_tuple (items:=#[u1,u2]) (I.ok.hd hc) (IsTup.new s1.heap _) fun h' Gx=>?_);have I3:=I2.kept (h':=h') (t':=s1.toks) fun b o e=>Gx b o (ne_of_lt<|Heap.lt_size e) e;show wpAny _ _ (assignInOrder [fun v=>bindName X.env y v,fun v=>bindName X.env x v] [u2,u1] >>= fun _=>pure Flow.next) _ _ _;refine wpAny_bind (assignInOrder_cons<|wpAny_bindName<|jI I3 hN hj (.inl hy) Hw (fun s2 I4=>?_)<|.inr hy);refine assignInOrder_cons (wpAny_bindName<|jI I4 hN hi (.inl hx) rv (fun s3 I5=>assignInOrder_nil<|wpAny_pure ?_)<|.inr hx);rw[set_comm _ _ (Ne.symm Fq)] at I5;exact⟨_,H1,I5,q1⟩
end
section
variable{X:Cx}{pos:Pos}
def vT(c:TT)(tb:TS):TS:=fun D σ H=>∃ W:Nat->St->Hp->Prop,(∃ m,W m σ H)/\∀ m σ H,W m σ H->
 c σ H fun b H1=>if b=true then ∃ N:St->Hp->Prop,(∀ σ' H',N σ' H'->∃ m',m'<m/\W m' σ' H')/\tb { D with nx:=N,ct:=N,bk:=D.nx } σ H1 else D.nx σ H1
theorem vU(hp:PassesOwn (model X.prog X.w) X.A X.env X.xe)(hc:PT X c tc)(hb:Gz X body tb):PS X (.While c body [] pos) (vT tc tb):=by
 intro pins s σ H D I h;obtain⟨W,⟨m0,w0⟩,turn⟩:=h;refine wpAny_While (codeAny_whileLoop (fun n s'=>∃ σ' H',Inv X pins σ' H' s'/\W n σ' H') ?_ m0 ⟨σ,H,I,w0⟩);rintro n s1 ⟨σ1,H1,I1,w1⟩;refine wpAny_passesOwn hp (z_ (hc pins s1 σ1 H1 _ I1<|turn n σ1 H1 w1) fun b s2 ⟨H2,I2,q2⟩=>?_);cases b with
 | true=>
  obtain⟨N,hN,q2⟩:=q2;rw[if_pos rfl];refine wpAny_passesOwn hp (z_ (hb pins s2 σ1 H2 _ I2 q2) fun f s3 q3=>?_);cases f with
  | next=>
   obtain⟨σ3,H3,I3,n3⟩:=q3;obtain⟨m',hm,w3⟩:=hN σ3 H3 n3;exact⟨m',hm,σ3,H3,I3,w3⟩
  | cont=>
   obtain⟨σ3,H3,I3,n3⟩:=q3;obtain⟨m',hm,w3⟩:=hN σ3 H3 n3;exact⟨m',hm,σ3,H3,I3,w3⟩
  | brk=>exact q3
  | ret v=>exact q3
 | false=>
  rw[if_neg Bool.false_ne_true];exact wpAny_execs_nil ⟨σ1,H2,I2,q2⟩
end
structure It where
 go:Nat->Hp->Prop
 KP:Nat->Hp->V->Hp->Prop
 stop:Nat->Hp->Prop
def dr(X:Cx)(pins:List (Addr×Obj))(H:Hp)(b:Addr):Prop:=
 H b=none/\b≠X.env.locals/\b∉X.fs/\(b∈X.ex\/X.s₀.heap.objs.size<=b)/\(∀ x c,X.env.cells.lookup x=some c->c≠b)/\∀ p∈X.pn++pins,p.1≠b
theorem Inv.Iv(I:Inv X pins σ H s)(hb:s.heap.objs.size<=b)(hn:H' b=none):dr X pins H' b:=by
 refine⟨hn,ne_of_gt<|lt_of_lt_of_le I.lt hb,I.MX hb,.inr<|Nat.le_trans I.sz hb,fun x c e z=>?_,fun p hp z=>?_⟩
 ·obtain⟨v,q⟩:=I.cell x c e;exact absurd (lt_of_lt_of_le q.lt (by rw[z];exact hb)) (lt_irrefl _)
 ·exact absurd (lt_of_lt_of_le (Heap.lt_size (I.pin p hp).1) (by rw[z];exact hb)) (lt_irrefl _)
structure Turn(P:Program)(w:World)(K:PySem.W.Frag)(tg:Expr)(J:It)(fp:List Addr)(it:Addr)(tn:Nat->Heap->Prop):Prop where
 mem:it∈fp
 obj:∀ i h,tn i h->∀ b∈fp,∃ o,h.get? b=some o/\∀ v,o.data≠.cell v
 keep:∀ i h h',tn i h->(∀ b∈fp,∀ o,h.get? b=some o->h'.get? b=some o)->tn i h'
 item:∀ (X:Cx),X.prog=P->X.w=w->X.K=K->X.calm=true->∀ (i:Nat) (pins:List (Addr×Obj)) (s:Shared) (σ:St) (H:Hp) (E:Value->Shared->Prop),Inv X pins σ H s->(∀ b∈fp,dr X pins H b)->tn i s.heap->J.go i H->
  wpAny (model P w) X.A (pyNext<|.ref it) (fun r s1=>∃ u,r=some u/\
   wpAny (model P w) X.A (letOwnedTupleGo tg (.ref it) u) (fun _ s2=>∃ x H',Inv X pins σ H' s2/\aw x u/\J.KP i H x H'/\tn (i+1) s2.heap/\∀ b∈fp,H' b=none) E s1) E s
 done:∀ (X:Cx),X.prog=P->X.w=w->X.K=K->X.calm=true->∀ (i:Nat) (pins:List (Addr×Obj)) (s:Shared) (σ:St) (H:Hp) (E:Value->Shared->Prop),Inv X pins σ H s->(∀ b∈fp,dr X pins H b)->tn i s.heap->J.stop i H->
  wpAny (model P w) X.A (pyNext<|.ref it) (fun r s1=>r=none/\Inv X pins σ H s1) E s
 self:∀ (A:Around) (i:Nat) (s:Shared) (Q:Value->Shared->Prop) (E:Value->Shared->Prop),tn i s.heap->Q (.ref it) s->wpAny (model P w) A (pyIter<|.ref it) Q E s
abbrev TI:=St->Hp->(It->Hp->Prop)->Prop
def OL(X:Cx)(pins:List (Addr×Obj))(σ:St)(tg:Expr)(R:It->Hp->Prop)(M4:Value)(s2:Shared):Prop:=
 ∃ (it:Addr) (fp:List Addr) (tn:Nat->Heap->Prop) (J:It) (H':Hp),M4=.ref it/\Inv X pins σ H' s2/\Turn X.prog X.w X.K tg J fp it tn/\tn 0 s2.heap/\(∀ b∈fp,dr X pins H' b)/\R J H'
def OM(X:Cx)(tg iter:Expr)(wi:TI)(pins:List (Addr×Obj)):Prop:=
 ∀ (s:Shared) (σ:St) (H:Hp) (R:It->Hp->Prop),Inv X pins σ H s->wi σ H R->
  wpAny (model X.prog X.w) X.A (eval iter X.env) (fun v s1=>wpAny (model X.prog X.w) X.A (pyIter v) (OL X pins σ tg R) X.xe s1) X.xe s
def PI(X:Cx)(tg iter:Expr)(wi:TI):Prop:=∀ pins,OM X tg iter wi pins
theorem lL{M : Model}{E : Value -> Shared -> Prop}{o : Obj}{n : String}{vs : Array Value}{Q : Unit -> Shared -> Prop}(ho : s.heap.get? it = some o)(hc : o.cls = .type n)(hd : o.data = .fields vs)(hn : ["enumerate", "zip", "dict_itemiterator", "dict_reverseitemiterator", "odict_iterator", "itertools.zip_longest", "itertools.pairwise"].contains n = false)(hQ : Q () s): wpAny M A (letOwnedTupleGo tg (.ref it) u) Q E s := by
  unfold letOwnedTupleGo;cases tg <;> first
    | exact wpAny_pure hQ
    | (cases u <;> first
        | exact wpAny_pure hQ
        | (refine wpAny_bind (wpAny_load ho ?_)
           rw [hc, hd];show wpAny M A (if (["enumerate", "zip", "dict_itemiterator", "dict_reverseitemiterator", "odict_iterator", "itertools.zip_longest", "itertools.pairwise"].contains n && vs[0]? == some (rawInt _)) = true then _ else _) Q E s;rw [if_neg (by intro h; rw [hn, Bool.false_and] at h; cases h)];exact wpAny_pure hQ))
def KQ(K:PySem.W.Frag)(a:Addr):It:=
 ⟨fun i H=>∃ xs x,En K H a xs/\xs[i]?=some x,fun i H x H'=>H'=H/\∀ xs,En K H a xs->xs[i]?=some x,fun i H=>∃ xs,En K H a xs/\xs.length<=i⟩
def Mj(K:PySem.W.Frag)(a:Addr):It:=
 ⟨fun i H=>∃ xs x,A_ K H a xs/\xs[i]?=some x,fun i H x H'=>H'=H/\∀ xs,A_ K H a xs->xs[i]?=some x,fun i H=>∃ xs,A_ K H a xs/\xs.length<=i⟩
def Mk(lo:Int)(n:Nat):It:=⟨fun i _=>i<n,fun i H x H'=>H'=H/\x=.int (lo+i),fun i _=>n<=i⟩
theorem vV(a it:Addr):Turn P w K tg (KQ K a) [it] it (fun i h=>h.IsListIter it a i) where
 mem:=by simp
 obj:=fun i h st b hb=>by
  have e:b=it:=by simpa using hb
  subst e;obtain⟨o,e,c,d⟩:=st;exact⟨o,e,fun v z=>by rw[d] at z;cases z⟩
 keep:=fun i h h' st k=>st.at fun o e=>k it (by simp) o e
 item:=by
  intro X hP hw hK hc i pins s σ H E I hf st hg;subst hP hw hK;obtain⟨xs,x,hq,hx⟩:=hg;obtain⟨e_,rv,p,hz⟩:=I.list hq;obtain⟨u,hu,ru⟩:=rv.get hx;obtain⟨f0,f1,f2,f3,f4,f5⟩:=hf it (by simp);refine wpAny_pyNext_list_item st p.isList (x:=u) (by simpa using hu) fun h' f_ sb=>?_;have I1:Inv X pins σ H { s with heap:=h' }:=I.turned (t':=s.toks) (fun b o hb e=>(sb.2 b hb).trans e) f0 f1 f3 f4 f5;obtain⟨o,e,c,d⟩:=id f_;exact⟨u,rfl,lL (s:={ s with heap:=h' }) e c d (by decide) ⟨x,H,I1,ru,⟨rfl,fun ys hy=>by rw[I.Hv hy hq];exact hx⟩,f_,fun b hb=>(hf b hb).1⟩⟩
 done:=by
  intro X hP hw hK hc i pins s σ H E I hf st hg;subst hP hw hK;obtain⟨xs,hq,hx⟩:=hg;obtain⟨e_,rv,p,hz⟩:=I.list hq;obtain⟨f0,f1,f2,f3,f4,f5⟩:=hf it (by simp);have hl:=rv.length;exact wpAny_pyNext_list_end (I.ok.hd hc) st p.isList (by simp;lia) fun h' eb=>⟨rfl,I.turned (t':=s.toks) (fun b o hb e=>eb b o hb e) f0 f1 f3 f4 f5⟩
 self:=fun _ _ _ _ _ st h=>wpAny_pyIter_listiter st h
theorem vW(a it:Addr):Turn P w K tg (Mj K a) [it] it (fun i h=>h.IsTupleIter it a i) where
 mem:=by simp
 obj:=fun i h st b hb=>by
  have e:b=it:=by simpa using hb
  subst e;obtain⟨o,e,c,d⟩:=st;exact⟨o,e,fun v z=>by rw[d] at z;cases z⟩
 keep:=fun i h h' st k=>st.at fun o e=>k it (by simp) o e
 item:=by
  intro X hP hw hK hc i pins s σ H E I hf st hg;subst hP hw hK;obtain⟨xs,x,hq,hx⟩:=hg;obtain⟨e_,rv,p,hz⟩:=I.tuple hq;obtain⟨u,hu,ru⟩:=rv.get hx;obtain⟨f0,f1,f2,f3,f4,f5⟩:=hf it (by simp);refine wpAny_pyNext_tuple_item st (show s.heap.IsTuple a e_.toArray from p) (x:=u) (by simpa using hu) fun h' f_ sb=>?_;have I1:Inv X pins σ H { s with heap:=h' }:=I.turned (t':=s.toks) (fun b o hb e=>(sb.2 b hb).trans e) f0 f1 f3 f4 f5;obtain⟨o,e,c,d⟩:=id f_;exact⟨u,rfl,lL (s:={ s with heap:=h' }) e c d (by decide) ⟨x,H,I1,ru,⟨rfl,fun ys hy=>by rw[I.E5 hy hq];exact hx⟩,f_,fun b hb=>(hf b hb).1⟩⟩
 done:=by
  intro X hP hw hK hc i pins s σ H E I hf st hg;subst hP hw hK;obtain⟨xs,hq,hx⟩:=hg;obtain⟨e_,rv,p,hz⟩:=I.tuple hq;obtain⟨f0,f1,f2,f3,f4,f5⟩:=hf it (by simp);have hl:=rv.length;exact wpAny_pyNext_tuple_end (I.ok.hd hc) st (show s.heap.IsTuple a e_.toArray from p) (by simp;lia) fun h' eb=>⟨rfl,I.turned (t':=s.toks) (fun b o hb e=>eb b o hb e) f0 f1 f3 f4 f5⟩
 self:=fun _ _ _ _ _ st h=>wpAny_pyIter_tupleiter st h
theorem vX(it:Addr)(lo:Int)(n:Nat):Turn P w K tg (Mk lo n) [it] it (fun i h=>IsRangeIter h it (lo+(i:Nat) * 1) ((n:Int) - (i:Nat)) 1) where
 mem:=by simp
 obj:=fun i h st b hb=>by
  have e:b=it:=by simpa using hb
  subst e;exact⟨_,st,fun v z=>by
   have z':Data.fields _=Data.cell v:=z;cases z'⟩
 keep:=fun i h h' st k=>k it (by simp) _ st
 item:=by
  intro X hP hw hK hc i pins s σ H E I hf st hg;subst hP hw hK;obtain⟨f0,f1,f2,f3,f4,f5⟩:=hf it (by simp);have W:=Walks.range (prog:=X.prog) (w:=X.w) (I.ok.hd hc) it lo 1 n;refine W.item i s _ _ hg st fun v h' tk hv f_ kk=>?_;obtain⟨t,rfl⟩:=hv;have I1:Inv X pins σ H { s with heap:=h',toks:=tk }:=I.turned (fun b o hb e=>kk b o (by simpa using hb) e) f0 f1 f3 f4 f5;refine⟨_,rfl,lL (s:={ s with heap:=h',toks:=tk }) (n := "range_iterator") f_ rfl rfl (by decide) ⟨.int<|lo+i,H,I1,⟨t,?_⟩,⟨rfl,rfl⟩,f_,fun b hb=>(hf b hb).1⟩⟩;rw[Int.mul_one]
 done:=by
  intro X hP hw hK hc i pins s σ H E I hf st hg;subst hP hw hK;obtain⟨f0,f1,f2,f3,f4,f5⟩:=hf it (by simp);exact wpAny_pyNext_range_end (I.ok.hd hc) st (by have:n<=i:=hg;lia) fun h' eb=>⟨rfl,I.turned (t':=s.toks) (fun b o hb e=>eb b o hb e) f0 f1 f3 f4 f5⟩
 self:=fun _ _ _ _ _ st h=>wpAny_pyIter_rangeiter st h
section
variable{X:Cx}{tg:Expr}
theorem vY{R:It->Hp->Prop}{lo hi:Int}{t u v:Tok}{tk:Nat}(I:Inv X pins σ H s)(h1 : -(2 ^ 62)<=lo)(h2:lo<2 ^ 62)(h3 : -(2 ^ 62)<=hi)(h4:hi<2 ^ 62)(q:R (Mk lo (hi - lo).toNat) H):wpAny (model X.prog X.w) X.A (pyIter<|.ref s.heap.objs.size) (OL X pins σ tg R) E { s with heap:=s.heap.push { cls:=.type "range",data:=.fields #[.int lo t,.int hi u,.int 1 v] },toks:=tk }:=by
 refine wpAny_pyIter_range (IsRange.new ..) (small_one h1 h2 h3 h4) ?_;have I1:Inv X pins σ H { s with heap:=s.heap.push { cls:=.type "range",data:=.fields #[.int lo t,.int hi u,.int 1 v] },toks:=tk }:=I.kept fun b o e=>Heap.get?_push_of_some _ e;refine⟨(s.heap.push { cls:=.type "range",data:=.fields #[.int lo t,.int hi u,.int 1 v] }).objs.size,[(s.heap.push { cls:=.type "range",data:=.fields #[.int lo t,.int hi u,.int 1 v] }).objs.size],_,_,H,rfl,
  I1.kept (t':=tk) fun b o e=>Heap.get?_push_of_some _ e,vX _ lo (hi - lo).toNat,?_,fun b hb=>?_,q⟩
 ·have e1:lo+((0:Nat):Int) * 1=lo:=by simp
  have e2:(((hi - lo).toNat:Nat):Int) - ((0:Nat):Int)=Builtin.Range.rangeSize lo hi 1:=by rw[rangeSize_one];split<;>lia
  show IsRangeIter _ _ (lo+((0:Nat):Int) * 1) ((((hi - lo).toNat:Nat):Int) - ((0:Nat):Int)) 1;rw[e1,e2];exact Heap.get?_push_size _ rfl
 ·have e:b=(s.heap.push { cls:=.type "range",data:=.fields #[.int lo t,.int hi u,.int 1 v] }).objs.size:=by simpa using hb
  subst e;exact I1.Iv (Nat.le_refl _) (I1.l_.fresh<|Nat.le_refl _)
def vZ(ta:TA):TI:=fun σ H R=>ta σ H fun vs H1=>∃ j:Int,vs=[.int j] /\ -(2 ^ 62)<=j/\j<2 ^ 62/\R (Mk 0 j.toNat) H1
theorem v3{a:Expr}{p:Pos}(hg:Gl X "range")(hm:X.mg "range" = none)(ha:PA X [a] ta)(hs:starEach [a] X.env=[(false,eval a X.env)]:=by rfl):PI X tg (.Call (.Name "range" p) [a] [] pos) (vZ ta):=by
 intro pins s σ H R I h;refine Call_ (fJ I hg hm boot_range<|PyProof.Rows.callWith_type1 (z_ (ha pos pins s σ H _ I h) fun us s1 ⟨vs,H1,I1,r1,q1⟩=>?_) hs rfl);obtain⟨j,e,q1,q2,q⟩:=q1;subst e;cases r1 with
 | cons r rr=>
  cases rr;obtain⟨t,rfl⟩:=r;exact call_range_1 (vY I1 (by lia) (by lia) q1 q2 (by simpa using q))
def oT(wi:TI)(g:TG)(tb:TS):TS:=fun D σ H=>wi σ H fun J H1=>∃ W:Nat->Nat->St->Hp->Prop,(∃ m,W 0 m σ H1)/\∀ i m σ H,W i m σ H->
 (J.stop i H/\D.nx σ H)\/(J.go i H/\∃ N:St->Hp->Prop,(∀ σ' H',N σ' H'->∃ m',m'<m/\W (i+1) m' σ' H')/\∀ x H',J.KP i H x H'->g x σ H' fun σ2 H2=>tb { D with nx:=N,ct:=N,bk:=D.nx } σ2 H2)
def eI(fp:List Addr)(h:Heap):List (Addr×Obj):=fp.filterMap fun b=>(h.get? b).map fun o=>(b,o)
theorem jJ{o:Obj}(hb:b∈fp)(e:h.get? b=some o):(b,o)∈eI fp h:=mem_filterMap.mpr ⟨b,hb,by rw[e];rfl⟩
theorem oU{p:Addr×Obj}(hp:p∈eI fp h):p.1∈fp/\h.get? p.1=some p.2:=by
 obtain⟨b,hb,e⟩:=mem_filterMap.mp hp;cases q:h.get? b with
 | none=>rw[q] at e;cases e
 | some o=>
  rw[q] at e;have e':(b,o)=p:=Option.some.inj e;subst e';exact⟨hb,q⟩
theorem Inv.pinned(I:Inv X pins σ H s)(hf:∀ b∈fp,dr X pins H b)(ho:∀ b∈fp,∃ o,s.heap.get? b=some o/\∀ v,o.data≠.cell v):Inv X (pins++eI fp s.heap) σ H s:=
 I.ED fun p hp=>(mem_append.mp hp).elim (fun z=>I.pin p<|mem_append_right _ z) fun z=>by
  obtain⟨hb,e⟩:=oU z;obtain⟨f0,f1,f2,_⟩:=hf p.1 hb;obtain⟨o,e',d⟩:=ho p.1 hb;rw[e] at e';cases e';exact⟨e,f0,f1,f2,d⟩
theorem Inv.Fr{pl:List (Addr×Obj)}(I:Inv X (pins++pl) σ H s):Inv X pins σ H s:=I.ED fun p hp=>I.pin p (mem_append_right _<|mem_append_left _ hp)
theorem v4{iter:Expr}{wi:TI}{g:TG}(hp:PassesOwn (model X.prog X.w) X.A X.env X.xe)(hc:X.calm=true)(hi:PI X tg iter wi)(hg:PG X tg g)(hb:Gz X body tb)(hs:∀ x,foldedSetIterable iter X.env x=pure x:=by intro _;rfl):PS X (.For tg iter body [] pos) (oT wi g tb):=by
 intro pins s σ H D I h;refine wpAny_For (z_ (hi pins s σ H _ I h) fun v s1 h1=>z_ h1 fun M4 s2 h2=>?_) hs;obtain⟨it,fp,tn,J,H2,e,I2,T,q_,f2,W,⟨m0,w0⟩,turn⟩:=h2;subst e;have JC:∀ {H':Hp},(∀ b∈fp,H' b=none)->∀ b∈fp,dr X pins H' b:=fun hn b hb=>⟨hn b hb,(f2 b hb).2⟩;refine codeAny_forLoop_any (fun n s'=>∃ i σ' H',Inv X pins σ' H' s'/\tn i s'.heap/\(∀ b∈fp,H' b=none)/\W i n σ' H') ?_ m0 ⟨0,σ,H2,I2,q_,fun b hb=>(f2 b hb).1,w0⟩;rintro n s3 ⟨i,σ3,H3,I3,E6,KR,w3⟩;rcases turn i n σ3 H3 w3 with ⟨stop,qn⟩ | ⟨go,N,hN,step⟩
 ·refine wpAny_passesOwn hp (z_ (T.done X rfl rfl rfl hc i pins s3 σ3 H3 X.xe I3 (JC KR) E6 stop) fun r s4 ⟨hr,I4⟩=>?_);subst hr;exact wpAny_execs_nil ⟨σ3,H3,I4,qn⟩
 ·refine wpAny_passesOwn hp (z_ (T.item X rfl rfl rfl hc i pins s3 σ3 H3 X.xe I3 (JC KR) E6 go) fun r s4 ⟨u,hr,h4⟩=>?_);subst hr;refine wpAny_passesOwn hp (z_ h4 fun _ s5 ⟨x,H5,I5,r5,y5,Fi,M5⟩=>?_);have M6:=I5.pinned (JC M5) (T.obj _ _ Fi);refine wpAny_passesOwn hp (z_ (hg _ s5 σ3 H5 x u _ M6 r5<|step x H5 y5) fun _ s6 ⟨σ6,H6,I6,q6⟩=>?_);refine wpAny_passesOwn hp (z_ (hb _ s6 σ6 H6 _ I6 q6) fun f s7 q7=>?_);have again:∀ {σ7:St}{H7:Hp},Inv X (pins++eI fp s5.heap) σ7 H7 s7->N σ7 H7->∃ m,m<n/\∃ i σ' H',Inv X pins σ' H' s7/\tn i s7.heap/\(∀ b∈fp,H' b=none)/\W i m σ' H':=fun {σ7 H7} I7 n7=>by
   obtain⟨m',hm,w7⟩:=hN σ7 H7 n7;refine⟨m',hm,i+1,σ7,H7,I7.Fr,T.keep _ _ _ Fi fun b hb o e=>(I7.pin (b,o)<|mem_append_right _<|mem_append_right _<|jJ hb e).1,fun b hb=>?_,w7⟩;obtain⟨o,e,d⟩:=T.obj _ _ Fi b hb;exact (I7.pin (b,o)<|mem_append_right _<|mem_append_right _<|jJ hb e).2.1
  cases f with
  | next=>obtain⟨σ7,H7,I7,n7⟩:=q7;exact again I7 n7
  | cont=>obtain⟨σ7,H7,I7,n7⟩:=q7;exact again I7 n7
  | brk=>obtain⟨σ7,H7,I7,q7⟩:=q7;exact⟨σ7,H7,I7.Fr,q7⟩
  | ret v=>obtain⟨x7,σ7,H7,I7,r7,q7⟩:=q7;exact⟨x7,σ7,H7,I7.Fr,r7,q7⟩
end
abbrev R2:=V->V->Hp->VK->Prop
variable{r:R2}
def EJ(X:Cx)(f:Value->Value->Sem Value)(r:R2):Prop:=
 ∀ (pins:List (Addr×Obj)) (s:Shared) (σ:St) (H:Hp) (x y:V) (v u:Value) (Q:VK),Inv X pins σ H s->aw x v->aw y u->r x y H Q->
  wpAny (model X.prog X.w) X.A (f v u) (EP X pins σ Q) X.xe s
def M7(X:Cx)(f:Value->Sem Value)(r:V->Hp->VK->Prop):Prop:=
 ∀ (pins:List (Addr×Obj)) (s:Shared) (σ:St) (H:Hp) (x:V) (v:Value) (Q:VK),Inv X pins σ H s->aw x v->r x H Q->
  wpAny (model X.prog X.w) X.A (f v) (EP X pins σ Q) X.xe s
def bb(X:Cx)(f:Value)(r:List V->Hp->VK->Prop):Prop:=
 ∀ (pins:List (Addr×Obj)) (s:Shared) (σ:St) (H:Hp) (xs:List V) (us:List Value) (Q:VK),Inv X pins σ H s->au xs us->r xs H Q->
  wpAny (model X.prog X.w) X.A (call f us) (EP X pins σ Q) X.xe s
def v6(X:Cx)(r:V->Hp->(Bool->Hp->Prop)->Prop):Prop:=
 ∀ (pins:List (Addr×Obj)) (s:Shared) (σ:St) (H:Hp) (x:V) (v:Value) (Q:Bool->Hp->Prop),Inv X pins σ H s->aw x v->r x H Q->
  wpAny (model X.prog X.w) X.A (truthy v) (TP X pins σ Q) X.xe s
def Ml(r:R2)(ta tb:TE):TE:=fun σ H Q=>ta σ H fun x H1=>tb σ H1 fun y H2=>r x y H2 Q
def PP(r:V->Hp->VK->Prop)(ta:TE):TE:=fun σ H Q=>ta σ H fun x H1=>r x H1 Q
def rI(C:Int->Int->Prop)(g:Int->Int->V):R2:=fun x y H Q=>∃ i j,x=.int i/\y=.int j/\C i j/\Q (g i j) H
def Iw(g:Int->Int->V):R2:=fun x y H Q=>∃ i j,x=.int i/\y=.int j/\Q (g i j) H
def rU(g:Int->V):V->Hp->VK->Prop:=fun x H Q=>∃ i,x=.int i/\Q (g i) H
section
variable{X:Cx}{a b c:Expr}{ta tb tc:TE}{pos:Pos}
theorem lM(ha:PE X a ta)(hb:PE X b tb){pins:List (Addr×Obj)}{s:Shared}{σ:St}{H:Hp}{R:V->V->Hp->Prop}(I:Inv X pins σ H s)(h:ta σ H fun x H1=>tb σ H1 fun y H2=>R x y H2){Q:Value->Shared->Prop}{f:Value->Value->Sem Value}(hf:∀ v u s2 x y H2,Inv X pins σ H2 s2->aw x v->aw y u->R x y H2->wpAny (model X.prog X.w) X.A (f v u) Q X.xe s2):
  wpAny (model X.prog X.w) X.A (eval a X.env) (fun v s₁=>wpAny (model X.prog X.w) X.A (eval b X.env) (fun u s₂=>wpAny (model X.prog X.w) X.A (f v u) Q X.xe s₂) X.xe s₁) X.xe s:=by
 refine z_ (ha pins s σ H _ I h) fun v s1 ⟨x,H1,I1,r1,q1⟩=>?_;refine z_ (hb pins s1 σ H1 _ I1 q1) fun u s2 ⟨y,H2,I2,r2,q2⟩=>?_;exact hf v u s2 x y H2 I2 r1 r2 q2
theorem v7{op:Operator}(ho:EJ X (binaryOp op) r)(ha:PE X a ta)(hb:PE X b tb):PE X (.BinOp a op b pos) (Ml r ta tb):=by
 intro pins s σ H Q I h;exact wpAny_BinOp (lM ha hb I h fun v u s2 x y H2 I2 rx ry q=>ho pins s2 σ H2 x y v u Q I2 rx ry q)
theorem v9{op:UnaryOp}{r:V->Hp->VK->Prop}(ho:M7 X (unaryOp op) r)(ha:PE X a ta):PE X (.UnaryOp op a pos) (PP r ta):=by
 intro pins s σ H Q I h;exact UnaryOp_ (z_ (ha pins s σ H _ I h) fun v s1 ⟨x,H1,I1,r1,q1⟩=>ho pins s1 σ H1 x v Q I1 r1 q1)
theorem Mm{C:Int->Int->Prop}(rule:∀ (i j:Int) (t u:Tok) (s:Shared) (Q:Value->Shared->Prop) (E:Value->Shared->Prop),C i j->Q (.int (g i j) s.toks) { s with toks:=s.toks+1 }->wpAny (model X.prog X.w) X.A (f (.int i t)<|.int j u) Q E s):
  EJ X f (rI C fun i j=>.int<|g i j):=by
 intro pins s σ H x y v u Q I rx ry h;obtain⟨i,j,rfl,rfl,hc,q⟩:=h;obtain⟨t,rfl⟩:=rx;obtain⟨t',rfl⟩:=ry;exact rule i j t t' s _ _ hc ⟨.int<|g i j,H,I.tok _,⟨_,rfl⟩,q⟩
theorem oW(rule:∀ (i j:Int) (t u:Tok) (s:Shared) (Q:Value->Shared->Prop) (E:Value->Shared->Prop),Q (.int (g i j) s.toks) { s with toks:=s.toks+1 }->wpAny (model X.prog X.w) X.A (f (.int i t)<|.int j u) Q E s):
  EJ X f (Iw fun i j=>.int<|g i j):=by
 intro pins s σ H x y v u Q I rx ry h;obtain⟨i,j,rfl,rfl,q⟩:=h;obtain⟨t,rfl⟩:=rx;obtain⟨t',rfl⟩:=ry;exact rule i j t t' s _ _ ⟨.int<|g i j,H,I.tok _,⟨_,rfl⟩,q⟩
theorem jK{g:Int->Int->Bool}(rule:∀ (i j:Int) (t u:Tok) (s:Shared) (Q:Value->Shared->Prop) (E:Value->Shared->Prop),Q (.bool<|g i j) s->wpAny (model X.prog X.w) X.A (f (.int i t)<|.int j u) Q E s):
  EJ X f (Iw fun i j=>.bl<|g i j):=by
 intro pins s σ H x y v u Q I rx ry h;obtain⟨i,j,rfl,rfl,q⟩:=h;obtain⟨t,rfl⟩:=rx;obtain⟨t',rfl⟩:=ry;exact rule i j t t' s _ _ ⟨.bl<|g i j,H,I,rfl,q⟩
def we(i j:Int):Prop:=0<j/\j<1073741824
def wf(i j:Int):Prop:=0<=j/\j<=1000000/\i.natAbs<2 ^ 64
theorem wg:EJ X (binaryOp .Add) (Iw fun i j=>.int<|i+j):=oW fun _ _ _ _ _ _ _ q=>add_int q
theorem wj:EJ X (binaryOp .Sub) (Iw fun i j=>.int<|i - j):=oW fun _ _ _ _ _ _ _ q=>sub_int q
theorem wl:EJ X (binaryOp .FloorDiv) (rI we fun i j=>.int<|i / j):=Mm fun i j _ _ _ _ _ hc q=>by
 have h1:(0:Int)<j:=hc.1;have h2:j<1073741824:=hc.2;exact floordiv_int (by lia) (by rw[Int.fdiv_eq_ediv_of_nonneg i (by lia)];exact q) (.inl (PyProof.noPylong_small (by lia)))
theorem wm:EJ X (binaryOp .Mod) (rI (fun _ j=>0<j) fun i j=>.int<|i % j):=Mm fun i j _ _ _ _ _ hc q=>by
 have h1:(0:Int)<j:=hc;exact mod_int' (by lia) (by rw[Int.fmod_eq_emod_of_nonneg i (by lia)];exact q)
theorem wn:EJ X (binaryOp .Pow) (rI wf fun i j=>.int<|i ^ j.toNat):=Mm fun _ _ _ _ _ _ _ hc q=>pow_int_small hc.1 hc.2.1 hc.2.2 q
theorem PQ{f:Value->Sem Value}{g:Int->Int}(rule:∀ (i:Int) (t:Tok) (s:Shared) (Q:Value->Shared->Prop) (E:Value->Shared->Prop),Q (.int (g i) s.toks) { s with toks:=s.toks+1 }->wpAny (model X.prog X.w) X.A (f<|.int i t) Q E s):
  M7 X f (rU fun i=>.int<|g i):=by
 intro pins s σ H x v Q I rx h;obtain⟨i,rfl,q⟩:=h;obtain⟨t,rfl⟩:=rx;exact rule i t s _ _ ⟨.int<|g i,H,I.tok _,⟨_,rfl⟩,q⟩
theorem wo:M7 X (unaryOp .USub) (rU fun i=>.int<|-i):=PQ fun _ _ _ _ _ q=>neg_int q
end
section
variable{X:Cx}{a b c:Expr}{ta tb tc:TE}{pos:Pos}
theorem wq{Q:VK}{k k':Bool}(I:Inv X pins σ H s)(q:Q (.bl k) H)(e:k=k'):EP X pins σ Q (.bool k') s:=by
 subst e;exact⟨.bl k,H,I,rfl,q⟩
theorem wt:EJ X (compareOp .Lt) (Iw fun i j=>.bl<|decide (i<j)):=jK fun _ _ _ _ _ _ _ q=>lt_int q
theorem wu:EJ X (compareOp .LtE) (Iw fun i j=>.bl<|decide (i<=j)):=jK fun _ _ _ _ _ _ _ q=>le_int q
theorem wv:EJ X (compareOp .Gt) (Iw fun i j=>.bl<|decide (j<i)):=jK fun _ _ _ _ _ _ _ q=>gt_int q
theorem ww:EJ X (compareOp .GtE) (Iw fun i j=>.bl<|decide (j<=i)):=jK fun _ _ _ _ _ _ _ q=>ge_int q
theorem wx:EJ X (compareOp .Is) (fun x y H Q=>y=.j_/\Q (.bl<|decide (x=.j_)) H):=by
 intro pins s σ H x y v u Q I rx ry h;obtain⟨rfl,q⟩:=h;cases ry;refine is_none_gen (wq I q ?_);cases x<;>first
  | (cases rx;rfl)
  | (obtain⟨t,rfl⟩:=rx;rfl)
theorem EJ.or{r':R2}(h:EJ X f r)(h':EJ X f r'):EJ X f (fun x y H Q=>r x y H Q\/r' x y H Q):=by
 intro pins s σ H x y v u Q I rx ry q;rcases q with q | q
 ·exact h pins s σ H x y v u Q I rx ry q
 ·exact h' pins s σ H x y v u Q I rx ry q
theorem bx(b:Expr){op:CmpOp}(h:op≠.In:=by decide)(h2:op≠.NotIn:=by decide):behindInMarks op b=false:=by
 have e1:(op == CmpOp.In)=false:=by cases op<;>first | rfl | exact absurd rfl h
 have e2:(op == CmpOp.NotIn)=false:=by cases op<;>first | rfl | exact absurd rfl h2
 cases b<;>simp[behindInMarks,e1,e2]
theorem wy(ho:EJ X (compareOp op) r)(ha:PE X a ta)(hb:PE X b tb)(hm:behindInMarks op b=false):PE X (.Compare a [op] [b] pos) (Ml r ta tb):=by
 intro pins s σ H Q I h;exact wpAny_Compare1 (lM ha hb I h fun v u s2 x y H2 I2 rx ry q=>ho pins s2 σ H2 x y v u Q I2 rx ry q) hm
def wz(t:TE):TT:=fun σ H Q=>t σ H fun x H'=>∃ k,x=.bl k/\Q k H'
theorem wA(ho:EJ X (compareOp op) r)(ha:PE X a ta)(hb:PE X b tb)(hm:behindInMarks op b=false):PT X (.Compare a [op] [b] pos) (wz<|Ml r ta tb):=by
 intro pins s σ H Q I h;refine wpAny_isTrue_Compare1 (z_ (ha pins s σ H _ I h) fun v s1 ⟨x,H1,I1,r1,q1⟩=>z_ (hb pins s1 σ H1 _ I1 q1) fun u s2 ⟨y,H2,I2,r2,q2⟩=>
  z_ (ho pins s2 σ H2 x y v u _ I2 r1 r2 q2) fun c s3 ⟨z,H3,I3,r3,k,e,q3⟩=>?_) hm;subst e;cases r3;exact wpAny_truthy_bool ⟨H3,I3,q3⟩
def lN(K:PySem.W.Frag)(x:V)(H:Hp)(k:Bool):Prop:=
 match x with
 | .j_=>k=false
 | .bl b=>k=b
 | .int i=>k=(i != 0)
 | .str y=>y.length<=sizeLine/\k=((y.length:Int) != 0)
 | .KF y=>y.size<=sizeLine/\k=((y.size:Int) != 0)
 | .ref p=>(∃ xs,En K H p xs/\k=!xs.isEmpty)\/(∃ xs,A_ K H p xs/\k=!xs.isEmpty)\/∃ kvs,H p=some (.dK kvs)/\k=!kvs.isEmpty
 | _=>False
theorem wB{κ:Type}{kvs:List (κ×V)}{vs:List (κ×Value)}(r:KV kvs vs):(!vs.isEmpty)=!kvs.isEmpty:=by
 cases r<;>rfl
theorem oX{e_:List Value}(r:au xs e_):(!e_.toArray.isEmpty)=!xs.isEmpty:=by
 cases r<;>simp
theorem gy:(sizeLine:Nat)<2 ^ 63:=by rw[sizeLine_eq];decide
theorem wC:v6 X (fun x H Q=>∃ k,lN X.K x H k/\Q k H):=by
 intro pins s σ H x v Q I rx h;obtain⟨k,e,q⟩:=h;have hl:=gy;have hs:sizeLine=16777216:=sizeLine_eq;cases x with
 | j_=>
  cases rx;have e':k=false:=e;subst e';exact truthy_none ⟨H,I,q⟩
 | bl b=>
  cases rx;have e':k=b:=e;subst e';exact wpAny_truthy_bool ⟨H,I,q⟩
 | int i=>
  obtain⟨t,rfl⟩:=rx;have e':k=(i != 0):=e;subst e';exact PySem.P.truthy_int ⟨H,I,q⟩
 | str y=>
  obtain⟨t,rfl⟩:=rx;obtain⟨hy,e'⟩:y.length<=sizeLine/\k=((y.length:Int) != 0):=e;subst e';exact PySem.P.truthy_str (by lia) ⟨H,I.tok _,q⟩
 | KF y=>
  obtain⟨t,rfl⟩:=rx;obtain⟨hy,e'⟩:y.size<=sizeLine/\k=((y.size:Int) != 0):=e;subst e';exact PySem.W.truthy_bytes (by lia) ⟨H,I.tok _,q⟩
 | ref p=>
  cases rx;have e':(∃ xs,En X.K H p xs/\k=!xs.isEmpty)\/(∃ xs,A_ X.K H p xs/\k=!xs.isEmpty)\/∃ kvs,H p=some (.dK kvs)/\k=!kvs.isEmpty:=e;rcases e' with ⟨xs,hx,e'⟩ | ⟨xs,hx,e'⟩ | ⟨kvs,hx,e'⟩
  ·subst e';obtain⟨e_,r,pl,hz⟩:=I.list hx;have hlen:=r.length;exact wpAny_truthy_list pl.isList (by simp only[size_toArray];lia) ⟨H,I.tok _,by rw[oX r];exact q⟩
  ·subst e';obtain⟨e_,r,pl,hz⟩:=I.tuple hx;have hlen:=r.length;exact truthy_tuple pl (by simp only[size_toArray];lia) ⟨H,I.tok _,by rw[oX r];exact q⟩
  ·subst e';obtain⟨hz,hS,vs,r,m⟩:kvs.length<=sizeLine/\(p == sysModules)=false/\∃ vs,KV kvs vs/\s.heap.DictOf (eF X.prog X.w) p vs:=I.l_ p _ hx;have hlen:kvs.length=vs.length:=Paired.length r;exact wpAny_truthy_dict hS m (by lia) ⟨H,I.tok _,by rw[wB r];exact q⟩
 | _=>exact (show False from e).elim
theorem wD(ha:PE X a ta)(he:∀ whole,isTrue a X.env whole=(do let v <- whole;standAt a.pos;holding [v] (truthy v))):
  PT X a (fun σ H Q=>ta σ H fun x H'=>∃ k,lN X.K x H' k/\Q k H'):=by
 intro pins s σ H Q I h;exact isTrue_plain (z_ (ha pins s σ H _ I h) fun v s1 ⟨x,H1,I1,r1,q1⟩=>wC pins s1 σ H1 x v Q I1 r1 q1) (he _)
theorem wE:EJ X (binaryOp .Add) (fun x y H Q=>∃ i j,x=.str i/\y=.str j/\i.length+j.length<=sizeLine/\Q (.str<|i++j) H):=by
 intro pins s σ H x y v u Q I rx ry h;obtain⟨i,j,rfl,rfl,hz,q⟩:=h;obtain⟨t,rfl⟩:=rx;obtain⟨t',rfl⟩:=ry;exact add_str (fun t' tk=>⟨.str<|i++j,H,I.tok _,⟨_,rfl⟩,q⟩) hz
theorem b9{x:V}(r:au [x] us):∃ u,us=[u]/\aw x u:=by
 cases r with
 | cons r1 r2=>cases r2;exact⟨_,rfl,r1⟩
theorem lP{x:V}(r:au [x,y] us):∃ u w',us=[u,w']/\aw x u/\aw y w':=by
 cases r with
 | cons r1 r2=>
  cases r2 with
  | cons r3 r4=>cases r4;exact⟨_,_,rfl,r1,r3⟩
theorem wF:bb X (.builtin "abs") (fun xs H Q=>∃ i,xs=[.int i]/\Q (.int<|if i<0 then -i else i) H):=by
 intro pins s σ H xs us Q I r h;obtain⟨i,rfl,q⟩:=h;obtain⟨u,rfl,t,rfl⟩:=b9 r;exact call_abs_int fun u tk=>⟨.int<|if i<0 then -i else i,H,I.tok _,⟨_,rfl⟩,q⟩
theorem wG(hc:X.calm=true):bb X (.builtin "max") (fun xs H Q=>∃ i j,xs=[.int i,.int j]/\Q (.int<|if j > i then j else i) H):=by
 intro pins s σ H xs us Q I r h;obtain⟨i,j,rfl,q⟩:=h;obtain⟨u,w',rfl,⟨t,rfl⟩,⟨t',rfl⟩⟩:=lP r;refine max_two_ints (I.ok.hd hc) fun h' tk k=>⟨_,H,I.kept k,?_,q⟩;by_cases hj:j > i
 ·rw[if_pos hj,if_pos hj];exact⟨_,rfl⟩
 ·rw[if_neg hj,if_neg hj];exact⟨_,rfl⟩
theorem wH(hc:X.calm=true):bb X (.builtin "min") (fun xs H Q=>∃ i j,xs=[.int i,.int j]/\Q (.int<|if j<i then j else i) H):=by
 intro pins s σ H xs us Q I r h;obtain⟨i,j,rfl,q⟩:=h;obtain⟨u,w',rfl,⟨t,rfl⟩,⟨t',rfl⟩⟩:=lP r;refine min_two_ints (I.ok.hd hc) fun h' tk k=>⟨_,H,I.kept k,?_,q⟩;by_cases hj:j<i
 ·rw[if_pos hj,if_pos hj];exact⟨_,rfl⟩
 ·rw[if_neg hj,if_neg hj];exact⟨_,rfl⟩
theorem wI:bb X (.type "int") (fun xs H Q=>(∃ i,xs=[.int i]/\Q (.int i) H)\/∃ k,xs=[.bl k]/\Q (.int<|if k then 1 else 0) H):=by
 intro pins s σ H xs us Q I r h;rcases h with ⟨i,rfl,q⟩ | ⟨k,rfl,q⟩
 ·obtain⟨u,rfl,t,rfl⟩:=b9 r;exact call_int_int ⟨.int i,H,I,⟨_,rfl⟩,q⟩
 ·obtain⟨u,rfl,r1⟩:=b9 r;cases r1;exact call_int_bool ⟨.int<|if k then 1 else 0,H,I.tok _,⟨_,rfl⟩,q⟩
end
section
variable{prog:Program}{w:World}{A:Around}{E:Value->Shared->Prop}{s:Shared}{K:PySem.W.Frag}{x dx C f:Addr}{mA:Str->Option Value}{name:Str}{v:Value}
end
theorem dF.some_of{o:Option Value}(r:dF (some v) o):∃ u,o=some u/\aw v u:=by
 cases o with
 | none=>exact (show False from r).elim
 | some u=>exact⟨u,rfl,r⟩
section
variable{P:Program}{w:World}{H H':Hp}{h h':Heap}{a C dx:Addr}{fs PM:List (Str×V)}
end
section
variable{X:Cx}{pins:List (Addr×Obj)}{σ:St}{H:Hp}{s:Shared}{a C dx:Addr}{fs:List (Str×V)}{f:Str}{v:V}{A:Around}{E:Value->Shared->Prop}
end
section
variable{X:Cx}{o e value:Expr}{f:Str}{pos pos' M8:Pos}{ta tv:TE}
end
section
variable{X:Cx}{pins:List (Addr×Obj)}{σ:St}{H:Hp}{s:Shared}{A:Around}{E:Value->Shared->Prop}{Q:Value->Shared->Prop}{c:Value}{b:Bool}
end
structure Ed(k:Nat)(A:Around):Prop where
 hd:A.handled=none
 dp:A.depth+3 * k+5<recursionLimit
 un:A.units+16 * k+200<cLine
 gd:A.guards=some []
theorem Ed.mono(r:Ed k A)(h:j<=k):Ed j A:=⟨r.hd,by have:=r.dp;lia,by have:=r.un;lia,r.gd⟩
theorem Ed.deeper(r:Ed (k+1) A)(env:Env):Ed k (A.deeper env):=
 ⟨r.hd,by have:=r.dp;show A.depth+1+3 * k+5 < _;lia,by have:=r.un;show A.units+3+16 * k+200 < _;lia,r.gd⟩
theorem Ed.depth(r:Ed k A):A.depth<recursionLimit:=by have:=r.dp;lia
def M9:TA:=fun _ H Q=>Q [] H
def wJ(ta:TE)(tr:TA):TA:=fun σ H Q=>ta σ H fun x H1=>tr σ H1 fun xs H2=>Q (x::xs) H2
section
variable{X:Cx}{e:Expr}{es:List Expr}{te:TE}{t:TA}{pos:Pos}
theorem oY:PA X [] M9:=fun _ _ _ _ H Q I h=>Calls.spliced_nil ⟨[],H,I,.nil,h⟩
theorem lQ(ha:PE X e te)(hr:PA X es t)(hs:starEach (e::es) X.env=(false,eval e X.env)::starEach es X.env:=by rfl):PA X (e::es) (wJ te t):=by
 intro pos pins s σ H Q I h;rw[hs];show wpAny _ _ (spliced ((false,eval e X.env)::backTo pos (starEach es X.env))) _ _ s;refine Calls.spliced_cons (z_ (ha pins s σ H _ I h) fun u s1 ⟨x,H1,I1,r1,q1⟩=>?_);exact z_ (hr pos pins s1 σ H1 _ I1 q1) fun us s2 ⟨xs,H2,I2,r2,q2⟩=>⟨x::xs,H2,I2,.cons r1 r2,q2⟩
def wK(t:TA):TE:=fun σ H Q=>t σ H fun xs H1=>xs.length<=sizeLine/\∀ p,H1 p=none->Q (.ref p) (upd H1 p<|.tup xs)
def wL(t:TA):TE:=fun σ H Q=>t σ H fun xs H1=>xs.length<=sizeLine/\∀ p,H1 p=none->Q (.ref p) (upd H1 p<|.lst xs)
theorem wM{x1}(h:PA X es t):PE X (.Tuple es x1 pos) (wK t):=by
 intro pins s σ H Q I hq;refine wpAny_Tuple_spliced (z_ (h pos pins s σ H _ I hq) fun us s1 ⟨xs,H1,I1,r,z,q⟩=>⟨by rw[<- r.length];exact z,?_⟩);have hf:H1 s1.heap.objs.size=none:=I1.l_.fresh (Nat.le_refl _);refine⟨.ref s1.heap.objs.size,upd H1 s1.heap.objs.size<|.tup xs,I1.laid (t':=s1.toks) (fun b u e=>Heap.get?_push_of_some _ e) (Nat.le_refl _) ?_,rfl,q _ hf⟩;exact⟨z,us,r,⟨_,Heap.get?_push_size _ rfl,rfl,_,rfl⟩⟩
theorem wN(h:PA X es t):PE X (.List es pos) (wL t):=by
 intro pins s σ H Q I hq;refine wpAny_List_spliced (z_ (h pos pins s σ H _ I hq) fun us s1 ⟨xs,H1,I1,r,z,q⟩=>⟨by rw[<- r.length];exact z,?_⟩);have hf:H1 s1.heap.objs.size=none:=I1.l_.fresh (Nat.le_refl _);refine⟨.ref s1.heap.objs.size,upd H1 s1.heap.objs.size<|.lst xs,I1.laid (t':=s1.toks) (fun b u e=>Heap.get?_push_of_some _ e) (Nat.le_refl _) ?_,rfl,q _ hf⟩;exact⟨z,us,0,r,Heap.get?_push_size _ rfl⟩
end
abbrev Sp:=List V->Hp->VK->XK->Prop
abbrev Hx:=List Env->Hp->Shared->XK->Value->Shared->Prop
variable{CX:Hx}
structure Ix(P:Program)(w:World)(K:PySem.W.Frag)(mg:Str->Option Value)(base:Heap)(A:Around)(outer:List Env)(s:Shared)(H:Hp):Prop where
 frames:A.frames=some outer
 mod:Mod K mg base
 bs:∀ b o,base.get? b=some o->s.heap.get? b=some o/\H b=none
 Ir:base.objs.size<=s.heap.objs.size
 E4:s.heap.FunFrames base outer
 Jv:∀ b∈GO outer,H b=none
 l_:EI P w H s.heap
 bare:AllBare s.gens
def CE(outer:List Env)(P:Program)(w:World)(H:Hp)(s:Shared)(Q:VK)(u:Value)(s':Shared):Prop:=
 ∃ v H',s'.os=s.os/\AllBare s'.gens/\Un (GO outer) [] H H' s.heap s'.heap/\EI P w H' s'.heap/\aw v u/\Q v H'
def CR(CX:Hx)(outer:List Env)(P:Program)(w:World)(H:Hp)(s:Shared)(Q:VK)(E:XK)(r:Result)(s':Shared):Prop:=
 match r with
 | .ok (.ret u)=>CE outer P w H s Q u s'
 | .ok _=>False
 | .error e=>CX outer H s E e s'
structure EN(P:Program)(w:World)(K:PySem.W.Frag)(mg:Str->Option Value)(base:Heap)(CX:Hx)(k:Nat)(f:Addr)(fd:FuncData)(ps:List Str)(sp:Sp):Prop where
 len:∀ vs H Q E,sp vs H Q E->vs.length=ps.length
 run:∀ (A:Around) (outer:List Env) (s:Shared) (H:Hp) (args:Args) (us:List Value) (vs:List V) (Q:VK) (E:XK),Ed k A->Ix P w K mg base A outer s H->BindsTo s fd args (ps.zip us)->au vs us->sp vs H Q E->
  codeAny (model P w) A (.call (.ref f) args) (CR CX outer P w H s Q E) s
section
variable{X:Cx}{pins:List (Addr×Obj)}{σ:St}{H:Hp}{s s':Shared}
theorem Inv.M'(I:Inv X pins σ H s):Ix X.prog X.w X.K X.mg X.base X.A X.stack s H:=
 ⟨I.ok.frames,I.ok.mod,I.bs,Nat.le_trans I.ok.Ir I.sz,I.stack,I.GP,I.l_,I.bare⟩
theorem Inv.after{Q:VK}(I:Inv X pins σ H s)(h:CE X.stack X.prog X.w H s Q u s'):EP X pins σ Q u s':=by
 obtain⟨v,H',os,bare,un,l_,r,q⟩:=h;obtain⟨hh,g,d,t,M_⟩:=s';obtain rfl:M_=s.os:=os;exact⟨v,H',I.call (h':=hh) (g':=g) (d':=d) (t':=t) (ch:=[]) un l_ bare (fun b z=>absurd z (by simp)),r,q⟩
end
def lR(sp:Sp)(Hy:List V)(E:XK)(t:TA):TE:=fun σ H Q=>t σ H fun vs H1=>sp (vs++Hy) H1 Q E
def cH(K:PySem.W.Frag)(fd:FuncData)(ps:List Str)(ds:List Value):Prop:=
 ∀ (s:Shared) (us:List Value),K.In s.heap->(us++ds).length=ps.length->BindsTo s fd ⟨us,[]⟩ (ps.zip<|us++ds)
theorem cH.all{fd:FuncData}(h:∀ us:List Value,us.length=ps.length->bindArgs fd ⟨us,[]⟩=pure (ps.zip us)):cH K fd ps []:=fun s us _ hl=>by
 rw[append_nil] at hl ⊢;exact .of_eq (h us hl)
def jL(CX:Hx)(X:Cx)(E:XK):Prop:=∀ (pins:List (Addr×Obj)) (σ:St) (H:Hp) (s:Shared) (e:Value) (s':Shared),Inv X pins σ H s->CX X.stack H s E e s'->X.xe e s'
section
variable{X:Cx}{CX:Hx}{k:Nat}{f C:Addr}{fd:FuncData}{ps:List Str}{sp:Sp}{Hy:List V}{ds:List Value}{E:XK}{x m:Str}{p pos apos:Pos}{e o:Expr}{es:List Expr}{ta:TE}{t:TA}
theorem oZ{Q:VK}(F:EN X.prog X.w X.K X.mg X.base CX k f fd ps sp)(hr:Ed k X.A)(hb:cH X.K fd ps ds)(hd:au Hy ds)(hx:jL CX X E)(I:Inv X pins σ H s)(r:au vs us)(h:sp (vs++Hy) H Q E):wpAny (model X.prog X.w) X.A (call (.ref f) us) (EP X pins σ Q) X.xe s:=by
 have r2:au (vs++Hy) (us++ds):=r.append hd;have hl:(us++ds).length=ps.length:=by rw[<- r2.length];exact F.len _ _ _ _ h
 refine wpAny_call (codeAny_mono (F.run X.A X.stack s H ⟨us,[]⟩ (us++ds) (vs++Hy) Q E hr I.M' (hb s us I.Jw hl) r2 h) fun r s' hq=>?_);cases r with
 | error e=>exact hx pins σ H s e s' I hq
 | ok fl=>
  cases fl with
  | ret u=>exact I.after hq
  | next=>exact False.elim hq
  | brk=>exact False.elim hq
  | cont=>exact False.elim hq
theorem wO(F:EN X.prog X.w X.K X.mg X.base CX k f fd ps sp)(hr:Ed k X.A)(hg:Gl X x)(hm:X.mg x=some (.ref f))(hk:PySem.W.keepIn X.K (.ref f)=true)(hb:cH X.K fd ps ds)(hd:au Hy ds)(hx:jL CX X E)(ha:PA X (e::es) t)(Ha:(x == ("__debug__" : Str))=false:=by decide)(he:starEach (e::es) X.env=(false,eval e X.env)::starEach es X.env:=by rfl)(Fz:(backTo pos<|starEach es X.env).any (·.1)=false:=by rfl):
  PE X (.Call (.Name x p) (e::es) [] pos) (lR sp Hy E t):=by
 intro pins s σ H Q I h;refine wpAny_Call_Name_kw (oO I hg hm ?_ Ha);refine PySem.W.callWith_K (h₀:=X.base) I.ok.mod.Me hk (z_ (ha pos pins s σ H _ I h) fun us s1 ⟨vs,H1,I1,r,q⟩=>⟨I1.Jw,?_⟩) he Fz;exact oZ F hr hb hd hx I1 r q
end
section
variable{X:Cx}{CX:Hx}{k:Nat}{f C:Addr}{fd:FuncData}{ps ks:List Str}{sp:Sp}{E:XK}{x m:Str}{p pos apos PR:Pos}{e o:Expr}{es:List Expr}{Ex:List Keyword}{te ta:TE}{t tk:TA}{nm:Option Str}
variable{g:List Value->List Value->List Value}{gV:List V->List V->List V}
end
structure i_(N P:List Str)(sc:Scope):Prop where
 kind:sc.kind=.function
 co:sc.isCoroutine=false
 gen:sc.isGenerator=false
 nd:N.Nodup
 pre:N.take P.length=P
 par:∀ x∈P,sc.names.lookup x=some .local\/sc.names.lookup x=some .cell
 JD:∀ y∈sc.names,y.2≠.free
theorem pc{kindOf:Str->Option NameKind}{x:Str}:∀ {binds:List (Str×Value)}{m:Str->Option Value},(∀ v,(x,v)∉binds)->bindL kindOf binds m x=m x
 | [],_,_=>rfl
 | (n,v)::r,m,h=>by
  unfold bindL;rw[pc fun w hw=>h w<|mem_cons_of_mem _ hw];split
  ·have:x≠n:=by rintro rfl;exact h v mem_cons_self
   simp[this]
  ·rfl
theorem pd{kindOf:Str->Option NameKind}{x:Str}:∀ {binds:List (Str×Value)}{m:Str->Option Value},(∀ v,(x,v)∉binds)->bindC kindOf binds m x=m x
 | [],_,_=>rfl
 | (n,v)::r,m,h=>by
  unfold bindC;rw[pd fun w hw=>h w<|mem_cons_of_mem _ hw];split
  ·rfl
  ·have:x≠n:=by rintro rfl;exact h v mem_cons_self
   simp[this]
theorem pf{kindOf:Str->Option NameKind}{x:Str}{v:Value}:∀ {P:List Str}{vs:List Value}{i:Nat}{m:Str->Option Value},P.Nodup->P[i]?=some x->vs[i]?=some v->kindOf x=some .local->
  bindL kindOf (P.zip vs) m x=some v
 | [],_,_,_,_,h,_,_=>by simp at h
 | _::_,[],_,_,_,_,h,_=>by simp at h
 | p::P,w::vs,0,m,nd,h1,h2,hk=>by
  simp at h1 h2;subst h1;subst h2;show bindL kindOf ((p,w)::P.zip vs) m p=_;unfold bindL;rw[pc fun v hv=>(nodup_cons.mp nd).1 (of_mem_zip hv).1,if_pos hk];simp
 | p::P,w::vs,i+1,m,nd,h1,h2,hk=>by
  show bindL kindOf ((p,w)::P.zip vs) m x=_;unfold bindL;exact pf (i:=i) (nodup_cons.mp nd).2 (by simpa using h1) (by simpa using h2) hk
theorem pg{kindOf:Str->Option NameKind}{x:Str}{v:Value}:∀ {P:List Str}{vs:List Value}{i:Nat}{m:Str->Option Value},P.Nodup->P[i]?=some x->vs[i]?=some v->kindOf x≠some .local->
  bindC kindOf (P.zip vs) m x=some v
 | [],_,_,_,_,h,_,_=>by simp at h
 | _::_,[],_,_,_,_,h,_=>by simp at h
 | p::P,w::vs,0,m,nd,h1,h2,hk=>by
  simp at h1 h2;subst h1;subst h2;show bindC kindOf ((p,w)::P.zip vs) m p=_;unfold bindC;rw[pd fun v hv=>(nodup_cons.mp nd).1 (of_mem_zip hv).1,if_neg hk];simp
 | p::P,w::vs,i+1,m,nd,h1,h2,hk=>by
  show bindC kindOf ((p,w)::P.zip vs) m x=_;unfold bindC;exact pg (i:=i) (nodup_cons.mp nd).2 (by simpa using h1) (by simpa using h2) hk
def start(N:List Str)(vs:List V):St:=vs.map some++List.replicate (N.length - vs.length) none
def eJ(CX:Hx)(P:Program)(w:World)(K:PySem.W.Frag)(mg:Str->Option Value)(base:Heap)(N:List Str)(qual:Str)(scope:Scope)(f:Addr)(cd:Value)(A:Around)(outer:List Env)(s:Shared)(H:Hp)(E:XK):Cx where
 prog:=P
 w:=w
 K:=K
 mg:=mg
 base:=base
 A:=A.deeper (envOfC qual scope s.heap.objs.size f cd)
 N:=N
 s₀:=s
 H₀:=H
 env:=envOfC qual scope s.heap.objs.size f cd
 outer:=outer
 stack:=envOfC qual scope s.heap.objs.size f cd::outer
 ex:=[]
 calm:=true
 fn:=fun _=>true
 pn:=[]
 xe:=fun e s'=>wpAny (model P w) (A.deeper<|envOfC qual scope s.heap.objs.size f cd) (leaving (envOfC qual scope s.heap.objs.size f cd) e) (fun _ Na=>CX outer H s E e Na) (fun e' Na=>CX outer H s E e' Na) s'
theorem ph{sc:Scope}(h:sc.names.lookup x=some .cell):∃ c,(cellsFrom n sc.names []).lookup x=some c:=by
 have q:=PySem.W.cellsFrom_some sc.names n [] (.inl h);exact Option.isSome_iff_exists.mp q
theorem wP{f:Addr}{cd:Value}{outer:List Env}{s1:Shared}{E:XK}(S:i_ N ps scope)(hd:A.handled=none)(e0:Ix P w K mg base A outer s H)(hl:vs.length=ps.length)(r:au vs us)(x:InCallC s s.heap.objs.size (bindL (envOfC qual scope s.heap.objs.size f cd).kindOf (ps.zip us) fun _=>none) (cellsFrom (s.heap.objs.size+1) scope.names []) (bindC (envOfC qual scope s.heap.objs.size f cd).kindOf (ps.zip us) fun _=>none) s1):
  Inv (eJ CX P w K mg base N qual scope f cd A outer s H E) [] (start N vs) H s1:=by
 have Fz:ps.length<=N.length:=by have:=congrArg List.length S.pre;rw[length_take] at this;lia
 obtain⟨h1,tk,rfl,hk⟩:=x.done;have KS:∀ b:Addr,b∉(eJ CX P w K mg base N qual scope f cd A outer s H E).ex:=fun b z=>absurd (show b∈([]:List Addr) from z) (by simp);refine⟨⟨e0.mod,S.kind,rfl,rfl,Nat.le_refl _,fun y z c h1 h2=>?_,fun y hy=>?_,fun y c _ h=>?_,fun _=>hd,Around.frames_deeper e0.frames,.inr ⟨rfl,rfl⟩,fun b z=>absurd z<|KS b,e0.bs,e0.Ir,fun b _ _=>KS b,fun b z=>absurd z<|KS b,e0.E4,e0.Jv⟩,
  rfl,e0.bare,Un.kept hk,⟨_,x.toInCall.ns,fun i y v h1 h2 h3=>?_⟩,fun y c h=>⟨_,x.cell y c h⟩,e0.l_.fresh<|Nat.le_refl _,fun y c h=>?_,fun p hp=>absurd (show p∈([]:List (Addr×Obj)) from hp) (by simp),e0.l_.kept hk,?_⟩
 ·exact name_of_addr x.apart (PySem.mem_of_lookup h1) (PySem.mem_of_lookup h2)
 ·have hy:scope.names.lookup y=some .cell\/scope.names.lookup y=some .free:=hy;rcases hy with hy | hy
  ·exact ph hy
  ·exact absurd rfl (S.JD _<|PySem.mem_of_lookup hy)
 ·exact le_of_lt (x.above y c<|PySem.mem_of_lookup h)
 ·have hi:i<vs.length:=by
   unfold start at h2;by_cases hi:i<vs.length
   ·exact hi
   ·rw[getElem?_append_right (by simpa using hi)] at h2;rw[List.getElem?_replicate] at h2;split at h2<;>cases h2
  have ha:vs[i]?=some v:=by
   unfold start at h2;rw[getElem?_append_left (by simpa using hi),List.getElem?_map] at h2;cases e:vs[i]? with
   | none=>rw[e] at h2;cases h2
   | some a=>rw[e] at h2;cases h2;rfl
  obtain⟨u,hu,rv⟩:=r.get ha;have hp:ps[i]?=some y:=by
   rw[<- S.pre,List.getElem?_take_of_lt (by lia)];exact h1
  have ON:ps.Nodup:=by rw[<- S.pre];exact S.nd.sublist (take_sublist _ _)
  refine⟨u,rv,?_⟩;rcases S.par y (mem_of_getElem? hp) with k | k
  ·exact .inl ⟨k,pf ON hp hu k⟩
  ·obtain⟨c,e⟩:=ph (n:=s.heap.objs.size+1) k;refine .inr ⟨.inl k,c,e,?_⟩;have q:=x.cell y c e;rw[pg ON hp hu (by show scope.names.lookup y≠_;rw[k];decide)] at q;exact q
 ·exact e0.l_.fresh (le_of_lt<|x.above y c<|PySem.mem_of_lookup h)
 ·unfold start;show _=N.length;rw[length_append,length_map,List.length_replicate];lia
theorem wQ{f:Addr}{name:Str}{params:Arguments}{dV kV doc pm r_ ct oc:Value}{an od:Option Addr}{Hn:Array (Option Value)}{sp:Sp}(lk:K.lookup f=some ⟨oc,od,.func<|PySem.W.fnOf name qual params body scope dV kV doc pm an r_ ct,Hn⟩)(G_:PySem.W.codeIn K r_ qual=true)(S:i_ N ps scope)(len:∀ vs H Q E,sp vs H Q E->vs.length=ps.length)(Hz:∀ (A:Around) (outer:List Env) (s:Shared) (H:Hp) (vs:List V) (Q:VK) (E:XK),Ed k (A.deeper<|envOfC qual scope s.heap.objs.size f r_)->sp vs H Q E->
   ∃ t,Gz (eJ CX P w K mg base N qual scope f r_ A outer s H E) body t/\t { nx:=fun _ H'=>Q .j_ H',rt:=Q } (start N vs) H):
  EN P w K mg base CX (k+1) f (PySem.W.fnOf name qual params body scope dV kV doc pm an r_ ct) ps sp:=by
 refine⟨len,fun A outer s H args us vs Q E hr e0 hb r IX=>?_⟩;have hl:=len _ _ _ _ IX;have KX:K.In s.heap:=e0.mod.Me.keeps fun b o e=>(e0.bs b o e).1;have lim:s.heap.NoLimit:=e0.mod.nolimit.keeps fun b o e=>(e0.bs b o e).1;have o_:∀ y∈ps.zip us,scope.names.lookup y.1=some .local\/(scope.names.lookup y.1=some .cell/\((cellsFrom (s.heap.objs.size+1) scope.names []).lookup y.1).isSome=true):=fun ⟨n,v⟩ hy=>by
  rcases S.par n (of_mem_zip hy).1 with q | q
  ·exact .inl q
  ·exact .inr ⟨q,PySem.W.cellsFrom_some _ _ _<|.inl q⟩
 refine codeAny_call_function hr.depth (KX _ _ lk) rfl S.co S.gen rfl (PySem.W.codeRec_of KX G_) (hb _ _ _ _ ?_);refine wpAny_newFunctionEnv_cells S.kind o_ fun env he s1 x=>?_;subst he;refine⟨lim.keeps x.toInCall.keep,codeAny_func ?_⟩;obtain⟨t,ht,hq⟩:=Hz A outer s H vs Q E (hr.deeper _) IX;have I:Inv (eJ CX P w K mg base N qual scope f r_ A outer s H E) [] (start N vs) H s1:=wP S hr.hd e0 hl r x;refine wpAny_mono (ht [] s1 (start N vs) H _ I hq) (fun fl s' hs=>?_) fun e s' hs=>hs;have fin:∀ {σ':St}{H':Hp}{v:V}{u:Value},Inv (eJ CX P w K mg base N qual scope f r_ A outer s H E) [] σ' H' s'->aw v u->Q v H'->CE outer P w H s Q u s':=
  fun {σ' H' v u} J rv q=>⟨v,H',J.os,J.bare,J.base,J.l_,rv,q⟩;cases fl with
 | ret u=>
  obtain⟨v,σ',H',J,rv,q⟩:=hs;exact fin J rv q
 | next=>
  obtain⟨σ',H',J,q⟩:=hs;exact fin (v:=V.j_) (u:=Value.none) J rfl q
 | brk=>
  obtain⟨_,_,_,q⟩:=hs;exact False.elim q
 | cont=>
  obtain⟨_,_,_,q⟩:=hs;exact False.elim q
section
variable{X:Cx}{x:Str}{p pos:Pos}{e:Expr}{es:List Expr}{t:TA}{id T:String}{r:List V->Hp->VK->Prop}
def OO(r:List V->Hp->VK->Prop)(t:TA):TE:=fun σ H Q=>t σ H fun vs H1=>r vs H1 Q
theorem pi(hc:bb X (.builtin id) r)(hg:Gl X x)(hm:X.mg x=none)(hv:bootBuiltins x=some (.builtin id))(ha:PA X (e::es) t)(hn:x ≠ "__name__" := by decide)(Ha:(x == ("__debug__" : Str))=false:=by decide)(he:starEach (e::es) X.env=(false,eval e X.env)::starEach es X.env:=by rfl)(Fz:(backTo pos<|starEach es X.env).any (·.1)=false:=by rfl):PE X (.Call (.Name x p) (e::es) [] pos) (OO r t):=by
 intro pins s σ H Q I h;refine wpAny_Call_Name_kw (fJ I hg hm hv ?_ hn Ha);exact PyProof.Rows.callWith_builtin1 (z_ (ha pos pins s σ H _ I h) fun us s1 ⟨vs,H1,I1,r1,q1⟩=>hc pins s1 σ H1 vs us Q I1 r1 q1) he Fz
theorem wR(hc:bb X (.type T) r)(hg:Gl X x)(hm:X.mg x=none)(hv:bootBuiltins x=some (.type T))(ha:PA X (e::es) t)(hn:x ≠ "__name__" := by decide)(Ha:(x == ("__debug__" : Str))=false:=by decide)(he:starEach (e::es) X.env=(false,eval e X.env)::starEach es X.env:=by rfl)(Fz:(backTo pos<|starEach es X.env).any (·.1)=false:=by rfl):PE X (.Call (.Name x p) (e::es) [] pos) (OO r t):=by
 intro pins s σ H Q I h;refine wpAny_Call_Name_kw (fJ I hg hm hv ?_ hn Ha);exact PyProof.Rows.callWith_type1 (z_ (ha pos pins s σ H _ I h) fun us s1 ⟨vs,H1,I1,r1,q1⟩=>hc pins s1 σ H1 vs us Q I1 r1 q1) he Fz
end
end L2
namespace HT
open PySem PyProof.Rows
variable{hi lo:Option Int}{vu vl:Value}{sl t:Addr}{Q:Value->Shared->Prop}
theorem wS(A:Around)(s:Shared)(a:Int)(t:Tok)(c:Int)(u:Tok)(prog:Program)(w:World)(E:Value->Shared->Prop)(Q:Value->Shared->Prop)(h:Q (.bool<|decide (a<c)) s):
  wpAny (model prog w) A (richCompare .Lt (.int a t)<|.int c u) Q E s:=
 (PyProof.Rows.lt_int h:wpAny (model prog w) A (compareOp .Lt (.int a t)<|.int c u) Q E s)
section
open PySem.SeqAt
open PySem.AutoSeq1 (wpAny_loadPart')
open PySem.MeetsSeq PySem.MeetsSeq2 PySem.MeetsSeq3
end
section
variable{prog:Program}{w:World}{A:Around}{E:Value->Shared->Prop}{s:Shared}
theorem wT{b:Addr}{vs ws:List Value}(ht:IsTup s.heap t vs.toArray)(hb:IsTup s.heap b ws.toArray)(hv:vs≠[])(h1:ws=[]->Q (.ref t) s)(h2:ws≠[]->Q (.ref s.heap.objs.size) { s with heap:=s.heap.push { cls:=.type "tuple",data:=.seq (vs++ws).toArray } })(hsz:vs.length+ws.length<=sizeLine):wpAny (model prog w) A (binaryOp .Add (.ref t)<|.ref b) Q E s:=by
 obtain⟨⟨cls,dd,data,sl⟩,ho,hc,n,hd⟩:=id ht;obtain⟨⟨Nb,IY,data2,Km⟩,JE,KU,n2,hd2⟩:=id hb;simp only at hc hd KU hd2;subst hc hd KU hd2;have e:vs.toArray++ws.toArray=(vs++ws).toArray:=by simp
 by_cases hw:ws=[]
 ·exact concat_meets ⟨_,ho,rfl⟩ ⟨_,JE,rfl⟩ noFill_tuple_add seq_tuple_add PySem.F.slot_tuple_add PySem.F.entry_tuple_add (PySem.F.args_tuple_add_2 _ _)
   (tuple_addW1 t b vs.toArray ws.toArray n n2 dd IY sl Km (by simpa using hv) (by simp[hw])) ⟨ho,JE,h1 hw⟩
 ·refine concat_meets ⟨_,ho,rfl⟩ ⟨_,JE,rfl⟩ noFill_tuple_add seq_tuple_add PySem.F.slot_tuple_add PySem.F.entry_tuple_add (PySem.F.args_tuple_add_2 _ _)
   (tuple_addW2 t b vs.toArray ws.toArray n n2 dd IY sl Km (by simpa using hv) (by simpa using hw) (by rw[size_toArray,size_toArray];exact hsz)) ⟨ho,JE,?_⟩;rw[e];exact h2 hw
def D_(n d:Nat):Option Int->Nat
 | none=>d
 | some v=>if v<0 then (v+(n:Int)).toNat else min v.toNat n
theorem wU(n d:Nat):D_ n d none=d:=rfl
theorem wV(n d k:Nat):D_ n d (some (k:Int))=min k n:=by
 show (if (k:Int)<0 then ((k:Int)+(n:Int)).toNat else min (k:Int).toNat n)=min k n;rw[if_neg (by lia),toNat_natCast]
theorem wW(n d:Nat)(hd:d<=n)(o:Option Int):D_ n d o<=n:=by
 cases o with
 | none=>exact hd
 | some v=>
  show (if v<0 then (v+(n:Int)).toNat else min v.toNat n)<=n;by_cases hv:v<0
  ·rw[if_pos hv];lia
  ·rw[if_neg hv];exact Nat.min_le_right _ _
theorem pj(v:Int)(n d:Nat):(if v<0 then max (v+(n:Int)) 0 else min v (n:Int))=((D_ n d (some v):Nat):Int):=by
 show (if v<0 then max (v+(n:Int)) 0 else min v (n:Int))=(((if v<0 then (v+(n:Int)).toNat else min v.toNat n):Nat):Int);by_cases hv:v<0
 ·simp only[if_pos hv];lia
 ·simp only[if_neg hv];lia
theorem wX(lo hi:Option Int)(n:Nat):Builtin.Slice.sliceAdjust lo hi 1 (n:Int)=(((D_ n 0 lo:Nat):Int),((D_ n n hi:Nat):Int)):=by
 have h1:¬ ((1:Int)<0):=by lia
 unfold Builtin.Slice.sliceAdjust;simp only[h1,if_false];refine Prod.ext ?_ ?_
 ·cases lo with
  | none=>rfl
  | some v=>exact pj v n 0
 ·cases hi with
  | none=>rfl
  | some v=>exact pj v n n
theorem wY(i j:Nat):Builtin.Slice.slicePlaces (i:Int) (j:Int) 1=j - i:=by
 unfold Builtin.Slice.slicePlaces;have h1:(1:Int) > 0:=by lia
 simp only[h1,if_true,Int.ediv_one];split<;>lia
theorem pk{v:Value}{o:Option Int}{Q:Option Int->Shared->Prop}(p:IsPart v o)(h:Q o s):wpAny (model prog w) A (Builtin.Slice.slicePartIndex v) Q E s:=by
 cases p with
 | none=>exact slicePart_none h
 | int i t=>exact slicePart_int h
theorem pp{n:Nat}{Q:Int×Int×Nat->Shared->Prop}(hs:s.heap.IsSliceOf sl vl vu .none)(pl:IsPart vl lo)(pu:IsPart vu hi)(h:Q (((D_ n 0 lo:Nat):Int),1,D_ n n hi - D_ n 0 lo) s):wpAny (model prog w) A (Builtin.Slice.sliceApplied (.ref sl)<|pure (n:Int)) Q E s:=by
 obtain⟨os,HA,JF,HB⟩:=id hs;unfold Builtin.Slice.sliceApplied Builtin.Slice.sliceFields;refine wpAny_bind (wpAny_bind<|wpAny_field HA HB (x:=vl) rfl<|wpAny_bind<|wpAny_field HA HB (x:=vu) rfl<|wpAny_bind<|wpAny_field HA HB (x:=.none) rfl<|wpAny_pure ?_);refine wpAny_bind (slicePart_none ?_);show wpAny _ _ (if ((1:Int) == 0)=true then _ else _) _ _ s;rw[if_neg (by decide)];refine wpAny_bind (pk pl<|wpAny_bind<|pk pu<|wpAny_bind<|wpAny_pure ?_);show wpAny _ _ (match Builtin.Slice.sliceAdjust lo hi 1 (n:Int) with | (lo,hi)=>pure (lo,(1:Int),Builtin.Slice.slicePlaces lo hi 1)) _ _ s;rw[wX lo hi n];show wpAny _ _ (pure (((D_ n 0 lo:Nat):Int),(1:Int),Builtin.Slice.slicePlaces ((D_ n 0 lo:Nat):Int) ((D_ n n hi:Nat):Int) 1)) _ _ s;rw[wY];exact wpAny_pure h
theorem wZ(xs:Array Value)(i k:Nat):((range k).filterMap fun (m:Nat)=>xs[((i:Int)+(m:Int) * 1).toNat]?).toArray=((xs.toList.drop i).take k).toArray:=by
 have e:(fun (m:Nat)=>xs[((i:Int)+(m:Int) * 1).toNat]?)=fun m=>xs[i+m]?:=by
  funext m;have:((i:Int)+(m:Int) * 1).toNat=i+m:=by lia
  rw[this]
 rw[e];have:=pick_run xs i k;rw[List.filterMap_map] at this;have e2:((fun x=>xs[x]?) ∘ fun x=>i+x)=fun m=>xs[i+m]?:=rfl;rw[e2] at this;rw[this]
theorem w9{items:Array Value}(ht:IsTup s.heap t items)(hs:s.heap.IsSliceOf sl vl vu .none)(pl:IsPart vl lo)(pu:IsPart vu hi)(hw:¬ (D_ items.size 0 lo=0/\D_ items.size items.size hi=items.size))(h:Q (.ref s.heap.objs.size) { s with heap:=s.heap.push { cls:=.type "tuple",data:=.seq ((items.toList.drop<|D_ items.size 0 lo).take<|D_ items.size items.size hi - D_ items.size 0 lo).toArray } })(hsz:items.size<=sizeLine):wpAny (model prog w) A (getItem (.ref t)<|.ref sl) Q E s:=by
 have GR:sizeOk (.seq ((items.toList.drop<|D_ items.size 0 lo).take<|D_ items.size items.size hi - D_ items.size 0 lo).toArray):=by
  show ((items.toList.drop<|D_ items.size 0 lo).take<|D_ items.size items.size hi - D_ items.size 0 lo).toArray.size<=sizeLine;rw[size_toArray,length_take,length_drop,length_toList];lia
 have hj:D_ items.size items.size hi<=items.size:=wW _ _ (Nat.le_refl _) hi;obtain⟨os,HA,JF,HB⟩:=id hs;have Nc:s.TypeIs (.ref sl) "slice" := ⟨os,HA,JF⟩;unfold getItem;try with_reducible refine wpAny_holding ?_
 first | refine wpAny_bind (wpAny_pure ?_) | skip
 refine wpAny_bind (wpAny_sequenceKey ht.typeIs (by decide) ?_);refine wpAny_bind (wpAny_callSpecial?_slot (name:=Str.ofString "__getitem__") ht.typeIs PyProof.Rows.slot_tuple_getitem
  (wpAny_call_entry PyProof.Rows.slot_tuple_getitem ht.typeIs entry_tuple_getitem ?_<|args_tuple_getitem _ _));show wpAny _ _ (Builtin.Tuple.tupleItemsOf (.ref t) >>= _) _ _ s;refine wpAny_bind (tupleItemsOf_ ht ?_);refine wpAny_bind (wpAny_typeOf Nc ?_);rw[if_pos (by decide)];refine wpAny_bind (pp hs pl pu ?_);have PU:¬ ((((D_ items.size 0 lo:Nat):Int) == 0 && (1:Int) == 1 && (D_ items.size items.size hi - D_ items.size 0 lo) == items.size)=true):=by
  intro q;rw[and_eq_true,and_eq_true] at q;have q1:((D_ items.size 0 lo:Nat):Int)=0:=eq_of_beq q.1.1;have q2:D_ items.size items.size hi - D_ items.size 0 lo=items.size:=eq_of_beq q.2;exact hw ⟨by lia,by lia⟩
 show wpAny _ _ (if (((D_ items.size 0 lo:Nat):Int) == 0 && (1:Int) == 1 && (D_ items.size items.size hi - D_ items.size 0 lo) == items.size)=true then _ else _) _ _ s;rw[if_neg PU,wZ];first
  | exact wpAny_bind (m:=Builtin.Tuple.tupleExact _) (wpAny_newObj_type (wpAny_pure ⟨_,rfl,wpAny_pure h⟩) GR)
  | exact wpAny_bind (m:=Builtin.Tuple.tupleExact _) (wpAny_newObj_type (wpAny_bind<|wpAny_pure<|wpAny_pure ⟨_,rfl,wpAny_pure h⟩) GR)
  | exact wpAny_bind (wpAny_bind (m:=Builtin.Tuple.tupleExact _)<|wpAny_newObj_type (wpAny_pure<|wpAny_pure ⟨_,rfl,wpAny_pure h⟩) GR)
  | exact wpAny_bind (wpAny_bind (m:=Builtin.Tuple.tupleExact _)<|wpAny_newObj_type (wpAny_pure ⟨_,rfl,wpAny_pure h⟩) GR)
end
end HT
namespace L2
open PySem PySem.Spec PyProof.Rows
variable{h':Heap}{Q:Value->Shared->Prop}{b a p:Addr}{H' H:Hp}{kvs:List (List Im×V)}{w:World}{P:Program}{o:Option V}{t' n:Nat}{its' e_ us:List Value}{s:Shared}{σ:St}{pins:List (Addr×Obj)}{r:R2}{i:Int}{xs:List (List Im×Addr×Value)}
abbrev TO:=St->Hp->(Option Int->Hp->Prop)->Prop
def OP(X:Cx)(e:Option Expr)(t:TO)(pins:List (Addr×Obj)):Prop:=
 ∀ (s:Shared) (σ:St) (H:Hp) (Q:Option Int->Hp->Prop),Inv X pins σ H s->t σ H Q->
  wpAny (model X.prog X.w) X.A (evalPart e X.env) (fun u s'=>∃ o H',Inv X pins σ H' s'/\IsPart u o/\Q o H') X.xe s
def PO(X:Cx)(e:Option Expr)(t:TO):Prop:=∀ pins,OP X e t pins
def Iy:TO:=fun _ H Q=>Q none H
def xa(t:TE):TO:=fun σ H Q=>t σ H fun x H1=>∃ i,x=.int i/\Q (some i) H1
section
variable{X:Cx}{e:Expr}{te:TE}{lo hi:Option Expr}{tl th:TO}{pos p2:Pos}
theorem xb:PO X none Iy:=by
 intro pins s σ H Q I h;rw[evalPart_none];exact wpAny_pure ⟨none,H,I,.none,h⟩
theorem xc(h:PE X e te):PO X (some e) (xa te):=by
 intro pins s σ H Q I hw;rw[evalPart_some];refine z_ (h pins s σ H _ I hw) fun u s1 ⟨x,H1,I1,r1,q1⟩=>?_;obtain⟨i,rfl,q⟩:=q1;obtain⟨t,rfl⟩:=r1;exact⟨some i,H1,I1,.int i t,q⟩
def KW(X:Cx)(r:V->Option Int->Option Int->Hp->VK->Prop):Prop:=
 ∀ (pins:List (Addr×Obj)) (s:Shared) (σ:St) (H:Hp) (x:V) (v vl vu:Value) (lo hi:Option Int) (sl:Addr) (Q:VK),Inv X pins σ H s->aw x v->s.heap.IsSliceOf sl vl vu .none->IsPart vl lo->IsPart vu hi->r x lo hi H Q->
  ∃ T id,typeLookup (.type T) "__getitem__" = pure (some<|.builtin id)/\s.TypeIs v T/\wpAny (model X.prog X.w) X.A (getItem v<|.ref sl) (EP X pins σ Q) X.xe s
def PV(r:V->Option Int->Option Int->Hp->VK->Prop)(te:TE)(tl th:TO):TE:=fun σ H Q=>te σ H fun x H1=>tl σ H1 fun l H2=>th σ H2 fun u H3=>r x l u H3 Q
theorem xf{r:V->Option Int->Option Int->Hp->VK->Prop}(hr:KW X r)(he:PE X e te)(hl:PO X lo tl)(hu:PO X hi th):PE X (.Subscript e (.Slice lo hi none p2) pos) (PV r te tl th):=by
 intro pins s σ H Q I h;refine Subscript_ (z_ (he pins s σ H _ I h) fun v s1 ⟨x,H1,I1,r1,q1⟩=>?_);refine wpAny_Slice (z_ (hl pins s1 σ H1 _ I1 q1) fun vl s2 ⟨l,H2,I2,pl,q2⟩=>z_ (hu pins s2 σ H2 _ I2 q2) fun vu s3 ⟨u,H3,I3,pu,q3⟩=>?_);rw[evalPart_none];refine wpAny_pure ?_;have I4:Inv X pins σ H3 { s3 with heap:=s3.heap.push { cls:=.type "slice",data:=.fields #[vl,vu,.none] } }:=I3.kept (t':=s3.toks) fun b ob q=>Heap.get?_push_of_some _ q;obtain⟨T,id,hT,ht,hg⟩:=hr pins { s3 with heap:=s3.heap.push { cls:=.type "slice",data:=.fields #[vl,vu,.none] } } σ H3 x v vl vu l u s3.heap.objs.size Q I4 r1 (Heap.IsSliceOf.new ..) pl pu q3;show wpAny (model X.prog X.w) X.A (subscriptTail e (.Slice lo hi none p2) v<|.ref s3.heap.objs.size) (EP X pins σ Q) X.xe { s3 with heap:=s3.heap.push { cls:=.type "slice",data:=.fields #[vl,vu,.none] } };exact tail_any (ops:=[.ref s3.heap.objs.size,v]) ht hT hg (by with_unfolding_all rfl)
def eM(xs:List V)(lo hi:Option Int):List V:=(xs.drop<|HT.D_ xs.length 0 lo).take (HT.D_ xs.length xs.length hi - HT.D_ xs.length 0 lo)
theorem pq(xs:List V)(lo hi:Option Int):(eM xs lo hi).length<=xs.length:=by
 unfold eM;rw[length_take,length_drop];lia
def xg(K:PySem.W.Frag):V->Option Int->Option Int->Hp->VK->Prop:=fun x lo hi H Q=>∃ a xs,x=.ref a/\A_ K H a xs/\
 ¬ (HT.D_ xs.length 0 lo=0/\HT.D_ xs.length xs.length hi=xs.length)/\∀ p,H p=none->Q (.ref p) (upd H p<|.tup<|eM xs lo hi)
theorem xh:KW X (xg X.K):=by
 intro pins s σ H x v vl vu lo hi sl Q I rx hs pl pu h;obtain⟨a,xs,rfl,hx,hw,q⟩:=h;cases rx;obtain⟨e_,r,ht,hz⟩:=I.tuple hx;have hlen:e_.toArray.size=xs.length:=by rw[size_toArray];exact r.length.symm
 refine⟨"tuple",_,PyProof.Rows.slot_tuple_getitem.lookup,ht.typeIs,?_⟩;refine HT.w9 ht hs pl pu (by rw[hlen];exact hw) ?_ (by rw[hlen];exact hz);rw[hlen];refine⟨.ref s.heap.objs.size,_,I.laid (t':=s.toks) (o:=.tup (eM xs lo hi)) (fun b ob q=>Heap.get?_push_of_some _ q) (Nat.le_refl _) ?_,rfl,q _<|I.l_.fresh<|Nat.le_refl _⟩;exact⟨Nat.le_trans (pq xs lo hi) hz,_,(r.drop<|HT.D_ xs.length 0 lo).take<|HT.D_ xs.length xs.length hi - HT.D_ xs.length 0 lo,IsTup.new _ _⟩
def xi(K:PySem.W.Frag):R2:=fun x y H Q=>∃ a b xs ys,x=.ref a/\y=.ref b/\A_ K H a xs/\A_ K H b ys/\xs≠[]/\xs.length+ys.length<=sizeLine/\
 (ys=[]->Q (.ref a) H)/\(ys≠[]->∀ p,H p=none->Q (.ref p) (upd H p<|.tup<|xs++ys))
theorem au.Fj{xs:List V}(r:au xs us):us=[]↔xs=[]:=by
 cases r with
 | nil=>simp
 | cons _ _=>simp
theorem xj:EJ X (binaryOp .Add) (xi X.K):=by
 intro pins s σ H x y v u Q I rx ry h;obtain⟨a,b,xs,ys,rfl,rfl,ha,hb,hx,hz,q1,q2⟩:=h;cases rx;cases ry;obtain⟨e_,r1,p1,_⟩:=I.tuple ha;obtain⟨EO,r2,p2,_⟩:=I.tuple hb;refine HT.wT p1 p2 (fun z=>hx<|r1.Fj.mp z) (fun z=>⟨.ref a,H,I,rfl,q1<|r2.Fj.mp z⟩) (fun z=>?_) (by rw[<- r1.length,<- r2.length];exact hz);refine⟨.ref s.heap.objs.size,_,I.laid (t':=s.toks) (o:=.tup (xs++ys)) (fun b ob q=>Heap.get?_push_of_some _ q) (Nat.le_refl _) ?_,rfl,q2 (fun w=>z<|r2.Fj.mpr w) _<|I.l_.fresh<|Nat.le_refl _⟩;exact⟨by rw[length_append];exact hz,_,r1.append r2,IsTup.new _ _⟩
end
def Ih(n:Nat)(i:Int):Option Nat:=if 0<=i then (if i<n then some i.toNat else none) else if -(n:Int)<=i then some (i+n).toNat else none
def FS{α:Type}(xs:List α)(i:Int):Option α:=(Ih xs.length i).bind fun j=>xs[j]?
theorem pz{j:Nat}(h:Ih n i=some j):seqIndex? i n=some j/\j<n /\ -(n:Int)<=i/\i<n:=by
 unfold Ih at h;by_cases h0:0<=i
 ·rw[if_pos h0] at h;by_cases h1:i<n
  ·rw[if_pos h1] at h;have e:i.toNat=j:=Option.some.inj h;exact⟨by rw[seqIndex_of h0 h1,e],by lia,by lia,h1⟩
  ·rw[if_neg h1] at h;cases h
 ·rw[if_neg h0] at h;by_cases h1 : -(n:Int)<=i
  ·rw[if_pos h1] at h;have e:(i+n).toNat=j:=Option.some.inj h;exact⟨by rw[seqIndex_neg (by lia) h1,e],by lia,h1,by lia⟩
  ·rw[if_neg h1] at h;cases h
theorem pA{α:Type}{xs:List α}{v:α}(h:FS xs i=some v):∃ j,seqIndex? i xs.length=some j/\xs[j]?=some v/\j<xs.length /\ -(xs.length:Int)<=i/\i<xs.length:=by
 unfold FS at h;cases e:Ih xs.length i with
 | none=>rw[e] at h;cases h
 | some j=>
  rw[e] at h;obtain⟨h1,h2,h3,h4⟩:=pz e;exact⟨j,h1,h,h2,h3,h4⟩
def lT(b:Expr):Prop:=∀ o i,subscripted b false o i=operate [o,i] (getItem o i)
def Hb(X:Cx)(r:R2):Prop:=
 ∀ (value slice:Expr) (pins:List (Addr×Obj)) (s:Shared) (σ:St) (H:Hp) (x y:V) (v u:Value) (Q:VK),Inv X pins σ H s->aw x v->aw y u->r x y H Q->
  subscripted slice false v u=operate [v,u] (getItem v u)->wpAny (model X.prog X.w) X.A (subscriptTail value slice v u) (EP X pins σ Q) X.xe s
def OQ(X:Cx)(id:String)(r:V->List V->Hp->VK->Prop):Prop:=
 ∀ (pins:List (Addr×Obj)) (s:Shared) (σ:St) (H:Hp) (x:V) (xs:List V) (v:Value) (us:List Value) (Q:VK),Inv X pins σ H s->aw x v->au xs us->r x xs H Q->
  wpAny (model X.prog X.w) X.A (call (.builtin id) (v::us)) (EP X pins σ Q) X.xe s
section
variable{X:Cx}{a b:Expr}{ta tb:TE}{pos:Pos}
theorem Hb.or{r':R2}(h:Hb X r)(h':Hb X r'):Hb X (fun x y H Q=>r x y H Q\/r' x y H Q):=by
 intro value slice pins s σ H x y v u Q I rx ry q hs;rcases q with q | q
 ·exact h value slice pins s σ H x y v u Q I rx ry q hs
 ·exact h' value slice pins s σ H x y v u Q I rx ry q hs
theorem xk(hr:Hb X r)(ha:PE X a ta)(hb:PE X b tb)(hs:lT b):PE X (.Subscript a b pos) (Ml r ta tb):=by
 intro pins s σ H Q I h;exact Subscript_ (lM ha hb I h fun v u s2 x y H2 I2 rx ry q=>hr a b pins s2 σ H2 x y v u Q I2 rx ry q<|hs _ _)
def xl(K:PySem.W.Frag):R2:=fun x y H Q=>∃ p xs i v,x=.ref p/\y=.int i/\En K H p xs/\FS xs i=some v/\Q v H
def xm(K:PySem.W.Frag):R2:=fun x y H Q=>∃ p xs i v,x=.ref p/\y=.int i/\A_ K H p xs/\FS xs i=some v/\Q v H
theorem xn:Hb X (xl X.K):=by
 intro value slice pins s σ H x y v u Q I rx ry h hs;obtain⟨p,xs,i,z,rfl,rfl,hq,he,q⟩:=h;cases rx;obtain⟨t,rfl⟩:=ry;obtain⟨e_,r,pl,hz⟩:=I.list hq;obtain⟨j,h1,h2,h3,h4,h5⟩:=pA he;obtain⟨w,ew,Hw⟩:=r.get h2;have hl:=r.length;have hn:=gy;have fin:EP X pins σ Q w s:=⟨z,H,I,Hw,q⟩;by_cases h0:0<=i
 ·have hj:i.toNat=j:=by
   rw[seqIndex_of h0 h5] at h1;exact Option.some.inj h1
  exact item_listR pl.isList h0 (by lia) (by rw[hj];simpa using ew) fin hs
 ·have hj:(i+(e_.toArray.size:Int)).toNat=j:=by
   rw[seqIndex_neg (by lia) h4] at h1;rw[size_toArray,<- hl];exact Option.some.inj h1
  exact subscriptTail_builtinR (x:=w) pl.isList.typeIs slot_list_getitem.lookup
   (wpAny_getItem_list_neg (Q:=fun r s'=>r=w/\EP X pins σ Q r s') pl.isList (by lia) (by rw[size_toArray]<;>lia) (by lia) (by rw[hj];simpa using ew) ⟨rfl,fin⟩) hs
theorem xo:Hb X (xm X.K):=by
 intro value slice pins s σ H x y v u Q I rx ry h hs;obtain⟨p,xs,i,z,rfl,rfl,hq,he,q⟩:=h;cases rx;obtain⟨t,rfl⟩:=ry;obtain⟨e_,r,pl,hz⟩:=I.tuple hq;obtain⟨j,h1,h2,h3,h4,h5⟩:=pA he;obtain⟨w,ew,Hw⟩:=r.get h2;have hl:=r.length;have hn:=gy;have fin:EP X pins σ Q w s:=⟨z,H,I,Hw,q⟩;exact subscriptTail_builtinR (x:=w) pl.typeIs slot_tuple_getitem.lookup
  (getItem_tuple (j:=j) (Q:=fun r s'=>r=w/\EP X pins σ Q r s') pl (by lia) (by lia) (by rw[size_toArray,<- hl];exact h1) (by simpa using ew) ⟨rfl,fin⟩) hs
theorem xp(e_:List Value)(n j:Nat)(u:Value):Obj.mapSeq (·.setIfInBounds j u) { cls:=.type "list",data:=.seq e_.toArray n }={ cls:=.type "list",data:=.seq (e_.set j u).toArray n }:=by
 simp[Obj.mapSeq]
variable{xs:List V}
theorem Inv.lst(I:Inv X pins σ H s)(h:H p=some (.lst xs)):
  ∃ (e_:List Value) (n:Nat),au xs e_/\s.heap.get? p=some { cls:=.type "list",data:=.seq e_.toArray n }/\xs.length<=sizeLine:=by
 obtain⟨z,e_,n,r,e⟩:=I.l_ p _ h;exact⟨e_,n,r,e,z⟩
theorem Inv.JG{ys:List V}{n':Nat}{f:Obj->Obj}(I:Inv X pins σ H s)(h:H p=some (.lst xs))(ho:s.heap.get? p=some { cls:=.type "list",data:=.seq e_.toArray n })(hf:f { cls:=.type "list",data:=.seq e_.toArray n }={ cls:=.type "list",data:=.seq its'.toArray n' })(r:au ys its')(hz:ys.length<=sizeLine)(t:Nat):
  Inv X pins σ (upd H p<|.lst ys) { s with heap:=s.heap.update p f,toks:=t }:=by
 have e:(s.heap.update p f).get? p=some { cls:=.type "list",data:=.seq its'.toArray n' }:=by
  rw[Heap.get?_update_self f ho (by rw[hf]<;>rfl),hf]
 refine I.write (x:=p) (e:=p) (by rw[h];trivial) (.inl rfl) (fun b u hb q=>(Heap.get?_update_other _ _<|Ne.symm hb).trans q) ⟨_,e⟩ ?_;exact⟨hz,its',n',r,e⟩
def KY:V->V->V->Hp->(Hp->Prop)->Prop:=fun o i v H Q=>∃ p xs k j,o=.ref p/\i=.int k/\H p=some (.lst xs)/\Ih xs.length k=some j/\Q (upd H p<|.lst<|xs.set j v)
theorem xq:lH X KY:=by
 intro pins s σ H o i v ov iv u Q I ro ri rv h;obtain⟨p,xs,k,j,rfl,rfl,hp,hj,q⟩:=h;cases ro;obtain⟨t,rfl⟩:=ri;obtain⟨e_,n,r,ho,hz⟩:=I.lst hp;obtain⟨h1,h2,h3,h4⟩:=pz hj;have hl:=r.length;have hn:=gy;have I':Inv X pins σ (upd H p<|.lst<|xs.set j v) { s with heap:=s.heap.update p (Obj.mapSeq (·.setIfInBounds j u)) }:=
  I.JG hp ho (xp e_ n j u) (r.set rv j) (by rw[length_set];exact hz) s.toks;by_cases h0:0<=k
 ·have hk:k.toNat=j:=by
   rw[seqIndex_of h0 h4] at h1;exact Option.some.inj h1
  exact PySem.W.ki_setAt ho h0 (by lia) (by rw[size_toArray,<- hl];exact h4) (by rw[hk];exact⟨_,I',q⟩)
 ·have hk:(k+(e_.toArray.size:Int)).toNat=j:=by
   rw[seqIndex_neg (by lia) h3] at h1;rw[size_toArray,<- hl];exact Option.some.inj h1
  exact PySem.W.ki_setBack ho (by lia) (by rw[size_toArray,<- hl];exact h3) (by lia) (by rw[hk];exact⟨_,I',q⟩)
theorem xr(lo hi:Option Int)(n:Nat):(sliceBounds lo hi none n).1=((HT.D_ n 0 lo:Nat):Int)/\(sliceBounds lo hi none n).2.1=((HT.D_ n n hi:Nat):Int)/\(sliceBounds lo hi none n).2.2=1:=by
 refine⟨?_,?_,rfl⟩
 ·cases lo with
  | none=>simp[sliceBounds,HT.D_]
  | some i=>
   simp only[sliceBounds,HT.D_,getD_none,show (1:Int) > 0 by decide,if_true];by_cases h:i<0
   ·simp only[h,if_true]<;>lia
   ·simp only[h,if_false]<;>lia
 ·cases hi with
  | none=>simp[sliceBounds,HT.D_]
  | some i=>
   simp only[sliceBounds,HT.D_,getD_none,show (1:Int) > 0 by decide,if_true];by_cases h:i<0
   ·simp only[h,if_true]<;>lia
   ·simp only[h,if_false]<;>lia
theorem xt(e_:List Value)(lo hi:Option Int):slicePick e_.toArray lo hi none=((e_.drop<|HT.D_ e_.length 0 lo).take<|HT.D_ e_.length e_.length hi - HT.D_ e_.length 0 lo).toArray:=by
 obtain⟨h1,h2,h3⟩:=xr lo hi e_.toArray.size;unfold slicePick;rw[h1,h2,h3];simp only[sliceRange_one,pick_run,size_toArray]<;>rfl
def xu(K:PySem.W.Frag):V->Option Int->Option Int->Hp->VK->Prop:=fun x lo hi H Q=>∃ a xs,x=.ref a/\En K H a xs/\∀ p,H p=none->Q (.ref p) (upd H p<|.lst<|eM xs lo hi)
theorem pB:KW X (xu X.K):=by
 intro pins s σ H x v vl vu lo hi sl Q I rx hs pl pu h;obtain⟨a,xs,rfl,hx,q⟩:=h;cases rx;obtain⟨e_,r,ht,hz⟩:=I.list hx;have hlen:=r.length;refine⟨"list",_,slot_list_getitem.lookup,ht.isList.typeIs,?_⟩;refine wpAny_getItem_list_slice ht.isList hs pl pu .none (by simp) ?_ (by rw[size_toArray]<;>lia);rw[xt,<- hlen];refine⟨.ref s.heap.objs.size,_,I.laid (t':=s.toks) (o:=.lst (eM xs lo hi)) (fun b ob q=>Heap.get?_push_of_some _ q) (Nat.le_refl _) ?_,rfl,q _<|I.l_.fresh<|Nat.le_refl _⟩;exact⟨Nat.le_trans (pq xs lo hi) hz,_,0,(r.drop<|HT.D_ xs.length 0 lo).take<|HT.D_ xs.length xs.length hi - HT.D_ xs.length 0 lo,Heap.get?_push_size _ rfl⟩
theorem xv:bb X (.builtin "len") (fun xs H Q=>∃ p ys,xs=[.ref p]/\(En X.K H p ys\/A_ X.K H p ys)/\Q (.int ys.length) H):=by
 intro pins s σ H xs us Q I r h;obtain⟨p,ys,rfl,hq,q⟩:=h;obtain⟨u,rfl,rx⟩:=b9 r;cases rx;have hn:=gy;rcases hq with hq | hq
 ·obtain⟨e_,r',pl,hz⟩:=I.list hq;have hlen:=r'.length;exact Calls.call_len_list pl.isList (by simp only[size_toArray]<;>lia) ⟨.int ys.length,H,I.tok _,⟨s.toks+1,by rw[size_toArray,hlen]⟩,q⟩
 ·obtain⟨e_,r',pl,hz⟩:=I.tuple hq;have hlen:=r'.length;exact len_tuple pl (by simp only[size_toArray]<;>lia) ⟨.int ys.length,H,I.tok _,⟨s.toks+1,by rw[size_toArray,hlen]⟩,q⟩
theorem xw:bb X (.builtin "len") (fun xs H Q=>∃ z,xs=[.str z]/\z.length<=sizeLine/\Q (.int z.length) H):=by
 intro pins s σ H xs us Q I r h;obtain⟨z,rfl,hz,q⟩:=h;obtain⟨u,rfl,t,rfl⟩:=b9 r;have hn:=gy;exact len_str (by lia) ⟨.int z.length,H,I.tok _,⟨_,rfl⟩,q⟩
theorem bb.or{f:Value}{r r':List V->Hp->VK->Prop}(h:bb X f r)(h':bb X f r'):bb X f (fun xs H Q=>r xs H Q\/r' xs H Q):=by
 intro pins s σ H xs us Q I rs q;rcases q with q | q
 ·exact h pins s σ H xs us Q I rs q
 ·exact h' pins s σ H xs us Q I rs q
theorem xx:bb X (.type "list") (fun xs H Q=>∃ p ys,xs=[.ref p]/\(En X.K H p ys\/A_ X.K H p ys)/\∀ l,H l=none->Q (.ref l) (upd H l<|.lst ys)):=by
 intro pins s σ H xs us Q I r h;obtain⟨p,ys,rfl,hq,q⟩:=h;obtain⟨u,rfl,rx⟩:=b9 r;cases rx;have fin:∀ (e_:List Value),au ys e_->ys.length<=sizeLine->∀ (h':Heap) (c':Nat),(∀ b o',s.heap.get? b=some o'->h'.get? b=some o')->
   h'.get? s.heap.objs.size=some { cls:=.type "list",dict:=none,data:=.seq e_.toArray c',slots:=#[] }->EP X pins σ Q (.ref s.heap.objs.size) { s with heap:=h' }:=fun e_ r' hz h' c' kp e=>
  ⟨.ref s.heap.objs.size,_,I.laid (t':=s.toks) kp (Nat.le_refl _)<|show bm X.prog X.w _ h' _ (.lst ys) from ⟨hz,e_,c',r',e⟩,rfl,q _<|I.l_.fresh<|Nat.le_refl _⟩;rcases hq with hq | hq
 ·obtain⟨e_,r',pl,hz⟩:=I.list hq;have hlen:=r'.length;obtain⟨o,ho,hc,n,hd⟩:=pl.isList;exact call_list_seq p (.inl rfl) ho hc hd (fun h' c' kp e=>fin e_ r' hz h' c' kp e) (by simp only[size_toArray]<;>lia)
 ·obtain⟨e_,r',pl,hz⟩:=I.tuple hq;have hlen:=r'.length;obtain⟨o,ho,hc,n,hd⟩:=pl;exact call_list_seq p (.inr rfl) ho hc hd (fun h' c' kp e=>fin e_ r' hz h' c' kp e) (by simp only[size_toArray]<;>lia)
theorem xy:bb X (.type "tuple") (fun xs H Q=>∃ p ys,xs=[.ref p]/\((En X.K H p ys/\∀ l,H l=none->Q (.ref l) (upd H l<|.tup ys))\/(A_ X.K H p ys/\Q (.ref p) H))):=by
 intro pins s σ H xs us Q I r h;obtain⟨p,ys,rfl,h⟩:=h;obtain⟨u,rfl,rx⟩:=b9 r;cases rx;rcases h with ⟨hq,q⟩ | ⟨hq,q⟩
 ·obtain⟨e_,r',pl,hz⟩:=I.list hq;have hlen:=r'.length;refine call_tuple_list pl.isList (fun h' kp=>?_) (by simp only[size_toArray]<;>lia);have I1:Inv X pins σ H { s with heap:=h' }:=I.kept (t':=s.toks) kp;have I2:Inv X pins σ (upd H h'.objs.size<|.tup ys) { s with heap:=h'.push { cls:=.type "tuple",data:=.seq e_.toArray } }:=
   I1.laid (t':=s.toks) (fun b o e=>Heap.get?_push_of_some _ e) (Nat.le_refl _) (show bm X.prog X.w _ _ _ (.tup ys) from ⟨hz,e_,r',IsTup.new _ _⟩);exact⟨.ref h'.objs.size,_,I2,rfl,q _<|I1.l_.fresh<|Nat.le_refl _⟩
 ·obtain⟨e_,r',pl,hz⟩:=I.tuple hq;exact call_tuple_same pl ⟨.ref p,H,I,rfl,q⟩
def Kn(K:PySem.W.Frag)(T:String)(x:V)(H:Hp):Prop:=match x with
 | .str _=>T = "str"
 | .int _=>T = "int"
 | .ref p=>(T = "list" /\ ∃ xs,En K H p xs)\/(T = "tuple" /\ ∃ o,K.lookup p=some o/\o.cls=.type "tuple" /\ o.dict=none)\/
   (T = "dict" /\ ((∃ kvs,H p=some (.dK kvs))\/∃ kvs,H p=some (.dT kvs)))\/(T = "set" /\ ∃ S n,H p=some (.set S n))
 | _=>False
theorem xz{T:String}{x:V}{v:Value}(I:Inv X pins σ H s)(r:aw x v)(ty:Kn X.K T x H):
  s.TypeIs v T/\∀ a,v=.ref a->∃ ob,s.heap.get? a=some ob/\ob.dict=none:=by
 cases x with
 | str z=>
  obtain⟨t,rfl⟩:=r;cases (show T = "str" from ty);exact⟨typeIs_str s z t,fun _ e=>nomatch e⟩
 | int i=>
  obtain⟨t,rfl⟩:=r;cases (show T = "int" from ty);exact⟨typeIs_int s i t,fun _ e=>nomatch e⟩
 | ref p=>
  cases r;rcases ty with ⟨rfl,xs,hq⟩ | ⟨rfl,o,hk,hc,hd⟩ | ⟨rfl,hk⟩ | ⟨rfl,S,n,hk⟩
  ·obtain⟨e_,_,pl,_⟩:=I.list hq;refine⟨pl.isList.typeIs,fun a e=>?_⟩;cases e;obtain⟨o,n,e,c,hd,_⟩:=pl;exact⟨o,e,hd⟩
  ·refine⟨⟨o,I.Jw p o hk,hc⟩,fun a e=>?_⟩;cases e;exact⟨o,I.Jw _ o hk,hd⟩
  ·have z:∃ o,s.heap.get? p=some o/\o.ExactDict:=by
    rcases hk with ⟨kvs,hk⟩ | ⟨kvs,hk⟩
    ·obtain⟨_,_,_,_,o,_,_,e,ex,_⟩:=I.l_ p _ hk;exact⟨o,e,ex⟩
    ·obtain⟨_,_,_,_,o,_,_,e,ex,_⟩:=I.l_ p _ hk;exact⟨o,e,ex⟩
   obtain⟨o,e,ex⟩:=z;refine⟨⟨o,e,ex.1⟩,fun a e2=>?_⟩;cases e2;exact⟨o,e,ex.2.1⟩
  ·obtain⟨o,_,_,_,e,ex,_⟩:=I.l_ p _ hk;refine⟨⟨o,e,ex.1⟩,fun a e2=>?_⟩;cases e2;exact⟨o,e,ex.2.1⟩
 | _=>exact False.elim ty
def PX(K:PySem.W.Frag)(T:String)(r:V->List V->Hp->VK->Prop)(to:TE)(t:TA):TE:=fun σ H Q=>to σ H fun x H1=>Kn K T x H1/\t σ H1 fun xs H2=>r x xs H2 Q
variable{o e:Expr}{es:List Expr}{to:TE}{t:TA}{name:Str}{apos EV:Pos}{T id:String}{r:V->List V->Hp->VK->Prop}
theorem xA(pa:PlainAttrs T)(slot:Slot T name id)(KZ:typeOf (.builtin id)=pure (.type "method_descriptor"))(hm:OQ X id r)(ho:PE X o to)(ha:PA X (e::es) t)(HC:attributeBase o name X.env (eval o X.env)=eval o X.env:=by rfl)(JH:((backTo EV<|starEach (e::es) X.env).all (fun x=>!x.1) && (backToKw EV<|keywordEach [] X.env).all (fun x=>x.1.isSome)
   && decide ((e::es).length+([]:List Keyword).length+(if ([]:List Keyword).isEmpty then 0 else 1)<30))=true:=by rfl)(HD:(apos.endLine == EV.line)=true:=by rfl)(hs:starEach (e::es) X.env=(false,eval e X.env)::starEach es X.env:=by rfl)(GA:(backTo EV<|starEach es X.env).any (·.1)=false:=by rfl):
  PE X (.Call (.Attribute o name apos) (e::es) [] EV) (PX X.K T r to t):=by
 intro pins s σ H Q I h;refine wpAny_Call_method_late HC JH HD rfl (z_ (ho pins s σ H _ I h) fun v s1 ⟨x,H1,I1,r1,ty,q1⟩=>?_);obtain⟨h1,h2⟩:=xz I1 r1 ty;refine⟨T,id,pa,slot,KZ,h1,h2,?_⟩;have hA:=ha EV pins s1 σ H1 _ I1 q1;rw[hs] at hA ⊢;refine Calls.callWith_builtin (by show (false || (backTo EV<|starEach es X.env).any (·.1))=false;rw[GA]<;>rfl) (Calls.evalArgs_plain ?_);exact z_ hA fun us s2 ⟨vs,H2,I2,r2,q2⟩=>hm pins s2 σ H2 x vs v us Q I2 r1 r2 q2
end
def OR(X:Cx)(id:String)(r:V->List V->Hp->VK->Prop):Prop:=
 ∀ (pins:List (Addr×Obj)) (s:Shared) (σ:St) (H:Hp) (x:V) (xs:List V) (v:Value) (us:List Value) (Q:VK),Inv X pins σ H s->aw x v->au xs us->r x xs H Q->
  wpAny (model X.prog X.w) X.A (call (.builtin id) (v::us)) (EP X pins σ Q) X.xe s
theorem au.one:∀ {x:V}{us:List Value},au [x] us->∃ u,us=[u]/\aw x u
 | _,_,.cons r .nil=>⟨_,rfl,r⟩
theorem au.reverse{xs:List V}(h:au xs us):au xs.reverse us.reverse:=by
 induction h with
 | nil=>exact .nil
 | cons r t ih=>rw[reverse_cons,reverse_cons];exact au.append ih (.cons r .nil)
section
variable{X:Cx}{pins:List (Addr×Obj)}{σ:St}{H:Hp}{s:Shared}{l b:Addr}{xs ys zs:List V}
theorem Inv.K0{f:Array Value->Array Value}(I:Inv X pins σ H s)(hH:H l=some (.lst xs))(e:s.heap.get? l=some { cls:=.type "list",data:=.seq e_.toArray n })(hf:f e_.toArray=its'.toArray)(hv:au ys its')(hz:ys.length<=sizeLine):
  Inv X pins σ (upd H l<|.lst ys) { s with heap:=s.heap.update l (Obj.mapSeq f),toks:=t' }:=by
 have q:=PySem.IsL.update e f;rw[hf] at q;refine I.write (x:=l) (e:=l) (by rw[hH];exact trivial) (.inl rfl) (fun b' u hb hu=>(Heap.get?_update_other s.heap (Obj.mapSeq f)<|Ne.symm hb).trans hu) ⟨_,q⟩ ?_;exact⟨hz,its',_,hv,q⟩
theorem Inv.Nd(I:Inv X pins σ H s)(hv:au ys e_)(hz:ys.length<=sizeLine):
  Inv X pins σ (upd H s.heap.objs.size<|.lst ys) { s with heap:=s.heap.push { cls:=.type "list",data:=.seq e_.toArray },toks:=t' }:=
 I.laid (fun _ _ q=>Heap.get?_push_of_some _ q) (Nat.le_refl _) ⟨hz,e_,0,hv,Heap.get?_push_size _ rfl⟩
theorem Inv.fresh(I:Inv X pins σ H s):H s.heap.objs.size=none:=I.l_.fresh (Nat.le_refl _)
theorem Inv.EW(I:Inv X pins σ H s)(hH:H l=some (.lst xs)):xs.length<=sizeLine/\∃ (e_:List Value) (n:Nat),au xs e_/\xs.length=e_.length/\s.heap.get? l=some { cls:=.type "list",data:=.seq e_.toArray n }:=by
 obtain⟨z,e_,n,r,e⟩:=I.l_ l _ hH;exact⟨z,e_,n,r,r.length,e⟩
theorem xB(h:n<=sizeLine):Builtin.List.listTooLong n=false:=by
 unfold Builtin.List.listTooLong;exact decide_eq_false (by lia)
end
section
variable{X:Cx}
def Iz:V->List V->Hp->VK->Prop:=fun x vs H Q=>∃ l xs y,x=.ref l/\vs=[y]/\H l=some (.lst xs)/\xs.length<sizeLine/\Q .j_ (upd H l<|.lst<|xs++[y])
theorem xC:OR X "list.append" Iz:=by
 intro pins s σ H x vs v us Q I rx rv h;obtain⟨l,xs,y,rfl,rfl,hH,hz,q⟩:=h;cases rx;obtain⟨u,rfl,ru⟩:=rv.one;obtain⟨z,e_,n,r,hl,e⟩:=I.EW hH;refine call_meets F.slot_list_append ⟨_,e,rfl⟩ F.entry_list_append (F.args_list_append_2 _ _) (PySem.list_append l e_.toArray n u (by rw[size_toArray];lia)) ⟨e,?_⟩;refine⟨.j_,_,I.K0 (its':=e_++[u]) hH e (by simp) (r.append<|.cons ru .nil) ?_,rfl,q⟩;rw[length_append,length_singleton];lia
def IA:V->List V->Hp->VK->Prop:=fun x vs H Q=>∃ l b xs zs,x=.ref l/\vs=[.ref b]/\H l=some (.lst xs)/\H b=some (.lst zs)/\xs.length+zs.length<=sizeLine/\Q .j_ (upd H l<|.lst<|xs++zs)
theorem xD:OR X "list.extend" IA:=by
 intro pins s σ H x vs v us Q I rx rv h;obtain⟨l,b,xs,zs,rfl,rfl,hH,hB,hz,q⟩:=h;cases rx;obtain⟨u,rfl,ru⟩:=rv.one;cases ru;obtain⟨z,e_,n,r,hl,e⟩:=I.EW hH;obtain⟨z2,EO,n2,r2,IB,e2⟩:=I.EW hB;have hsz:e_.toArray.size+EO.toArray.size<=sizeLine:=by rw[size_toArray,size_toArray];lia
 have K1:¬ (!e_.toArray.isEmpty && Builtin.List.listTooLong (e_.toArray.size+EO.toArray.size))=true:=by
  rw[xB hsz,Bool.and_false];exact Bool.false_ne_true
 refine call_meets F.slot_list_extend ⟨_,e,rfl⟩ F.entry_list_extend (F.args_list_extend_2 _ _)
  (AutoSeq1.list_extend_list_list_0 l e_.toArray n b EO.toArray n2 K1 (by rw[size_toArray];lia) (by lia)) ⟨e,e2,?_⟩;refine⟨.j_,_,I.K0 (its':=e_++EO) hH e (by simp) (r.append r2) ?_,rfl,q⟩;rw[length_append];lia
def Nf:R2:=fun x y H Q=>∃ l b xs zs,x=.ref l/\y=.ref b/\H l=some (.lst xs)/\H b=some (.lst zs)/\xs.length+zs.length<=sizeLine/\∀ p,H p=none->Q (.ref p) (upd H p<|.lst<|xs++zs)
theorem xE:EJ X (binaryOp .Add) Nf:=by
 intro pins s σ H x y v u Q I rx ry h;obtain⟨l,b,xs,zs,rfl,rfl,hH,hB,hz,q⟩:=h;cases rx;cases ry;obtain⟨z,e_,n,r,hl,e⟩:=I.EW hH;obtain⟨z2,EO,n2,r2,IB,e2⟩:=I.EW hB;refine PySem.P.add_list e e2 ?_ (by rw[size_toArray,size_toArray];lia);have ea:e_.toArray++EO.toArray=(e_++EO).toArray:=by simp
 rw[ea];exact⟨.ref _,_,I.Nd (t':=s.toks) (r.append r2) (by rw[length_append];lia),rfl,q _ I.fresh⟩
end
section
variable{prog:Program}{w:World}{A:Around}{E:Value->Shared->Prop}{s:Shared}
end
section
variable{X:Cx}
end
section
variable{κ:Type}[DecidableEq κ]
def cy(kvs:List (κ×V))(k:κ):Option V:=(kvs.find? fun kv=>decide (kv.1=k)).map (·.2)
def ck(kvs:List (κ×V))(k:κ)(v:V):List (κ×V):=
 if (kvs.any fun kv=>decide (kv.1=k))=true then kvs.map (fun kv=>if kv.1=k then (kv.1,v) else kv) else kvs++[(k,v)]
theorem jM{p:κ×V}{r:List (κ×V)}{k:κ}(e:p.1=k):cy (p::r) k=some p.2:=by simp[cy,find?_cons,e]
theorem jN{p:κ×V}{r:List (κ×V)}{k:κ}(e:¬ p.1=k):cy (p::r) k=cy r k:=by simp[cy,find?_cons,e]
theorem pC(k:κ):∀ kvs:List (κ×V),(kvs.any fun kv=>decide (kv.1=k))=(cy kvs k).isSome
 | []=>rfl
 | p::r=>by
  rw[any_cons];by_cases e:p.1=k
  ·simp only[jM e,decide_eq_true e,Bool.true_or,Option.isSome_some]
  ·rw[jN e,decide_eq_false e,Bool.false_or];exact pC k r
theorem pE(kvs:List (κ×V))(k:κ)(v:V):(ck kvs k v).length<=kvs.length+1:=by
 unfold ck;split
 ·rw[length_map];lia
 ·rw[length_append,length_cons,length_nil];lia
theorem dF.Ep{u:Option Value}(r:dF o u):o.isSome=u.isSome:=by
 cases o with
 | none=>cases u with
  | none=>rfl
  | some _=>exact (show False from r).elim
 | some _=>cases u with
  | none=>exact (show False from r).elim
  | some _=>rfl
theorem KV.val{kvs:List (κ×V)}{vs:List (κ×Value)}(r:KV kvs vs)(k:κ):dF (cy kvs k) (valueAt vs k):=by
 unfold KV at r;induction r with
 | nil=>exact True.intro
 | @cons p q ps qs h t ih=>
  obtain⟨h1,h2⟩:=h;by_cases e:p.1=k
  ·have e':q.1=k:=h1.symm.trans e;have b:valueAt (q::qs) k=some q.2:=by simp[valueAt,find?_cons,e']
   rw[jM e,b];exact h2
  ·have e':¬ q.1=k:=fun z=>e (h1.trans z);have b:valueAt (q::qs) k=valueAt qs k:=by simp[valueAt,find?_cons,e']
   rw[jN e,b];exact ih
theorem KV.any{kvs:List (κ×V)}{vs:List (κ×Value)}(r:KV kvs vs)(k:κ):(kvs.any fun kv=>decide (kv.1=k))=vs.any fun kv=>decide (kv.1=k):=by
 unfold KV at r;induction r with
 | nil=>rfl
 | cons h t ih=>rw[any_cons,any_cons,ih,h.1]
theorem KV.JI{kvs:List (κ×V)}{vs:List (κ×Value)}(r:KV kvs vs)(k:κ){y:V}{u:Value}(ry:aw y u):
  KV (kvs.map fun kv=>if kv.1=k then (kv.1,y) else kv) (vs.map fun kv=>if kv.1=k then (kv.1,u) else kv):=by
 unfold KV at r ⊢;induction r with
 | nil=>exact .nil
 | @cons p q ps qs h t ih=>
  rw[map_cons,map_cons];refine .cons ?_ ih;obtain⟨h1,h2⟩:=h;by_cases e:p.1=k
  ·rw[if_pos e,if_pos<|h1.symm.trans e];exact⟨h1,ry⟩
  ·rw[if_neg e,if_neg<|fun z=>e<|h1.trans z];exact⟨h1,h2⟩
theorem KV.put{kvs:List (κ×V)}{vs:List (κ×Value)}(r:KV kvs vs)(k:κ){y:V}{u:Value}(ry:aw y u):KV (ck kvs k y) (stored vs k u):=by
 unfold ck stored;rw[r.any k];by_cases e:(vs.any fun kv=>decide (kv.1=k))=true
 ·rw[if_pos e,if_pos e];exact r.JI k ry
 ·rw[if_neg e,if_neg e];exact Paired.snoc r ⟨rfl,ry⟩
theorem KV.length{kvs:List (κ×V)}{vs:List (κ×Value)}(r:KV kvs vs):kvs.length=vs.length:=Paired.length r
end
theorem jO{k:Key}{u:Value}(r:aw (kV k) u):(eF P w).is k u=true:=by
 cases k with
 | inl i=>obtain⟨t,e⟩:=(show ∃ t,u=Value.int i t from r);subst e;exact uU P w i t
 | inr x=>obtain⟨t,e⟩:=(show ∃ t,u=Value.str x t from r);subst e;exact uV P w x t
abbrev KT(H:Hp):List (List Im×V)->List (List Im×Addr×Value)->Prop:=Paired fun p q=>p.1=q.1/\GN H p.1 q.2.1/\aw p.2 q.2.2
theorem KT.val(r:KT H kvs xs)(k:List Im):dF (cy kvs k) ((atKey xs k).map (·.2)):=by
 induction r with
 | nil=>exact True.intro
 | @cons p q ps qs h t ih=>
  obtain⟨h1,_,h2⟩:=h;by_cases e:p.1=k
  ·have e':q.1=k:=h1.symm.trans e;have b:atKey (q::qs) k=some q.2:=by simp[atKey,find?_cons,e']
   rw[jM e,b];exact h2
  ·have e':¬ q.1=k:=fun z=>e (h1.trans z);have b:atKey (q::qs) k=atKey qs k:=by simp[atKey,find?_cons,e']
   rw[jN e,b];exact ih
theorem KT.JI(r:KT H kvs xs)(k:List Im){y:V}{u:Value}(ry:aw y u):
  KT H (kvs.map fun kv=>if kv.1=k then (kv.1,y) else kv) (xs.map<|putAt k u):=by
 induction r with
 | nil=>exact .nil
 | @cons p q ps qs h t ih=>
  rw[map_cons,map_cons];refine .cons ?_ ih;obtain⟨h1,h2,h3⟩:=h;unfold putAt;by_cases e:p.1=k
  ·rw[if_pos e,if_pos<|h1.symm.trans e];exact⟨h1,h2,ry⟩
  ·rw[if_neg e,if_neg<|fun z=>e<|h1.trans z];exact⟨h1,h2,h3⟩
theorem KT.put(r:KT H kvs xs)(k:List Im){b:Addr}{y:V}{u:Value}(hb:GN H k b)(ry:aw y u):
  KT H (ck kvs k y) (storedH xs k b u):=by
 have e:(kvs.any fun kv=>decide (kv.1=k))=(atKey xs k).isSome:=by
  rw[pC,(r.val k).Ep,isSome_map]
 unfold ck storedH;rw[e];by_cases q:(atKey xs k).isSome=true
 ·rw[if_pos q,if_pos q];exact r.JI k ry
 ·rw[if_neg q,if_neg q];exact Paired.snoc r ⟨rfl,hb,ry⟩
theorem KT.keeps(r:KT H kvs xs)(ht:∀ b ys,H b=some (.tup ys)->H' b=some (.tup ys)):KT H' kvs xs:=
 Paired.Iq r fun _ _ z=>⟨z.1,z.2.1.mono ht,z.2.2⟩
section
variable{P:Program}{w:World}{H:Hp}{h:Heap}{a:Addr}
theorem pF{u:HO}(ok:EI P w H h)(e:Rd H a u):bm P w H h a u:=e.ok ok
theorem gz{kvs:List (Key×V)}(ok:EI P w H h)(e:Rd H a (.dK kvs)):kvs.length<=sizeLine/\(a == sysModules)=false/\∃ vs,KV kvs vs/\h.DictOf (eF P w) a vs:=
 show bm P w H h a (.dK kvs) from pF ok e
theorem xF{kvs:List (Key×V)}(ok:EI P w H h)(e:H a=some (.dK kvs)):kvs.length<=sizeLine/\(a == sysModules)=false/\∃ vs,KV kvs vs/\h.DictOf (eF P w) a vs:=gz ok (.inl e)
mutual
theorem Ef.FA(ok:EI P w H h):∀ {d:Im}{v:V}{u:Value},Ef H d v->aw v u->EH h d u
 | .j_,_,_,e,r=>by cases (show _=V.j_ from e);exact r
 | .bl b,_,_,e,r=>by cases (show _=V.bl b from e);exact r
 | .int i,_,_,e,r=>by cases (show _=V.int i from e);exact r
 | .str x,_,_,e,r=>by cases (show _=V.str x from e);exact r
 | .fn a,_,_,e,r=>by cases (show _=V.ref a from e);exact r
 | .tup ds,_,_,e,r=>by
  obtain⟨a,xs,rfl,h1,h2⟩:=e;cases r;obtain⟨_,e_,rv,o,g1,g2,n,g3⟩:=(show bm P w H h a (.tup xs) from ok a _ h1);exact⟨a,o,e_.toArray,n,rfl,g1,g2,g3,by simpa using ak.FA ok h2 rv⟩
 | .fl ds,_,_,e,r=>by
  obtain⟨a,xs,o,rfl,h1,h2⟩:=e;cases r;exact⟨a,rfl⟩
 | .fd,_,_,e,r=>by
  obtain⟨a,o,rfl,h1⟩:=e;cases r;exact⟨a,rfl⟩
theorem ak.FA(ok:EI P w H h):∀ {ds:List Im}{vs:List V}{us:List Value},ak H ds vs->au vs us->aO h ds us
 | [],_,_,e,r=>by cases (show _=[] from e);cases r;rfl
 | d::ds,_,_,e,r=>by
  obtain⟨v,t,rfl,h1,h2⟩:=e;cases r with
  | cons r1 r2=>exact⟨_,_,rfl,Ef.FA ok h1 r1,ak.FA ok h2 r2⟩
end
theorem fK{ks:List Im}(ok:EI P w H h)(e:GN H ks a):(be P w).is h ks a:=⟨e.1,e.2.FA ok rfl⟩
theorem iD{P:Program}{w:World}{A:Around}(h:A.units+20<cLine):(be P w).room A.in1:=show A.units+1+10<cLine by lia
theorem iE(ok:EI P w H h)(e:Rd H a (.dT kvs)):kvs.length<=sizeLine/\(a == sysModules)=false/\
  ∃ xs,KT H kvs xs/\h.DictOfH (be P w) a xs:=by
 obtain⟨z,y,xs,r,o,es,ep,h1,h2,h3,h4,h5⟩:=(show bm P w H h a (.dT kvs) from pF ok e);refine⟨z,y,xs,r,o,es,ep,h1,h2,h3,h4,fun x hx=>?_,h5⟩;have all:∀ {l:List (List Im×V)}{m:List (List Im×Addr×Value)},KT H l m->∀ x∈m,(be P w).is h x.1 x.2.1:=by
  intro l m q;induction q with
  | nil=>intro x hx;exact nomatch hx
  | @cons p q ps qs hq t ih=>
   intro x hx;rcases mem_cons.mp hx with e | hx
   ·subst e;exact fK ok (by rw[<- hq.1];exact hq.2.1)
   ·exact ih x hx
 exact all r x hx
theorem xG(ok:EI P w H h)(e:H a=some (.dT kvs)):kvs.length<=sizeLine/\(a == sysModules)=false/\
  ∃ xs,KT H kvs xs/\h.DictOfH (be P w) a xs:=iE ok (.inl e)
end
def bW(H:Hp)(a:Addr)(y:V)(r:Option V):Prop:=
 (∃ kvs k,Rd H a (.dK kvs)/\y=kV k/\r=cy kvs k)\/∃ kvs k b,Rd H a (.dT kvs)/\y=.ref b/\GN H k b/\r=cy kvs k
def fL(H:Hp)(a:Addr)(y v:V)(H':Hp):Prop:=
 (∃ kvs k,H a=some (.dK kvs)/\y=kV k/\kvs.length<sizeLine/\H'=upd H a (.dK<|ck kvs k v))\/
 ∃ kvs k b,H a=some (.dT kvs)/\y=.ref b/\GN H k b/\kvs.length<sizeLine/\H'=upd H a (.dT<|ck kvs k v)
theorem bW.k{H:Hp}{a:Addr}{kvs:List (Key×V)}{k:Key}(e:H a=some (.dK kvs)):bW H a (kV k) (cy kvs k):=.inl ⟨kvs,k,.inl e,rfl,rfl⟩
theorem bW.t{k:List Im}(e:H a=some (.dT kvs))(eb:GN H k b):bW H a (.ref b) (cy kvs k):=.inr ⟨kvs,k,b,.inl e,rfl,eb,rfl⟩
theorem fL.k{H:Hp}{a:Addr}{kvs:List (Key×V)}{k:Key}{v:V}(e:H a=some (.dK kvs))(hl:kvs.length<sizeLine):fL H a (kV k) v (upd H a<|.dK<|ck kvs k v):=.inl ⟨kvs,k,e,rfl,hl,rfl⟩
theorem fL.t{k:List Im}{v:V}(e:H a=some (.dT kvs))(eb:GN H k b)(hl:kvs.length<sizeLine):
  fL H a (.ref b) v (upd H a<|.dT<|ck kvs k v):=.inr ⟨kvs,k,b,e,rfl,eb,hl,rfl⟩
section
variable{X:Cx}{pins:List (Addr×Obj)}{σ:St}{H:Hp}{s:Shared}{a:Addr}{y v:V}{u r:Value}{o:Option V}{A:Around}{E:Value->Shared->Prop}
theorem Inv.big(I:Inv X pins σ H s):sysModules<s.heap.objs.size:=by
 have h:mainGlobals<s.heap.objs.size:=(I.mod.glob.keeps I.bk).lt;exact lt_trans (by decide) h
theorem xH(hu:A.units+20<cLine)(I:Inv X pins σ H s)(g:bW H a y (some v))(ry:aw y u)(h:∀ w' s',Inv X pins σ H s'->aw v w'->Q w' s'):
  wpAny (model X.prog X.w) A (getItem (.ref a) u) Q E s:=by
 rcases g with ⟨kvs,k,e,ey,l⟩ | ⟨kvs,k,b,e,ey,eb,l⟩
 ·subst ey;obtain⟨z,hd,vs,rel,dd⟩:=gz I.l_ e;obtain⟨w',hw,Hw⟩:=dF.some_of (v:=v) (o:=valueAt vs k) (by rw[l];exact rel.val k);exact wpAny_getItem_of (jO ry) dd.mapOf hw (h w' _ (I.tok _) Hw)
 ·subst ey;cases (show u=Value.ref b from ry);obtain⟨z,hd,xs,rel,dd⟩:=iE I.l_ e;obtain⟨w',hw,Hw⟩:=dF.some_of (v:=v) (o:=(atKey xs k).map (·.2)) (by rw[l];exact rel.val k);obtain⟨p,hp,IC⟩:=map_eq_some_iff.mp hw;refine wpAny_getItem_heap (iD hu) (fK I.l_ eb) dd hp ?_;rw[IC];exact h w' _ (I.tok _) Hw
theorem lU(hu:A.units+20<cLine)(I:Inv X pins σ H s)(g:bW H a y o)(ry:aw y u)(h:∀ s',Inv X pins σ H s'->Q (.bool o.isSome) s'):
  wpAny (model X.prog X.w) A (compareOp .In u<|.ref a) Q E s:=by
 rcases g with ⟨kvs,k,e,ey,l⟩ | ⟨kvs,k,b,e,ey,eb,l⟩
 ·subst ey;obtain⟨z,hd,vs,rel,dd⟩:=gz I.l_ e;refine wpAny_in_of (jO ry) hd dd.mapOf ?_;rw[<- (rel.val k).Ep,<- l];exact h _ (I.tok _)
 ·subst ey;cases (show u=Value.ref b from ry);obtain⟨z,hd,xs,rel,dd⟩:=iE I.l_ e;refine wpAny_in_heap (iD hu) (fK I.l_ eb) hd dd ?_;have q:=(rel.val k).Ep;rw[isSome_map] at q;rw[<- q,<- l];exact h _ (I.tok _)
theorem lV(hu:A.units+20<cLine)(I:Inv X pins σ H s)(g:bW H a y o)(ry:aw y u)(h:∀ s',Inv X pins σ H s'->Q (.bool<|!o.isSome) s'):
  wpAny (model X.prog X.w) A (compareOp .NotIn u<|.ref a) Q E s:=by
 rcases g with ⟨kvs,k,e,ey,l⟩ | ⟨kvs,k,b,e,ey,eb,l⟩
 ·subst ey;obtain⟨z,hd,vs,rel,dd⟩:=gz I.l_ e;refine wpAny_notIn_of (jO ry) hd dd.mapOf ?_;rw[<- (rel.val k).Ep,<- l];exact h _ (I.tok _)
 ·subst ey;cases (show u=Value.ref b from ry);obtain⟨z,hd,xs,rel,dd⟩:=iE I.l_ e;refine wpAny_notIn_heap (iD hu) (fK I.l_ eb) hd dd ?_;have q:=(rel.val k).Ep;rw[isSome_map] at q;rw[<- q,<- l];exact h _ (I.tok _)
theorem pG{ob:HO}(I:Inv X pins σ H s)(mu:KG (H a))(hs:Heap.SameBut a s.heap h')(he:∃ q,h'.get? a=some q)(new:bm X.prog X.w (upd H a ob) h' a ob):
  Inv X pins σ (upd H a ob) { s with heap:=h',toks:=t' }:=
 I.write (x:=a) (e:=a) mu (.inl rfl) (fun b q hb z=>(hs.2 b hb).trans z) he new
theorem xI{kvs:List (Key×V)}{vs:List (Key×Value)}(z:kvs.length<=sizeLine)(hd:(a == sysModules)=false)(rel:KV kvs vs)(dd:h'.DictOf (eF P w) a vs):
  bm P w H' h' a (.dK kvs):=⟨z,hd,vs,rel,dd⟩
theorem pH{Q:Unit->Shared->Prop}(hu:A.units+20<cLine)(I:Inv X pins σ H s)(g:fL H a y v H')(ry:aw y u)(rv:aw v r)(h:∀ s',Inv X pins σ H' s'->Q () s'):
  wpAny (model X.prog X.w) A (setItem (.ref a) u r) Q E s:=by
 rcases g with ⟨kvs,k,e,ey,l,eH⟩ | ⟨kvs,k,b,e,ey,eb,l,eH⟩
 ·subst ey eH;obtain⟨z,hd,vs,rel,dd⟩:=xF I.l_ e;have hz:vs.length<=sizeLine:=by rw[<- rel.length];exact z
  have hl:(ck kvs k v).length<=sizeLine:=by have:=pE kvs k v;lia
  refine wpAny_setItem_pairs (hsz:=hz) (jO ry) dd fun h' IZ hs=>h _ ?_;have he:∃ q,h'.get? a=some q:=let ⟨q,_,_,hq,_⟩:=IZ;⟨q,hq⟩
  exact pG I (by rw[e];exact True.intro) hs he (xI hl hd (rel.put k rv) IZ)
 ·subst ey eH;cases (show u=Value.ref b from ry);obtain⟨z,hd,xs,rel,dd⟩:=xG I.l_ e;have hz:xs.length<=sizeLine:=by rw[<- Paired.length rel];exact z
  have hl:(ck kvs k v).length<=sizeLine:=by have:=pE kvs k v;lia
  refine wpAny_setItem_heap (hsz:=hz) (iD hu) (fK I.l_ eb) dd fun h' IZ hs=>h _ ?_;obtain⟨q,es,ep,hq,h2,h3,h4,_,h5⟩:=IZ;refine pG I (by rw[e];exact True.intro) hs ⟨q,hq⟩ ⟨hl,hd,_,(rel.put k eb rv).keeps fun c ys ec=>?_,q,es,ep,hq,h2,h3,h4,h5⟩;rw[aK (uW ec e<|fun z=>nomatch z)];exact ec
end
section
variable{X:Cx}{pins:List (Addr×Obj)}{σ:St}{H:Hp}{s:Shared}{a:Addr}{kvs:List (Key×V)}{k:Key}{u:Value}{A:Around}{E:Value->Shared->Prop}
theorem xJ(I:Inv X pins σ H s)(e:Rd H a (.dK kvs))(h:∀ t s',Inv X pins σ H s'->Q (.int kvs.length t) s'):wpAny (model X.prog X.w) A (call (.builtin "len") [.ref a]) Q E s:=by
 obtain⟨z,hd,vs,rel,dd⟩:=gz I.l_ e;refine call_len_dict hd dd (by rw[<- rel.length];rw[sizeLine_eq] at z;lia) ?_;rw[<- rel.length];exact h _ _ (I.tok _)
end
theorem xK{X:Cx}{y:V}(I:Inv X pins σ H s)(g:bW H a y o):s.TypeIs (.ref a) "dict" := by
 rcases g with ⟨kvs,k,e,_,_⟩ | ⟨kvs,k,b,e,_,_,_⟩
 ·obtain⟨_,_,vs,_,dd⟩:=gz I.l_ e;exact dd.typeIs
 ·obtain⟨_,_,xs,_,dd⟩:=iE I.l_ e;exact dd.typeIs
section
variable{X:Cx}{o i e value:Expr}{pos pos' M8:Pos}{td ty tv:TE}
end
theorem xL(h:Heap)(hb:sysModules<h.objs.size):bm P w H (h.push { cls:=.type "dict",data:=.dict #[] }) h.objs.size (.dT []):=
 ⟨zero_le _,beq_eq_false_iff_ne.mpr<|Ne.symm<|ne_of_lt hb,[],.nil,_,#[],0,Heap.get?_push_size _ rfl,⟨rfl,rfl,rfl⟩,rfl,rfl,nodup_nil⟩
def JJ:TE:=fun _ H Q=>∀ p,H p=none->Q (.ref p) (upd H p<|.dT [])
section
variable{X:Cx}{pos:Pos}
theorem xM:PE X (.Dict [] [] pos) JJ:=fun pins s σ H Q I h=>
 wpAny_Dict_empty ⟨.ref s.heap.objs.size,_,I.laid (a:=s.heap.objs.size) (o:=.dT []) (t':=s.toks) (fun _ _ q=>Heap.get?_push_of_some _ q) (Nat.le_refl _)<|xL s.heap I.big,rfl,h _<|I.l_.fresh<|Nat.le_refl _⟩
end
section
variable{X:Cx}{pins:List (Addr×Obj)}{σ:St}{H:Hp}{s:Shared}{a:Addr}{y d:V}{u r:Value}{o:Option V}{A:Around}{E:Value->Shared->Prop}
end
section
variable{X:Cx}{o e f:Expr}{apos EV:Pos}{td ty tx:TE}
end
section
variable{X:Cx}{pins:List (Addr×Obj)}{σ:St}{H:Hp}{s:Shared}{a:Addr}{kvs:List (Key×V)}{A:Around}{E:Value->Shared->Prop}
end
section
variable{X:Cx}{pins:List (Addr×Obj)}{σ:St}{H:Hp}{s:Shared}{a:Addr}{y:V}{u:Value}{A:Around}{E:Value->Shared->Prop}
end
end L2
namespace OS
open PySem PySem.W PySem.Calls PyProof.Rows
variable{n:Nat}{l:OpenLaw}
theorem xN{P:Params}{h:Heap}:∀ (ns:List Int) (vs:List Value),WellAll P h vs (ns.map WData.int)->IntsAre vs ns:=by
 intro ns;induction ns with
 | nil=>
  intro vs w;rw[List.map_nil] at w;cases w;exact .nil
 | cons n ns ih=>
  intro vs w;rw[map_cons] at w;cases w with
  | cons a b=>
   cases a;exact .cons _ _ (ih _ b)
theorem xO(hn:l.most=some n){P:Params}{h:Heap}{args:List WData}{vals:List Value}(ID:l.row.toRowW.claim.pre args=true)(Ng:WellAll P h vals args):
  ∃ a vs ns,vals=[Value.ref a]/\args=[WData.list (ns.map WData.int)]/\h.get? a=some { cls:=.type "list",data:=.seq vs.toArray }/\IntsAre vs ns/\ns.length<=n:=by
 have PY:WShape.hasAll [] args [.list .int]=true:=(pre_splitW ID).1;have hc:l.pre.holds [] { args:=args }=true:=(pre_splitW ID).2;obtain⟨d,r,rfl,h1,h2⟩:=hasAllW_cons PY;obtain rfl:=hasAllW_nil h2;obtain⟨xs,rfl,h3⟩:=hasW_list h1;obtain⟨ns,rfl⟩:=items_int h3;have hlen:ns.length<=n:=by
  unfold OpenLaw.pre at hc;have h4:(WTm.not<|.lt (.lit<|.int (n:Int))<|.len<|.arg 0).holds [] { args:=[.list (ns.map .int)] }=true:=by
   have h4:=(holds_andW hc).1;rw[hn] at h4;exact h4
  have h5:=condW_of h4 (w_not<|w_lt w_lit<|w_len_list<|w_arg rfl);rw[length_map] at h5;refine Nat.le_of_not_lt fun q=>?_;have q':(n:Int)<((ns.length:Nat):Int):=by lia
  first
   | (rw[decide_eq_true q'] at h5;exact absurd h5 (by decide))
   | (simp at h5;lia)
 cases Ng with
 | cons w1 w2=>
  cases w2;cases w1 with
  | list ho IE=>exact⟨_,_,ns,rfl,rfl,ho,xN ns _ IE,hlen⟩
theorem xP(l:OpenLaw)(args:List WData):l.row.toRowW.claim.post args (.bool true) args=true:=
 postW_of (r:=l.row.toRowW) (X:=(true == true))
  (show WShape.has [] (.bool true) .bool=true by first | rfl | decide | simp[WShape.has,WShape.arms,WShape.armsAll])
  (show (WTm.eq .res<|.lit<|.bool true).value [] { args:=args,res:=some (.bool true),after:=args }=some (.bool<|true == true) from w_eq_bool (w_res rfl) w_lit) rfl
theorem Gf{q:Program}{loose:List Str}{XP:(Str->Option Value)->Heap->Prop}{YP:World->Heap->Prop}{d:DefRec}(hn:l.most=some n)(K2:d.params.defaults=[])(call:∀ (w:World) (s₀ s₁:Shared) (mg mb:Str->Option Value) (fa:Addr) (o:Obj) (pm cd doc:Value) (a:Addr) (vs:List Value) (ns:List Int),
   Ground q loose [] XP w s₀ mg mb s₁.heap->YP w s₁.heap->
   s₁.heap.get? fa=some o->o.data=.func (docDef d.name d.params d.body d.scope pm cd doc)->s₁.heap.CodeRec cd d.name->mg d.name=some (.ref fa)->
   s₁.heap.get? a=some { cls:=.type "list",data:=.seq vs.toArray }->IntsAre vs ns->ns.length<=n->s₁.gens=#[]->
   codeAny (model l.prog w) callerA (.call (.ref fa) ⟨[.ref a],[]⟩) (fun r s'=>r=.ok (.ret<|.bool true)/\OldK s₁.heap s'.heap/\s'.os=s₁.os/\AllBare s'.gens) s₁):
  WalkO q loose XP YP l.row.toRowW d [] (fun f vs=>PySem.call f vs):=by
 intro w s₀ s₁ mg mb G Y fa o pm cd doc dV kV ho hd G_ hD hmg hg args vals as ID PZ Sd Ng P1;obtain rfl:dV=.none:=Dflts.none hD K2;obtain rfl:kV=.none:=Dflts.noKw hD;obtain⟨a,vs,ns,rfl,rfl,JK,hints,hlen⟩:=xO hn ID Ng;refine enter_call (codeAny_mono (call w s₀ s₁ mg mb fa o pm cd doc a vs ns G Y ho (fd_plain hd) G_ hmg JK hints hlen hg) fun r s' hq=>?_);obtain⟨rfl,h2,h3,h4⟩:=hq;exact⟨.inl ⟨.bool true,.bool true,[],rfl,fun _=>rfl,.bool true,xP l _,fun _=>⟨List.Pairwise.nil,fun _ hm=>(nomatch hm)⟩⟩,h2,h3,h4⟩
section
variable{prog:Program}{w:World}{A:Around}{E:Value->Shared->Prop}{s:Shared}{K:Frag}
end
end OS
namespace L2
open PySem PySem.Spec PyProof.Rows
variable{ps:List Str}{f:Addr}{st:Stmt}{qual x:Str}{sp:Sp}{fd:FuncData}{k:Nat}
theorem pI:∀ {vs:List Value}{ns:List Int},IntsAre vs ns->au (ns.map V.int) vs
 | _,_,.nil=>.nil
 | _,_,.cons n t h=>.cons ⟨t,rfl⟩ (pI h)
def jP(H:Hp):Prop:=∀ b,H b=none\/∃ o xs,H b=some (.Et o<|.lst xs)
theorem xQ{P:Program}{w:World}{K:PySem.W.Frag}{mg mb:Str->Option Value}{CX:Hx}{fa a:Addr}{s₁:Shared}{vs:List Value}{ns:List Int}(KX:K.In s₁.heap)(Nh:s₁.heap.Ns mainGlobals mg)(hb:s₁.heap.Ns builtinsNs mb)(P2:∀ x:Str,x ≠ "__name__" -> mb x=bootBuiltins x)(Ni:s₁.heap.NoLimit)(hg:s₁.gens=#[])(ha:s₁.heap.get? a=some { cls:=.type "list",data:=.seq vs.toArray })(hi:IntsAre vs ns)(hl:ns.length<=sizeLine)(hr:Ed k callerA)(F:∀ base:Heap,K.In base->base.Ns mainGlobals mg->EN P w K mg base CX k fa fd [x] sp)(K3:∀ (s:Shared) (u:Value),BindsTo s fd ⟨[u],[]⟩ [(x,u)])(IX:∀ H:Hp,jP H->En K H a (ns.map V.int)->sp [.ref a] H (fun v _=>v=.bl true) fun _ _ _=>False)(Nj:∀ H e s',CX [] H s₁ (fun _ _ _=>False) e s'->False):
  codeAny (model P w) callerA (.call (.ref fa) ⟨[.ref a],[]⟩) (fun r s'=>r=.ok (.ret<|.bool true)/\OldK s₁.heap s'.heap/\s'.os=s₁.os/\AllBare s'.gens) s₁:=by
 have rv:=pI hi;have Nk:=hi.length;have core:∀ H:Hp,jP H->En K H a (ns.map V.int)->EI P w H s₁.heap->(∀ b,H b≠none->b=a)->(H a≠none->K.lookup a=none)->
   codeAny (model P w) callerA (.call (.ref fa) ⟨[.ref a],[]⟩) (fun r s'=>r=.ok (.ret<|.bool true)/\OldK s₁.heap s'.heap/\s'.os=s₁.os/\AllBare s'.gens) s₁:=by
  intro H hO hS l_ hA hK;have GS:∀ {b:Addr}{o:Obj},s₁.heap.get? b=some o->H b=none->(dY s₁.heap H).get? b=some o:=fun e n=>uY e n;have KS:∀ {b:Addr}{o:Obj}{es:Array DictEntry}{ep:Nat},s₁.heap.get? b=some o->o.data=.dict es ep->H b=none:=fun {b o es ep} e d=>by
   cases q:H b with
   | none=>rfl
   | some u=>
    have e':b=a:=hA b (by rw[q];simp);subst e';rw[ha] at e;cases e;have d':Data.seq vs.toArray _=Data.dict es ep:=d;cases d'
  have Mn:∀ {b:Addr}{m:Str->Option Value},s₁.heap.Ns b m->(dY s₁.heap H).Ns b m:=fun {b m} ⟨o,es,ep,e,d,r⟩=>⟨o,es,ep,GS e<|KS e d,d,r⟩;have OT:K.In (dY s₁.heap H):=fun b o e=>GS (KX b o e) (by
   cases q:H b with
   | none=>rfl
   | some u=>
    have e':b=a:=hA b (by rw[q];simp);subst e';rw[hK (by rw[q];simp)] at e;cases e)
  have hM:Mod K mg (dY s₁.heap H):=⟨OT,Mn Nh,⟨mb,Mn hb,P2⟩,let ⟨mc,h1,h2⟩:=Ni;⟨mc,Mn h1,h2⟩⟩;have e0:Ix P w K mg (dY s₁.heap H) callerA [] s₁ H:=⟨rfl,hM,fun b o e=>uZ e,Nat.le_of_eq<|uX _ _,trivial,fun b hb=>absurd (show b∈([]:List Addr) from hb) (by simp),l_,.of_eq hg⟩;refine codeAny_mono ((F _ OT<|Mn Nh).run callerA [] s₁ H ⟨[.ref a],[]⟩ [.ref a] [.ref a] _ _ hr e0 (K3 s₁<|.ref a) (.cons rfl .nil)<|IX H hO hS) fun r s' h=>?_;cases r with
  | error e=>exact (Nj H e s' h).elim
  | ok fl=>
   cases fl with
   | next=>exact False.elim h
   | brk=>exact False.elim h
   | cont=>exact False.elim h
   | ret u=>
    obtain⟨v,H',os,bare,un,HE,r',q⟩:=h;have q':v=.bl true:=q;subst q';obtain rfl:u=Value.bool true:=r';refine⟨rfl,OldK.of_keep fun b o e=>?_,os,bare⟩;cases q:H b with
    | none=>exact un.keep b o e q (by intro z;exact absurd (show b∈([]:List Addr) from z) (by simp)) (by simp)
    | some u=>
     rcases hO b with z | ⟨ob,xs,z⟩
     ·rw[q] at z;cases z
     ·have z2:=un.Fp b ob _ z;obtain⟨e1,_⟩:=l_ b _ z;obtain⟨e2,_⟩:=HE b _ z2;rw[e] at e1;cases e1;exact e2
 cases hk:K.lookup a with
 | some o=>
  have e:=KX a o hk;rw[ha] at e;cases e;refine core (fun _=>none) (fun _=>.inl rfl) (.inr ⟨_,vs.toArray,_,hk,rfl,rfl,rfl,by rw[size_toArray,Nk];exact hl,by simpa using rv⟩) (fun b u z=>by have z':(none:Option HO)=some u:=z;cases z') (fun b z=>absurd rfl z) fun z=>absurd rfl z
 | none=>
  refine core (fun b=>if b=a then some (.Et { cls:=.type "list",data:=.seq vs.toArray } (.lst<|ns.map V.int)) else none) (fun b=>?_) (.inl<|.inr ⟨{ cls:=.type "list",data:=.seq vs.toArray },if_pos rfl⟩) (fun b u z=>?_) (fun b z=>?_) fun _=>hk
  ·by_cases hb:b=a
   ·exact .inr ⟨_,_,if_pos hb⟩
   ·exact .inl (if_neg hb)
  ·by_cases hb:b=a
   ·have z':=(if_pos hb).symm.trans z;cases z';subst hb;exact⟨ha,by rw[length_map];exact hl,vs,_,rv,ha⟩
   ·have z':=(if_neg hb).symm.trans z;cases z'
  ·by_cases hb:b=a
   ·exact hb
   ·exact absurd (if_neg hb) z
theorem xR{l:PySem.W.OpenLaw}{n:Nat}{q:Program}{loose:List Str}{XP:(Str->Option Value)->Heap->Prop}{YP:World->Heap->Prop}{d:DefRec}{K:Params->PySem.W.Frag}{CX:World->Hx}{sp:World->Sp}(hn:l.most=some n)(Nl:n<=sizeLine)(K2:d.params.defaults=[])(hr:Ed k callerA)(hY:∀ (w:World) (h:Heap),YP w h->(K w.params).In h)(F:∀ (w:World) (mg:Str->Option Value) (fa:Addr) (h:Heap),(K w.params).In h->h.Ns mainGlobals mg->mg d.name=some (.ref fa)->
   ∃ fd:FuncData,(∀ (s:Shared) (u:Value),BindsTo s fd ⟨[u],[]⟩ [(x,u)])/\
    ∀ base:Heap,(K w.params).In base->base.Ns mainGlobals mg->EN l.prog w (K w.params) mg base (CX w) k fa fd [x] (sp w))(IX:∀ (w:World) (H:Hp) (a:Addr) (ns:List Int),ns.length<=n->jP H->En (K w.params) H a (ns.map V.int)->sp w [.ref a] H (fun v _=>v=.bl true) fun _ _ _=>False)(Nj:∀ (w:World) (H:Hp) (s:Shared) (e:Value) (s':Shared),CX w [] H s (fun _ _ _=>False) e s'->False):
  PySem.W.WalkO q loose XP YP l.row.toRowW d [] (fun f vs=>PySem.call f vs):=by
 refine OS.Gf hn K2 fun w s₀ s₁ mg mb fa o pm cd doc a vs ns G Y ho hd G_ hmg JK hints hlen hg=>?_;have KX:=hY w _ Y;obtain⟨fd,hb,hF⟩:=F w mg fa _ KX G.T.g hmg;exact xQ KX G.T.g G.T.b G.T.builtins G.T.nolimit hg JK hints (Nat.le_trans hlen Nl) hr hF hb (fun H hO hS=>IX w H a ns hlen hO hS) fun H e s'=>Nj w H s₁ e s'
def cJ(s:Stmt):Arguments:=match s with
 | .FunctionDef _ a _ _ _ _ _ _ _ _=>a
 | _=>{ posonlyargs:=[],args:=[],vararg:=none,kwonlyargs:=[],kw_defaults:=[],kwarg:=none,defaults:=[] }
def ca(s:Stmt):List Stmt:=match s with
 | .FunctionDef _ _ b _ _ _ _ _ _ _=>b
 | _=>[]
def ay(s:Stmt):Scope:=match s with
 | .FunctionDef _ _ _ _ _ _ sc _ _ _=>sc
 | _=>{ kind:=.function,names:=[],isGenerator:=false,isCoroutine:=false }
abbrev GT:Hx:=fun _ _ _ _ _ _=>False
abbrev E0:XK:=fun _ _ _=>False
theorem pJ{X:Cx}:jL GT X E0:=fun _ _ _ _ _ _ _ h=>h.elim
structure Ga(K:PySem.W.Frag)(x qual:Str)(st:Stmt)(f:Addr)(fd:FuncData):Prop where
 ex:∃ (oc:Value) (od:Option Addr) (kV doc pm:Value) (an:Option Addr) (r_ ct:Value) (Hn:Array (Option Value)),
  fd=PySem.W.fnOf x qual (cJ st) (ca st) (ay st) .none kV doc pm an r_ ct/\K.lookup f=some ⟨oc,od,.func fd,Hn⟩/\PySem.W.codeIn K r_ qual=true
 kp:PySem.W.keepIn K (.ref f)=true
section
variable{P:Program}{w:World}{K:PySem.W.Frag}{mg:Str->Option Value}{base:Heap}
theorem Ga.ok{N:List Str}(F:Ga K x qual st f fd)(S:i_ N ps (ay st))(len:∀ vs H Q E,sp vs H Q E->vs.length=ps.length)(Hz:∀ (r_:Value) (A:Around) (outer:List Env) (s:Shared) (H:Hp) (vs:List V) (Q:VK) (E:XK),Ed k (A.deeper<|envOfC qual (ay st) s.heap.objs.size f r_)->sp vs H Q E->
   ∃ t,Gz (eJ GT P w K mg base N qual (ay st) f r_ A outer s H E).Kk (ca st) t/\t { nx:=fun _ H'=>Q .j_ H',rt:=Q } (start N vs) H):EN P w K mg base GT (k+1) f fd ps sp:=by
 obtain⟨oc,od,kV,doc,pm,an,r_,ct,Hn,rfl,lk,G_⟩:=F.ex;refine wQ lk G_ S len fun A outer s H vs Q E hr IX=>?_;obtain⟨t,h,q⟩:=Hz r_ A outer s H vs Q E hr IX;exact⟨t,h.Kk,q⟩
theorem Ga.binds(F:Ga K x qual st f fd)(h:∀ (kV doc pm:Value) (an:Option Addr) (r_ ct:Value) (us:List Value),us.length=ps.length->bindArgs (PySem.W.fnOf x qual (cJ st) (ca st) (ay st) .none kV doc pm an r_ ct) ⟨us,[]⟩=pure (ps.zip us)):cH K fd ps []:=by
 obtain⟨oc,od,kV,doc,pm,an,r_,ct,Hn,rfl,lk,G_⟩:=F.ex;exact .all (h kV doc pm an r_ ct)
theorem xS{oc:Value}{od an:Option Addr}{Hn:Array (Option Value)}{kV doc pm r_ ct:Value}(l:K.lookup f=some ⟨oc,od,.func<|PySem.W.fnOf x qual (cJ st) (ca st) (ay st) .none kV doc pm an r_ ct,Hn⟩)(c:PySem.W.codeIn K r_ qual=true)(k:PySem.W.keepIn K (.ref f)=true):Ga K x qual st f (PySem.W.fnOf x qual (cJ st) (ca st) (ay st) .none kV doc pm an r_ ct):=⟨⟨oc,od,kV,doc,pm,an,r_,ct,Hn,rfl,l,c⟩,k⟩
end
section
variable{X:Cx}
theorem pv(i:Nat){x:Str}{pos:Pos}(hN:X.N[i]?=some x:=by rfl)(hv:Mf X.env.scope x:=by first | exact Or.inl rfl | exact Or.inr (Or.inl rfl) | exact Or.inr (Or.inr rfl))(hd:(x == ("__debug__" : Str))=false:=by decide)(G_:(x == ("__classdict__" : Str))=false:=by decide):PE X (.Name x pos) (eG i):=oN hN hv hd G_
end
def aC(H H':Hp):Prop:=∀ b o,H b=some o->H' b=some o
theorem aC.refl(H:Hp):aC H H:=fun _ _ h=>h
end L2
namespace L2
section
variable{X:Cx}
theorem xT:bb X (.builtin "len") (fun xs H Q=>∃ a kvs,xs=[V.ref a]/\H a=some (.dK kvs)/\Q (.int kvs.length) H):=by
 intro pins s σ H xs us Q I r h;obtain⟨a,kvs,rfl,ha,q⟩:=h;obtain⟨u,rfl,ru⟩:=b9 r;cases ru;exact xJ I (.inl ha) fun t s' I'=>⟨.int kvs.length,H,I',⟨t,rfl⟩,q⟩
end
section
variable{κ:Type}[DecidableEq κ]
end
end L2
namespace L2
open PySem PySem.Spec PyProof.Rows
variable{Q:Option Value->Shared->Prop}{i ep:Nat}{it d C:Addr}{h:Heap}{ks:List Value}{wi:TI}{tg iter elt:Expr}{fp:List Addr}{H:Hp}{σ:St}{pins:List (Addr×Obj)}{caps:List Nat}{own:List Str}{env:Env}{pos:Pos}{scope:Scope}{ifs:List Expr}{s:Shared}
theorem xU{prog:Program}{w:World}{A:Around}{R:Result->Shared->Prop}{target:Expr}{it acc:Value}(I:Nat->Shared->Prop)(turn:∀ n s,I n s->wpAny (model prog w) A (pyNext it) (fun r s₁=>match r with
   | none=>R (.ok .next) s₁
   | some v=>wpAny (model prog w) A (letOwnedTupleGo target it v) (fun _ s₁=>wpAny (model prog w) A (assign target env v) (fun _ s₂=>
     wpAny (model prog w) A (forIn ifs true fun c r=>if r=true then do let ok <- isTrue c env (eval c env);pure (ForInStep.yield ok) else pure (ForInStep.yield r)) (fun ok s₃=>
      if ok=true then wpAny (model prog w) A (eval elt env) (fun x s₄=>
       wpAny (model prog w) A (call (.builtin "list.append") [acc,x]) (fun _ s₅=>∃ m,m<n/\I m s₅) (fun _ _=>False) s₄) (fun _ _=>False) s₃
      else ∃ m,m<n/\I m s₃) (fun _ _=>False) s₂) (fun _ _=>False) s₁) (fun _ _=>False) s₁) (fun _ _=>False) s)(n:Nat)(h:I n s):
  codeAny (model prog w) A (.compLoop (.ListComp elt [⟨target,iter,ifs,0⟩] scope pos) 0 it acc env) R s:=by
 refine codeAny_loop rfl I (fun n s hI=>?_) n h;show wpAny _ A ((compTurn (.ListComp elt [⟨target,iter,ifs,0⟩] scope pos) 0 it acc env).onRaise (fun x=>do noteFrame x env;theTreesLotGoes x)) _ _ s;refine wpAny_noted ?_;rw[compTurn_list];refine wpAny_bind (wpAny_standAt<|wpAny_bind<|wpAny_mono (turn n s hI) (fun r s₁ h₁=>?_) fun _ _ h'=>h'.elim);cases r with
 | none=>exact wpAny_pure h₁
 | some v=>
  refine wpAny_bind (wpAny_mono h₁ (fun _ s₁ h₁=>?_) fun _ _ h'=>h'.elim);refine wpAny_bind (wpAny_mono h₁ (fun _ s₂ h₂=>wpAny_bind<|wpAny_mono h₂ (fun ok s₃ h₃=>?_) fun _ _ h'=>h'.elim) fun _ _ h'=>h'.elim);cases ok with
  | false=>exact wpAny_pure ⟨rfl,h₃⟩
  | true=>
   exact wpAny_bind (wpAny_bind<|wpAny_mono h₃ (fun x s₄ h₄=>wpAny_bind<|wpAny_mono h₄ (fun _ s₅ h₅=>wpAny_pure<|wpAny_pure ⟨rfl,h₅⟩) fun _ _ h'=>h'.elim) fun _ _ h'=>h'.elim)
def fM(env:Env)(names:List (Str×NameKind)):List (Str×Addr):=names.foldl (fun cs y=>if y.2 == .free then (y.1,(env.cells.lookup y.1).getD 0)::cs else cs) []
theorem lX{env:Env}:∀ (names:List (Str×NameKind)) (cs:List (Str×Addr)),(∀ y∈names,y.2=.free->∃ c,env.cells.lookup y.1=some c)->
  (forIn names cs fun (y:Str×NameKind) cs=>if y.2 == .free then (do let c <- cellOf env y.1;pure (ForInStep.yield ((y.1,c)::cs))) else pure (ForInStep.yield cs):Sem _)=
   pure (names.foldl (fun cs y=>if y.2 == .free then (y.1,(env.cells.lookup y.1).getD 0)::cs else cs) cs)
 | [],cs,_=>rfl
 | y::r,cs,h=>by
  rw[forIn_cons,foldl_cons];by_cases hy:y.2=.free
  ·obtain⟨c,hc⟩:=h y mem_cons_self hy;have e:(y.2 == NameKind.free)=true:=by simp[hy]
   rw[if_pos e,if_pos e];have ec:cellOf env y.1=pure c:=by unfold cellOf;rw[hc]
   rw[ec,hc];show (forIn r ((y.1,c)::cs) _:Sem _)=_;exact lX r _ fun z hz=>h z (mem_cons_of_mem _ hz)
  ·have e:¬ (y.2 == NameKind.free)=true:=by simp[hy]
   rw[if_neg e,if_neg e];show (forIn r cs _:Sem _)=_;exact lX r _ fun z hz=>h z (mem_cons_of_mem _ hz)
theorem xV(h:∀ y∈scope.names,y.2=.free->∃ c,env.cells.lookup y.1=some c):closureFor scope env=pure (fM env scope.names):=by
 have:=lX (env:=env) scope.names [] h;unfold closureFor;dsimp only;have e:(forIn scope.names ([]:List (Str×Addr))<|fun (x:Str×NameKind) (r:List (Str×Addr))=>(if x.2 == .free then (do let c <- cellOf env x.1;pure (ForInStep.yield ((x.1,c)::r))) else pure (ForInStep.yield r):Sem (ForInStep<|List<|Str×Addr)))=pure (fM env scope.names):=this;rw[e];rfl
theorem pK{env:Env}:∀ (names:List (Str×NameKind)) (cs:List (Str×Addr)) (x:Str) (c:Addr),
  (names.foldl (fun cs y=>if y.2 == .free then (y.1,(env.cells.lookup y.1).getD 0)::cs else cs) cs).lookup x=some c->
  (c=(env.cells.lookup x).getD 0/\(x,NameKind.free)∈names)\/cs.lookup x=some c
 | [],cs,x,c,h=>.inr h
 | y::r,cs,x,c,h=>by
  rw[foldl_cons] at h;rcases pK r _ x c h with ⟨e,m⟩ | h
  ·exact .inl ⟨e,mem_cons_of_mem _ m⟩
  ·by_cases hy:y.2=.free
   ·rw[if_pos (by simp[hy])] at h;rw[lookup_cons] at h;by_cases hx:x=y.1
    ·subst hx;rw[beq_self_eq_true] at h;refine .inl ⟨(Option.some.inj h).symm,?_⟩;rw[<- hy];exact mem_cons_self
    ·have:(x == y.1)=false:=by simpa using hx
     rw[this] at h;exact .inr h
   ·rw[if_neg (by simp[hy])] at h;exact .inr h
theorem lY{env:Env}:∀ (names:List (Str×NameKind)) (cs:List (Str×Addr)) (x:Str),(x,NameKind.free)∈names\/(∃ c,cs.lookup x=some c)->
  ∃ c,(names.foldl (fun cs y=>if y.2 == .free then (y.1,(env.cells.lookup y.1).getD 0)::cs else cs) cs).lookup x=some c
 | [],cs,x,h=>by
  rcases h with h | h
  ·cases h
  ·exact h
 | y::r,cs,x,h=>by
  rw[foldl_cons];apply lY r _ x;rcases h with h | ⟨c,h⟩
  ·rcases mem_cons.mp h with e | h
   ·right;subst e;rw[if_pos (by rfl),lookup_cons,beq_self_eq_true];exact⟨_,rfl⟩
   ·exact .inl h
  ·right;by_cases hy:(y.2 == NameKind.free)=true
   ·rw[if_pos hy,lookup_cons];cases x == y.1
    ·exact⟨c,h⟩
    ·exact⟨_,rfl⟩
   ·rw[if_neg hy];exact⟨c,h⟩
structure HF where
 C:Addr
 s:Shared
 H:Hp
 fp:List Addr
variable{te:HF->TE}{tt:HF->TT}{g:HF->TG}
def Cx.FT(X : Cx)(N' : List Str)(scope : Scope)(Y : HF): Cx :=
  { prog := X.prog, w := X.w, K := X.K, mg := X.mg, base := X.base, A := X.A, N := N', s₀ := Y.s, H₀ := Y.H, env := compEnvC scope (fM X.env scope.names) Y.C X.env, outer := X.stack, stack := X.stack,
    ex := Y.fp, fn := fun _ => false, calm := X.calm, pn := [], xe := fun _ _ => False }
theorem lZ{env:Env}:∀ {names:List (Str×NameKind)}{x:Str}{k:NameKind},
  (names.map fun (n,k)=>if (k == NameKind.free && env.scope.kind == .function && env.kindOf n == some .cell) then (n,NameKind.cell) else (n,k)).lookup x=some k->
  (k=.cell\/k=.free)->(∀ y∈names,y.2≠.cell)->(x,NameKind.free)∈names
 | [],x,k,h,_,_=>by simp at h
 | (n,k')::r,x,k,h,hk,hc=>by
  rw[map_cons] at h;dsimp only at h;by_cases hx:x=n
  ·subst hx;by_cases hf:(k' == NameKind.free && env.scope.kind == .function && env.kindOf x == some .cell)=true
   ·have:k'=NameKind.free:=by
     simp only[and_eq_true] at hf;exact by simpa using hf.1.1
    subst this;exact mem_cons_self
   ·simp only[hf] at h;have e:k'=k:=by simpa [lookup_cons] using h
    subst e;rcases hk with hk | hk
    ·exact absurd hk (hc (x,k') mem_cons_self)
    ·rw[hk];exact mem_cons_self
  ·have hb:(x == n)=false:=by simpa using hx
   have h':(r.map fun (n,k)=>if (k == NameKind.free && env.scope.kind == .function && env.kindOf n == some .cell) then (n,NameKind.cell) else (n,k)).lookup x=some k:=by
    by_cases hf:(k' == NameKind.free && env.scope.kind == .function && env.kindOf n == some .cell)=true
    ·rw[if_pos hf,lookup_cons,hb] at h;exact h
    ·rw[if_neg hf,lookup_cons,hb] at h;exact h
   exact mem_cons_of_mem _ (lZ h' hk fun y hy=>hc y<|mem_cons_of_mem _ hy)
section
variable{X:Cx}
structure n_(X:Cx)(scope:Scope)(own:List Str)(caps:List Nat):Prop where
 kind:scope.kind=.function
 cell:∀ y∈scope.names,y.2≠.cell
 free:∀ y∈scope.names,y.2=.free->X.env.scope.names.lookup y.1=some .cell
 loc:∀ y∈scope.names,y.2=.local->scope.names.lookup y.1=some .local
 Nm:∀ i∈caps,∃ x,X.N[i]?=some x/\(x,NameKind.free)∈scope.names/\scope.names.lookup x=some .free
def bQ(X:Cx)(own:List Str)(caps:List Nat):List Str:=own++caps.map fun i=>X.N.getD i ""
def du(own:List Str)(caps:List Nat)(σ:St):St:=own.map (fun _=>none)++caps.map fun i=>σ.getD i none
theorem n_.cells(S:n_ X scope own caps)(ok:X.Ok):∀ y∈scope.names,y.2=.free->∃ c,X.env.cells.lookup y.1=some c:=
 fun y hy hf=>ok.has y.1 (.inl<|S.free y hy hf)
theorem n_.sub(S:n_ X scope own caps)(ok:X.Ok){x:Str}{c:Addr}(h:(fM X.env scope.names).lookup x=some c):X.env.cells.lookup x=some c/\(x,NameKind.free)∈scope.names:=by
 rcases pK scope.names [] x c h with ⟨e,m⟩ | h
 ·obtain⟨c',e'⟩:=S.cells ok (x,.free) m rfl;rw[show (List.lookup x X.env.cells)=some c' from e'] at e;refine⟨?_,m⟩;rw[e];exact e'
 ·simp at h
theorem pL(S:n_ X scope own caps)(I:Inv X pins σ H s)(hC:s.heap.objs.size<=C)(hf:∀ b∈fp,dr X pins H b)(Ff:∀ b∈fp,b<s.heap.objs.size):(X.FT (bQ X own caps) scope ⟨C,s,H,fp⟩).Ok where
 mod:=I.ok.mod
 kind:=S.kind
 glob:=I.ok.glob
 blt:=I.ok.blt
 above:=hC
 inj:=fun x y c h1 h2=>I.ok.inj x y c (S.sub I.ok h1).1 (S.sub I.ok h2).1
 has:=fun x hx=>by
  have m:(x,NameKind.free)∈scope.names:=by
   rcases hx with hx | hx
   ·exact lZ hx (.inl rfl) S.cell
   ·exact lZ hx (.inr rfl) S.cell
  exact lY scope.names [] x (.inl m)
 Kj:=fun x c h _=>nomatch h
 hd:=I.ok.hd
 frames:=I.ok.frames
 KI:=.inl rfl
 MV:=fun b hb=>⟨ne_of_lt<|lt_of_lt_of_le (Ff b hb) hC,fun x c h=>(hf b hb).2.2.2.2.1 x c (S.sub I.ok h).1⟩
 bs:=I.bs
 Ir:=Nat.le_trans I.ok.Ir I.sz
 G9:=fun b o e hb=>by
  rcases (hf b hb).2.2.2.1 with z | z
  ·exact I.ok.G9 b o e z
  ·exact absurd (lt_of_lt_of_le (Heap.lt_size e)<|Nat.le_trans I.ok.Ir z) (lt_irrefl _)
 G':=fun b hb z=>by
  rcases mem_cons.mp (I.Gy b z) with e | e
  ·exact (hf b hb).2.1 e
  ·exact (hf b hb).2.2.1 e
 E4:=I.stack
 Jv:=I.GP
theorem xW{h1:Heap}{tk:Nat}{m:Str->Option Value}(S:n_ X scope own caps)(I:Inv X pins σ H s)(hC:s.heap.objs.size<=C)(hf:∀ b∈fp,dr X pins H b)(Ff:∀ b∈fp,b<s.heap.objs.size)(old:∀ b o,s.heap.get? b=some o->h1.get? b=some o)(hn:h1.Ns C m):
  Inv (X.FT (bQ X own caps) scope ⟨C,s,H,fp⟩) [] (du own caps σ) H { s with heap:=h1,toks:=tk } where
 ok:=pL S I hC hf Ff
 os:=rfl
 bare:=I.bare
 base:=Un.kept old
 loc:=by
  obtain⟨m0,Se,P3⟩:=I.loc;refine⟨m,hn,fun j x v e1 e2 hv=>?_⟩;have e1:(own++caps.map fun i=>X.N.getD i "")[j]?=some x:=e1;have e2:(own.map (fun _=>(none:Option V))++caps.map fun i=>σ.getD i none)[j]?=some (some v):=e2;by_cases hj:j<own.length
  ·rw[getElem?_append_left (by rw[length_map];exact hj),List.getElem?_map] at e2;cases q:own[j]? with
   | none=>rw[q] at e2;cases e2
   | some z=>rw[q] at e2;cases e2
  ·rw[getElem?_append_right (by lia),List.getElem?_map] at e1;rw[getElem?_append_right (by rw[length_map];lia),List.getElem?_map,length_map] at e2;cases q:caps[j - own.length]? with
   | none=>rw[q] at e1;cases e1
   | some i=>
    rw[q] at e1 e2;have e1:X.N.getD i "" = x:=Option.some.inj e1;have e2:σ.getD i none=some v:=Option.some.inj e2;obtain⟨x',Gx,hm,P4⟩:=S.Nm i (mem_of_getElem? q);have ex:x'=x:=by
     rw[<- e1,getD_eq_getElem?_getD,Gx];rfl
    subst ex;have hs:σ[i]?=some (some v):=by
     rw[getD_eq_getElem?_getD] at e2;cases q2:σ[i]? with
     | none=>rw[q2] at e2;cases e2
     | some z=>rw[q2] at e2;rw[show z=some v from e2]
    have K4:=S.free (x',.free) hm rfl;obtain⟨u,r,lk⟩:=P3 i x' v Gx hs (.inr<|.inl K4);refine⟨u,r,.inr ⟨?_,?_⟩⟩
    ·rcases hv with hv | hv | hv
     ·
      exfalso;have:∀ {names:List (Str×NameKind)},names.lookup x'=some .free->(names.map fun (n,k)=>if (k == NameKind.free && X.env.scope.kind == .function && X.env.kindOf n == some .cell) then (n,NameKind.cell) else (n,k)).lookup x'≠some .local:=by
       intro names;induction names with
       | nil=>intro h;simp at h
       | cons y r ih=>
        obtain⟨n,k⟩:=y;intro h;rw[map_cons];dsimp only;by_cases hx:x'=n
        ·subst hx;have ek:k=.free:=by simpa [lookup_cons] using h
         subst ek;by_cases hq:(NameKind.free == NameKind.free && X.env.scope.kind == ScopeKind.function && X.env.kindOf x' == some NameKind.cell)=true
         ·rw[if_pos hq];simp[lookup_cons]
         ·rw[if_neg hq];simp[lookup_cons]
        ·have hb:(x' == n)=false:=by simpa using hx
         rw[lookup_cons,hb] at h;by_cases hq:(k == NameKind.free && X.env.scope.kind == ScopeKind.function && X.env.kindOf n == some NameKind.cell)=true
         ·rw[if_pos hq,lookup_cons,hb];exact ih h
         ·rw[if_neg hq,lookup_cons,hb];exact ih h
      exact this P4 hv
     ·exact .inl hv
     ·exact .inr hv
    ·rcases lk with ⟨hk,_⟩ | ⟨_,c,hc,GQ⟩
     ·exact absurd (hk.symm.trans K4) (by simp)
     ·obtain⟨c',KM⟩:=lY (env:=X.env) scope.names [] x' (.inl hm);have:=(S.sub I.ok KM).1;rw[hc] at this;cases this;obtain⟨o,ho,hd⟩:=GQ;exact⟨c,KM,o,old _ _ ho,hd⟩
 cell:=fun x c h=>by
  obtain⟨v,o,ho,hd⟩:=I.cell x c (S.sub I.ok h).1;exact⟨v,o,old _ _ ho,hd⟩
 free:=I.l_.fresh hC
 Eo:=fun x c h=>I.Eo x c (S.sub I.ok h).1
 pin:=fun p hp=>nomatch hp
 l_:=I.l_.kept old
 len:=by simp[du,bQ,Cx.FT]
end
section
variable{X:Cx}
def pM(X:Cx)(ifs:List Expr)(t:TT)(pins:List (Addr×Obj)):Prop:=
 ∀ (s:Shared) (σ:St) (H:Hp) (Q:Bool->Hp->Prop),Inv X pins σ H s->t σ H Q->
  wpAny (model X.prog X.w) X.A (forIn ifs true fun c r=>if r=true then do let ok <- isTrue c X.env (eval c X.env);pure (ForInStep.yield ok) else pure (ForInStep.yield r)) (TP X pins σ Q) X.xe s
def K5(X:Cx)(ifs:List Expr)(t:TT):Prop:=∀ pins,pM X ifs t pins
def Nn:TT:=fun _ H Q=>Q true H
theorem xX:K5 X [] Nn:=fun pins s σ H Q I h=>wpAny_tests_nil ⟨H,I,h⟩
theorem xY{c:Expr}{t:TT}(h:PT X c t):K5 X [c] t:=fun pins s σ H Q I hw=>wpAny_tests_one (h pins s σ H Q I hw)
def xZ(own:List Str)(caps:List Nat)(g:TG)(tt:TT)(te:TE)(σ:St)(N:List V->Hp->Prop)(ys:List V)(x:V)(H':Hp):Prop:=
 g x (du own caps σ) H' fun σ2 H2=>(∀ (j:Nat) (v:V),(du own caps σ)[j]?=some (some v)->σ2[j]?=some (some v))/\tt σ2 H2 fun b H3=>if b=true then te σ2 H3 fun v H4=>ys.length<sizeLine/\N (ys++[v]) H4 else N ys H3
def x5(J:It)(own:List Str)(caps:List Nat)(g:TG)(tt:TT)(te:TE)(σ:St)(H1:Hp)(Q:VK):Prop:=
 ∃ W:Nat->Nat->List V->Hp->Prop,(∃ m,W 0 m [] H1)/\∀ i m ys H,W i m ys H->(J.stop i H/\∀ D,H D=none->Q (.ref D) (upd H D<|.lst ys))\/
  (J.go i H/\∃ N:List V->Hp->Prop,(∀ OU H',N OU H'->∃ m',m'<m/\W (i+1) m' OU H')/\∀ x H',J.KP i H x H'->xZ own caps g tt te σ N ys x H')
def jQ(own:List Str)(caps:List Nat)(wi:TI)(g:HF->TG)(tt:HF->TT)(te:HF->TE):TE:=fun σ H Q=>wi σ H fun J H1=>∀ Y:HF,x5 J own caps (g Y) (tt Y) (te Y) σ H1 Q
def l6(sc:Scope)(N:List Str)(scope:Scope)(caps:List Nat):Bool:=
 scope.kind == .function && scope.names.all (fun y=>y.2 != .cell) && scope.names.all (fun y=>y.2 != .free || sc.names.lookup y.1 == some .cell) && scope.names.all (fun y=>y.2 != .local || scope.names.lookup y.1 == some .local) &&
  caps.all (fun i=>match N[i]? with | some x=>scope.names.lookup x == some .free | none=>false)
theorem mem_of_lookup:∀ {l:List (Str×NameKind)}{x:Str}{k:NameKind},l.lookup x=some k->(x,k)∈l
 | [],_,_,h=>by simp at h
 | (n,k')::r,x,k,h=>by
  rw[lookup_cons] at h;by_cases hx:x=n
  ·subst hx;rw[beq_self_eq_true] at h;cases h;exact mem_cons_self
  ·rw[show (x == n)=false by simpa using hx] at h;exact mem_cons_of_mem _ (mem_of_lookup h)
theorem cb{X:Cx}(sc:Scope)(N:List Str)(h:l6 sc N scope caps=true)(e:X.env.scope=sc:=by rfl)(eN:X.N=N:=by rfl):n_ X scope own caps:=by
 unfold l6 at h;simp only[and_eq_true,all_eq_true,bne_iff_ne,ne_eq,or_eq_true,beq_iff_eq] at h;obtain⟨⟨⟨⟨h1,h2⟩,h3⟩,h4⟩,h5⟩:=h;refine⟨h1,h2,fun y hy hf=>?_,fun y hy hf=>?_,fun i hi=>?_⟩
 ·rw[e];exact (h3 y hy).resolve_left fun z=>z hf
 ·exact (h4 y hy).resolve_left fun z=>z hf
 ·have:=h5 i hi;rw[eN];cases q:N[i]? with
  | none=>rw[q] at this;cases this
  | some x=>
   rw[q] at this;have hl:scope.names.lookup x=some .free:=by simpa using this
   exact⟨x,rfl,mem_of_lookup hl,hl⟩
theorem pN{p2:Pos}{use:Option (Value->Sem Unit)}{Qp:Value->Shared->Prop}{Qv:VK}(hc:X.calm=true)(S:n_ X scope own caps)(hi:PI X tg iter wi)(hg:∀ Y,PG (X.FT (bQ X own caps) scope Y) tg<|g Y)(ht:∀ Y,K5 (X.FT (bQ X own caps) scope Y) ifs<|tt Y)(he:∀ Y,PE (X.FT (bQ X own caps) scope Y) elt<|te Y)(hs:∀ x,foldedSetIterable iter X.env x=pure x)(I:Inv X pins σ H s)(h:jQ own caps wi g tt te σ H Qv)(FU:∀ (D C:Addr) (H4:Hp) (s4:Shared) (m:Str->Option Value),Inv X pins σ H4 s4->s4.heap.Ns C m->H4 C=none->X.env.locals≠C->(∀ x c,X.env.cells.lookup x=some c->c≠C)->X.s₀.heap.objs.size<=C->(∀ p∈X.pn++pins,p.1≠C)->Qv (.ref D) H4->compPost (model X.prog X.w) X.A X.xe use Qp (.ref D) C (.ok .next) s4):
  wpAny (model X.prog X.w) X.A (comprehension (.ListComp elt [⟨tg,iter,ifs,0⟩] scope pos) scope X.env p2 (newList []) false (eval iter X.env) use) Qp X.xe s:=by
 refine wpAny_comprehension_free (use:=use) rfl hs (xV<|S.cells I.ok) S.kind S.loc (z_ (hi pins s σ H _ I h) fun v s1 h1=>z_ h1 fun M4 s2 h2=>?_);obtain⟨it,fp,tn,J,H2,e,I2,T,q_,f2,hW⟩:=h2;subst e;have Ff:∀ b∈fp,b<s2.heap.objs.size:=fun b hb=>by
  obtain⟨o,e,_⟩:=T.obj _ _ q_ b hb;exact Heap.lt_size e
 refine wpAny_newObj_type (wpAny_newFunctionEnv S.cell (by intro y hy;simp at hy) (fun h₁ FV Fs=>?_) S.kind);dsimp only at FV Fs ⊢;generalize No:s2.heap.push { cls:=.type "list",dict:=none,data:=.seq ([]:List Value).toArray }=Hq at FV Fs ⊢;have hC:Hq.objs.size=s2.heap.objs.size+1:=by rw[<- No,Heap.size_push]
 have JL:s2.heap.objs.size≠Hq.objs.size:=by rw[hC];exact ne_of_lt (lt_succ_self _)
 have JM:s2.heap.objs.size<=Hq.objs.size:=by rw[hC];exact Nat.le_succ _
 have old:∀ b o,s2.heap.get? b=some o->h₁.get? b=some o:=fun b o e=>
  Fs.extBut b o (by rw[hC];exact ne_of_lt (Nat.lt_succ_of_lt<|Heap.lt_size e)) (Heap.get?_push_of_some _<|No ▸ Heap.get?_push_of_some _ e);have Ft:h₁.get? s2.heap.objs.size=some { cls:=.type "list",data:=.seq ([]:List Value).toArray 0 }:=Fs.extBut _ _ JL (Heap.get?_push_of_some _<|No ▸ Heap.get?_push_size _ rfl);generalize Sf:Hq.objs.size=C at FV Fs hC JL JM ⊢;generalize JN:s2.heap.objs.size=D at Ft hC JL JM ⊢;have K6:s2.heap.objs.size<=C:=by rw[JN];exact JM
 obtain⟨W,⟨m0,w0⟩,turn⟩:=hW ⟨C,s2,H2,fp⟩;have OV:=fun (tk:Nat)=>xW (tk:=tk) S I2 K6 f2 Ff old FV;have OW:=hg ⟨C,s2,H2,fp⟩;have OX:=ht ⟨C,s2,H2,fp⟩;have OY:=he ⟨C,s2,H2,fp⟩;have HE:=pL S I2 K6 f2 Ff;generalize E7:X.FT (bQ X own caps) scope ⟨C,s2,H2,fp⟩=X' at OV OW OX OY HE;have eP:X'.prog=X.prog:=by rw[<- E7];rfl
 have ew:X'.w=X.w:=by rw[<- E7];rfl
 have eK:X'.K=X.K:=by rw[<- E7];rfl
 have eA:X'.A=X.A:=by rw[<- E7];rfl
 have ec:X'.calm=true:=by rw[<- E7];exact hc
 have eL:X'.env.locals=C:=by rw[<- E7];rfl
 have Np:X'.ex=fp:=by rw[<- E7];rfl
 have Mo:X'.s₀=s2:=by rw[<- E7];rfl
 have P5:X'.H₀=H2:=by rw[<- E7];rfl
 have P6:X'.fs=GO X.stack:=by rw[<- E7];rfl
 have Mp:X'.pn=[]:=by rw[<- E7];rfl
 have Nq:X'.xe=fun _ _=>False:=by rw[<- E7];rfl
 have K7:X'.env=compEnvC scope (fM X.env scope.names) C X.env:=by rw[<- E7];rfl
 have I_:∀ x c,X'.env.cells.lookup x=some c->X.env.cells.lookup x=some c:=fun x c h=>(S.sub I2.ok (by rw[K7] at h;exact h)).1;have nD:∀ x c,X'.env.cells.lookup x=some c->c≠D:=fun x c h z=>by
  obtain⟨v,o,ho,_⟩:=I2.cell x c (I_ x c h);have:=Heap.lt_size ho;rw[z,<- JN] at this;exact lt_irrefl _ this
 have Nr:∀ b∈fp,b≠D:=fun b hb z=>by
  have:=Ff b hb;rw[z,<- JN] at this;exact lt_irrefl _ this
 have P7:D∉X'.fs:=fun z=>by
  obtain⟨_,o,ho,_⟩:=HE.E4.mem z;rw[Mo] at ho;have:=Heap.lt_size ho;rw[JN] at this;exact lt_irrefl _ this
 have Nt:∀ (H':Hp) (o:Obj),(∀ b∈fp,H' b=none)->∀ b∈fp,dr X' [(D,o)] H' b:=fun H' o hn b hb=>by
  refine⟨hn b hb,?_,?_,.inl (by rw[Np];exact hb),fun x c h=>(f2 b hb).2.2.2.2.1 x c (I_ x c h),fun p hp=>?_⟩
  ·rw[eL];exact ne_of_lt (lt_of_lt_of_le (Ff b hb) K6)
  ·exact HE.G' b (by rw[Np];exact hb)
  ·rw[Mp] at hp;have:p=(D,o):=by simpa using hp
   rw[this];exact Ne.symm (Nr b hb)
 have loop:∀ s₃:Shared,s₃={ s2 with heap:=h₁,toks:=s2.toks+([]:List (Str×Value)).length }->
   codeAny (model X.prog X.w) X.A (.compLoop (.ListComp elt [⟨tg,iter,ifs,0⟩] scope pos) 0 (.ref it) (.ref D) X'.env)
    (compPost (model X.prog X.w) X.A X.xe use Qp (.ref D) C) s₃:=by
  rintro s₃ rfl;refine xU (fun n s'=>∃ (i:Nat) (ys:List V) (H':Hp) (e_:List Value) (k:Nat),Inv X' [(D,{ cls:=.type "list",data:=.seq e_.toArray k })] (du own caps σ) H' s'/\au ys e_/\ys.length<=sizeLine/\tn i s'.heap/\
   (∀ b∈fp,H' b=none)/\W i n ys H') ?_ m0 ?_
  ·rintro n s3 ⟨i,ys,H3,e_,k,I3,rv,hz,E6,KR,w3⟩;rcases turn i n ys H3 w3 with ⟨stop,qn⟩ | ⟨go,N,hN,step⟩
   ·have:=T.done X' eP ew eK ec i _ s3 _ H3 (fun _ _=>False) I3 (Nt H3 _ KR) E6 stop;rw[eA] at this;refine z_ this fun r s4 ⟨hr,I4⟩=>?_;subst hr;obtain⟨m,hn,_⟩:=I4.loc;have P8:s4.heap.Ns C m:=by rw[<- eL];exact hn
    have hp:=I4.pin (D,{ cls:=.type "list",data:=.seq e_.toArray k }) (by rw[Mp];simp);have Ko:H3 D=none:=hp.2.1;have kp:∀ b,b≠C->s4.heap.get? b=s4.heap.get? b:=fun b hb=>rfl;have nC:∀ b o,s2.heap.get? b=some o->b≠C:=fun b o e=>ne_of_lt (lt_of_lt_of_le (Heap.lt_size e) K6);have P9:∀ b o,s2.heap.get? b=some o->b≠D:=fun b o e=>by rw[<- JN];exact ne_of_lt (Heap.lt_size e)
    have ub:Un (GO X.stack) fp H2 H3 s2.heap s4.heap:=by
     have:=I4.base;rw[P6,Np,P5,Mo] at this;exact this
    have u:Un (GO X.stack) fp H2 (upd H3 D<|.lst ys) s2.heap s4.heap:=
     ⟨fun b o e n hb hx=>(kp b<|nC b o e).trans<|ub.keep b o e n hb hx,
      fun b o e n hb hx=>by
      obtain⟨sl,q⟩:=ub.slot b o e n hb hx;exact⟨sl,(kp b<|nC b o e).trans q⟩,
      fun b o e n hx=>by rw[aK (P9 b o e)];exact ub.free b o e n hx,
      fun b o e hx=>by
      obtain⟨o',q⟩:=ub.there b o e hx;exact⟨o',(kp b<|nC b o e).trans q⟩,
      fun b xs e=>by rw[aK (cj (ub.FC b xs e) Ko)];exact ub.FC b xs e,
      fun b o xs e=>by rw[aK (cj (ub.Fp b o xs e) Ko)];exact ub.Fp b o xs e,
      fun b ps e=>by
      obtain⟨more,q⟩:=ub.FR b ps e;exact⟨more,by rw[aK (cj q Ko)];exact q⟩⟩
    have K8:∀ b o,H3 b=some o->b≠C:=fun b o e z=>by
     have:=I4.free;rw[eL,<- z,e] at this;cases this
    have hk:EI X.prog X.w (upd H3 D<|.lst ys) s4.heap:=fun a o e=>by
     by_cases ha:a=D
     ·subst ha;rw[bp] at e;cases e;exact⟨hz,e_,k,rv,(kp _ JL).trans hp.1⟩
     ·rw[aK ha] at e;have:=I4.l_ a o e;rw[eP,ew] at this;refine this.EU (fun b u hb q=>(kp b ?_).trans q) (fun b q=>by rw[aK (cj q Ko)];exact q) fun b xs q=>by rw[aK (cj q Ko)];exact q
      rcases hb with z | z
      ·rw[z];exact K8 a o e
      ·exact K8 b _ z
    have P':Inv X pins σ (upd H3 D<|.lst ys) s4:=I2.KN (s':=s4) (ch:=fp) (by have:=I4.os;rw[Mo] at this;exact this) u hk I4.bare fun b hb=>⟨(f2 b hb).2.2.2.1,(f2 b hb).2.1,(f2 b hb).2.2.2.2.1,(f2 b hb).2.2.2.2.2⟩;have Mq:X.env.locals≠C:=by
     obtain⟨m2,Nl,_⟩:=I2.loc;obtain⟨o,_,_,ho,_⟩:=Nl;exact nC _ _ ho
    have Mr:∀ x c,X.env.cells.lookup x=some c->c≠C:=fun x c h=>by
     obtain⟨v,o,ho,_⟩:=I2.cell x c h;exact nC _ _ ho
    refine FU D C _ s4 m P' P8 ?_ Mq Mr ?_ (fun p hp=>nC _ _ (I2.pin p hp).1) (qn D Ko)
    ·rw[aK (Ne.symm JL)];have:=I4.free
     rwa [eL] at this
    ·exact Nat.le_trans I2.sz K6
   ·have:=T.item X' eP ew eK ec i _ s3 _ H3 (fun _ _=>False) I3 (Nt H3 _ KR) E6 go;rw[eA] at this;refine z_ this fun r s4 ⟨u,hr,h4⟩=>?_;subst hr;refine z_ h4 fun _ s5 ⟨x,H5,I5,r5,y5,Fi,M5⟩=>?_;have M6:=I5.pinned (Nt H5 _ M5) (T.obj _ _ Fi);have a6:=OW _ s5 _ H5 x u _ M6 r5 (step x H5 y5);rw[eP,ew,eA,Nq] at a6;refine z_ a6 fun _ s6 ⟨σ6,H6,I6,JO,q6⟩=>?_;have a7:=OX _ s6 σ6 H6 _ I6 q6;rw[eP,ew,eA,Nq] at a7;refine z_ a7 fun b s7 ⟨H7,I7,q7⟩=>?_;have Ja:∀ {σ':St}{H':Hp}{s':Shared},Inv X' ([(D,{ cls:=.type "list",data:=.seq e_.toArray k })]++eI fp s5.heap) σ' H' s'->(∀ b∈fp,H' b=none)/\tn (i+1) s'.heap:=fun {σ' H' s'} I'=>by
     refine⟨fun b hb=>?_,T.keep _ _ _ Fi fun b hb o e=>(I'.pin (b,o)<|mem_append_right _<|mem_append_right _<|jJ hb e).1⟩;obtain⟨o,e,_⟩:=T.obj _ _ Fi b hb;exact (I'.pin (b,o)<|mem_append_right _<|mem_append_right _<|jJ hb e).2.1
    have wk:∀ {FI:List (Addr×Obj)}{H':Hp}{s':Shared},Inv X' FI σ6 H' s'->Inv X' FI (du own caps σ) H' s':=fun {FI H' s'} I'=>
     I'.weak (by rw[I'.len,I3.len]) JO;cases b with
    | false=>
     rw[if_neg Bool.false_ne_true] at q7;obtain⟨m',hm,w7⟩:=hN _ _ q7;rw[if_neg Bool.false_ne_true];obtain⟨k1,k2⟩:=Ja I7;exact⟨m',hm,i+1,ys,H7,e_,k,wk (I7.ED fun p hp=>I7.pin p (by
      rw[Mp];simp at hp ⊢;exact .inl hp)),rv,hz,k2,k1,w7⟩
    | true=>
     rw[if_pos rfl] at q7 ⊢;have a8:=OY _ s7 σ6 H7 _ I7 q7;rw[eP,ew,eA,Nq] at a8;refine z_ a8 fun uv s8 ⟨v8,H8,I8,r8,Sg,n8⟩=>?_;obtain⟨m',hm,w8⟩:=hN _ _ n8;have hp:=I8.pin (D,{ cls:=.type "list",data:=.seq e_.toArray k }) (mem_append_right _ (mem_append_left _ (by simp)));have eD:=hp.1;refine call_meets F.slot_list_append ⟨_,eD,rfl⟩ F.entry_list_append (F.args_list_append_2 _ _) (PySem.list_append D e_.toArray k uv (by rw[size_toArray,<- rv.length];lia)) ⟨eD,?_⟩;have q:=PySem.IsL.update eD (fun a=>a.push uv);obtain⟨k1,k2⟩:=Ja I8;have P_:Inv X' (eI fp s5.heap) σ6 H8 s8:=I8.ED fun p hp=>I8.pin p (mem_append_right _<|mem_append_right _ hp);have OZ:∀ b o,b≠D->s8.heap.get? b=some o->(s8.heap.update D<|Obj.mapSeq fun a=>a.push uv).get? b=some o:=fun b o hb e=>(Heap.get?_update_other s8.heap _<|Ne.symm hb).trans e;have I9:Inv X' (eI fp s5.heap) σ6 H8 { s8 with heap:=s8.heap.update D (Obj.mapSeq fun a=>a.push uv),toks:=s8.toks }:=
      P_.turned (it:=D) OZ hp.2.1 (by rw[eL];exact JL) (.inr (by rw[Mo,JN];exact Nat.le_refl _)) nD fun p IF=>by
       rw[Mp] at IF;obtain⟨hb,_⟩:=oU (show p∈eI fp s5.heap by simpa using IF);exact Nr _ hb
     refine⟨m',hm,i+1,ys++[v8],H8,e_++[uv],k+1,wk<|I9.ED fun p IF=>?_,rv.append<|.cons r8 .nil,?_,?_,k1,w8⟩
     ·have e:p=(D,{ cls:=.type "list",data:=.seq (e_++[uv]).toArray (k+1) }):=by simpa using IF
      subst e;refine⟨?_,hp.2.1,hp.2.2.1,hp.2.2.2.1,fun v z=>by cases z⟩;have e2:e_.toArray.push uv=(e_++[uv]).toArray:=by simp
      rw[<- e2];have q':IsL (s8.heap.update D<|Obj.mapSeq fun a=>a.push uv) D (e_.toArray.push uv) (if (e_.toArray.push uv).size == e_.toArray.size then k else k+1):=q;rw[if_neg (by simp)] at q';exact q'
     ·rw[length_append,length_singleton];lia
     ·refine T.keep _ _ _ k2 fun b hb o e=>OZ b o (Nr b hb) e
  ·refine⟨0,[],H2,[],0,?_,.nil,zero_le _,T.keep _ _ _ q_ fun b _ o e=>old b o e,fun b hb=>(f2 b hb).1,w0⟩;refine (OV _).ED fun p hp=>?_;have e:p=(D,{ cls:=.type "list",data:=.seq ([]:List Value).toArray 0 }):=by simpa using hp
   subst e;exact⟨Ft,I2.l_.fresh (by rw[JN];exact Nat.le_refl _),by rw[eL];exact JL,P7,fun v z=>by cases z⟩
 have K9:compEnvC scope (fM X.env scope.names) C X.env=X'.env:=K7.symm;show codeAny (model X.prog X.w) X.A (.compStart _ 0 (.ref it) (.ref D)<|compEnvC scope (fM X.env scope.names) C X.env) _ _;rw[K9];exact codeAny_compStart_list (loop _ rfl) (T.self X.A 0 _ _ _ (T.keep _ _ _ q_ fun b _ o e=>old b o e)<|loop _ rfl)
theorem x6(hc:X.calm=true)(S:n_ X scope own caps)(hi:PI X tg iter wi)(hg:∀ Y,PG (X.FT (bQ X own caps) scope Y) tg<|g Y)(ht:∀ Y,K5 (X.FT (bQ X own caps) scope Y) ifs<|tt Y)(he:∀ Y,PE (X.FT (bQ X own caps) scope Y) elt<|te Y)(hs:∀ x,foldedSetIterable iter X.env x=pure x:=by intro _;rfl):PE X (.ListComp elt [⟨tg,iter,ifs,0⟩] scope pos) (jQ own caps wi g tt te):=by
 intro pins s σ H Q I h;show wpAny _ X.A (comprehension (.ListComp elt [⟨tg,iter,ifs,0⟩] scope pos) scope X.env _ (newList []) false (eval iter X.env) none) _ _ s;refine pN (use:=none) (Qp:=EP X pins σ Q) hc S hi hg ht he hs I h fun D C H4 s4 m I4 hn f l c z p q=>?_;show ∃ m,s4.heap.Ns C m/\∀ h',Heap.SameBut C s4.heap h'->EP X pins σ Q (.ref D) { s4 with heap:=h' };refine⟨m,hn,fun h' sb=>⟨.ref D,H4,?_,rfl,q⟩⟩;exact I4.turned (it:=C) (t':=s4.toks) (fun b o hb e=>(sb.2 b hb).trans e) f (Ne.symm l) (.inr z) c p
end
def Hc(h:Heap)(d:Addr)(ks:List Value)(ep:Nat):Prop:=∃ o es,h.get? d=some o/\o.ExactDict/\o.data=.dict es ep/\es.toList.map (·.key)=ks
theorem Hc.ty(x:Hc s.heap d ks ep):s.TypeIs (.ref d) "dict" := let ⟨o,_,e,c,_⟩:=x;⟨o,e,c.1⟩
theorem Hc.lt(x:Hc h d ks ep):d<h.objs.size:=let ⟨_,_,e,_⟩:=x;Heap.lt_size e
theorem Hc.go{h':Heap}(x:Hc h d ks ep)(k:∀ o,h.get? d=some o->h'.get? d=some o):Hc h' d ks ep:=let ⟨o,es,e,r⟩:=x;⟨o,es,k o e,r⟩
section
variable{prog:Program}{w:World}{A:Around}{E:Value->Shared->Prop}{s:Shared}
theorem x8{Q:Value->Shared->Prop}(lo:(d == sysModules)=false)(x:Hc s.heap d ks ep)(q:Q (.ref s.heap.objs.size) { s with heap:=s.heap.push { cls:=.type "dict_keyiterator",data:=.fields #[.ref d,.int 0 0,.int ks.length 0,.int ep 0] } }):wpAny (model prog w) A (pyIter<|.ref d) Q E s:=by
 have ty:=x.ty;obtain⟨o,es,e1,e2,e3,e4⟩:=x;have n:es.size=ks.length:=by rw[<- e4,length_map,length_toList]
 refine wpAny_pyIter_slot ty F.slot_dict_iter (wpAny_call_entry F.slot_dict_iter ty F.entry_dict_iter ?z<|F.args_dict_iter_1 _)
 case z=>
  unfold Builtin.«dict.__iter__» Builtin.Dict.dictSlotNone;refine wpAny_bind (wpAny_bind<|wpAny_notOrdered_dict ty ?_);show wpAny _ _ (pure<|Value.ref d) _ _ s;apply wpAny_pure;show wpAny _ _ (Builtin.Dict.showsAll d >>= _) _ _ s;unfold Builtin.Dict.showsAll;rw[if_neg (by rw[lo];simp)];refine wpAny_bind (wpAny_pure<|wpAny_bind<|wpAny_dictEntries e1 e3<|wpAny_bind<|wpAny_dictEpoch e1 e3<|wpAny_bind<|wpAny_newObj_type<|wpAny_pure ⟨_,rfl,"dict_keyiterator",_,⟨_,Heap.get?_push_size _ rfl,rfl⟩,F.slot_dict_keyiterator_next.lookup,?_⟩);simpa [rawInt,n] using q
theorem x9{v:Value}(hit:s.heap.IsKeyIter it d i ks.length ep)(x:Hc s.heap d ks ep)(hv:ks[i]?=some v)(q:∀ h',h'.IsKeyIter it d (i+1) ks.length ep->Heap.SameBut it s.heap h'->Q (some v) { s with heap:=h' }):wpAny (model prog w) A (pyNext<|.ref it) Q E s:=by
 obtain⟨oi,f1,f2,f3⟩:=id hit;obtain⟨o,es,e1,e2,e3,e4⟩:=x;have n:es.size=ks.length:=by rw[<- e4,length_map,length_toList]
 have hi:i<es.size:=by
  have:i<ks.length:=(List.getElem?_eq_some_iff.mp hv).1;lia
 have ek:es[i].key=v:=by
  rw[<- e4,List.getElem?_map,getElem?_toList,Array.getElem?_eq_getElem hi] at hv;exact Option.some.inj hv
 unfold pyNext;refine wpAny_bind (wpAny_attempt<|wpAny_callSpecial?_slot (name:=Str.ofString "__next__") hit.typeIs F.slot_dict_keyiterator_next<|wpAny_call_entry F.slot_dict_keyiterator_next hit.typeIs F.entry_dict_keyiterator_next ?z<|F.args_dict_keyiterator_next_1 _)
 case z=>
  refine wpAny_bind (wpAny_pure<|wpAny_bind<|wpAny_bind ?_);refine wpAny_bind (wpAny_typeNameOfWhole_keyiter hit.typeIs<|wpAny_pure<|wpAny_bind<|wpAny_fieldsOf f1 f3 ?_);simp only[show Builtin.Dict_items.ownsTuple "dict_keyiterator" = false by decide,false_eq_true,if_false];show wpAny _ _ (if (Value.ref d == Value.none)=true then _ else _) _ _ s;rw[if_neg (show ¬ (Value.ref d == Value.none)=true by intro z;cases z)];refine wpAny_bind (wpAny_pure<|wpAny_bind<|wpAny_dictEntries e1 e3 ?_);rw[if_neg (by simp[n])];refine wpAny_bind (wpAny_pure<|wpAny_bind<|wpAny_dictEpoch e1 e3 ?_);rw[if_neg (by simp)];apply wpAny_pure;simp only[show ¬ ((i:Int)<0) by lia,if_false,toNat_natCast,Array.getElem?_eq_getElem hi];refine wpAny_bind (wpAny_bind<|wpAny_typeNameOfWhole_keyiter hit.typeIs<|wpAny_pure<|wpAny_bind<|wpAny_isOneOf_keyiter hit.typeIs ?_);show wpAny _ _ (setField (.ref it) 1 (rawInt<|(i:Int)+1) >>= _) _ _ s;have K':(s.heap.update it (Obj.mapFields (·.setIfInBounds 1 (rawInt<|(i:Int)+1)))).IsKeyIter it d (i+1) ks.length ep:=
   ⟨_,Heap.get?_update_self _ f1<|Obj.isFreed_of_fields<|Obj.data_mapFields f3 _,(Obj.cls_mapFields ..).trans f2,by rw[Obj.data_mapFields f3];simp[rawInt]⟩;refine wpAny_bind (wpAny_setField f1 f3 (by simp) (wpAny_bind (wpAny_holding (wpAny_bind (wpAny_isOneOf_keyiter (s:={ s with heap:=s.heap.update it (Obj.mapFields (·.setIfInBounds 1 (rawInt<|(i:Int)+1))) }) K'.typeIs ?_)))));show wpAny _ _ (pure es[i].key) _ _ _;rw[ek];exact wpAny_pure (wpAny_pure ⟨_,rfl,wpAny_pure<|q _ K'<|Heap.SameBut.update ..⟩)
theorem ya(hh:A.handled=none)(hit:s.heap.IsKeyIter it d i ks.length ep)(x:Hc s.heap d ks ep)(hv:ks.length<=i)(q:∀ h',Heap.ExtBut it s.heap h'->Q none { s with heap:=h' }):wpAny (model prog w) A (pyNext<|.ref it) Q E s:=by
 obtain⟨oi,f1,f2,f3⟩:=id hit;obtain⟨o,es,e1,e2,e3,e4⟩:=x;have n:es.size=ks.length:=by rw[<- e4,length_map,length_toList]
 unfold pyNext;refine wpAny_bind (wpAny_attempt<|wpAny_callSpecial?_slot (name:=Str.ofString "__next__") hit.typeIs F.slot_dict_keyiterator_next<|wpAny_call_entry F.slot_dict_keyiterator_next hit.typeIs F.entry_dict_keyiterator_next ?z<|F.args_dict_keyiterator_next_1 _)
 case z=>
  refine wpAny_bind (wpAny_pure<|wpAny_bind<|wpAny_bind ?_);refine wpAny_bind (wpAny_typeNameOfWhole_keyiter hit.typeIs<|wpAny_pure<|wpAny_bind<|wpAny_fieldsOf f1 f3 ?_);simp only[show Builtin.Dict_items.ownsTuple "dict_keyiterator" = false by decide,false_eq_true,if_false];show wpAny _ _ (if (Value.ref d == Value.none)=true then _ else _) _ _ s;rw[if_neg (show ¬ (Value.ref d == Value.none)=true by intro z;cases z)];refine wpAny_bind (wpAny_pure<|wpAny_bind<|wpAny_dictEntries e1 e3 ?_);rw[if_neg (by simp[n])];refine wpAny_bind (wpAny_pure<|wpAny_bind<|wpAny_dictEpoch e1 e3 ?_);rw[if_neg (by simp)];apply wpAny_pure;simp only[show ¬ ((i:Int)<0) by lia,if_false,toNat_natCast,Array.getElem?_eq_none (show es.size<=i by lia)];refine wpAny_bind (wpAny_bind<|wpAny_typeNameOfWhole_keyiter hit.typeIs<|wpAny_pure ?_);show wpAny _ _ (setField (.ref it) 0 .none >>= _) _ _ s;refine wpAny_bind (wpAny_setField f1 f3 (by simp) ?_);show wpAny _ _ (newExc (.type "StopIteration") [] >>= _) _ _ _;apply wpAny_bind;simp only[newExc,newTuple];refine wpAny_bind (wpAny_newObj_type (wpAny_bind (m:=firstArgMember _ _) (wpAny_of_eq (a:=Value.none) (by first | rfl | (simp only[firstArgMember];rfl)) (wpAny_newObj_type ?_ (by size_fits)))) (by size_fits));simp only[raiseNew];apply wpAny_bind;apply wpAny_handled;rw[show A.in1.handled=none from hh];refine wpAny_bind (m:=pure _) (wpAny_pure<|wpAny_throw ?_);apply wpAny_bind;refine wpAny_isInstance (T := "StopIteration") (b:=true) ⟨_,Heap.get?_push_size _ rfl,rfl⟩ isSubtype_stop ?_;exact wpAny_pure (q _<|((Heap.SameBut.update ..).extBut.push _).push _)
theorem yb(hh:A.handled=none)(it d:Addr)(ne:d≠it)(ks:List Value)(ep:Nat):Walks prog w A it [it,d] [it] ks.length (fun i v=>ks[i]?=some v) (fun i h=>h.IsKeyIter it d i ks.length ep/\Hc h d ks ep) where
 sub:=fun b hb=>by
  have:b=it:=by simpa using hb
  simp[this]
 frame:=fun i h h' st k=>⟨let ⟨o,e,r⟩:=st.1;⟨o,k it (by simp) o e,r⟩,st.2.go (k d (by simp))⟩
 item:=fun i s Q E hi st hQ=>by
  have hv:ks[i]?=some ks[i]:=by simp[hi]
  refine x9 st.1 st.2 hv fun h' a b=>hQ _ h' s.toks hv ⟨a,st.2.go fun o e=>b.extBut d o ne e⟩ fun c o hc e=>b.extBut c o (by simpa using hc) e
 done:=fun s Q E st hQ=>ya hh st.1 st.2 (Nat.le_refl _) fun h' b=>hQ h' s.toks fun c o hc e=>b c o (by simpa using hc) e
 self:=fun i s Q E st hQ=>wpAny_pyIter_keyiter st.1 hQ
theorem yc(lo:(d == sysModules)=false):PySem.W.KdlSrc prog w "dict" d d ks.length (fun i v=>ks[i]?=some v) (fun h=>Hc h d ks ep) where
 type:=fun s x=>x.ty
 there:=fun h x=>⟨x.lt,x.lt⟩
 keep:=fun h h' x k=>x.go (k d<|.inl rfl)
 notList:=by decide
 notTuple:=by decide
 hint:=fun A E s Q x q=>PySem.W.kdl_hint_dict x.ty q
 iter:=fun A s hh x=>⟨_,_,(fun E Q q=>x8 lo x q),yb hh _ d (ne_of_lt x.lt) ks ep,⟨⟨_,Heap.get?_push_size _ rfl,rfl,rfl⟩,x.go fun o e=>Heap.get?_push_of_some _ e⟩⟩
end
end L2
namespace L2
open PySem PySem.Spec PyProof.Rows PySem.W
section
variable{n:Nat}{key:Nat->Int}{cmp:Nat->Nat->(Bool->Shared->Prop)->Shared->Prop}
def y_(key:Nat->Int)(p:Array Nat)(i:Nat):Int:=key (p.getD i 0)
def Up(key:Nat->Int)(p:Array Nat)(m:Nat):Prop:=∀ i j,i<=j->j<m->y_ key p i<=y_ key p j
def cl(n:Nat)(key:Nat->Int)(cmp:Nat->Nat->(Bool->Shared->Prop)->Shared->Prop)(s:Shared):Prop:=∀ i j C,i<n->j<n->C (decide (key i<key j)) s->cmp i j C s
def Rg(n:Nat)(p:Array Nat):Prop:=p.toList.Perm (range n)
variable{p:Array Nat}
theorem Rg.size(h:Rg n p):p.size=n:=by
 have:=h.length_eq;simpa using this
theorem Rg.lt(h:Rg n p){i:Nat}(hi:i<n):p.getD i 0<n:=by
 have hs:=h.size;have e:p.getD i 0=p[i]:=by simp[Array.getD,hs,hi]
 rw[e];have:p[i]∈p.toList:=by simp
 exact mem_range.mp (h.mem_iff.mp this)
theorem Rg.ne(h:Rg n p)(inj:∀ i j,i<n->j<n->key i=key j->i=j){i j:Nat}(Fq:i<j)(hj:j<n):y_ key p i≠y_ key p j:=by
 intro e;have hs:=h.size;have e':=inj _ _ (h.lt (by lia)) (h.lt hj) e;have e1:p.getD i 0=p[i]:=by simp[Array.getD,hs,show i<n by lia]
 have e2:p.getD j 0=p[j]:=by simp[Array.getD,hs,hj]
 rw[e1,e2] at e';have nd:p.toList.Nodup:=h.nodup_iff.mpr nodup_range;have e3:p.toList[i]'(by simpa [hs] using (show i<n by lia))=p.toList[j]'(by simpa [hs] using hj):=by simpa using e'
 have:=(List.getElem_inj nd).mp e3;lia
theorem gC{q:Array Nat}{i j:Nat}(e:p[i]?=q[j]?):y_ key p i=y_ key q j:=by
 unfold y_;rw[Array.getD_eq_getD_getElem?,Array.getD_eq_getD_getElem?,e]
theorem Rg.rev(h:Rg n p)(i j:Nat):Rg n (kas_rev p i j):=(Array.perm_iff_toList_perm.mp<|mirror_perm p i j _).trans h
theorem Rg.Qa(h:Rg n p)(i j:Nat):Rg n (bubble p i j):=(Array.perm_iff_toList_perm.mp<|bubble_perm p i j).trans h
end
section
variable{prog:Program}{w:World}{A:Around}{E:Value->Shared->Prop}{κ:SortKind}{it:Array Keyed}{key:Nat->Int}
end
section
variable{prog:Program}{w:World}{A:Around}{E:Value->Shared->Prop}{κ:SortKind}{it:Array Keyed}{key:Nat->Int}{n:Nat}{s:Shared}
def jR:Bool->Keyed->Array Keyed->Nat->Nat->Nat->StateT SortSt Sem (Option Nat):=sortPriv% PySem.Builtin.gallop
theorem iF(hc:cl n key (kas_cmp prog w A κ it) s){i j:Nat}(hi:i<n)(hj:j<n){st:SortSt}(hk:kindOf st=κ){Q:Option Bool->SortSt->Shared->Prop}(h:Q (some<|decide (key i<key j)) st s):
  kasC (model prog w) A E (lt' (kas_item it i)<|kas_item it j) Q st s:=by
 rw[lt'_eq];apply kasC_bind;apply kasC_get;have:=hc i j (fun c s'=>s'=s/\c=decide (key i<key j)) hi hj ⟨rfl,rfl⟩;unfold kas_cmp at this;rw[hk];refine kasC_bind (kasC_lift<|wpAny_attempt<|wpAny_mono this (fun c s' JF=>?_) fun _ _ hF=>hF.elim);obtain⟨rfl,rfl⟩:=JF;exact kasC_pure h
theorem bR{σ β:Type}{M:Model}{f:Nat->β->StateT σ Sem (ForInStep β)}{Q:β->σ->Shared->Prop}(I:Nat->β->σ->Shared->Prop)(step:∀ x c st s',I x c st s'->kasC M A E (f x c) (fun r q_ s2=>match r with | .yield c'=>I (x+1) c' q_ s2 | .done c'=>Q c' q_ s2) st s'):∀ (m a:Nat) (c:β) (st:σ) (s':Shared),(∀ c st s',I (a+m) c st s'->Q c st s')->I a c st s'->
   kasC M A E (forIn (range' a m) c f) Q st s'
 | 0,a,c,st,s',fin,h=>by
  show kasC M A E (forIn ([]:List Nat) c f) Q st s';exact kasC_nil (fin c st s' h)
 | m+1,a,c,st,s',fin,h=>by
  show kasC M A E (forIn (a::range' (a+1) m) c f) Q st s';refine kasC_cons (wpAny_mono (step a c st s' h) (fun r s2 h'=>?_) fun _ _ e=>e);obtain⟨r,q_⟩:=r;cases r with
  | done c'=>exact h'
  | yield c'=>exact bR I step m (a+1) c' q_ s2 (fun c st s' hi=>fin c st s' (by rw[show a+(m+1)=a+1+m by lia];exact hi)) h'
def Ee(key:Nat->Int)(left:Bool)(k:Nat)(pa:Array Nat)(base i:Nat):Bool:=if left=true then decide (key (pa.getD (base+i) 0)<key k) else !decide (key k<key (pa.getD (base+i) 0))
theorem pO(hc:cl n key (kas_cmp prog w A κ it) s){left:Bool}{k:Nat}(hk:k<n){pa:Array Nat}(Qb:∀ i,i<pa.size->pa.getD i 0<n){base m hint:Nat}(hb:base+m<=pa.size)(hh:hint<m)(mono:∀ i j,i<=j->j<m->Ee key left k pa base j=true->Ee key left k pa base i=true){st:SortSt}(o_:kindOf st=κ){Q:Option Nat->SortSt->Shared->Prop}(h:∀ r,r<=m->(∀ i,i<r->Ee key left k pa base i=true)->(∀ i,r<=i->i<m->Ee key left k pa base i=false)->Q (some r) st s):
  kasC (model prog w) A E (jR left (kas_item it k) (pa.map<|kas_item it) base m hint) Q st s:=by
 have el:∀ i,i<m->(pa.map<|kas_item it)[base+i]?=some (kas_item it<|pa.getD (base+i) 0):=fun i hi=>by
  have:base+i<pa.size:=by lia
  simp[Array.getD,this]
 have ask:∀ i,i<m->∀ Q':Option Bool->SortSt->Shared->Prop,Q' (some<|Ee key left k pa base i) st s->
   kasC (model prog w) A E (do let x <- elem' (pa.map<|kas_item it) (base+i);if left=true then lt' x (kas_item it k) else do let r <- lt' (kas_item it k) x;pure (r.map fun x=>!x)) Q' st s:=fun i hi Q' hq=>by
  rw[elem'_eq,el i hi];apply kasC_bind;apply kasC_pure;have hx:=Qb (base+i) (by lia);unfold Ee at hq;cases left with
  | true=>
   rw[if_pos rfl] at hq ⊢;exact iF hc hx hk o_ hq
  | false=>
   rw[if_neg Bool.false_ne_true] at hq ⊢;exact kasC_bind (iF hc hk hx o_<|kasC_pure hq)
 unfold jR;with_unfolding_all refine kasC_bind ?_;refine ask hint hh _ ?_;dsimp only;cases O0:Ee key left k pa base hint with
 | true=>
  rw[if_pos rfl];apply kasC_bind;apply kasC_range;have JP:∀ last Ek,last<Ek->hint+last<m->Ee key left k pa base (hint+last)=true->(Ek >= m - hint\/Ee key left k pa base (hint+Ek)=false)->
    hint+last+1<=hint+min Ek (m - hint)/\hint+min Ek (m - hint)<=m/\(∀ i,i<hint+last+1->Ee key left k pa base i=true)/\(∀ i,hint+min Ek (m - hint)<=i->i<m->Ee key left k pa base i=false)/\hint+min Ek (m - hint) - (hint+last+1)<=m - 0:=fun last Ek a1 a2 a3 a4=>by
   refine⟨by lia,by lia,fun i hi=>mono i (hint+last) (by lia) a2 a3,fun i h1 h2=>?_,by lia⟩;rcases a4 with a4 | a4
   ·lia
   ·cases ET:Ee key left k pa base i with
    | false=>rfl
    | true=>rw[mono (hint+Ek) i (by lia) h2 ET] at a4;cases a4
  refine bR (fun x c f_ s'=>f_=st/\s'=s/\∃ last Ek,c=(none,last,Ek)/\last<Ek/\x<Ek/\hint+last<m/\Ee key left k pa base (hint+last)=true) ?_ _ 0 _ _ _ ?_ ⟨rfl,rfl,0,1,rfl,by lia,by lia,by lia,O0⟩
  ·rintro x c f_ s' ⟨e1,e2,last,Ek,rfl,h1,h2,h3,h4⟩;rw[e1,e2];dsimp only;by_cases ho:Ek >= m - hint
   ·rw[if_pos ho];apply kasC_pure;dsimp only;have LH:=JP last Ek h1 h3 h4 (.inl ho);apply kasC_bind;apply kasC_range;refine bR (fun x c f_ s'=>f_=st/\s'=s/\∃ lo hi,c=(none,lo,hi)/\lo<=hi/\hi<=m/\(∀ i,i<lo->Ee key left k pa base i=true)/\(∀ i,hi<=i->i<m->Ee key left k pa base i=false)/\hi - lo<=m - x) ?_ _ 0 _ _ _ ?_ ⟨rfl,rfl,_,_,rfl,LH⟩
    ·rintro x c f_ s' ⟨e1,e2,lo,hi,rfl,h1,h2,h3,h4,h5⟩;rw[e1,e2];dsimp only;by_cases Gh:lo >= hi
     ·rw[if_pos Gh];apply kasC_pure;dsimp only;have e:lo=hi:=by lia
      subst e;exact kasC_pure (h lo h2 h3 h4)
     ·rw[if_neg Gh];have m1:lo<=lo+(hi - lo) / 2:=by lia
      have m2:lo+(hi - lo) / 2<hi:=by lia
      generalize lo+(hi - lo) / 2=mid at m1 m2 ⊢;refine kasC_bind (ask mid (by lia) _ ?_);dsimp only;cases hB:Ee key left k pa base mid with
      | true=>
       rw[if_pos rfl];exact kasC_pure ⟨rfl,rfl,mid+1,hi,rfl,by lia,h2,fun i Fg=>mono i mid (by lia) (by lia) hB,h4,by lia⟩
      | false=>
       rw[if_neg Bool.false_ne_true];refine kasC_pure ⟨rfl,rfl,lo,mid,rfl,by lia,by lia,h3,fun i a b=>?_,by lia⟩;cases ET:Ee key left k pa base i with
       | false=>rfl
       | true=>rw[mono mid i a b ET] at hB;cases hB
    ·rintro c f_ s' ⟨e1,e2,lo,hi,rfl,h1,h2,h3,h4,h5⟩;rw[e1,e2];dsimp only;have e:lo=hi:=by lia
     subst e;exact kasC_pure (h lo h2 h3 h4)
   ·rw[if_neg ho];refine kasC_bind (ask (hint+Ek) (by lia) _ ?_);dsimp only;cases hB:Ee key left k pa base (hint+Ek) with
    | true=>
     simp only[Bool.not_true,false_eq_true,if_false];exact kasC_pure ⟨rfl,rfl,Ek,2 * Ek+1,rfl,by lia,by lia,by lia,hB⟩
    | false=>
     simp only[Bool.not_false,if_true];apply kasC_pure;dsimp only;have LH:=JP last Ek h1 h3 h4 (.inr hB);apply kasC_bind;apply kasC_range;refine bR (fun x c f_ s'=>f_=st/\s'=s/\∃ lo hi,c=(none,lo,hi)/\lo<=hi/\hi<=m/\(∀ i,i<lo->Ee key left k pa base i=true)/\(∀ i,hi<=i->i<m->Ee key left k pa base i=false)/\hi - lo<=m - x) ?_ _ 0 _ _ _ ?_ ⟨rfl,rfl,_,_,rfl,LH⟩
     ·rintro x c f_ s' ⟨e1,e2,lo,hi,rfl,h1,h2,h3,h4,h5⟩;rw[e1,e2];dsimp only;by_cases Gh:lo >= hi
      ·rw[if_pos Gh];apply kasC_pure;dsimp only;have e:lo=hi:=by lia
       subst e;exact kasC_pure (h lo h2 h3 h4)
      ·rw[if_neg Gh];have m1:lo<=lo+(hi - lo) / 2:=by lia
       have m2:lo+(hi - lo) / 2<hi:=by lia
       generalize lo+(hi - lo) / 2=mid at m1 m2 ⊢;refine kasC_bind (ask mid (by lia) _ ?_);dsimp only;cases hB:Ee key left k pa base mid with
       | true=>
        rw[if_pos rfl];exact kasC_pure ⟨rfl,rfl,mid+1,hi,rfl,by lia,h2,fun i Fg=>mono i mid (by lia) (by lia) hB,h4,by lia⟩
       | false=>
        rw[if_neg Bool.false_ne_true];refine kasC_pure ⟨rfl,rfl,lo,mid,rfl,by lia,by lia,h3,fun i a b=>?_,by lia⟩;cases ET:Ee key left k pa base i with
        | false=>rfl
        | true=>rw[mono mid i a b ET] at hB;cases hB
     ·rintro c f_ s' ⟨e1,e2,lo,hi,rfl,h1,h2,h3,h4,h5⟩;rw[e1,e2];dsimp only;have e:lo=hi:=by lia
      subst e;exact kasC_pure (h lo h2 h3 h4)
  ·rintro c f_ s' ⟨e1,e2,last,Ek,rfl,h1,h2,h3,h4⟩;rw[e1,e2];dsimp only;have LH:=JP last Ek h1 h3 h4 (.inl (by lia));apply kasC_bind;apply kasC_range;refine bR (fun x c f_ s'=>f_=st/\s'=s/\∃ lo hi,c=(none,lo,hi)/\lo<=hi/\hi<=m/\(∀ i,i<lo->Ee key left k pa base i=true)/\(∀ i,hi<=i->i<m->Ee key left k pa base i=false)/\hi - lo<=m - x) ?_ _ 0 _ _ _ ?_ ⟨rfl,rfl,_,_,rfl,LH⟩
   ·rintro x c f_ s' ⟨e1,e2,lo,hi,rfl,h1,h2,h3,h4,h5⟩;rw[e1,e2];dsimp only;by_cases Gh:lo >= hi
    ·rw[if_pos Gh];apply kasC_pure;dsimp only;have e:lo=hi:=by lia
     subst e;exact kasC_pure (h lo h2 h3 h4)
    ·rw[if_neg Gh];have m1:lo<=lo+(hi - lo) / 2:=by lia
     have m2:lo+(hi - lo) / 2<hi:=by lia
     generalize lo+(hi - lo) / 2=mid at m1 m2 ⊢;refine kasC_bind (ask mid (by lia) _ ?_);dsimp only;cases hB:Ee key left k pa base mid with
     | true=>
      rw[if_pos rfl];exact kasC_pure ⟨rfl,rfl,mid+1,hi,rfl,by lia,h2,fun i Fg=>mono i mid (by lia) (by lia) hB,h4,by lia⟩
     | false=>
      rw[if_neg Bool.false_ne_true];refine kasC_pure ⟨rfl,rfl,lo,mid,rfl,by lia,by lia,h3,fun i a b=>?_,by lia⟩;cases ET:Ee key left k pa base i with
      | false=>rfl
      | true=>rw[mono mid i a b ET] at hB;cases hB
   ·rintro c f_ s' ⟨e1,e2,lo,hi,rfl,h1,h2,h3,h4,h5⟩;rw[e1,e2];dsimp only;have e:lo=hi:=by lia
    subst e;exact kasC_pure (h lo h2 h3 h4)
 | false=>
  rw[if_neg Bool.false_ne_true];apply kasC_bind;apply kasC_range;have JP:∀ last Ek,last<Ek->last<=hint->Ee key left k pa base (hint - last)=false->(Ek >= hint+1\/Ee key left k pa base (hint - Ek)=true)->
    hint+1 - min Ek (hint+1)<=hint - last/\hint - last<=m/\(∀ i,i<hint+1 - min Ek (hint+1)->Ee key left k pa base i=true)/\(∀ i,hint - last<=i->i<m->Ee key left k pa base i=false)/\hint - last - (hint+1 - min Ek (hint+1))<=m - 0:=fun last Ek a1 a2 a3 a4=>by
   refine⟨by lia,by lia,fun i hi=>?_,fun i h1 h2=>?_,by lia⟩
   ·rcases a4 with a4 | a4
    ·lia
    ·exact mono i (hint - Ek) (by lia) (by lia) a4
   ·cases ET:Ee key left k pa base i with
    | false=>rfl
    | true=>rw[mono (hint - last) i (by lia) h2 ET] at a3;cases a3
  refine bR (fun x c f_ s'=>f_=st/\s'=s/\∃ last Ek,c=(none,last,Ek)/\last<Ek/\x<Ek/\last<=hint/\Ee key left k pa base (hint - last)=false) ?_ _ 0 _ _ _ ?_ ⟨rfl,rfl,0,1,rfl,by lia,by lia,by lia,O0⟩
  ·rintro x c f_ s' ⟨e1,e2,last,Ek,rfl,h1,h2,h3,h4⟩;rw[e1,e2];dsimp only;by_cases ho:Ek >= hint+1
   ·rw[if_pos ho];apply kasC_pure;dsimp only;have LH:=JP last Ek h1 h3 h4 (.inl ho);apply kasC_bind;apply kasC_range;refine bR (fun x c f_ s'=>f_=st/\s'=s/\∃ lo hi,c=(none,lo,hi)/\lo<=hi/\hi<=m/\(∀ i,i<lo->Ee key left k pa base i=true)/\(∀ i,hi<=i->i<m->Ee key left k pa base i=false)/\hi - lo<=m - x) ?_ _ 0 _ _ _ ?_ ⟨rfl,rfl,_,_,rfl,LH⟩
    ·rintro x c f_ s' ⟨e1,e2,lo,hi,rfl,h1,h2,h3,h4,h5⟩;rw[e1,e2];dsimp only;by_cases Gh:lo >= hi
     ·rw[if_pos Gh];apply kasC_pure;dsimp only;have e:lo=hi:=by lia
      subst e;exact kasC_pure (h lo h2 h3 h4)
     ·rw[if_neg Gh];have m1:lo<=lo+(hi - lo) / 2:=by lia
      have m2:lo+(hi - lo) / 2<hi:=by lia
      generalize lo+(hi - lo) / 2=mid at m1 m2 ⊢;refine kasC_bind (ask mid (by lia) _ ?_);dsimp only;cases hB:Ee key left k pa base mid with
      | true=>
       rw[if_pos rfl];exact kasC_pure ⟨rfl,rfl,mid+1,hi,rfl,by lia,h2,fun i Fg=>mono i mid (by lia) (by lia) hB,h4,by lia⟩
      | false=>
       rw[if_neg Bool.false_ne_true];refine kasC_pure ⟨rfl,rfl,lo,mid,rfl,by lia,by lia,h3,fun i a b=>?_,by lia⟩;cases ET:Ee key left k pa base i with
       | false=>rfl
       | true=>rw[mono mid i a b ET] at hB;cases hB
    ·rintro c f_ s' ⟨e1,e2,lo,hi,rfl,h1,h2,h3,h4,h5⟩;rw[e1,e2];dsimp only;have e:lo=hi:=by lia
     subst e;exact kasC_pure (h lo h2 h3 h4)
   ·rw[if_neg ho];refine kasC_bind (ask (hint - Ek) (by lia) _ ?_);dsimp only;cases hB:Ee key left k pa base (hint - Ek) with
    | false=>
     rw[if_neg Bool.false_ne_true];exact kasC_pure ⟨rfl,rfl,Ek,2 * Ek+1,rfl,by lia,by lia,by lia,hB⟩
    | true=>
     rw[if_pos rfl];apply kasC_pure;dsimp only;have LH:=JP last Ek h1 h3 h4 (.inr hB);apply kasC_bind;apply kasC_range;refine bR (fun x c f_ s'=>f_=st/\s'=s/\∃ lo hi,c=(none,lo,hi)/\lo<=hi/\hi<=m/\(∀ i,i<lo->Ee key left k pa base i=true)/\(∀ i,hi<=i->i<m->Ee key left k pa base i=false)/\hi - lo<=m - x) ?_ _ 0 _ _ _ ?_ ⟨rfl,rfl,_,_,rfl,LH⟩
     ·rintro x c f_ s' ⟨e1,e2,lo,hi,rfl,h1,h2,h3,h4,h5⟩;rw[e1,e2];dsimp only;by_cases Gh:lo >= hi
      ·rw[if_pos Gh];apply kasC_pure;dsimp only;have e:lo=hi:=by lia
       subst e;exact kasC_pure (h lo h2 h3 h4)
      ·rw[if_neg Gh];have m1:lo<=lo+(hi - lo) / 2:=by lia
       have m2:lo+(hi - lo) / 2<hi:=by lia
       generalize lo+(hi - lo) / 2=mid at m1 m2 ⊢;refine kasC_bind (ask mid (by lia) _ ?_);dsimp only;cases hB:Ee key left k pa base mid with
       | true=>
        rw[if_pos rfl];exact kasC_pure ⟨rfl,rfl,mid+1,hi,rfl,by lia,h2,fun i Fg=>mono i mid (by lia) (by lia) hB,h4,by lia⟩
       | false=>
        rw[if_neg Bool.false_ne_true];refine kasC_pure ⟨rfl,rfl,lo,mid,rfl,by lia,by lia,h3,fun i a b=>?_,by lia⟩;cases ET:Ee key left k pa base i with
        | false=>rfl
        | true=>rw[mono mid i a b ET] at hB;cases hB
     ·rintro c f_ s' ⟨e1,e2,lo,hi,rfl,h1,h2,h3,h4,h5⟩;rw[e1,e2];dsimp only;have e:lo=hi:=by lia
      subst e;exact kasC_pure (h lo h2 h3 h4)
  ·rintro c f_ s' ⟨e1,e2,last,Ek,rfl,h1,h2,h3,h4⟩;rw[e1,e2];dsimp only;have LH:=JP last Ek h1 h3 h4 (.inl (by lia));apply kasC_bind;apply kasC_range;refine bR (fun x c f_ s'=>f_=st/\s'=s/\∃ lo hi,c=(none,lo,hi)/\lo<=hi/\hi<=m/\(∀ i,i<lo->Ee key left k pa base i=true)/\(∀ i,hi<=i->i<m->Ee key left k pa base i=false)/\hi - lo<=m - x) ?_ _ 0 _ _ _ ?_ ⟨rfl,rfl,_,_,rfl,LH⟩
   ·rintro x c f_ s' ⟨e1,e2,lo,hi,rfl,h1,h2,h3,h4,h5⟩;rw[e1,e2];dsimp only;by_cases Gh:lo >= hi
    ·rw[if_pos Gh];apply kasC_pure;dsimp only;have e:lo=hi:=by lia
     subst e;exact kasC_pure (h lo h2 h3 h4)
    ·rw[if_neg Gh];have m1:lo<=lo+(hi - lo) / 2:=by lia
     have m2:lo+(hi - lo) / 2<hi:=by lia
     generalize lo+(hi - lo) / 2=mid at m1 m2 ⊢;refine kasC_bind (ask mid (by lia) _ ?_);dsimp only;cases hB:Ee key left k pa base mid with
     | true=>
      rw[if_pos rfl];exact kasC_pure ⟨rfl,rfl,mid+1,hi,rfl,by lia,h2,fun i Fg=>mono i mid (by lia) (by lia) hB,h4,by lia⟩
     | false=>
      rw[if_neg Bool.false_ne_true];refine kasC_pure ⟨rfl,rfl,lo,mid,rfl,by lia,by lia,h3,fun i a b=>?_,by lia⟩;cases ET:Ee key left k pa base i with
      | false=>rfl
      | true=>rw[mono mid i a b ET] at hB;cases hB
   ·rintro c f_ s' ⟨e1,e2,lo,hi,rfl,h1,h2,h3,h4,h5⟩;rw[e1,e2];dsimp only;have e:lo=hi:=by lia
    subst e;exact kasC_pure (h lo h2 h3 h4)
end
section
variable{key:Nat->Int}
def Ec(key:Nat->Int)(l:List Nat):Prop:=l.Pairwise fun x y=>key x<=key y
structure Qc(key:Nat->Int)(la lb:List Nat)(po:List Nat)(ia ib:Nat):Prop where
 perm:po.Perm (la.take ia++lb.take ib)
 sa:Ec key (po++la.drop ia)
 sb:Ec key (po++lb.drop ib)
 pa:ia+1<la.length
 pb:ib<lb.length
variable{l m:List Nat}
theorem br:Ec key (l++m)↔Ec key l/\Ec key m/\∀ x∈l,∀ y∈m,key x<=key y:=List.pairwise_append
theorem gD(l:List Nat)(i k:Nat):l.take i++(l.drop i).take k=l.take (i+k):=by rw[List.take_add]
variable{la lb po:List Nat}{ia ib:Nat}
theorem fN(k:Nat)(perm:po.Perm (la.take ia++lb.take ib))(sa:Ec key (po++la.drop ia))(sb:Ec key (po++lb.drop ib))(h:∀ x∈(la.drop ia).take k,∀ y∈lb.drop ib,key x<=key y):
  (po++(la.drop ia).take k).Perm (la.take (ia+k)++lb.take ib)/\Ec key (po++(la.drop ia).take k++la.drop (ia+k))/\Ec key (po++(la.drop ia).take k++lb.drop ib):=by
 refine⟨?_,?_,?_⟩
 ·rw[<- gD la ia k];refine (perm.append_right _).trans ?_;rw[List.append_assoc,List.append_assoc];exact List.Perm.append_left _ perm_append_comm
 ·rw[List.append_assoc,<- drop_drop,take_append_drop];exact sa
 ·rw[List.append_assoc];have s1:=br.mp sa;have s2:=br.mp sb;refine br.mpr ⟨s1.1,br.mpr ⟨s1.2.1.sublist<|take_sublist _ _,s2.2.1,h⟩,fun x hx y hy=>?_⟩;rcases mem_append.mp hy with hy | hy
  ·exact s1.2.2 x hx y (mem_of_mem_take hy)
  ·exact s2.2.2 x hx y hy
theorem iG(k:Nat)(perm:po.Perm (la.take ia++lb.take ib))(sa:Ec key (po++la.drop ia))(sb:Ec key (po++lb.drop ib))(h:∀ x∈(lb.drop ib).take k,∀ y∈la.drop ia,key x<=key y):
  (po++(lb.drop ib).take k).Perm (la.take ia++lb.take (ib+k))/\Ec key (po++(lb.drop ib).take k++la.drop ia)/\Ec key (po++(lb.drop ib).take k++lb.drop (ib+k)):=by
 have:=fN (la:=lb) (lb:=la) k (perm.trans perm_append_comm) sb sa h;exact⟨this.1.trans perm_append_comm,this.2.2,this.2.1⟩
variable{i:Nat}
theorem bS(h:i<l.length):(l.drop i).take 1=[l.getD i 0]:=by
 rw[drop_eq_getElem_cons h,getD_eq_getElem?_getD,List.getElem?_eq_getElem h];rfl
variable{y:Nat}
theorem cn(h:y∈l.drop i):∃ j,i<=j/\j<l.length/\y=l.getD j 0:=by
 obtain⟨j,hj,e⟩:=mem_iff_getElem.mp h;have hl:=hj;rw[length_drop] at hl;exact⟨i+j,by lia,by lia,by rw[<- e,getElem_drop];simp[List.getD,show i+j<l.length by lia]⟩
variable{k:Nat}
theorem fO(h:y∈(l.drop i).take k):∃ j,j<k/\i+j<l.length/\y=l.getD (i+j) 0:=by
 obtain⟨j,hj,e⟩:=mem_iff_getElem.mp h;have hl:=hj;rw[length_take,length_drop] at hl;exact⟨j,by lia,by lia,by rw[<- e,getElem_take,getElem_drop];simp[List.getD,show i+j<l.length by lia]⟩
theorem fP(h:Ec key l){i j:Nat}(Fq:i<=j)(hj:j<l.length):key (l.getD i 0)<=key (l.getD j 0):=by
 rcases Nat.lt_or_eq_of_le Fq with Ff | rfl
 ·have:=pairwise_iff_getElem.mp h i j (by lia) hj Ff;simpa [List.getD,hj,show i<l.length by lia] using this
 ·exact Int.le_refl _
theorem pP(h:Ec key (l++m)):Ec key m:=(br.mp h).2.1
theorem eO{j:Nat}(h:Ec key (po++l.drop i))(hj:i<=j)(O1:j<=k)(hk:k<l.length):key (l.getD j 0)<=key (l.getD k 0):=by
 have:=fP (pP h) (i:=j - i) (j:=k - i) (by lia) (by rw[length_drop];lia);simpa [List.getD,getElem?_drop,show i+(j - i)=j by lia,show i+(k - i)=k by lia] using this
def Gb(key:Nat->Int)(it:Array Keyed)(la lb:List Nat)(out:Array Keyed):Prop:=∃ po:List Nat,out=(po.map<|kas_item it).toArray/\po.Perm (la++lb)/\Ec key po
variable{it:Array Keyed}
theorem fQ(perm:po.Perm (la.take ia++lb.take ib))(sa:Ec key (po++la.drop ia))(sb:Ec key (po++lb.drop ib))(Qd:ib=lb.length\/ia=la.length):
  Gb key it la lb ((po.map<|kas_item it).toArray++(la.map<|kas_item it).toArray.extract ia la.length++(lb.map<|kas_item it).toArray.extract ib lb.length):=by
 refine⟨po++la.drop ia++lb.drop ib,?_,?_,?_⟩
 ·apply ext';simp[map_drop,List.take_of_length_le]
 ·rw[List.append_assoc];refine (perm.append_right _).trans ?_;have:(la.take ia++lb.take ib++(la.drop ia++lb.drop ib)).Perm ((la.take ia++la.drop ia)++(lb.take ib++lb.drop ib)):=by
   rw[List.append_assoc,List.append_assoc];refine List.Perm.append_left _ ?_;rw[<- List.append_assoc,<- List.append_assoc];exact List.Perm.append_right _ perm_append_comm
  rw[take_append_drop,take_append_drop] at this;exact this
 ·rcases Qd with e | e
  ·rw[e,List.drop_length,append_nil];exact sa
  ·rw[e,List.drop_length,append_nil];exact sb
theorem fR(perm:po.Perm (la.take ia++lb.take ib))(sa:Ec key (po++la.drop ia))(sb:Ec key (po++lb.drop ib))(Sh:ia+1=la.length)(top:∀ x∈lb,key x<=key (la.getD (la.length - 1) 0)):
  Gb key it la lb ((po.map<|kas_item it).toArray++(lb.map<|kas_item it).toArray.extract ib lb.length++(la.map<|kas_item it).toArray.extract ia la.length):=by
 refine⟨po++lb.drop ib++la.drop ia,?_,?_,?_⟩
 ·apply ext';simp[map_drop,List.take_of_length_le]
 ·rw[List.append_assoc];refine (perm.append_right _).trans ?_;have:(la.take ia++lb.take ib++(lb.drop ib++la.drop ia)).Perm ((la.take ia++la.drop ia)++(lb.take ib++lb.drop ib)):=by
   rw[List.append_assoc,List.append_assoc];refine List.Perm.append_left _ ?_;rw[<- List.append_assoc];exact perm_append_comm
  rw[take_append_drop,take_append_drop] at this;exact this
 ·refine br.mpr ⟨sb,pP sa,fun x hx y hy=>?_⟩;rcases mem_append.mp hx with hx | hx
  ·exact (br.mp sa).2.2 x hx y hy
  ·obtain⟨j,h1,h2,rfl⟩:=cn hy;have:j=la.length - 1:=by lia
   rw[this];exact top x (mem_of_mem_drop hx)
end
section
variable{prog:Program}{w:World}{A:Around}{E:Value->Shared->Prop}{κ:SortKind}{it:Array Keyed}{key:Nat->Int}{n:Nat}{s:Shared}
def pQ:Array Keyed->Array Keyed->StateT SortSt Sem (Array Keyed):=sortPriv% PySem.Builtin.mergeLo
structure h_(Ms st:SortSt):Prop where
 k:kindOf st=kindOf Ms
 a:arrOf st=arrOf Ms
 p:pendingOf st=pendingOf Ms
 f:failedOf st=failedOf Ms
theorem h_.refl(st:SortSt):h_ st st:=⟨rfl,rfl,rfl,rfl⟩
theorem cq{σ α:Type}{M:Model}{m:StateT σ Sem α}{Q Q':α->σ->Shared->Prop}{st:σ}{s':Shared}(h:kasC M A E m Q' st s')(g:∀ a st s',Q' a st s'->Q a st s'):kasC M A E m Q st s':=
 wpAny_mono h (fun r s' x=>g r.1 r.2 s' x) fun _ _ e=>e
variable{l:List Nat}
theorem aX{i:Nat}(hi:i<l.length){st:SortSt}{Q:Keyed->SortSt->Shared->Prop}(h:Q (kas_item it<|l.getD i 0) st s):kasC (model prog w) A E (elem' (l.map<|kas_item it).toArray i) Q st s:=by
 rw[elem'_eq,show ((l.map<|kas_item it).toArray)[i]?=some (kas_item it<|l.getD i 0) by simp[List.getD,hi]];exact kasC_pure h
theorem cK(hl:∀ x∈l,x<n){i:Nat}(hi:i<l.length):l.getD i 0<n:=by
 rw[getD_eq_getElem?_getD,List.getElem?_eq_getElem hi];exact hl _ (getElem_mem hi)
theorem dZ(l:List Nat)(i:Nat):l.toArray.getD i 0=l.getD i 0:=by simp[Array.getD,List.getD];split<;>simp_all
theorem l7(hc:cl n key (kas_cmp prog w A κ it) s){k:Nat}(hk:k<n){l:List Nat}(hl:∀ x∈l,x<n){base m hint:Nat}(hb:base+m<=l.length)(hh:hint<m)(mono:∀ i j,base<=i->i<=j->j<base+m->key (l.getD i 0)<=key (l.getD j 0)){st:SortSt}(o_:kindOf st=κ){Q:Option Nat->SortSt->Shared->Prop}(h:∀ r,r<=m->(∀ i,base<=i->i<base+r->key (l.getD i 0)<=key k)->(∀ i,base+r<=i->i<base+m->key k<key (l.getD i 0))->Q (some r) st s):
  kasC (model prog w) A E (jR false (kas_item it k) (l.map<|kas_item it).toArray base m hint) Q st s:=by
 rw[<- List.map_toArray];refine pO hc hk (fun i hi=>by rw[dZ];exact cK hl (by simpa using hi)) (by simpa using hb) hh (fun i j Fq hj hB=>?_) o_ fun r hr a b=>h r hr (fun i h1 h2=>?_) (fun i h1 h2=>?_)
 ·simp only[Ee,dZ,false_eq_true,if_false,not_eq_true',decide_eq_false_iff_not,Int.not_lt] at hB ⊢;have:=mono (base+i) (base+j) (by lia) (by lia) (by lia);lia
 ·have:=a (i - base) (by lia);simp only[Ee,dZ,false_eq_true,if_false,not_eq_true',decide_eq_false_iff_not,Int.not_lt] at this
  rwa [show base+(i - base)=i by lia] at this
 ·have:=b (i - base) (by lia) (by lia);simp only[Ee,dZ,false_eq_true,if_false,Bool.not_eq_false',decide_eq_true_eq] at this
  rwa [show base+(i - base)=i by lia] at this
theorem iH(hc:cl n key (kas_cmp prog w A κ it) s){k:Nat}(hk:k<n){l:List Nat}(hl:∀ x∈l,x<n){base m hint:Nat}(hb:base+m<=l.length)(hh:hint<m)(mono:∀ i j,base<=i->i<=j->j<base+m->key (l.getD i 0)<=key (l.getD j 0)){st:SortSt}(o_:kindOf st=κ){Q:Option Nat->SortSt->Shared->Prop}(h:∀ r,r<=m->(∀ i,base<=i->i<base+r->key (l.getD i 0)<key k)->(∀ i,base+r<=i->i<base+m->key k<=key (l.getD i 0))->Q (some r) st s):
  kasC (model prog w) A E (jR true (kas_item it k) (l.map<|kas_item it).toArray base m hint) Q st s:=by
 rw[<- List.map_toArray];refine pO hc hk (fun i hi=>by rw[dZ];exact cK hl (by simpa using hi)) (by simpa using hb) hh (fun i j Fq hj hB=>?_) o_ fun r hr a b=>h r hr (fun i h1 h2=>?_) (fun i h1 h2=>?_)
 ·simp only[Ee,dZ,if_true,decide_eq_true_eq] at hB ⊢;have:=mono (base+i) (base+j) (by lia) (by lia) (by lia);lia
 ·have:=a (i - base) (by lia);simp only[Ee,dZ,if_true,decide_eq_true_eq] at this
  rwa [show base+(i - base)=i by lia] at this
 ·have:=b (i - base) (by lia) (by lia);simp only[Ee,dZ,if_true,decide_eq_false_iff_not,Int.not_lt] at this
  rwa [show base+(i - base)=i by lia] at this
theorem aY(po:List Nat)(y:Nat):(po.map<|kas_item it).toArray.push (kas_item it y)=((po++[y]).map<|kas_item it).toArray:=by simp
theorem bX(po l:List Nat)(i k:Nat):(po.map<|kas_item it).toArray++(l.map<|kas_item it).toArray.extract i (i+k)=((po++(l.drop i).take k).map<|kas_item it).toArray:=by
 apply ext';simp[map_drop,map_take,drop_take]
end
section
variable{prog:Program}{w:World}{A:Around}{E:Value->Shared->Prop}{κ:SortKind}{it:Array Keyed}{key:Nat->Int}{n:Nat}{s:Shared}
def Ho(key:Nat->Int)(it:Array Keyed)(la lb:List Nat)(out:Array Keyed)(ia ib:Nat):Prop:=∃ po:List Nat,out=(po.map<|kas_item it).toArray/\Qc key la lb po ia ib
theorem pR{M:Model}{A:Around}{E:Value->Shared->Prop}{σ α:Type}{c:Nat->Prop}{dc:∀ g,Decidable (c g)}{a P:Nat->StateT σ Sem α}{Q:α->σ->Shared->Prop}{st:σ}{s:Shared}(x:Nat->Nat)(ha:∀ g,a g=P (x g))(H:∀ g,kasC M A E (P g) Q st s):∀ g,kasC M A E (if c g then a g else P g) Q st s:=by
 intro g;rw[ha];split
 ·exact H _
 ·exact H _
def K_(key:Nat->Int)(it:Array Keyed)(la lb:List Nat)(st:SortSt)(s:Shared): Option (Array Keyed)×Array Keyed×Nat×Nat×Nat->SortSt->Shared->Prop:=fun c f_ s'=>s=s'/\h_ st f_/\∃ Eh p q r g,c=(some Eh,p,q,r,g)/\Gb key it la lb Eh
def La(key:Nat->Int)(it:Array Keyed)(la lb:List Nat)(st:SortSt)(s:Shared)(x:Nat):Option (Array Keyed)×Array Keyed×Nat×Nat×Nat->SortSt->Shared->Prop:=fun c f_ s'=>s=s'/\h_ st f_/\∃ o ia ib g,c=(none,o,ia,ib,g)/\Ho key it la lb o ia ib/\x+1<=ia+ib
def Ii(key:Nat->Int)(it:Array Keyed)(la lb:List Nat)(st:SortSt)(s:Shared)(x:Nat):Option (Array Keyed)×Array Keyed×Nat×Nat×Nat×Nat->SortSt->Shared->Prop:=fun c f_ s'=>s=s'/\h_ st f_/\((∃ Eh p q r ac bc,c=(some Eh,p,q,r,ac,bc)/\Gb key it la lb Eh)\/∃ o ia ib ac bc,c=(none,o,ia,ib,ac,bc)/\Ho key it la lb o ia ib/\x+2<=ia+ib)
def Kp(key:Nat->Int)(it:Array Keyed)(la lb:List Nat)(st:SortSt)(s:Shared)(x y:Nat):Option (Array Keyed)×Array Keyed×Nat×Nat×Nat×Nat->SortSt->Shared->Prop:=fun c f_ s'=>s=s'/\h_ st f_/\∃ o ia ib ac bc,c=(none,o,ia,ib,ac,bc)/\Ho key it la lb o ia ib/\x+1+y<=ia+ib
def FJ(key:Nat->Int)(it:Array Keyed)(la lb:List Nat)(st:SortSt)(s:Shared)(x:Nat):Option (Array Keyed)×Array Keyed×Nat×Nat×Nat×Nat×Nat->SortSt->Shared->Prop:=fun c f_ s'=>s=s'/\h_ st f_/\((∃ Eh p q r g ac bc,c=(some Eh,p,q,r,g,ac,bc)/\Gb key it la lb Eh)\/∃ o ia ib g ac bc,c=(none,o,ia,ib,g,ac,bc)/\Ho key it la lb o ia ib/\x+2<=ia+ib)
def Jb(key:Nat->Int)(it:Array Keyed)(la lb:List Nat)(st:SortSt)(s:Shared)(x y:Nat):Option (Array Keyed)×Array Keyed×Nat×Nat×Nat×Nat×Nat->SortSt->Shared->Prop:=fun c f_ s'=>s=s'/\h_ st f_/\∃ o ia ib g ac bc,c=(none,o,ia,ib,g,ac,bc)/\Ho key it la lb o ia ib/\x+2<=ia+ib
variable{la lb:List Nat}{st f_:SortSt}{out p:Array Keyed}{q r g:Nat}
theorem K_.a{key:Nat->Int}{it:Array Keyed}{s:Shared}(h:h_ st f_)(m:Gb key it la lb out):K_ key it la lb st s (some out,p,q,r,g) f_ s:=⟨rfl,h,_,_,_,_,_,rfl,m⟩
variable{x ia ib:Nat}{o:Array Keyed}
theorem La.k{key:Nat->Int}{it:Array Keyed}{s:Shared}(h:h_ st f_)(j:Ho key it la lb o ia ib)(e:x+1<=ia+ib):La key it la lb st s x (none,o,ia,ib,g) f_ s:=⟨rfl,h,_,_,_,_,rfl,j,e⟩
variable{g2:Nat}
theorem Ii.a{key:Nat->Int}{it:Array Keyed}{s:Shared}(h:h_ st f_)(m:Gb key it la lb out):Ii key it la lb st s x (some out,p,q,r,g,g2) f_ s:=⟨rfl,h,.inl ⟨_,_,_,_,_,_,rfl,m⟩⟩
theorem Ii.b{key:Nat->Int}{it:Array Keyed}{s:Shared}(h:h_ st f_)(j:Ho key it la lb o ia ib)(e:x+2<=ia+ib):Ii key it la lb st s x (none,o,ia,ib,g,g2) f_ s:=⟨rfl,h,.inr ⟨_,_,_,_,_,rfl,j,e⟩⟩
variable{y:Nat}
theorem Kp.k{key:Nat->Int}{it:Array Keyed}{s:Shared}(h:h_ st f_)(j:Ho key it la lb o ia ib)(e:x+1+y<=ia+ib):Kp key it la lb st s x y (none,o,ia,ib,g,g2) f_ s:=⟨rfl,h,_,_,_,_,_,rfl,j,e⟩
variable{g3:Nat}
theorem FJ.a{key:Nat->Int}{it:Array Keyed}{s:Shared}(h:h_ st f_)(m:Gb key it la lb out):FJ key it la lb st s x (some out,p,q,r,g,g2,g3) f_ s:=⟨rfl,h,.inl ⟨_,_,_,_,_,_,_,rfl,m⟩⟩
theorem FJ.b{key:Nat->Int}{it:Array Keyed}{s:Shared}(h:h_ st f_)(j:Ho key it la lb o ia ib)(e:x+2<=ia+ib):FJ key it la lb st s x (none,o,ia,ib,g,g2,g3) f_ s:=⟨rfl,h,.inr ⟨_,_,_,_,_,_,rfl,j,e⟩⟩
theorem Jb.k{key:Nat->Int}{it:Array Keyed}{s:Shared}(h:h_ st f_)(j:Ho key it la lb o ia ib)(e:x+2<=ia+ib):Jb key it la lb st s x y (none,o,ia,ib,g,g2,g3) f_ s:=⟨rfl,h,_,_,_,_,_,_,rfl,j,e⟩
theorem bq{a b:Nat}(h:a=b):(a == b)=true:=by simp[h]
theorem EX{a b:Nat}(h:¬ a=b):¬ (a == b)=true:=by simp[h]
theorem yd(hc:cl n key (kas_cmp prog w A κ it) s){la lb:List Nat}(IG:∀ x∈la,x<n)(IH:∀ x∈lb,x<n)(Nu:Ec key la)(Nv:Ec key lb)(h0:0<la.length)(h1:0<lb.length)(first:∀ x∈la,key (lb.getD 0 0)<=key x)(top:∀ x∈lb,key x<=key (la.getD (la.length - 1) 0)){st:SortSt}(o_:kindOf st=κ){Q:Array Keyed->SortSt->Shared->Prop}(h:∀ out f_,Gb key it la lb out->h_ st f_->Q out f_ s):
  kasC (model prog w) A E (pQ (la.map<|kas_item it).toArray (lb.map<|kas_item it).toArray) Q st s:=by
 unfold pQ;with_unfolding_all refine kasC_bind (kasC_lift<|wpAny_rule ?_);refine kasC_bind (aX h1 ?_);dsimp only;generalize Nw:(List.map (kas_item it) la).toArray.size=za;obtain rfl:la.length=za:=by rw[<- Nw];simp
 generalize Nx:(List.map (kas_item it) lb).toArray.size=zb;obtain rfl:lb.length=zb:=by rw[<- Nx];simp
 have Fu:[lb.getD 0 0].Perm (la.take 0++lb.take 1):=by
  have:=bS (l:=lb) (i:=0) h1;simp only[drop_zero] at this;rw[this];exact List.Perm.refl _
 have JQ:Ec key ([lb.getD 0 0]++lb.drop 1):=by
  have:=bS (l:=lb) (i:=0) h1;simp only[drop_zero] at this;rw[<- this,take_append_drop];exact Nv
 have JR:Ec key ([lb.getD 0 0]++la.drop 0):=br.mpr ⟨pairwise_singleton _ _,by rw[drop_zero];exact Nu,fun x hx y hy=>by
  rw[mem_singleton.mp hx];exact first y (by rwa [drop_zero] at hy)⟩
 have e0:#[kas_item it (lb.getD 0 0)]=([lb.getD 0 0].map<|kas_item it).toArray:=rfl;rw[e0];by_cases c1:1=lb.length
 ·rw[if_pos (bq c1)];exact kasC_pure (h _ _ (fQ Fu JR JQ<|.inl c1)<|h_.refl st)
 rw[if_neg (EX c1)];by_cases c2:0+1=la.length
 ·rw[if_pos (bq c2)];exact kasC_pure (h _ _ (fR Fu JR JQ c2 top)<|h_.refl st)
 rw[if_neg (EX c2)];refine kasC_bind (kasC_get ?_);refine kasC_bind (cq (Q':=K_ key it la lb st s) (kasC_range (bR (La key it la lb st s) ?step _ 0 _ _ _ ?fin (La.k (h_.refl st) ⟨_,rfl,Fu,JR,JQ,by lia,by lia⟩ (by lia)))) ?after)
 case after=>
  rintro c f_ s' ⟨rfl,hs,Eh,o,ia,ib,g,rfl,hm⟩;exact kasC_pure (h _ _ hm hs)
 case fin=>
  rintro c f_ s' ⟨rfl,hs,o,ia,ib,g,rfl,⟨po,rfl,m⟩,hx⟩;have:=m.pa;have:=m.pb;lia
 case step=>
  rintro x c f_ s' ⟨rfl,hs,o,ia,ib,g,rfl,hJ,hx⟩;dsimp only;refine kasC_bind (cq (Q':=Ii key it la lb st s x)
   (kasC_range (bR (Kp key it la lb st s x) ?HG _ 0 _ _ _ ?JS (Kp.k hs hJ (by lia)))) ?GB)
  case JS=>
   rintro c f_ s' ⟨rfl,hs,o,ia,ib,ac,bc,rfl,hJ,hx⟩;exact Ii.b hs hJ (by lia)
  case HG=>
   rintro y c f_ s' ⟨rfl,hs,o,ia,ib,ac,bc,rfl,⟨po,rfl,m⟩,hx⟩;have m1:=m.pa;have m2:=m.pb;have E1:kindOf f_=κ:=hs.k.trans o_;dsimp only;refine kasC_bind (aX m2 ?_);refine kasC_bind (aX (show ia<la.length by lia) ?_);refine kasC_bind (iF hc (cK IH m2) (cK IG (show ia<la.length by lia)) E1 ?_);dsimp only;by_cases hw:key (lb.getD ib 0)<key (la.getD ia 0)
   ·rw[if_pos (by simpa using hw)];refine kasC_bind (aX m2 ?_);have b1:=iG 1 m.perm m.sa m.sb (fun x hx y hy=>by
     rw[bS m2,mem_singleton] at hx;obtain⟨j,j1,j2,rfl⟩:=cn hy;have:=eO m.sa (Nat.le_refl _) j1 j2;rw[hx];lia)
    rw[bS m2] at b1;rw[aY];try dsimp only
    by_cases hz:ib+1=lb.length
    ·rw[if_pos (bq hz)];exact kasC_pure (Ii.a hs<|fQ b1.1 b1.2.1 b1.2.2<|.inl hz)
    ·rw[if_neg (EX hz)];have J':Ho key it la lb ((po++[lb.getD ib 0]).map<|kas_item it).toArray ia (ib+1):=⟨_,rfl,b1.1,b1.2.1,b1.2.2,m1,by lia⟩;by_cases hg:bc+1 >= g
     ·rw[if_pos hg];exact kasC_pure (Ii.b hs J' (by lia))
     ·rw[if_neg hg];exact kasC_pure (Kp.k hs J' (by lia))
   ·rw[if_neg (by simpa using hw)];refine kasC_bind (aX (show ia<la.length by lia) ?_);have b1:=fN 1 m.perm m.sa m.sb (fun x hx y hy=>by
     rw[bS (show ia<la.length by lia),mem_singleton] at hx;obtain⟨j,j1,j2,rfl⟩:=cn hy;have:=eO m.sb (Nat.le_refl _) j1 j2;rw[hx];lia)
    rw[bS (show ia<la.length by lia)] at b1;rw[aY];try dsimp only
    by_cases hz:ia+1+1=la.length
    ·rw[if_pos (bq hz)];exact kasC_pure (Ii.a hs<|fR b1.1 b1.2.1 b1.2.2 hz top)
    ·rw[if_neg (EX hz)];have J':Ho key it la lb ((po++[la.getD ia 0]).map<|kas_item it).toArray (ia+1) ib:=⟨_,rfl,b1.1,b1.2.1,b1.2.2,by lia,m2⟩;by_cases hg:ac+1 >= g
     ·rw[if_pos hg];exact kasC_pure (Ii.b hs J' (by lia))
     ·rw[if_neg hg];exact kasC_pure (Kp.k hs J' (by lia))
  case GB=>
   rintro c f_ s' ⟨rfl,hs,⟨Eh,o,ia,ib,ac,bc,rfl,hm⟩ | ⟨o,ia,ib,ac,bc,rfl,hJ,hx⟩⟩
   ·exact kasC_pure (K_.a hs hm)
   ·dsimp only;refine kasC_bind (kasC_lift<|wpAny_rule ?_);try dsimp only
    refine kasC_bind (cq (Q':=FJ key it la lb st s x)
     (kasC_range (bR (Jb key it la lb st s x) ?HH _ 0 _ _ _ ?fin2 (Jb.k hs hJ (by lia)))) ?GC)
    case fin2=>
     rintro c f_ s' ⟨rfl,hs,o,ia,ib,g,ac,bc,rfl,hJ,hx⟩;exact FJ.b hs hJ (by lia)
    case GC=>
     rintro c f_ s' ⟨rfl,hs,⟨Eh,o,ia,ib,g,ac,bc,rfl,hm⟩ | ⟨o,ia,ib,g,ac,bc,rfl,hJ,hx⟩⟩
     ·exact kasC_pure (K_.a hs hm)
     ·dsimp only;refine kasC_bind (kasC_modify ?_);exact kasC_pure (La.k ⟨hs.k,hs.a,hs.p,hs.f⟩ hJ (by lia))
    case HH=>
     rintro y c f_ s' ⟨rfl,hs,o,ia,ib,g,ac,bc,rfl,⟨po,rfl,m⟩,hx⟩;have m1:=m.pa;have m2:=m.pb;dsimp only;revert g;refine pR (fun g=>g - 1) ?ha ?_
     case ha=>exact fun g=>rfl
     intro g;refine kasC_bind (kasC_modify ?_);refine kasC_bind (aX m2 ?_);refine kasC_bind (l7 hc (cK IH m2) IG (base:=ia) (m:=la.length - ia) (hint:=0) (by lia) (by lia) (fun i j a b c=>eO m.sa a b (by lia)) (by exact hs.k.trans o_) ?_);intro k Mt lo1 Kq;dsimp only;by_cases Lb:k > 0
     ·rw[if_pos Lb];have p1:=fN k m.perm m.sa m.sb (fun x hx y hy=>by
       obtain⟨j,j0,j1,rfl⟩:=fO hx;obtain⟨j',a1,a2,rfl⟩:=cn hy;have:=lo1 (ia+j) (by lia) (by lia);have:=eO m.sb (Nat.le_refl _) a1 a2;lia)
      by_cases hz:ia+k+1=la.length
      ·rw[if_pos (bq hz)];exact kasC_pure (FJ.a ⟨hs.k,hs.a,hs.p,hs.f⟩ (by rw[bX];exact fR p1.1 p1.2.1 p1.2.2 hz top))
      rw[if_neg (EX hz)];by_cases Kr:ia+k=la.length
      ·rw[if_pos (bq Kr)];exact kasC_pure (FJ.a ⟨hs.k,hs.a,hs.p,hs.f⟩ (by rw[bX];exact fQ p1.1 p1.2.1 p1.2.2 (.inr Kr)))
      rw[if_neg (EX Kr)];have JT:∀ i,ia+k<=i->i<la.length->key (lb.getD ib 0)<key (la.getD i 0):=fun i a b=>Kq i a (by lia);refine kasC_bind (aX m2 ?_);have p2:=iG 1 p1.1 p1.2.1 p1.2.2 (fun x hx y hy=>by
       rw[bS m2,mem_singleton] at hx;obtain⟨j,j1,j2,rfl⟩:=cn hy;have:=JT j j1 j2;rw[hx];lia)
      rw[bS m2] at p2;by_cases GD:ib+1=lb.length
      ·rw[if_pos (bq GD)];exact kasC_pure (FJ.a ⟨hs.k,hs.a,hs.p,hs.f⟩ (by rw[bX,aY];exact fQ p2.1 p2.2.1 p2.2.2 (.inl GD)))
      rw[if_neg (EX GD)];refine kasC_bind (aX (show ia+k<la.length by lia) ?_);refine kasC_bind (iH hc (cK IG (show ia+k<la.length by lia)) IH (base:=ib+1) (m:=lb.length - (ib+1)) (hint:=0) (by lia) (by lia) (fun i j a b c=>eO p2.2.2 a b (by lia)) (by exact hs.k.trans o_) ?_);intro k2 Gc HI ET;dsimp only;by_cases GE:k2 > 0
      ·rw[if_pos GE];have p3:=iG k2 p2.1 p2.2.1 p2.2.2 (fun x hx y hy=>by
        obtain⟨j,j0,j1,rfl⟩:=fO hx;obtain⟨j',a1,a2,rfl⟩:=cn hy;have:=HI (ib+1+j) (by lia) (by lia);have:=eO p2.2.1 (Nat.le_refl _) a1 a2;lia)
       by_cases GF:ib+1+k2=lb.length
       ·rw[if_pos (bq GF)];exact kasC_pure (FJ.a ⟨hs.k,hs.a,hs.p,hs.f⟩ (by rw[bX,aY,bX];exact fQ p3.1 p3.2.1 p3.2.2 (.inl GF)))
       rw[if_neg (EX GF)];have GG:∀ i,ib+1+k2<=i->i<lb.length->key (la.getD (ia+k) 0)<=key (lb.getD i 0):=fun i a b=>ET i a (by lia);refine kasC_bind (aX (show ia+k<la.length by lia) ?_);have p4:=fN 1 p3.1 p3.2.1 p3.2.2 (fun x hx y hy=>by
        rw[bS (show ia+k<la.length by lia),mem_singleton] at hx;obtain⟨j,j1,j2,rfl⟩:=cn hy;have:=GG j j1 j2;rw[hx];exact this)
       rw[bS (show ia+k<la.length by lia)] at p4;by_cases EQ:ia+k+1+1=la.length
       ·rw[if_pos (bq EQ)];exact kasC_pure (FJ.a ⟨hs.k,hs.a,hs.p,hs.f⟩ (by rw[bX,aY,bX,aY];exact fR p4.1 p4.2.1 p4.2.2 EQ top))
       rw[if_neg (EX EQ)];by_cases hb:(decide (k<7) && decide (k2<7))=true
       ·rw[if_pos hb];exact kasC_pure (FJ.b ⟨hs.k,hs.a,hs.p,hs.f⟩ ⟨_,by rw[bX,aY,bX,aY],p4.1,p4.2.1,p4.2.2,by lia,by lia⟩ (by lia))
       ·rw[if_neg hb];exact kasC_pure (Jb.k ⟨hs.k,hs.a,hs.p,hs.f⟩ ⟨_,by rw[bX,aY,bX,aY],p4.1,p4.2.1,p4.2.2,by lia,by lia⟩ (by lia))
      ·rw[if_neg GE];have p3:=p2;have GG:∀ i,ib+1<=i->i<lb.length->key (la.getD (ia+k) 0)<=key (lb.getD i 0):=fun i a b=>ET i (by lia) (by lia);refine kasC_bind (aX (show ia+k<la.length by lia) ?_);have p4:=fN 1 p3.1 p3.2.1 p3.2.2 (fun x hx y hy=>by
        rw[bS (show ia+k<la.length by lia),mem_singleton] at hx;obtain⟨j,j1,j2,rfl⟩:=cn hy;have:=GG j j1 j2;rw[hx];exact this)
       rw[bS (show ia+k<la.length by lia)] at p4;by_cases EQ:ia+k+1+1=la.length
       ·rw[if_pos (bq EQ)];exact kasC_pure (FJ.a ⟨hs.k,hs.a,hs.p,hs.f⟩ (by rw[bX,aY,aY];exact fR p4.1 p4.2.1 p4.2.2 EQ top))
       rw[if_neg (EX EQ)];by_cases hb:(decide (k<7) && decide (k2<7))=true
       ·rw[if_pos hb];exact kasC_pure (FJ.b ⟨hs.k,hs.a,hs.p,hs.f⟩ ⟨_,by rw[bX,aY,aY],p4.1,p4.2.1,p4.2.2,by lia,by lia⟩ (by lia))
       ·rw[if_neg hb];exact kasC_pure (Jb.k ⟨hs.k,hs.a,hs.p,hs.f⟩ ⟨_,by rw[bX,aY,aY],p4.1,p4.2.1,p4.2.2,by lia,by lia⟩ (by lia))
     ·rw[if_neg Lb];have p1:po.Perm (la.take ia++lb.take ib)/\Ec key (po++la.drop ia)/\Ec key (po++lb.drop ib):=⟨m.perm,m.sa,m.sb⟩;have JT:∀ i,ia<=i->i<la.length->key (lb.getD ib 0)<key (la.getD i 0):=fun i a b=>Kq i (by lia) (by lia);refine kasC_bind (aX m2 ?_);have p2:=iG 1 p1.1 p1.2.1 p1.2.2 (fun x hx y hy=>by
       rw[bS m2,mem_singleton] at hx;obtain⟨j,j1,j2,rfl⟩:=cn hy;have:=JT j j1 j2;rw[hx];lia)
      rw[bS m2] at p2;by_cases GD:ib+1=lb.length
      ·rw[if_pos (bq GD)];exact kasC_pure (FJ.a ⟨hs.k,hs.a,hs.p,hs.f⟩ (by rw[aY];exact fQ p2.1 p2.2.1 p2.2.2 (.inl GD)))
      rw[if_neg (EX GD)];refine kasC_bind (aX (show ia<la.length by lia) ?_);refine kasC_bind (iH hc (cK IG (show ia<la.length by lia)) IH (base:=ib+1) (m:=lb.length - (ib+1)) (hint:=0) (by lia) (by lia) (fun i j a b c=>eO p2.2.2 a b (by lia)) (by exact hs.k.trans o_) ?_);intro k2 Gc HI ET;dsimp only;by_cases GE:k2 > 0
      ·rw[if_pos GE];have p3:=iG k2 p2.1 p2.2.1 p2.2.2 (fun x hx y hy=>by
        obtain⟨j,j0,j1,rfl⟩:=fO hx;obtain⟨j',a1,a2,rfl⟩:=cn hy;have:=HI (ib+1+j) (by lia) (by lia);have:=eO p2.2.1 (Nat.le_refl _) a1 a2;lia)
       by_cases GF:ib+1+k2=lb.length
       ·rw[if_pos (bq GF)];exact kasC_pure (FJ.a ⟨hs.k,hs.a,hs.p,hs.f⟩ (by rw[aY,bX];exact fQ p3.1 p3.2.1 p3.2.2 (.inl GF)))
       rw[if_neg (EX GF)];have GG:∀ i,ib+1+k2<=i->i<lb.length->key (la.getD (ia) 0)<=key (lb.getD i 0):=fun i a b=>ET i a (by lia);refine kasC_bind (aX (show ia<la.length by lia) ?_);have p4:=fN 1 p3.1 p3.2.1 p3.2.2 (fun x hx y hy=>by
        rw[bS (show ia<la.length by lia),mem_singleton] at hx;obtain⟨j,j1,j2,rfl⟩:=cn hy;have:=GG j j1 j2;rw[hx];exact this)
       rw[bS (show ia<la.length by lia)] at p4;by_cases EQ:ia+1+1=la.length
       ·rw[if_pos (bq EQ)];exact kasC_pure (FJ.a ⟨hs.k,hs.a,hs.p,hs.f⟩ (by rw[aY,bX,aY];exact fR p4.1 p4.2.1 p4.2.2 EQ top))
       rw[if_neg (EX EQ)];by_cases hb:(decide (k<7) && decide (k2<7))=true
       ·rw[if_pos hb];exact kasC_pure (FJ.b ⟨hs.k,hs.a,hs.p,hs.f⟩ ⟨_,by rw[aY,bX,aY],p4.1,p4.2.1,p4.2.2,by lia,by lia⟩ (by lia))
       ·rw[if_neg hb];exact kasC_pure (Jb.k ⟨hs.k,hs.a,hs.p,hs.f⟩ ⟨_,by rw[aY,bX,aY],p4.1,p4.2.1,p4.2.2,by lia,by lia⟩ (by lia))
      ·rw[if_neg GE];have p3:=p2;have GG:∀ i,ib+1<=i->i<lb.length->key (la.getD (ia) 0)<=key (lb.getD i 0):=fun i a b=>ET i (by lia) (by lia);refine kasC_bind (aX (show ia<la.length by lia) ?_);have p4:=fN 1 p3.1 p3.2.1 p3.2.2 (fun x hx y hy=>by
        rw[bS (show ia<la.length by lia),mem_singleton] at hx;obtain⟨j,j1,j2,rfl⟩:=cn hy;have:=GG j j1 j2;rw[hx];exact this)
       rw[bS (show ia<la.length by lia)] at p4;by_cases EQ:ia+1+1=la.length
       ·rw[if_pos (bq EQ)];exact kasC_pure (FJ.a ⟨hs.k,hs.a,hs.p,hs.f⟩ (by rw[aY,aY];exact fR p4.1 p4.2.1 p4.2.2 EQ top))
       rw[if_neg (EX EQ)];by_cases hb:(decide (k<7) && decide (k2<7))=true
       ·rw[if_pos hb];exact kasC_pure (FJ.b ⟨hs.k,hs.a,hs.p,hs.f⟩ ⟨_,by rw[aY,aY],p4.1,p4.2.1,p4.2.2,by lia,by lia⟩ (by lia))
       ·rw[if_neg hb];exact kasC_pure (Jb.k ⟨hs.k,hs.a,hs.p,hs.f⟩ ⟨_,by rw[aY,aY],p4.1,p4.2.1,p4.2.2,by lia,by lia⟩ (by lia))
end
section
variable{prog:Program}{w:World}{A:Around}{E:Value->Shared->Prop}{κ:SortKind}{it:Array Keyed}{key:Nat->Int}{n:Nat}{s:Shared}
def pS:Array Keyed->Array Keyed->StateT SortSt Sem (Array Keyed):=sortPriv% PySem.Builtin.mergeHi
variable{l:List Nat}{i j:Nat}
theorem l8(Fq:i<=j)(hj:j<=l.length):l.drop i=(l.take j).drop i++l.drop j:=by
 have e:l.drop i=(l.take j++l.drop j).drop i:=by rw[take_append_drop]
 rw[e,List.drop_append_of_le_length (by rw[length_take];lia)]
theorem ye(Fq:i<=j):l.take i++(l.take j).drop i=l.take j:=by
 have:=take_append_drop i (l.take j)
 rwa [take_take,min_eq_left Fq] at this
variable{la lb ro:List Nat}{na nb:Nat}
theorem fS(k:Nat)(hk:k<=na)(Qe:na<=la.length)(perm:ro.Perm (la.drop na++lb.drop nb))(sa:Ec key (la.take na++ro))(sb:Ec key (lb.take nb++ro))(h:∀ x∈(la.take na).drop k,∀ y∈lb.take nb,key y<=key x):
  ((la.take na).drop k++ro).Perm (la.drop k++lb.drop nb)/\Ec key (la.take k++((la.take na).drop k++ro))/\Ec key (lb.take nb++((la.take na).drop k++ro)):=by
 refine⟨?_,?_,?_⟩
 ·rw[l8 hk Qe,List.append_assoc];exact List.Perm.append_left _ perm
 ·rw[<- List.append_assoc,ye hk];exact sa
 ·have s1:=br.mp sa;have s2:=br.mp sb;refine br.mpr ⟨s2.1,br.mpr ⟨s1.1.sublist<|drop_sublist _ _,s2.2.1,fun x hx y hy=>s1.2.2 x (mem_of_mem_drop hx) y hy⟩,fun x hx y hy=>?_⟩;rcases mem_append.mp hy with hy | hy
  ·exact h y hy x hx
  ·exact s2.2.2 x hx y hy
theorem iJ(k:Nat)(hk:k<=nb)(Qf:nb<=lb.length)(perm:ro.Perm (la.drop na++lb.drop nb))(sa:Ec key (la.take na++ro))(sb:Ec key (lb.take nb++ro))(h:∀ x∈(lb.take nb).drop k,∀ y∈la.take na,key y<=key x):
  ((lb.take nb).drop k++ro).Perm (la.drop na++lb.drop k)/\Ec key (la.take na++((lb.take nb).drop k++ro))/\Ec key (lb.take k++((lb.take nb).drop k++ro)):=by
 have:=fS (la:=lb) (lb:=la) k hk Qf (perm.trans perm_append_comm) sb sa h;exact⟨this.1.trans perm_append_comm,this.2.2,this.2.1⟩
theorem cc(h0:0<i)(h:i<=l.length):(l.take i).drop (i - 1)=[l.getD (i - 1) 0]:=by
 rw[drop_take,show i - (i - 1)=1 by lia];exact bS (by lia)
variable{y:Nat}
theorem cN(h:y∈l.take i):∃ j,j<i/\j<l.length/\y=l.getD j 0:=by
 have:=fO (i:=0) (k:=i) (y:=y) (l:=l) (by rwa [drop_zero]);obtain⟨j,a,b,e⟩:=this;exact⟨j,a,by lia,by rw[e];congr 1;lia⟩
variable{k:Nat}
theorem l9(h:y∈(l.take k).drop i):∃ j,i<=j/\j<k/\j<l.length/\y=l.getD j 0:=by
 rw[drop_take] at h;obtain⟨j,a,b,e⟩:=fO h;exact⟨i+j,by lia,by lia,b,e⟩
theorem eQ(h:Ec key (l.take i++ro))(O1:j<=k)(hk:k<i)(hl:k<l.length):key (l.getD j 0)<=key (l.getD k 0):=by
 have:=fP (br.mp h).1 (i:=j) (j:=k) O1 (by rw[length_take];lia);simpa [List.getD,getElem?_take,show j<i by lia,hk] using this
theorem d0(perm:ro.Perm (la.drop na++lb.drop nb))(sa:Ec key (la.take na++ro))(sb:Ec key (lb.take nb++ro))(hz:na=0\/nb=0):
  Gb key it la lb ((la.map<|kas_item it).toArray.extract 0 na++(lb.map<|kas_item it).toArray.extract 0 nb++(ro.reverse.map<|kas_item it).toArray.reverse):=by
 refine⟨la.take na++lb.take nb++ro,?_,?_,?_⟩
 ·apply ext';simp[map_take]
 ·refine (List.Perm.append_left _ perm).trans ?_;have:(la.take na++lb.take nb++(la.drop na++lb.drop nb)).Perm ((la.take na++la.drop na)++(lb.take nb++lb.drop nb)):=by
   rw[List.append_assoc,List.append_assoc];refine List.Perm.append_left _ ?_;rw[<- List.append_assoc,<- List.append_assoc];exact List.Perm.append_right _ perm_append_comm
  rw[take_append_drop,take_append_drop] at this;exact this
 ·rcases hz with e | e
  ·rw[e,take_zero,nil_append];exact sb
  ·rw[e,take_zero,append_nil];exact sa
theorem gE(perm:ro.Perm (la.drop na++lb.drop nb))(sa:Ec key (la.take na++ro))(sb:Ec key (lb.take nb++ro))(hz:nb=1)(first:∀ x∈la,key (lb.getD 0 0)<=key x):
  Gb key it la lb ((lb.map<|kas_item it).toArray.extract 0 nb++(la.map<|kas_item it).toArray.extract 0 na++(ro.reverse.map<|kas_item it).toArray.reverse):=by
 refine⟨lb.take nb++la.take na++ro,?_,?_,?_⟩
 ·apply ext';simp[map_take]
 ·refine (List.Perm.append_left _ perm).trans ?_;have:(lb.take nb++la.take na++(la.drop na++lb.drop nb)).Perm ((la.take na++la.drop na)++(lb.take nb++lb.drop nb)):=by
   rw[List.append_assoc,<- List.append_assoc (la.take na),<- List.append_assoc (la.take na++la.drop na)];rw[<- List.append_assoc (lb.take nb)];exact List.Perm.append_right _ perm_append_comm
  rw[take_append_drop,take_append_drop] at this;exact this
 ·rw[List.append_assoc];refine br.mpr ⟨(br.mp sb).1,sa,fun x hx y hy=>?_⟩;rcases mem_append.mp hy with hy | hy
  ·obtain⟨j,h1,h2,rfl⟩:=cN hx;have:j=0:=by lia
   rw[this];exact first y (mem_of_mem_take hy)
  ·exact (br.mp sb).2.2 x hx y hy
theorem aV(ro:List Nat)(y:Nat):(ro.reverse.map<|kas_item it).toArray.push (kas_item it y)=(([y]++ro).reverse.map<|kas_item it).toArray:=by simp
theorem bK(ro l:List Nat)(i k:Nat):(ro.reverse.map<|kas_item it).toArray++((l.map<|kas_item it).toArray.extract i k).reverse=(((l.take k).drop i++ro).reverse.map<|kas_item it).toArray:=by
 apply ext';simp[map_drop,map_take,drop_take]
structure Qg(key:Nat->Int)(la lb:List Nat)(ro:List Nat)(na nb:Nat):Prop where
 perm:ro.Perm (la.drop na++lb.drop nb)
 sa:Ec key (la.take na++ro)
 sb:Ec key (lb.take nb++ro)
 pa:0<na
 pb:1<nb
 qa:na<=la.length
 qb:nb<=lb.length
def Hr(key:Nat->Int)(it:Array Keyed)(la lb:List Nat)(out:Array Keyed)(na nb:Nat):Prop:=∃ ro:List Nat,out=(ro.reverse.map<|kas_item it).toArray/\Qg key la lb ro na nb
end
section
variable{prog:Program}{w:World}{A:Around}{E:Value->Shared->Prop}{κ:SortKind}{it:Array Keyed}{key:Nat->Int}{n:Nat}{s:Shared}
def Lc(key:Nat->Int)(it:Array Keyed)(la lb:List Nat)(st:SortSt)(s:Shared): Option (Array Keyed)×Nat×Nat×Array Keyed×Nat->SortSt->Shared->Prop:=fun c f_ s'=>s=s'/\h_ st f_/\∃ Eh p q r g,c=(some Eh,p,q,r,g)/\Gb key it la lb Eh
def Ld(key:Nat->Int)(it:Array Keyed)(la lb:List Nat)(st:SortSt)(s:Shared)(x:Nat):Option (Array Keyed)×Nat×Nat×Array Keyed×Nat->SortSt->Shared->Prop:=fun c f_ s'=>s=s'/\h_ st f_/\∃ na nb o g,c=(none,na,nb,o,g)/\Hr key it la lb o na nb/\na+nb+x+1<=la.length+lb.length
def Ij(key:Nat->Int)(it:Array Keyed)(la lb:List Nat)(st:SortSt)(s:Shared)(x:Nat):Option (Array Keyed)×Nat×Nat×Array Keyed×Nat×Nat->SortSt->Shared->Prop:=fun c f_ s'=>s=s'/\h_ st f_/\((∃ Eh p q r ac bc,c=(some Eh,p,q,r,ac,bc)/\Gb key it la lb Eh)\/∃ na nb o ac bc,c=(none,na,nb,o,ac,bc)/\Hr key it la lb o na nb/\na+nb+x+2<=la.length+lb.length)
def Ks(key:Nat->Int)(it:Array Keyed)(la lb:List Nat)(st:SortSt)(s:Shared)(x y:Nat):Option (Array Keyed)×Nat×Nat×Array Keyed×Nat×Nat->SortSt->Shared->Prop:=fun c f_ s'=>s=s'/\h_ st f_/\∃ na nb o ac bc,c=(none,na,nb,o,ac,bc)/\Hr key it la lb o na nb/\na+nb+x+1+y<=la.length+lb.length
def FE(key:Nat->Int)(it:Array Keyed)(la lb:List Nat)(st:SortSt)(s:Shared)(x:Nat):Option (Array Keyed)×Nat×Nat×Array Keyed×Nat×Nat×Nat->SortSt->Shared->Prop:=fun c f_ s'=>s=s'/\h_ st f_/\((∃ Eh p q r g ac bc,c=(some Eh,p,q,r,g,ac,bc)/\Gb key it la lb Eh)\/∃ na nb o g ac bc,c=(none,na,nb,o,g,ac,bc)/\Hr key it la lb o na nb/\na+nb+x+2<=la.length+lb.length)
def Jc(key:Nat->Int)(it:Array Keyed)(la lb:List Nat)(st:SortSt)(s:Shared)(x y:Nat):Option (Array Keyed)×Nat×Nat×Array Keyed×Nat×Nat×Nat->SortSt->Shared->Prop:=fun c f_ s'=>s=s'/\h_ st f_/\∃ na nb o g ac bc,c=(none,na,nb,o,g,ac,bc)/\Hr key it la lb o na nb/\na+nb+x+2<=la.length+lb.length
variable{la lb:List Nat}{st f_:SortSt}{out r:Array Keyed}{p q g:Nat}
theorem Lc.a{key:Nat->Int}{it:Array Keyed}{s:Shared}(h:h_ st f_)(m:Gb key it la lb out):Lc key it la lb st s (some out,p,q,r,g) f_ s:=⟨rfl,h,_,_,_,_,_,rfl,m⟩
variable{x na nb:Nat}{o:Array Keyed}
theorem Ld.k{key:Nat->Int}{it:Array Keyed}{s:Shared}(h:h_ st f_)(j:Hr key it la lb o na nb)(e:na+nb+x+1<=la.length+lb.length):Ld key it la lb st s x (none,na,nb,o,g) f_ s:=⟨rfl,h,_,_,_,_,rfl,j,e⟩
variable{g2:Nat}
theorem Ij.a{key:Nat->Int}{it:Array Keyed}{s:Shared}(h:h_ st f_)(m:Gb key it la lb out):Ij key it la lb st s x (some out,p,q,r,g,g2) f_ s:=⟨rfl,h,.inl ⟨_,_,_,_,_,_,rfl,m⟩⟩
theorem Ij.b{key:Nat->Int}{it:Array Keyed}{s:Shared}(h:h_ st f_)(j:Hr key it la lb o na nb)(e:na+nb+x+2<=la.length+lb.length):Ij key it la lb st s x (none,na,nb,o,g,g2) f_ s:=⟨rfl,h,.inr ⟨_,_,_,_,_,rfl,j,e⟩⟩
variable{y:Nat}
theorem Ks.k{key:Nat->Int}{it:Array Keyed}{s:Shared}(h:h_ st f_)(j:Hr key it la lb o na nb)(e:na+nb+x+1+y<=la.length+lb.length):Ks key it la lb st s x y (none,na,nb,o,g,g2) f_ s:=⟨rfl,h,_,_,_,_,_,rfl,j,e⟩
variable{g3:Nat}
theorem FE.a{key:Nat->Int}{it:Array Keyed}{s:Shared}(h:h_ st f_)(m:Gb key it la lb out):FE key it la lb st s x (some out,p,q,r,g,g2,g3) f_ s:=⟨rfl,h,.inl ⟨_,_,_,_,_,_,_,rfl,m⟩⟩
theorem FE.b{key:Nat->Int}{it:Array Keyed}{s:Shared}(h:h_ st f_)(j:Hr key it la lb o na nb)(e:na+nb+x+2<=la.length+lb.length):FE key it la lb st s x (none,na,nb,o,g,g2,g3) f_ s:=⟨rfl,h,.inr ⟨_,_,_,_,_,_,rfl,j,e⟩⟩
theorem Jc.k{key:Nat->Int}{it:Array Keyed}{s:Shared}(h:h_ st f_)(j:Hr key it la lb o na nb)(e:na+nb+x+2<=la.length+lb.length):Jc key it la lb st s x y (none,na,nb,o,g,g2,g3) f_ s:=⟨rfl,h,_,_,_,_,_,_,rfl,j,e⟩
theorem yf(hc:cl n key (kas_cmp prog w A κ it) s){la lb:List Nat}(IG:∀ x∈la,x<n)(IH:∀ x∈lb,x<n)(Nu:Ec key la)(Nv:Ec key lb)(h0:0<la.length)(h1:0<lb.length)(first:∀ x∈la,key (lb.getD 0 0)<=key x)(top:∀ x∈lb,key x<=key (la.getD (la.length - 1) 0)){st:SortSt}(o_:kindOf st=κ){Q:Array Keyed->SortSt->Shared->Prop}(h:∀ out f_,Gb key it la lb out->h_ st f_->Q out f_ s):
  kasC (model prog w) A E (pS (la.map<|kas_item it).toArray (lb.map<|kas_item it).toArray) Q st s:=by
 unfold pS;with_unfolding_all refine kasC_bind (kasC_lift<|wpAny_rule ?_);dsimp only;generalize Nw:(List.map (kas_item it) la).toArray.size=za;obtain rfl:la.length=za:=by rw[<- Nw];simp
 generalize Nx:(List.map (kas_item it) lb).toArray.size=zb;obtain rfl:lb.length=zb:=by rw[<- Nx];simp
 refine kasC_bind (aX (show la.length - 1<la.length by lia) ?_);try dsimp only
 have l1:=cc h0 (Nat.le_refl _);rw[take_length] at l1;have Fu:[la.getD (la.length - 1) 0].Perm (la.drop (la.length - 1)++lb.drop lb.length):=by
  rw[l1,List.drop_length];exact List.Perm.refl _
 have JR:Ec key (la.take (la.length - 1)++[la.getD (la.length - 1) 0]):=by
  rw[<- l1,take_append_drop];exact Nu
 have JQ:Ec key (lb.take lb.length++[la.getD (la.length - 1) 0]):=br.mpr ⟨by rw[take_length];exact Nv,pairwise_singleton _ _,fun x hx y hy=>by
  rw[mem_singleton.mp hy];exact top x (by rwa [take_length] at hx)⟩
 have e0:#[kas_item it (la.getD (la.length - 1) 0)]=([la.getD (la.length - 1) 0].reverse.map<|kas_item it).toArray:=rfl;rw[e0];by_cases c1:la.length - 1=0
 ·rw[if_pos (bq c1)];exact kasC_pure (h _ _ (d0 Fu JR JQ<|.inl c1)<|h_.refl st)
 rw[if_neg (EX c1)];by_cases c2:lb.length=1
 ·rw[if_pos (bq c2)];exact kasC_pure (h _ _ (gE Fu JR JQ c2 first)<|h_.refl st)
 rw[if_neg (EX c2)];refine kasC_bind (kasC_get ?_);refine kasC_bind (cq (Q':=Lc key it la lb st s) (kasC_range (bR (Ld key it la lb st s) ?step _ 0 _ _ _ ?fin (Ld.k (h_.refl st) ⟨_,rfl,Fu,JR,JQ,by lia,by lia,by lia,by lia⟩ (by lia)))) ?after)
 case after=>
  rintro c f_ s' ⟨rfl,hs,Eh,o,ia,ib,g,rfl,hm⟩;exact kasC_pure (h _ _ hm hs)
 case fin=>
  rintro c f_ s' ⟨rfl,hs,na,nb,o,g,rfl,⟨po,rfl,m⟩,hx⟩;have:=m.pa;have:=m.pb;lia
 case step=>
  rintro x c f_ s' ⟨rfl,hs,na,nb,o,g,rfl,hJ,hx⟩;dsimp only;refine kasC_bind (cq (Q':=Ij key it la lb st s x)
   (kasC_range (bR (Ks key it la lb st s x) ?HG _ 0 _ _ _ ?JS (Ks.k hs hJ (by lia)))) ?GB)
  case JS=>
   rintro c f_ s' ⟨rfl,hs,na,nb,o,ac,bc,rfl,hJ,hx⟩;exact Ij.b hs hJ (by lia)
  case HG=>
   rintro y c f_ s' ⟨rfl,hs,na,nb,o,ac,bc,rfl,⟨po,rfl,m⟩,hx⟩;have m1:=m.pa;have m2:=m.pb;have m3:=m.qa;have m4:=m.qb;have E1:kindOf f_=κ:=hs.k.trans o_;dsimp only;refine kasC_bind (aX (show nb - 1<lb.length by lia) ?_);refine kasC_bind (aX (show na - 1<la.length by lia) ?_);refine kasC_bind (iF hc (cK IH (show nb - 1<lb.length by lia)) (cK IG (show na - 1<la.length by lia)) E1 ?_);dsimp only;by_cases hw:key (lb.getD (nb - 1) 0)<key (la.getD (na - 1) 0)
   ·rw[if_pos (by simpa using hw)];refine kasC_bind (aX (show na - 1<la.length by lia) ?_);have b1:=fS (na - 1) (by lia) m3 m.perm m.sa m.sb (fun x hx y hy=>by
     rw[cc m1 m3,mem_singleton] at hx;obtain⟨j,j1,j2,rfl⟩:=cN hy;have:=eQ m.sb (show j<=nb - 1 by lia) (by lia) (by lia);rw[hx];lia)
    rw[cc m1 m3] at b1;rw[aV];try dsimp only
    by_cases hz:na - 1=0
    ·rw[if_pos (bq hz)];exact kasC_pure (Ij.a hs<|d0 b1.1 b1.2.1 b1.2.2<|.inl hz)
    ·rw[if_neg (EX hz)];have J':Hr key it la lb (([la.getD (na - 1) 0]++po).reverse.map<|kas_item it).toArray (na - 1) nb:=⟨_,rfl,b1.1,b1.2.1,b1.2.2,by lia,m2,by lia,m4⟩;by_cases hg:ac+1 >= g
     ·rw[if_pos hg];exact kasC_pure (Ij.b hs J' (by lia))
     ·rw[if_neg hg];exact kasC_pure (Ks.k hs J' (by lia))
   ·rw[if_neg (by simpa using hw)];refine kasC_bind (aX (show nb - 1<lb.length by lia) ?_);have b1:=iJ (nb - 1) (by lia) m4 m.perm m.sa m.sb (fun x hx y hy=>by
     rw[cc (by lia) m4,mem_singleton] at hx;obtain⟨j,j1,j2,rfl⟩:=cN hy;have:=eQ m.sa (show j<=na - 1 by lia) (by lia) (by lia);rw[hx];lia)
    rw[cc (by lia) m4] at b1;rw[aV];try dsimp only
    by_cases hz:nb - 1=1
    ·rw[if_pos (bq hz)];exact kasC_pure (Ij.a hs<|gE b1.1 b1.2.1 b1.2.2 hz first)
    ·rw[if_neg (EX hz)];have J':Hr key it la lb (([lb.getD (nb - 1) 0]++po).reverse.map<|kas_item it).toArray na (nb - 1):=⟨_,rfl,b1.1,b1.2.1,b1.2.2,m1,by lia,m3,by lia⟩;by_cases hg:bc+1 >= g
     ·rw[if_pos hg];exact kasC_pure (Ij.b hs J' (by lia))
     ·rw[if_neg hg];exact kasC_pure (Ks.k hs J' (by lia))
  case GB=>
   rintro c f_ s' ⟨rfl,hs,⟨Eh,o,ia,ib,ac,bc,rfl,hm⟩ | ⟨na,nb,o,ac,bc,rfl,hJ,hx⟩⟩
   ·exact kasC_pure (Lc.a hs hm)
   ·try dsimp only
    refine kasC_bind (kasC_lift<|wpAny_rule ?_);try dsimp only
    refine kasC_bind (cq (Q':=FE key it la lb st s x)
     (kasC_range (bR (Jc key it la lb st s x) ?HH _ 0 _ _ _ ?fin2 (Jc.k hs hJ (by lia)))) ?GC)
    case fin2=>
     rintro c f_ s' ⟨rfl,hs,na,nb,o,g,ac,bc,rfl,hJ,hx⟩;exact FE.b hs hJ (by lia)
    case GC=>
     rintro c f_ s' ⟨rfl,hs,⟨Eh,o,ia,ib,g,ac,bc,rfl,hm⟩ | ⟨na,nb,o,g,ac,bc,rfl,hJ,hx⟩⟩
     ·exact kasC_pure (Lc.a hs hm)
     ·try dsimp only
      refine kasC_bind (kasC_modify ?_);exact kasC_pure (Ld.k ⟨hs.k,hs.a,hs.p,hs.f⟩ hJ (by lia))
    case HH=>
     rintro y c f_ s' ⟨rfl,hs,na,nb,o,g,ac,bc,rfl,⟨po,rfl,m⟩,hx⟩;have m1:=m.pa;have m2:=m.pb;have m3:=m.qa;have m4:=m.qb;dsimp only;revert g;refine pR (fun g=>g - 1) ?ha ?_
     case ha=>exact fun g=>rfl
     intro g;refine kasC_bind (kasC_modify ?_);refine kasC_bind (aX (show nb - 1<lb.length by lia) ?_);refine kasC_bind (l7 hc (cK IH (show nb - 1<lb.length by lia)) IG (base:=0) (m:=na) (hint:=na - 1) (by lia) (by lia) (fun i j a b c=>eQ m.sa b (by lia) (by lia)) (by exact hs.k.trans o_) ?_);intro k Mt lo1 Kq;dsimp only;by_cases Lb:na - k > 0
     ·rw[if_pos Lb];have p1:=fS k (by lia) m3 m.perm m.sa m.sb (fun x hx y hy=>by
       obtain⟨j,j0,j1,j2,rfl⟩:=l9 hx;obtain⟨j',a1,a2,rfl⟩:=cN hy;have:=Kq j (by lia) (by lia);have:=eQ m.sb (show j'<=nb - 1 by lia) (by lia) (by lia);lia)
      by_cases hz:k=0
      ·rw[if_pos (bq hz)];exact kasC_pure (FE.a ⟨hs.k,hs.a,hs.p,hs.f⟩ (by rw[bK];exact d0 p1.1 p1.2.1 p1.2.2 (.inl hz)))
      rw[if_neg (EX hz)];have JT:∀ i,i<k->key (la.getD i 0)<=key (lb.getD (nb - 1) 0):=fun i a=>lo1 i (by lia) (by lia);refine kasC_bind (aX (show nb - 1<lb.length by lia) ?_);have p2:=iJ (nb - 1) (by lia) m4 p1.1 p1.2.1 p1.2.2 (fun x hx y hy=>by
       rw[cc (by lia) m4,mem_singleton] at hx;obtain⟨j,j1,j2,rfl⟩:=cN hy;have:=JT j j1;rw[hx];lia)
      rw[cc (by lia) m4] at p2;by_cases GD:nb - 1=1
      ·rw[if_pos (bq GD)];exact kasC_pure (FE.a ⟨hs.k,hs.a,hs.p,hs.f⟩ (by rw[bK,aV];exact gE p2.1 p2.2.1 p2.2.2 GD first))
      rw[if_neg (EX GD)];refine kasC_bind (aX (show k - 1<la.length by lia) ?_);refine kasC_bind (iH hc (cK IG (show k - 1<la.length by lia)) IH (base:=0) (m:=nb - 1) (hint:=nb - 1 - 1) (by lia) (by lia) (fun i j a b c=>eQ p2.2.2 b (by lia) (by lia)) (by exact hs.k.trans o_) ?_);intro k2 Gc HI ET;dsimp only;by_cases GE:nb - 1 - k2 > 0
      ·rw[if_pos GE];have p3:=iJ k2 (by lia) (show nb - 1<=lb.length by lia) p2.1 p2.2.1 p2.2.2 (fun x hx y hy=>by
        obtain⟨j,j0,j1,j2,rfl⟩:=l9 hx;obtain⟨j',a1,a2,rfl⟩:=cN hy;have:=ET j (by lia) (by lia);have:=eQ p2.2.1 (show j'<=k - 1 by lia) (by lia) (by lia);lia)
       by_cases GF:k2=1
       ·rw[if_pos (bq GF)];exact kasC_pure (FE.a ⟨hs.k,hs.a,hs.p,hs.f⟩ (by rw[bK,aV,bK];exact gE p3.1 p3.2.1 p3.2.2 GF first))
       rw[if_neg (EX GF)];by_cases JU:k2=0
       ·rw[if_pos (bq JU)];exact kasC_pure (FE.a ⟨hs.k,hs.a,hs.p,hs.f⟩ (by rw[bK,aV,bK];exact d0 p3.1 p3.2.1 p3.2.2 (.inr JU)))
       rw[if_neg (EX JU)];have GG:∀ i,i<k2->key (lb.getD i 0)<key (la.getD (k - 1) 0):=fun i a=>HI i (by lia) (by lia);refine kasC_bind (aX (show k - 1<la.length by lia) ?_);have p4:=fS (k - 1) (by lia) (show k<=la.length by lia) p3.1 p3.2.1 p3.2.2 (fun x hx y hy=>by
        rw[cc (by lia) (show k<=la.length by lia),mem_singleton] at hx;obtain⟨j,j1,j2,rfl⟩:=cN hy;have:=GG j j1;rw[hx];lia)
       rw[cc (by lia) (show k<=la.length by lia)] at p4;by_cases EQ:k - 1=0
       ·rw[if_pos (bq EQ)];exact kasC_pure (FE.a ⟨hs.k,hs.a,hs.p,hs.f⟩ (by rw[bK,aV,bK,aV];exact d0 p4.1 p4.2.1 p4.2.2 (.inl EQ)))
       rw[if_neg (EX EQ)];by_cases hb:(decide (na - k<7) && decide (nb - 1 - k2<7))=true
       ·rw[if_pos hb];exact kasC_pure (FE.b ⟨hs.k,hs.a,hs.p,hs.f⟩ ⟨_,by rw[bK,aV,bK,aV],p4.1,p4.2.1,p4.2.2,by lia,by lia,by lia,by lia⟩ (by lia))
       ·rw[if_neg hb];exact kasC_pure (Jc.k ⟨hs.k,hs.a,hs.p,hs.f⟩ ⟨_,by rw[bK,aV,bK,aV],p4.1,p4.2.1,p4.2.2,by lia,by lia,by lia,by lia⟩ (by lia))
      ·rw[if_neg GE];have p3:=p2;have GG:∀ i,i<nb - 1->key (lb.getD i 0)<key (la.getD (k - 1) 0):=fun i a=>HI i (by lia) (by lia);refine kasC_bind (aX (show k - 1<la.length by lia) ?_);have p4:=fS (k - 1) (by lia) (show k<=la.length by lia) p3.1 p3.2.1 p3.2.2 (fun x hx y hy=>by
        rw[cc (by lia) (show k<=la.length by lia),mem_singleton] at hx;obtain⟨j,j1,j2,rfl⟩:=cN hy;have:=GG j j1;rw[hx];lia)
       rw[cc (by lia) (show k<=la.length by lia)] at p4;by_cases EQ:k - 1=0
       ·rw[if_pos (bq EQ)];exact kasC_pure (FE.a ⟨hs.k,hs.a,hs.p,hs.f⟩ (by rw[bK,aV,aV];exact d0 p4.1 p4.2.1 p4.2.2 (.inl EQ)))
       rw[if_neg (EX EQ)];by_cases hb:(decide (na - k<7) && decide (nb - 1 - k2<7))=true
       ·rw[if_pos hb];exact kasC_pure (FE.b ⟨hs.k,hs.a,hs.p,hs.f⟩ ⟨_,by rw[bK,aV,aV],p4.1,p4.2.1,p4.2.2,by lia,by lia,by lia,by lia⟩ (by lia))
       ·rw[if_neg hb];exact kasC_pure (Jc.k ⟨hs.k,hs.a,hs.p,hs.f⟩ ⟨_,by rw[bK,aV,aV],p4.1,p4.2.1,p4.2.2,by lia,by lia,by lia,by lia⟩ (by lia))
     ·rw[if_neg Lb];have p1:po.Perm (la.drop na++lb.drop nb)/\Ec key (la.take na++po)/\Ec key (lb.take nb++po):=⟨m.perm,m.sa,m.sb⟩;have JT:∀ i,i<na->key (la.getD i 0)<=key (lb.getD (nb - 1) 0):=fun i a=>lo1 i (by lia) (by lia);refine kasC_bind (aX (show nb - 1<lb.length by lia) ?_);have p2:=iJ (nb - 1) (by lia) m4 p1.1 p1.2.1 p1.2.2 (fun x hx y hy=>by
       rw[cc (by lia) m4,mem_singleton] at hx;obtain⟨j,j1,j2,rfl⟩:=cN hy;have:=JT j j1;rw[hx];lia)
      rw[cc (by lia) m4] at p2;by_cases GD:nb - 1=1
      ·rw[if_pos (bq GD)];exact kasC_pure (FE.a ⟨hs.k,hs.a,hs.p,hs.f⟩ (by rw[aV];exact gE p2.1 p2.2.1 p2.2.2 GD first))
      rw[if_neg (EX GD)];refine kasC_bind (aX (show na - 1<la.length by lia) ?_);refine kasC_bind (iH hc (cK IG (show na - 1<la.length by lia)) IH (base:=0) (m:=nb - 1) (hint:=nb - 1 - 1) (by lia) (by lia) (fun i j a b c=>eQ p2.2.2 b (by lia) (by lia)) (by exact hs.k.trans o_) ?_);intro k2 Gc HI ET;dsimp only;by_cases GE:nb - 1 - k2 > 0
      ·rw[if_pos GE];have p3:=iJ k2 (by lia) (show nb - 1<=lb.length by lia) p2.1 p2.2.1 p2.2.2 (fun x hx y hy=>by
        obtain⟨j,j0,j1,j2,rfl⟩:=l9 hx;obtain⟨j',a1,a2,rfl⟩:=cN hy;have:=ET j (by lia) (by lia);have:=eQ p2.2.1 (show j'<=na - 1 by lia) (by lia) (by lia);lia)
       by_cases GF:k2=1
       ·rw[if_pos (bq GF)];exact kasC_pure (FE.a ⟨hs.k,hs.a,hs.p,hs.f⟩ (by rw[aV,bK];exact gE p3.1 p3.2.1 p3.2.2 GF first))
       rw[if_neg (EX GF)];by_cases JU:k2=0
       ·rw[if_pos (bq JU)];exact kasC_pure (FE.a ⟨hs.k,hs.a,hs.p,hs.f⟩ (by rw[aV,bK];exact d0 p3.1 p3.2.1 p3.2.2 (.inr JU)))
       rw[if_neg (EX JU)];have GG:∀ i,i<k2->key (lb.getD i 0)<key (la.getD (na - 1) 0):=fun i a=>HI i (by lia) (by lia);refine kasC_bind (aX (show na - 1<la.length by lia) ?_);have p4:=fS (na - 1) (by lia) (show na<=la.length by lia) p3.1 p3.2.1 p3.2.2 (fun x hx y hy=>by
        rw[cc (by lia) (show na<=la.length by lia),mem_singleton] at hx;obtain⟨j,j1,j2,rfl⟩:=cN hy;have:=GG j j1;rw[hx];lia)
       rw[cc (by lia) (show na<=la.length by lia)] at p4;by_cases EQ:na - 1=0
       ·rw[if_pos (bq EQ)];exact kasC_pure (FE.a ⟨hs.k,hs.a,hs.p,hs.f⟩ (by rw[aV,bK,aV];exact d0 p4.1 p4.2.1 p4.2.2 (.inl EQ)))
       rw[if_neg (EX EQ)];by_cases hb:(decide (na - k<7) && decide (nb - 1 - k2<7))=true
       ·rw[if_pos hb];exact kasC_pure (FE.b ⟨hs.k,hs.a,hs.p,hs.f⟩ ⟨_,by rw[aV,bK,aV],p4.1,p4.2.1,p4.2.2,by lia,by lia,by lia,by lia⟩ (by lia))
       ·rw[if_neg hb];exact kasC_pure (Jc.k ⟨hs.k,hs.a,hs.p,hs.f⟩ ⟨_,by rw[aV,bK,aV],p4.1,p4.2.1,p4.2.2,by lia,by lia,by lia,by lia⟩ (by lia))
      ·rw[if_neg GE];have p3:=p2;have GG:∀ i,i<nb - 1->key (lb.getD i 0)<key (la.getD (na - 1) 0):=fun i a=>HI i (by lia) (by lia);refine kasC_bind (aX (show na - 1<la.length by lia) ?_);have p4:=fS (na - 1) (by lia) (show na<=la.length by lia) p3.1 p3.2.1 p3.2.2 (fun x hx y hy=>by
        rw[cc (by lia) (show na<=la.length by lia),mem_singleton] at hx;obtain⟨j,j1,j2,rfl⟩:=cN hy;have:=GG j j1;rw[hx];lia)
       rw[cc (by lia) (show na<=la.length by lia)] at p4;by_cases EQ:na - 1=0
       ·rw[if_pos (bq EQ)];exact kasC_pure (FE.a ⟨hs.k,hs.a,hs.p,hs.f⟩ (by rw[aV,aV];exact d0 p4.1 p4.2.1 p4.2.2 (.inl EQ)))
       rw[if_neg (EX EQ)];by_cases hb:(decide (na - k<7) && decide (nb - 1 - k2<7))=true
       ·rw[if_pos hb];exact kasC_pure (FE.b ⟨hs.k,hs.a,hs.p,hs.f⟩ ⟨_,by rw[aV,aV],p4.1,p4.2.1,p4.2.2,by lia,by lia,by lia,by lia⟩ (by lia))
       ·rw[if_neg hb];exact kasC_pure (Jc.k ⟨hs.k,hs.a,hs.p,hs.f⟩ ⟨_,by rw[aV,aV],p4.1,p4.2.1,p4.2.2,by lia,by lia,by lia,by lia⟩ (by lia))
end
section
variable{prog:Program}{w:World}{A:Around}{E:Value->Shared->Prop}{κ:SortKind}{it:Array Keyed}{key:Nat->Int}{n:Nat}{s:Shared}
theorem yg{σ:Type}{M:Model}{Q:PUnit->σ->Shared->Prop}{st q_:σ}{s:Shared}(h:Q ⟨⟩ q_ s):kasC M A E (set q_:StateT σ Sem PUnit) Q st s:=by
 unfold kasC;rw[StateT.run_set];exact wpAny_pure h
theorem ma{α:Type}:∀ (l:List α) (arr:List α) (q j0 s0:Nat),q+l.length<=arr.length->q=s0+j0->((l.zipIdx j0).foldl (fun (a:Array α) (x:α×Nat)=>a.setIfInBounds (s0+x.2) x.1) arr.toArray)=(arr.take q++l++arr.drop (q+l.length)).toArray
 | [],arr,q,j0,s0,h,e=>by simp
 | x::l,arr,q,j0,s0,h,e=>by
  rw[length_cons] at h;rw[List.zipIdx_cons,foldl_cons];dsimp only;rw[<- e,List.setIfInBounds_toArray,ma l (arr.set q x) (q+1) (j0+1) s0 (by rw[length_set];lia) (by lia)];congr 1;have e1:(arr.set q x).take (q+1)=arr.take q++[x]:=by
   apply ext_getElem?;intro i;rw[getElem?_take,List.getElem?_append,length_take,getElem?_take,List.getElem?_set];by_cases h1:i<q
   ·rw[if_pos (by lia),if_neg (by lia),if_pos (by lia),if_pos h1]
   ·by_cases h2:i=q
    ·subst h2;rw[if_pos (by lia),if_pos rfl,if_pos (by lia),if_neg (by lia)];simp[show i - min i arr.length=0 by lia]
    ·rw[if_neg (by lia),if_neg (by lia)];rw[List.getElem?_eq_none];rw[length_singleton];lia
  have e2:(arr.set q x).drop (q+1+l.length)=arr.drop (q+(l.length+1)):=by
   apply ext_getElem?;intro i;rw[getElem?_drop,getElem?_drop,List.getElem?_set,if_neg (by lia)];congr 1;lia
  rw[e1,e2,length_cons,List.append_assoc,List.append_assoc,List.append_assoc];rfl
theorem pT{LA LB po:List Nat}{k m:Nat}(sA:Ec key LA)(sB:Ec key LB)(hb:0<LB.length)(ha:0<LA.length)(h1:∀ x∈LA.take k,key x<=key (LB.getD 0 0))(h4:∀ x∈LB.drop m,key (LA.getD (LA.length - 1) 0)<=key x)(hp:po.Perm (LA.drop k++LB.take m))(sp:Ec key po):Ec key (LA.take k++po++LB.drop m)/\(LA.take k++po++LB.drop m).Perm (LA++LB):=by
 have b0:∀ y∈LB,key (LB.getD 0 0)<=key y:=fun y hy=>by
  obtain⟨j,_,hj,rfl⟩:=cn (i:=0) (l:=LB) (by rwa [drop_zero]);exact fP sB (zero_le _) hj
 have aL:∀ x∈LA,key x<=key (LA.getD (LA.length - 1) 0):=fun x hx=>by
  obtain⟨j,_,hj,rfl⟩:=cn (i:=0) (l:=LA) (by rwa [drop_zero]);exact fP sA (by lia) (by lia)
 have cA:Ec key (LA.take k++LA.drop k):=by rwa [take_append_drop]
 have cB:Ec key (LB.take m++LB.drop m):=by rwa [take_append_drop]
 have cA:=br.mp cA;have cB:=br.mp cB;refine⟨br.mpr ⟨br.mpr ⟨cA.1,sp,fun x hx y hy=>?_⟩,cB.2.1,fun x hx y hy=>?_⟩,?_⟩
 ·rcases mem_append.mp (hp.mem_iff.mp hy) with hy | hy
  ·exact cA.2.2 x hx y hy
  ·exact Int.le_trans (h1 x hx) (b0 y<|mem_of_mem_take hy)
 ·rcases mem_append.mp hx with hx | hx
  ·exact Int.le_trans (h1 x hx) (b0 y<|mem_of_mem_drop hy)
  ·rcases mem_append.mp (hp.mem_iff.mp hx) with hx | hx
   ·exact Int.le_trans (aL x<|mem_of_mem_drop hx) (h4 y hy)
   ·exact cB.2.2 x hx y hy
 ·refine (List.Perm.append_right _<|List.Perm.append_left _ hp).trans ?_;rw[<- List.append_assoc,take_append_drop,List.append_assoc,take_append_drop]
theorem yh(hc:cl n key (kas_cmp prog w A κ it) s){lp:List Nat}(Jd:∀ x∈lp,x<n){i sa na nb pw pw2:Nat}{st:SortSt}(o_:PyProof.Rows.kindOf st=κ)(Ny:arrOf st=(lp.map<|kas_item it).toArray)(hf:failedOf st=none)(hi:(pendingOf st)[i]?=some (sa,na,pw))(hj:(pendingOf st)[i+1]?=some (sa+na,nb,pw2))(ha:0<na)(hb:0<nb)(hz:sa+na+nb<=lp.length)(sA:Ec key ((lp.drop sa).take na))(sB:Ec key ((lp.drop<|sa+na).take nb)){Q:Bool->SortSt->Shared->Prop}(h:∀ mid f_,PyProof.Rows.kindOf f_=κ->failedOf f_=none->pendingOf f_=((pendingOf st).setIfInBounds i (sa,na+nb,pw)).eraseIdxIfInBounds (i+1)->mid.Perm ((lp.drop sa).take<|na+nb)->Ec key mid->
   arrOf f_=((lp.take sa++mid++lp.drop (sa+(na+nb))).map<|kas_item it).toArray->Q true f_ s):
  kasC (model prog w) A E (mergeAt' i) Q st s:=by
 have lA:((lp.drop sa).take na).length=na:=by rw[length_take,length_drop];lia
 have lB:((lp.drop<|sa+na).take nb).length=nb:=by rw[length_take,length_drop];lia
 have Kt:∀ j,j<na->((lp.drop sa).take na).getD j 0=lp.getD (sa+j) 0:=fun j hj=>by simp[List.getD,getElem?_take,getElem?_drop,hj]
 have gtB:∀ j,j<nb->((lp.drop<|sa+na).take nb).getD j 0=lp.getD (sa+na+j) 0:=fun j hj=>by simp[List.getD,getElem?_take,getElem?_drop,hj]
 have eW:(lp.drop sa).take na++(lp.drop<|sa+na).take nb=(lp.drop sa).take (na+nb):=by rw[<- drop_drop,gD]
 have II:lp.take sa++(lp.drop sa).take (na+nb)++lp.drop (sa+(na+nb))=lp:=by rw[gD,take_append_drop]
 have gA:∀ i j,sa<=i->i<=j->j<sa+na->key (lp.getD i 0)<=key (lp.getD j 0):=fun i j a b c=>by
  have:=fP sA (i:=i - sa) (j:=j - sa) (by lia) (by lia)
  rwa [Kt _ (by lia),Kt _ (by lia),show sa+(i - sa)=i by lia,show sa+(j - sa)=j by lia] at this
 have gB:∀ i j,sa+na<=i->i<=j->j<sa+na+nb->key (lp.getD i 0)<=key (lp.getD j 0):=fun i j a b c=>by
  have:=fP sB (i:=i - (sa+na)) (j:=j - (sa+na)) (by lia) (by lia)
  rwa [gtB _ (by lia),gtB _ (by lia),show sa+na+(i - (sa+na))=i by lia,show sa+na+(j - (sa+na))=j by lia] at this
 have mA:∀ x∈(lp.drop sa).take na,∃ j,sa<=j/\j<sa+na/\x=lp.getD j 0:=fun x hx=>by
  obtain⟨j,j0,j1,rfl⟩:=fO hx;exact⟨sa+j,by lia,by lia,rfl⟩
 have mB:∀ x∈(lp.drop<|sa+na).take nb,∃ j,sa+na<=j/\j<sa+na+nb/\x=lp.getD j 0:=fun x hx=>by
  obtain⟨j,j0,j1,rfl⟩:=fO hx;exact⟨sa+na+j,by lia,by lia,rfl⟩
 unfold mergeAt';with_unfolding_all refine kasC_bind (kasC_get ?_);simp only[hi,hj,Ny];refine kasC_bind (yg ?_);refine kasC_bind (aX (show sa+na<lp.length by lia) ?_);refine kasC_bind (l7 hc (cK Jd (show sa+na<lp.length by lia)) Jd (base:=sa) (m:=na) (hint:=0) (by lia) ha gA (by exact o_) ?_);intro k Mt lo1 Kq;dsimp only;by_cases c1:na - k=0
 ·rw[if_pos (by simpa using c1)];refine kasC_pure (h _ _ (by exact o_) (by exact hf) rfl (List.Perm.refl _) ?_ ?_)
  ·rw[<- eW];refine br.mpr ⟨sA,sB,fun x hx y hy=>?_⟩;obtain⟨j,j1,j2,rfl⟩:=mA x hx;obtain⟨j',j3,j4,rfl⟩:=mB y hy;have:=lo1 j j1 (by lia);have:=gB (sa+na) j' (by lia) j3 j4;lia
  ·rw[II]
 rw[if_neg (by simpa using c1)];rw[show sa+k+(na - k) - 1=sa+na - 1 by lia];refine kasC_bind (aX (show sa+na - 1<lp.length by lia) ?_);refine kasC_bind (iH hc (cK Jd (show sa+na - 1<lp.length by lia)) Jd (base:=sa+na) (m:=nb) (hint:=nb - 1) (by lia) (by lia) gB (by exact o_) ?_);intro E2 Gc HI ET;dsimp only;by_cases c2:E2=0
 ·rw[if_pos (by simpa using c2)];refine kasC_pure (h _ _ (by exact o_) (by exact hf) rfl (List.Perm.refl _) ?_ ?_)
  ·rw[<- eW];refine br.mpr ⟨sA,sB,fun x hx y hy=>?_⟩;obtain⟨j,j1,j2,rfl⟩:=mA x hx;obtain⟨j',j3,j4,rfl⟩:=mB y hy;have:=ET j' (by lia) j4;have:=gA j (sa+na - 1) j1 (by lia) (by lia);lia
  ·rw[II]
 rw[if_neg (by simpa using c2)];have eX:(lp.map<|kas_item it).toArray.extract (sa+k) (sa+na)=((((lp.drop sa).take na).drop k).map<|kas_item it).toArray:=by
  apply ext';simp only[List.extract_toArray,List.extract_eq_drop_take,map_drop,map_take];rw[drop_take,drop_drop,show sa+na - (sa+k)=na - k by lia]
 have eY:(lp.map<|kas_item it).toArray.extract (sa+na) (sa+na+E2)=((((lp.drop<|sa+na).take nb).take E2).map<|kas_item it).toArray:=by
  apply ext';simp only[List.extract_toArray,List.extract_eq_drop_take,map_drop,map_take];rw[take_take,min_eq_left Gc,show sa+na+E2 - (sa+na)=E2 by lia]
 rw[eX,eY];have h1:∀ x∈((lp.drop sa).take na).take k,key x<=key (((lp.drop<|sa+na).take nb).getD 0 0):=fun x hx=>by
  rw[gtB 0 hb];obtain⟨j,j0,j1,rfl⟩:=cN hx;rw[Kt j (by lia)];exact lo1 _ (by lia) (by lia)
 have h4:∀ x∈((lp.drop<|sa+na).take nb).drop E2,key (((lp.drop sa).take na).getD (((lp.drop sa).take na).length - 1) 0)<=key x:=fun x hx=>by
  rw[lA,Kt _ (by lia)];obtain⟨j,j0,j1,rfl⟩:=cn hx;rw[gtB j (by lia),show sa+(na - 1)=sa+na - 1 by lia];exact ET _ (by lia) (by lia)
 have f1:∀ x∈((lp.drop sa).take na).drop k,key ((((lp.drop<|sa+na).take nb).take E2).getD 0 0)<=key x:=fun x hx=>by
  rw[show (((lp.drop<|sa+na).take nb).take E2).getD 0 0=((lp.drop<|sa+na).take nb).getD 0 0 by simp only[List.getD,getElem?_take,if_pos (show 0<E2 by lia)],gtB 0 hb];obtain⟨j,j0,j1,rfl⟩:=cn hx;rw[Kt j (by lia)];have:=Kq (sa+j) (by lia) (by lia);rw[Nat.add_zero];lia
 have l2:(((lp.drop sa).take na).drop k).length=na - k:=by rw[length_drop,lA]
 have l3:(((lp.drop<|sa+na).take nb).take E2).length=E2:=by rw[length_take,lB];lia
 have f2:∀ x∈((lp.drop<|sa+na).take nb).take E2,key x<=key ((((lp.drop sa).take na).drop k).getD ((((lp.drop sa).take na).drop k).length - 1) 0):=fun x hx=>by
  rw[l2,show (((lp.drop sa).take na).drop k).getD (na - k - 1) 0=((lp.drop sa).take na).getD (na - 1) 0 by simp only[List.getD,getElem?_drop,show k+(na - k - 1)=na - 1 by lia],Kt _ (by lia),show sa+(na - 1)=sa+na - 1 by lia];obtain⟨j,j0,j1,rfl⟩:=cN hx;rw[gtB j (by lia)];have:=HI (sa+na+j) (by lia) (by lia);lia
 have u1:∀ x∈((lp.drop sa).take na).drop k,x<n:=fun x hx=>Jd x (mem_of_mem_drop<|mem_of_mem_take<|mem_of_mem_drop hx);have u2:∀ x∈((lp.drop<|sa+na).take nb).take E2,x<n:=fun x hx=>Jd x (mem_of_mem_drop<|mem_of_mem_take<|mem_of_mem_take hx);by_cases c3:na - k<=E2
 ·rw[if_pos c3];refine kasC_bind (yd hc u1 u2 (sA.sublist<|drop_sublist _ _) (sB.sublist<|take_sublist _ _) (by lia) (by lia) f1 f2 (by exact o_) ?_);intro out f_ hM IJ;obtain⟨po,rfl,Gi,JV⟩:=hM;have HJ:=pT (key:=key) sA sB (by lia) (by lia) h1 h4 Gi JV;refine kasC_bind (kasC_modify ?_);refine kasC_bind (kasC_get ?_);refine kasC_pure ?_;have e:failedOf f_=none:=IJ.f.trans hf;show Q (failedOf f_).isNone _ s;rw[e];refine h (((lp.drop sa).take na).take k++po++((lp.drop<|sa+na).take nb).drop E2) _ (IJ.k.trans o_) (by first | rfl | exact e) (by exact IJ.p) (by rw[<- eW];exact HJ.2) HJ.1 ?_;have ea:arrOf f_=(lp.map<|kas_item it).toArray:=IJ.a;have pl:po.length=na - k+E2:=by rw[Gi.length_eq,length_append,l2,l3]
  have Nz:=ma (po.map<|kas_item it) (lp.map<|kas_item it) (sa+k) 0 (sa+k) (by rw[length_map,length_map,pl];lia) rfl;show List.foldl (fun a x=>a.setIfInBounds (sa+k+x.2) x.1) (arrOf f_) (po.map<|kas_item it).toArray.toList.zipIdx=_;rw[ea];refine Nz.trans ?_;rw[length_map,pl,<- map_take,<- map_drop,<- map_append,<- map_append];congr 2;have q1:lp.take (sa+k)=lp.take sa++((lp.drop sa).take na).take k:=by
   rw[take_take,min_eq_left Mt,gD]
  have q2:lp.drop (sa+k+(na - k+E2))=((lp.drop<|sa+na).take nb).drop E2++lp.drop (sa+(na+nb)):=by
   have:=l8 (l:=lp.drop (sa+na)) (i:=E2) (j:=nb) Gc (by rw[length_drop];lia);rw[drop_drop,drop_drop] at this;rw[show sa+k+(na - k+E2)=sa+na+E2 by lia,this,show sa+na+nb=sa+(na+nb) by lia]
  rw[q1,q2];simp only[List.append_assoc]
 ·rw[if_neg c3];refine kasC_bind (yf hc u1 u2 (sA.sublist<|drop_sublist _ _) (sB.sublist<|take_sublist _ _) (by lia) (by lia) f1 f2 (by exact o_) ?_);intro out f_ hM IJ;obtain⟨po,rfl,Gi,JV⟩:=hM;have HJ:=pT (key:=key) sA sB (by lia) (by lia) h1 h4 Gi JV;refine kasC_bind (kasC_modify ?_);refine kasC_bind (kasC_get ?_);refine kasC_pure ?_;have e:failedOf f_=none:=IJ.f.trans hf;show Q (failedOf f_).isNone _ s;rw[e];refine h (((lp.drop sa).take na).take k++po++((lp.drop<|sa+na).take nb).drop E2) _ (IJ.k.trans o_) (by first | rfl | exact e) (by exact IJ.p) (by rw[<- eW];exact HJ.2) HJ.1 ?_;have ea:arrOf f_=(lp.map<|kas_item it).toArray:=IJ.a;have pl:po.length=na - k+E2:=by rw[Gi.length_eq,length_append,l2,l3]
  have Nz:=ma (po.map<|kas_item it) (lp.map<|kas_item it) (sa+k) 0 (sa+k) (by rw[length_map,length_map,pl];lia) rfl;show List.foldl (fun a x=>a.setIfInBounds (sa+k+x.2) x.1) (arrOf f_) (po.map<|kas_item it).toArray.toList.zipIdx=_;rw[ea];refine Nz.trans ?_;rw[length_map,pl,<- map_take,<- map_drop,<- map_append,<- map_append];congr 2;have q1:lp.take (sa+k)=lp.take sa++((lp.drop sa).take na).take k:=by
   rw[take_take,min_eq_left Mt,gD]
  have q2:lp.drop (sa+k+(na - k+E2))=((lp.drop<|sa+na).take nb).drop E2++lp.drop (sa+(na+nb)):=by
   have:=l8 (l:=lp.drop (sa+na)) (i:=E2) (j:=nb) Gc (by rw[length_drop];lia);rw[drop_drop,drop_drop] at this;rw[show sa+k+(na - k+E2)=sa+na+E2 by lia,this,show sa+na+nb=sa+(na+nb) by lia]
  rw[q1,q2];simp only[List.append_assoc]
end
section
variable{prog:Program}{w:World}{A:Around}{E:Value->Shared->Prop}{κ:SortKind}{it:Array Keyed}{key:Nat->Int}{n:Nat}{s:Shared}{pend:Array (Nat×Nat×Nat)}
structure Hd(κ:SortKind)(it:Array Keyed)(pend:Array (Nat×Nat×Nat))(st:SortSt)(p:Array Nat):Prop where
 k:PyProof.Rows.kindOf st=κ
 a:arrOf st=p.map (kas_item it)
 p:pendingOf st=pend
 f:failedOf st=none
theorem iK(hc:cl n key (kas_cmp prog w A κ it) s){p:Array Nat}(hp:Rg n p){i j:Nat}(hi:i<n)(hj:j<n){st:SortSt}(H:Hd κ it pend st p){Q:Option Bool->SortSt->Shared->Prop}(h:Q (some<|decide (y_ key p i<y_ key p j)) st s):
  kasC (model prog w) A E (ltAt' i j) Q st s:=by
 have el:∀ i,i<n->(p.map<|kas_item it)[i]?=some (kas_item it<|p.getD i 0):=fun i hi=>by
  have:i<p.size:=by rw[hp.size];exact hi
  simp[Array.getD,this]
 rw[ltAt'_eq];refine kasC_bind (kasC_get ?_);rw[H.a];dsimp only;rw[elem'_eq,elem'_eq,el i hi,el j hj];refine kasC_bind (kasC_pure ?_);refine kasC_bind (kasC_pure ?_);exact iF hc (hp.lt hi) (hp.lt hj) H.k h
variable{p:Array Nat}{st:SortSt}
theorem yi(H:Hd κ it pend st p){i j:Nat}{Q:Unit->SortSt->Shared->Prop}(h:∀ f_,Hd κ it pend f_ (kas_rev p i j)->Q () f_ s):kasC (model prog w) A E (reverseSlice' i j) Q st s:=by
 rw[reverseSlice'_eq];refine kasC_modify (h _ ⟨H.k,?_,H.p,H.f⟩);show mirror (arrOf st) i j ((j - i) / 2)=_;rw[H.a];exact kas_swaps_map (kas_item it) (fun k=>i+k) (fun k=>j - 1 - k) _ p
theorem yj(H:Hd κ it pend st p){i j:Nat}{Q:Unit->SortSt->Shared->Prop}(h:∀ f_,Hd κ it pend f_ (bubble p i<|i - j)->Q () f_ s):kasC (model prog w) A E (moveDown' i j) Q st s:=by
 rw[moveDown'_eq];refine kasC_modify (h _ ⟨H.k,?_,H.p,H.f⟩);show bubble (arrOf st) i (i - j)=_;rw[H.a];exact kas_swaps_map (kas_item it) (fun k=>i - k) (fun k=>i - k - 1) _ p
theorem iL{σ β:Type}{M:Model}{f:Nat->β->StateT σ Sem (ForInStep β)}{Q:β->σ->Shared->Prop}(I:Nat->β->σ->Shared->Prop)(B:Nat)(step:∀ x c st s',x<B->I x c st s'->kasC M A E (f x c) (fun r q_ s2=>match r with | .yield c'=>I (x+1) c' q_ s2 | .done c'=>Q c' q_ s2) st s'):∀ (m a:Nat) (c:β) (st:σ) (s':Shared),a+m<=B->(∀ c st s',I (a+m) c st s'->Q c st s')->I a c st s'->
   kasC M A E (forIn (range' a m) c f) Q st s'
 | 0,a,c,st,s',hB,fin,h=>by
  show kasC M A E (forIn ([]:List Nat) c f) Q st s';exact kasC_nil (fin c st s' h)
 | m+1,a,c,st,s',hB,fin,h=>by
  show kasC M A E (forIn (a::range' (a+1) m) c f) Q st s';refine kasC_cons (wpAny_mono (step a c st s' (by lia) h) (fun r s2 h'=>?_) fun _ _ e=>e);obtain⟨r,q_⟩:=r;cases r with
  | done c'=>exact h'
  | yield c'=>exact iL I B step m (a+1) c' q_ s2 (by lia) (fun c st s' hi=>fin c st s' (by rw[show a+(m+1)=a+1+m by lia];exact hi)) h'
theorem yk(hc:cl n key (kas_cmp prog w A κ it) s)(inj:∀ i j,i<n->j<n->key i=key j->i=j){p:Array Nat}(hp:Rg n p){lo Ev:Nat}(h1:1<=Ev)(hz:lo+Ev<=n){st:SortSt}(H:Hd κ it pend st p){Q:Option Nat->SortSt->Shared->Prop}(h:∀ m p' f_,1<=m->m<=Ev->Rg n p'->Hd κ it pend f_ p'->(∀ i,i<lo->p'[i]?=p[i]?)->(∀ j,lo+1<=j->j<lo+m->y_ key p' (j - 1)<=y_ key p' j)->Q (some m) f_ s):
  kasC (model prog w) A E (countRun' lo Ev) Q st s:=by
 unfold countRun';have asc:∀ (q:Array Nat) (s_:SortSt) (a:Nat),Rg n q->Hd κ it pend s_ q->1<=a->a<=Ev->(∀ j,lo+1<=j->j<lo+a->y_ key q (j - 1)<=y_ key q j)->
   kasC (model prog w) A E (forIn [a:Ev] ((none:Option (Option Nat)),a) fun x c=>do
    let r <- ltAt' (lo+c.2) (lo+c.2 - 1)
    match r with
    | some IK=>if IK=true then pure (ForInStep.done (none,c.2)) else pure (ForInStep.yield (none,c.2+1))
    | x=>pure<|ForInStep.done (some none,c.2))
    (fun c f_ s'=>s=s'/\s_=f_/\∃ m,c=(none,m)/\a<=m/\m<=Ev/\(∀ j,lo+1<=j->j<lo+m->y_ key q (j - 1)<=y_ key q j)/\(m=Ev\/y_ key q (lo+m)<y_ key q (lo+m - 1))) s_ s:=fun q s_ a hq H1 a1 a2 a3=>by
  refine kasC_range (iL (fun x c f_ s'=>s=s'/\s_=f_/\c=(none,x)/\a<=x/\∀ j,lo+1<=j->j<lo+x->y_ key q (j - 1)<=y_ key q j) Ev ?_ _ _ _ _ _ (by lia) ?_ ⟨rfl,rfl,rfl,Nat.le_refl _,a3⟩)
  ·rintro x c f_ s' hx ⟨rfl,rfl,rfl,x1,x2⟩;dsimp only;refine kasC_bind (iK hc hq (by lia) (by lia) H1 ?_);dsimp only;by_cases hk:y_ key q (lo+x)<y_ key q (lo+x - 1)
   ·rw[if_pos (by simpa using hk)];exact kasC_pure ⟨rfl,rfl,x,rfl,x1,by lia,x2,.inr hk⟩
   ·rw[if_neg (by simpa using hk)];refine kasC_pure ⟨rfl,rfl,rfl,by lia,fun j j1 j2=>?_⟩;by_cases e:j=lo+x
    ·subst e;lia
    ·exact x2 j j1 (by lia)
  ·rintro c f_ s' ⟨rfl,rfl,rfl,x1,x2⟩;rw[show a+(Ev - a)=Ev by lia] at x2 ⊢;exact⟨rfl,rfl,Ev,rfl,by lia,Nat.le_refl _,x2,.inl rfl⟩
 with_unfolding_all refine kasC_bind (cq (asc p st 1 hp H (Nat.le_refl _) h1 fun j a b=>by lia) ?_);rintro c f_ s' ⟨rfl,rfl,m,rfl,m1,m2,m3,m4⟩;dsimp only;by_cases e:m=Ev
 ·rw[if_pos (by simpa using e)];exact kasC_pure (h m p _ m1 m2 hp H (fun _ _=>rfl) m3)
 rw[if_neg (by simpa using e)];have NA:y_ key p (lo+m)<y_ key p (lo+m - 1):=m4.resolve_left e;by_cases e1:m > 1
 ·rw[if_pos e1];refine kasC_bind (iK hc hp (by lia) (by lia) H ?_);dsimp only;have:∀ d,1<=d->d<m->y_ key p lo<y_ key p (lo+d):=fun d=>by
   induction d with
   | zero=>intro x;lia
   | succ d ih=>
    intro _ hd;have a:=m3 (lo+(d+1)) (by lia) (by lia);rw[show lo+(d+1) - 1=lo+d by lia] at a;have b:=hp.ne inj (show lo+d<lo+(d+1) by lia) (by lia);by_cases z:d=0
    ·subst z;rw[Nat.add_zero] at a b;lia
    ·have:=ih (by lia) (by lia);lia
  have hr:=this (m - 1) (by lia) (by lia);rw[show lo+(m - 1)=lo+m - 1 by lia] at hr;rw[if_pos (by simpa using hr)];exact kasC_pure (h m p _ m1 m2 hp H (fun _ _=>rfl) m3)
 rw[if_neg e1];obtain rfl:m=1:=by lia
 refine kasC_bind (kasC_lift<|wpAny_rule ?_);refine kasC_bind (cq (Q':=fun c f_ s'=>s=s'/\st=f_/\∃ m,c=(none,m,0)/\2<=m/\m<=Ev/\∀ j,lo+1<=j->j<lo+m->y_ key p j<y_ key p (j - 1))
  (kasC_range (iL (fun x c f_ s'=>s=s'/\st=f_/\c=(none,x,0)/\2<=x/\∀ j,lo+1<=j->j<lo+x->y_ key p j<y_ key p (j - 1)) Ev ?d1 _ _ _ _ _ (by lia) ?d2 ⟨rfl,rfl,rfl,Nat.le_refl _,fun j j1 j2=>by
   obtain rfl:j=lo+1:=by lia
   exact NA⟩)) ?d3)
 case d1=>
  rintro x c f_ s' hx ⟨rfl,rfl,rfl,x1,x2⟩;dsimp only;refine kasC_bind (iK hc hp (by lia) (by lia) H ?_);dsimp only;by_cases hk:y_ key p (lo+x)<y_ key p (lo+x - 1)
  ·rw[if_pos (by simpa using hk),if_neg (by lia)];refine kasC_pure ⟨rfl,rfl,rfl,by lia,fun j j1 j2=>?_⟩;by_cases e:j=lo+x
   ·subst e;exact hk
   ·exact x2 j j1 (by lia)
  ·rw[if_neg (by simpa using hk)];refine kasC_bind (iK hc hp (by lia) (by lia) H ?_);dsimp only;have b:=hp.ne inj (show lo+x - 1<lo+x by lia) (by lia);rw[if_pos (by rw[decide_eq_true_eq];lia)];exact kasC_pure ⟨rfl,rfl,x,rfl,x1,by lia,x2⟩
 case d2=>
  rintro c f_ s' ⟨rfl,rfl,rfl,x1,x2⟩;rw[show 1+1+(Ev - (1+1))=Ev by lia] at x2 ⊢;exact⟨rfl,rfl,Ev,rfl,by lia,Nat.le_refl _,x2⟩
 case d3=>
  rintro c f_ s' ⟨rfl,rfl,k,rfl,k1,k2,k3⟩;dsimp only;rw[if_neg (by lia)];refine kasC_bind (yi H ?_);intro q_ H2;have IF:=hp.rev lo (lo+k);have g:∀ i,(kas_rev p lo<|lo+k)[i]?=if lo<=i/\i<lo+k then p[lo+(lo+k) - 1 - i]? else p[i]?:=fun i=>by
   unfold kas_rev;rw[getElem?_mirror_all (by rw[hp.size];lia)]
  have ky:∀ i,lo<=i->i<lo+k->y_ key (kas_rev p lo<|lo+k) i=y_ key p (lo+(lo+k) - 1 - i):=fun i a b=>gC (by rw[g,if_pos ⟨a,b⟩]);refine kasC_bind (cq (asc (kas_rev p lo<|lo+k) q_ k IF H2 (by lia) k2 fun j j1 j2=>?_) ?_)
  ·rw[ky _ (by lia) (by lia),ky _ (by lia) (by lia)];have:=k3 (lo+(lo+k) - 1 - (j - 1)) (by lia) (by lia);rw[show lo+(lo+k) - 1 - (j - 1) - 1=lo+(lo+k) - 1 - j by lia] at this;lia
  ·rintro c f_ s' ⟨rfl,rfl,m',rfl,q1,q2,q3,q4⟩;dsimp only;exact kasC_pure (h m' _ _ (by lia) q2 IF H2 (fun i hi=>by rw[g,if_neg (by lia)]) q3)
end
section
variable{prog:Program}{w:World}{A:Around}{E:Value->Shared->Prop}{κ:SortKind}{it:Array Keyed}{key:Nat->Int}{n:Nat}{s:Shared}{pend:Array (Nat×Nat×Nat)}
def cz(key:Nat->Int)(p:Array Nat)(lo m:Nat):Prop:=∀ i j,lo<=i->i<=j->j<lo+m->y_ key p i<=y_ key p j
theorem pU{p:Array Nat}{lo m:Nat}(h:∀ j,lo+1<=j->j<lo+m->y_ key p (j - 1)<=y_ key p j):cz key p lo m:=by
 intro i j hi Fq hj;obtain⟨d,rfl⟩:∃ d,j=i+d:=⟨j - i,by lia⟩;clear Fq;induction d with
 | zero=>exact Int.le_refl _
 | succ d ih=>
  have a:=ih (by lia);have b:=h (i+(d+1)) (by lia) hj;rw[show i+(d+1) - 1=i+d by lia] at b;lia
theorem yl(hc:cl n key (kas_cmp prog w A κ it) s){p:Array Nat}(hp:Rg n p){lo m Je:Nat}(hz:lo+m<=n)(h1:1<=Je)(hm:Je<=m)(up:cz key p lo Je){st:SortSt}(H:Hd κ it pend st p){Q:Bool->SortSt->Shared->Prop}(h:∀ p' f_,Rg n p'->Hd κ it pend f_ p'->(∀ i,i<lo->p'[i]?=p[i]?)->cz key p' lo m->Q true f_ s):
  kasC (model prog w) A E (binarySort' lo m Je) Q st s:=by
 rw[binarySort'_eq];rw[show max Je 1=Je by lia];with_unfolding_all refine kasC_bind (cq (Q':=fun c f_ s'=>s=s'/\c=(none,())/\∃ q,Rg n q/\Hd κ it pend f_ q/\(∀ i,i<lo->q[i]?=p[i]?)/\cz key q lo m)
  (kasC_range (iL (fun x c f_ s'=>s=s'/\c=(none,())/\1<=x/\∃ q,Rg n q/\Hd κ it pend f_ q/\(∀ i,i<lo->q[i]?=p[i]?)/\cz key q lo x) m ?step _ _ _ _ _ (by lia) ?fin ⟨rfl,rfl,h1,p,hp,H,fun _ _=>rfl,up⟩)) ?after)
 case after=>
  rintro c f_ s' ⟨rfl,rfl,q,q1,q2,q3,q4⟩;exact kasC_pure (h q _ q1 q2 q3 q4)
 case fin=>
  rintro c f_ s' ⟨rfl,rfl,x1,q,q1,q2,q3,q4⟩;rw[show Je+(m - Je)=m by lia] at q4;exact⟨rfl,rfl,q,q1,q2,q3,q4⟩
 case step=>
  rintro k c f_ s' hk ⟨rfl,rfl,k1,q,hq,H',fr,up⟩;dsimp only;have L0:∀ i,lo<=i->i<lo+0->y_ key q i<=y_ key q (lo+k):=fun i a b=>by lia
  have R0:∀ i,lo+k<=i->i<lo+k->y_ key q (lo+k)<=y_ key q i:=fun i a b=>by lia
  refine kasC_bind (cq (Q':=fun c q_ s'=>s=s'/\f_=q_/\∃ l r,c=(none,l,r)/\l<=k/\(∀ i,lo<=i->i<lo+l->y_ key q i<=y_ key q (lo+k))/\(∀ i,lo+l<=i->i<lo+k->y_ key q (lo+k)<=y_ key q i))
   (kasC_range (iL (fun x c q_ s'=>s=s'/\f_=q_/\∃ l r,c=(none,l,r)/\l<=r/\r<=k/\r - l<=k - x/\(∀ i,lo<=i->i<lo+l->y_ key q i<=y_ key q (lo+k))/\(∀ i,lo+r<=i->i<lo+k->y_ key q (lo+k)<=y_ key q i)) k ?s2 _ _ _ _ _ (by lia) ?f2 ⟨rfl,rfl,0,k,rfl,by lia,by lia,by lia,L0,R0⟩)) ?a2)
  case f2=>
   rintro c q_ s' ⟨rfl,rfl,l,r,rfl,b1,b2,b3,b4,b5⟩;exact⟨rfl,rfl,l,r,rfl,by lia,b4,fun i x y=>b5 i (by lia) y⟩
  case s2=>
   rintro x c q_ s' hx ⟨rfl,rfl,l,r,rfl,b1,b2,b3,b4,b5⟩;dsimp only;by_cases e:l >= r
   ·rw[if_pos e];exact kasC_pure ⟨rfl,rfl,l,r,rfl,by lia,b4,fun i x y=>b5 i (by lia) y⟩
   rw[if_neg e];have m1:l<=(l+r) / 2:=by lia
   have m2:(l+r) / 2<r:=by lia
   have m3:(l+r) / 2 - l<=k - (x+1):=by lia
   have m4:r - ((l+r) / 2+1)<=k - (x+1):=by lia
   generalize (l+r) / 2=mid at m1 m2 m3 m4 ⊢;refine kasC_bind (iK hc hq (by lia) (by lia) H' ?_);dsimp only;by_cases Gc:y_ key q (lo+k)<y_ key q (lo+mid)
   ·rw[if_pos (by simpa using Gc)];refine kasC_pure ⟨rfl,rfl,l,mid,rfl,m1,by lia,m3,b4,fun i x y=>?_⟩;have:=up (lo+mid) i (by lia) x y;lia
   ·rw[if_neg (by simpa using Gc)];refine kasC_pure ⟨rfl,rfl,mid+1,r,rfl,by lia,b2,m4,fun i x y=>?_,b5⟩;have:=up i (lo+mid) x (by lia) (by lia);lia
  case a2=>
   rintro c q_ s' ⟨rfl,rfl,l,r,rfl,b1,b4,b5⟩;dsimp only;refine kasC_bind (yj H' ?_);intro E6 H3;have g:∀ i,(bubble q (lo+k)<|lo+k - (lo+l))[i]?=if i=lo+l then q[lo+k]? else if lo+l<i/\i<=lo+k then q[i - 1]? else q[i]?:=fun i=>by
    have:=getElem?_bubble (xs:=q) (src:=lo+k) (by rw[hq.size];lia) (lo+k - (lo+l)) (by lia) i
    rwa [show lo+k - (lo+k - (lo+l))=lo+l by lia] at this
   have ky:∀ i,y_ key (bubble q (lo+k)<|lo+k - (lo+l)) i=if i=lo+l then y_ key q (lo+k) else if lo+l<i/\i<=lo+k then y_ key q (i - 1) else y_ key q i:=fun i=>by
    have g:=g i;by_cases e:i=lo+l
    ·rw[if_pos e] at g ⊢;exact gC g
    ·rw[if_neg e] at g ⊢;by_cases e2:lo+l<i/\i<=lo+k
     ·rw[if_pos e2] at g ⊢;exact gC g
     ·rw[if_neg e2] at g ⊢;exact gC g
   refine kasC_pure ⟨rfl,rfl,by lia,_,hq.Qa _ _,H3,fun i hi=>by rw[g,if_neg (by lia),if_neg (by lia)];exact fr i hi,pU fun j x y=>?_⟩;rw[ky,ky];by_cases c1:j - 1=lo+l
   ·rw[if_pos c1,if_neg (by lia),if_pos (by lia)];exact b5 (j - 1) (by lia) (by lia)
   ·rw[if_neg c1];by_cases c2:j=lo+l
    ·rw[if_pos c2,if_neg (by lia)];exact b4 (j - 1) (by lia) (by lia)
    ·rw[if_neg c2];by_cases c3:lo+l<j - 1
     ·rw[if_pos (by lia),if_pos (by lia)];exact up _ _ (by lia) (by lia) (by lia)
     ·rw[if_neg (by lia),if_neg (by lia)];exact up _ _ (by lia) (by lia) (by lia)
end
section
variable{prog:Program}{w:World}{A:Around}{E:Value->Shared->Prop}{κ:SortKind}{it:Array Keyed}{key:Nat->Int}{n:Nat}{s:Shared}{pend:Array (Nat×Nat×Nat)}
def aS(key:Nat->Int)(p:Array Nat):Nat->List (Nat×Nat×Nat)->Nat->Prop
 | a,[],b=>a=b
 | a,(x,l,_)::t,b=>x=a/\0<l/\cz key p x l/\aS key p (a+l) t b
variable{p:Array Nat}
theorem aS.le:∀ {t:List (Nat×Nat×Nat)}{a b:Nat},aS key p a t b->a+t.length<=b
 | [],a,b,h=>by rw[show b=a from h.symm];exact Nat.le_refl _
 | (x,l,_)::t,a,b,h=>by
  have:=h.2.2.2.le;have:=h.2.1;rw[length_cons];lia
theorem aS.congr{q:Array Nat}:∀ {t:List (Nat×Nat×Nat)}{a b:Nat},aS key p a t b->(∀ i,a<=i->i<b->y_ key q i=y_ key p i)->aS key q a t b
 | [],a,b,h,_=>h
 | (x,l,_)::t,a,b,h,g=>by
  have:=h.2.2.2.le;obtain⟨rfl,h2,h3,h4⟩:=h;refine⟨rfl,h2,fun i j hi Fq hj=>?_,h4.congr fun i a b=>g i (by lia) b⟩;rw[g i hi (by lia),g j (by lia) (by lia)];exact h3 i j hi Fq hj
theorem aS.app{p:Array Nat}:∀ {t u:List (Nat×Nat×Nat)}{a b:Nat},aS key p a (t++u) b↔∃ c,aS key p a t c/\aS key p c u b
 | [],u,a,b=>⟨fun h=>⟨a,rfl,h⟩,fun ⟨c,e,h⟩=>by rw[show a=c from e];exact h⟩
 | (x,l,z)::t,u,a,b=>by
  show (x=a/\0<l/\cz key p x l/\aS key p (a+l) (t++u) b)↔_;rw[aS.app];constructor
  ·rintro⟨h1,h2,h3,c,h4,h5⟩;exact⟨c,⟨h1,h2,h3,h4⟩,h5⟩
  ·rintro⟨c,⟨h1,h2,h3,h4⟩,h5⟩;exact⟨h1,h2,h3,c,h4,h5⟩
theorem ym{α:Type}{l:List α}{i:Nat}(h:i+1<l.length):∃ l1 x y l2,l=l1++x::y::l2/\l1.length=i:=by
 refine⟨l.take i,l[i]'(by lia),l[i+1],l.drop<|i+2,?_,by rw[length_take];lia⟩;have e1:=drop_eq_getElem_cons (l:=l) (i:=i) (by lia);have e2:=drop_eq_getElem_cons (l:=l) (i:=i+1) h;rw[<- e2,<- e1,take_append_drop]
theorem Mu(l:List Nat)(i:Nat):y_ key l.toArray i=key (l.getD i 0):=by unfold y_;rw[dZ]
theorem md(hc:cl n key (kas_cmp prog w A κ it) s){p:Array Nat}(hp:Rg n p){st:SortSt}(H:Hd κ it pend st p){lo i:Nat}(hi:i+1<pend.size)(R:aS key p 0 pend.toList lo)(P1:lo<=n){Q:Bool->SortSt->Shared->Prop}(h:∀ EY p' f_,Rg n p'->Hd κ it EY f_ p'->EY.size+1=pend.size->aS key p' 0 EY.toList lo->(∀ i,lo<=i->y_ key p' i=y_ key p i)->Q true f_ s):kasC (model prog w) A E (mergeAt' i) Q st s:=by
 obtain⟨l1,⟨sa,na,pw⟩,⟨sb,nb,pw2⟩,l2,e,rfl⟩:=ym (l:=pend.toList) (i:=i) (by simpa using hi);rw[e] at R;obtain⟨c,R1,rfl,Qh,A1,rfl,Qi,A2,R2⟩:=aS.app.mp R;have b2:=R2.le;have pe:pend=(l1++(sa,na,pw)::(sa+na,nb,pw2)::l2).toArray:=by rw[<- e]
 have Qj:p.size=n:=hp.size;have Qk:∀ x∈p.toList,x<n:=fun x hx=>mem_range.mp (hp.mem_iff.mp hx);have gk:∀ i,y_ key p i=key (p.toList.getD i 0):=fun i=>Mu p.toList i;have pl:p.toList.length=n:=by rw[length_toList,Qj]
 have Jf:∀ a m,a+m<=n->cz key p a m->Ec key ((p.toList.drop a).take m):=fun a m hz h=>by
  refine pairwise_iff_getElem.mpr fun i j hi hj Fq=>?_;have Fg:=hi;have Jg:=hj;rw[length_take,length_drop,pl] at Fg Jg;have:=h (a+i) (a+j) (by lia) (by lia) (by lia);rw[gk,gk] at this;rw[getElem_take,getElem_drop,getElem_take,getElem_drop];rw[getD_eq_getElem?_getD,getD_eq_getElem?_getD,List.getElem?_eq_getElem (by lia),List.getElem?_eq_getElem (by lia)] at this;exact this
 refine yh hc (lp:=p.toList) Qk (i:=l1.length) (sa:=sa) (na:=na) (nb:=nb) (pw:=pw) (pw2:=pw2) H.k (by rw[H.a];apply ext';simp) H.f (by rw[H.p,pe];simp) (by rw[H.p,pe];simp) Qh Qi (by lia) (Jf _ _ (by lia) A1) (Jf _ _ (by lia) A2) ?_;intro mid f_ k1 f1 p1 m1 m2 a1;have ml:mid.length=na+nb:=by rw[m1.length_eq,length_take,length_drop,pl];lia
 have II:p.toList.take sa++(p.toList.drop sa).take (na+nb)++p.toList.drop (sa+(na+nb))=p.toList:=by rw[gD,take_append_drop]
 have IF:Rg n (p.toList.take sa++mid++p.toList.drop (sa+(na+nb))).toArray:=by
  show (p.toList.take sa++mid++p.toList.drop (sa+(na+nb))).Perm (range n);refine List.Perm.trans (List.Perm.append_right _<|List.Perm.append_left _ m1) ?_;rw[II];exact hp
 have tl:(p.toList.take sa).length=sa:=by rw[length_take,pl];lia
 have Ql:∀ i,i<sa->y_ key (p.toList.take sa++mid++p.toList.drop (sa+(na+nb))).toArray i=y_ key p i:=fun i hi=>by
  rw[Mu,gk];congr 1;rw[getD_eq_getElem?_getD,getD_eq_getElem?_getD,List.append_assoc,getElem?_append_left (by lia),getElem?_take,if_pos hi]
 have O2:∀ i,sa+(na+nb)<=i->y_ key (p.toList.take sa++mid++p.toList.drop (sa+(na+nb))).toArray i=y_ key p i:=fun i hi=>by
  rw[Mu,gk];congr 1;rw[getD_eq_getElem?_getD,getD_eq_getElem?_getD,getElem?_append_right (by rw[length_append];lia),getElem?_drop,length_append,tl,ml];congr 2;lia
 have O3:∀ i,sa<=i->i<sa+(na+nb)->y_ key (p.toList.take sa++mid++p.toList.drop (sa+(na+nb))).toArray i=key (mid.getD (i - sa) 0):=fun i h1 h2=>by
  rw[Mu];congr 1;rw[getD_eq_getElem?_getD,getD_eq_getElem?_getD,List.append_assoc,getElem?_append_right (by lia),tl,getElem?_append_left (by lia)]
 have Qm:((l1++(sa,na,pw)::(sa+na,nb,pw2)::l2).toArray.setIfInBounds l1.length (sa,na+nb,pw)).eraseIdxIfInBounds (l1.length+1)=(l1++(sa,na+nb,pw)::l2).toArray:=by
  rw[List.setIfInBounds_toArray,List.set_append_right _ _<|Nat.le_refl _,Nat.sub_self,List.set_cons_zero];rw[List.eraseIdxIfInBounds_toArray,List.eraseIdx_append_of_length_le (by lia),show l1.length+1 - l1.length=1 by lia];rfl
 refine h ((l1++(sa,na+nb,pw)::l2).toArray) _ f_ IF ⟨k1,by rw[a1];apply ext';simp,by rw[p1,H.p,pe,Qm],f1⟩ (by rw[pe];simp;lia) ?_ (fun i hi=>O2 i (by lia));have Qn:aS key p (sa+(na+nb)) l2 lo:=by rw[<- add_assoc];exact R2
 refine aS.app.mpr ⟨sa,R1.congr fun i _ b=>Ql i b,rfl,by lia,fun i j h1 h2 h3=>?_,Qn.congr fun i a b=>O2 i a⟩
 ·rw[O3 i h1 (by lia),O3 j (by lia) h3];exact fP m2 (by lia) (by lia)
end
section
variable{prog:Program}{w:World}{A:Around}{E:Value->Shared->Prop}{κ:SortKind}{it:Array Keyed}{key:Nat->Int}{n:Nat}{s:Shared}{pend:Array (Nat×Nat×Nat)}
variable{p:Array Nat}
theorem aS.same:∀ {t u:List (Nat×Nat×Nat)}{a b:Nat},aS key p a t b->(t.map fun x=>(x.1,x.2.1))=(u.map fun x=>(x.1,x.2.1))->aS key p a u b
 | [],[],a,b,h,_=>h
 | [],_::_,a,b,h,e=>by cases e
 | _::_,[],a,b,h,e=>by cases e
 | (x,l,z)::t,(x',l',z')::u,a,b,h,e=>by
  rw[map_cons,map_cons] at e;injection e with e1 e2;injection e1 with e3 e4;dsimp only at e3 e4;subst e3;subst e4;exact⟨h.1,h.2.1,h.2.2.1,h.2.2.2.same e2⟩
theorem pV(xs:Array (Nat×Nat×Nat))(i z:Nat):(xs.toList.map fun x=>(x.1,x.2.1))=((xs.modify i fun x=>(x.1,x.2.1,z)).toList.map fun x=>(x.1,x.2.1)):=by
 apply ext_getElem?;intro j;rw[List.getElem?_map,List.getElem?_map,getElem?_toList,getElem?_toList,Array.getElem?_modify];split
 ·rw[Option.map_map];rfl
 ·rfl
theorem cz.congr{q:Array Nat}{lo m:Nat}(h:cz key p lo m)(g:∀ i,lo<=i->y_ key q i=y_ key p i):cz key q lo m:=fun i j a b c=>by
 rw[g i a,g j (by lia)];exact h i j a b c
variable{Q:Unit->SortSt->Shared->Prop}
theorem yn(hc:cl n key (kas_cmp prog w A κ it) s)(inj:∀ i j,i<n->j<n->key i=key j->i=j)(h2:2<=n)(hG:∀ p' f_,Rg n p'->Up key p' n->arrOf f_=p'.map (kas_item it)->failedOf f_=none->Q () f_ s):kasC (model prog w) A E sortRuns' Q (kas_st κ it (range n).toArray) s:=by
 rw[sortRuns'_eq];refine kasC_bind (kasC_get ?_);dsimp only;have hsz:(arrOf<|kas_st κ it (range n).toArray).size=n:=by
  show ((range n).toArray.map<|kas_item it).size=n;simp
 simp only[hsz];refine kasC_bind (cq (Q':=fun c f_ s'=>s=s'/\c=(none,n)/\∃ pend p,Rg n p/\Hd κ it pend f_ p/\aS key p 0 pend.toList n)
  (kasC_range (bR (fun x c f_ s'=>s=s'/\∃ lo pend p,c=(none,lo)/\x<=lo/\lo<=n/\Rg n p/\Hd κ it pend f_ p/\aS key p 0 pend.toList lo) ?step _ 0 _ _ _ ?fin ⟨rfl,0,#[],(range n).toArray,rfl,Nat.le_refl _,by lia,List.Perm.refl _,⟨rfl,rfl,rfl,rfl⟩,rfl⟩)) ?after)
 case fin=>
  rintro c f_ s' ⟨rfl,lo,pend,p,rfl,a,b,d,e,f⟩;have:lo=n:=by lia
  subst this;exact⟨rfl,rfl,pend,p,d,e,f⟩
 case after=>
  rintro c f_ s' ⟨rfl,rfl,pend,p,hp,H,R⟩;dsimp only;refine kasC_bind (cq (Q':=fun c f_ s'=>s=s'/\c=(none,())/\∃ p,Rg n p/\Up key p n/\arrOf f_=p.map (kas_item it)/\failedOf f_=none)
   (kasC_range (bR (fun x c f_ s'=>s=s'/\c=(none,())/\∃ pend p,Rg n p/\Hd κ it pend f_ p/\aS key p 0 pend.toList n/\pend.size+x<=n) ?s2 _ 0 _ _ _ ?f2 ⟨rfl,rfl,pend,p,hp,H,R,by have:=R.le;rw[length_toList] at this;lia⟩)) ?a2)
  case a2=>
   rintro c f_ s' ⟨rfl,rfl,p,a,b,c,d⟩;exact kasC_pure (hG p _ a b c d)
  case f2=>
   rintro c f_ s' ⟨rfl,rfl,pend,p,hp,H,R,hx⟩;have e:pend.toList=[]:=eq_nil_of_length_eq_zero (by rw[length_toList];lia);rw[e] at R;have:0=n:=R;lia
  case s2=>
   rintro x c f_ s' ⟨rfl,rfl,pend,p,hp,H,R,hx⟩;refine kasC_bind (kasC_get ?_);by_cases e:(pendingOf f_).size<=1
   ·rw[if_pos e];refine kasC_pure ⟨rfl,rfl,p,hp,?_,H.a,H.f⟩;rw[H.p] at e;have el:pend.toList.length<=1:=by rw[length_toList];exact e
    match hl:pend.toList,el with
    | [],_=>
     rw[hl] at R;have:0=n:=R;lia
    | [(x,l,z)],_=>
     rw[hl] at R;obtain⟨rfl,_,a3,a4⟩:=R;have:0+l=n:=a4;exact fun i j Fq hj=>a3 i j (zero_le _) Fq (by lia)
    | _::_::_,h=>exact absurd h (by simp)
   ·rw[if_neg e];rw[H.p] at e;have Qo:∀ idx,idx+1<pend.size->kasC (model prog w) A E (mergeAt' idx) (fun b q_ s2=>b=true/\s=s2/\∃ pend p,Rg n p/\Hd κ it pend q_ p/\aS key p 0 pend.toList n/\pend.size+(x+1)<=n) f_ s:=fun idx NB=>
     md hc hp H NB R (Nat.le_refl _) fun EY p' Le a b c d fr=>⟨rfl,rfl,EY,p',a,b,d,by lia⟩;refine kasC_bind (cq (Qo _ ?_) ?_)
    ·rw[H.p];have:∀ (c:Prop) [Decidable c],(if c then pend.size - 2 - 1 else pend.size - 2)+1<pend.size:=fun c _=>by split<;>lia
     exact this _
    ·rintro b q_ s2 ⟨rfl,rfl,hh⟩;rw[if_neg (by decide)];exact kasC_pure ⟨rfl,rfl,hh⟩
 case step=>
  rintro x c f_ s' ⟨rfl,lo,pend,p,rfl,x1,x2,hp,H,R⟩;dsimp only;by_cases c1:lo >= n
  ·rw[if_pos c1];have:lo=n:=by lia
   subst this;exact kasC_pure ⟨rfl,rfl,pend,p,hp,H,R⟩
  rw[if_neg c1];refine kasC_bind (yk hc inj hp (by lia) (by lia) H ?_);intro m p1 s_ m1 m2 Ku H1 Qq A1;have A1:=pU A1;have R1:aS key p1 0 pend.toList lo:=R.congr fun i _ b=>gC (Qq i b);dsimp only;by_cases c2:m<minRun' n n 0
  ·rw[if_pos c2];refine kasC_bind (kasC_lift<|wpAny_rule ?_);have mm:m<=min (n - lo) (minRun' n n 0):=by lia
   have mn:min (n - lo) (minRun' n n 0)<=n - lo:=by lia
   generalize min (n - lo) (minRun' n n 0)=FK at mm mn ⊢;refine kasC_bind (yl hc Ku (by lia) m1 mm A1 H1 ?_);intro p2 q_ IC H2 Qr A2;have R2:aS key p2 0 pend.toList lo:=R1.congr fun i _ b=>gC (Qr i b);rw[if_neg (by decide)];refine kasC_bind (kasC_get ?_);rcases Qs:(pendingOf q_).back? with _ | ⟨s1,n1,z1⟩
   ·dsimp only;refine kasC_bind (kasC_modify ?_);refine kasC_pure ⟨rfl,lo+FK,pend.push (lo,FK,0),p2,rfl,by lia,by lia,IC,⟨H2.k,H2.a,by show (pendingOf q_).push _=_;rw[H2.p],H2.f⟩,?_⟩;rw[toList_push];exact aS.app.mpr ⟨lo,R2,rfl,by lia,A2,rfl⟩
   ·dsimp only;refine kasC_bind (cq (Q':=fun c f_ s'=>s=s'/\c=(none,())/\∃ pend p,Rg n p/\Hd κ it pend f_ p/\aS key p 0 pend.toList lo/\cz key p lo (FK))
     (kasC_range<|bR (fun x c f_ s'=>s=s'/\c=(none,())/\∃ pend p,Rg n p/\Hd κ it pend f_ p/\aS key p 0 pend.toList lo/\cz key p lo (FK)) ?_ _ 0 _ _ _ (fun _ _ _ z=>z) ⟨rfl,rfl,pend,p2,IC,H2,R2,A2⟩) ?_)
    ·rintro y c f_ s' ⟨rfl,rfl,pend,p,hp,H,R,A⟩;refine kasC_bind (kasC_get ?_);by_cases e:(pendingOf f_).size > 1
     ·rw[if_pos e];rcases hg:(pendingOf f_)[(pendingOf f_).size - 2]? with _ | ⟨a,b,Lf⟩
      ·dsimp only;exact kasC_pure ⟨rfl,rfl,pend,p,hp,H,R,A⟩
      ·dsimp only;split
       ·exact kasC_pure ⟨rfl,rfl,pend,p,hp,H,R,A⟩
       ·refine kasC_bind (md hc hp H (by rw[H.p] at e ⊢;lia) R (by lia) ?_);intro EY p' Le a b c d fr;rw[if_neg (by decide)];exact kasC_pure ⟨rfl,rfl,EY,p',a,b,d,A.congr fr⟩
     ·rw[if_neg e];dsimp only;exact kasC_pure ⟨rfl,rfl,pend,p,hp,H,R,A⟩
    ·rintro c f_ s' ⟨rfl,rfl,pend,p,hp,H,R,A⟩;dsimp only;refine kasC_bind (kasC_modify ?_);refine kasC_bind (kasC_modify ?_);refine kasC_pure ⟨rfl,lo+FK,(pend.modify (pend.size - 1) _).push (lo,FK,0),p,rfl,by lia,by lia,hp,⟨H.k,H.a,by show ((pendingOf f_).modify ((pendingOf f_).size - 1) _).push _=_;rw[H.p],H.f⟩,?_⟩;rw[toList_push];exact aS.app.mpr ⟨lo,R.same<|pV _ _ _,rfl,by lia,A,rfl⟩
  ·rw[if_neg c2];have IC:=Ku;have H2:=H1;have R2:=R1;have A2:=A1;revert IC H2 R2 A2;generalize p1=p2;generalize s_=q_;intro IC H2 R2 A2;refine kasC_bind (kasC_get ?_);rcases Qs:(pendingOf q_).back? with _ | ⟨s1,n1,z1⟩
   ·dsimp only;refine kasC_bind (kasC_modify ?_);refine kasC_pure ⟨rfl,lo+m,pend.push (lo,m,0),p2,rfl,by lia,by lia,IC,⟨H2.k,H2.a,by show (pendingOf q_).push _=_;rw[H2.p],H2.f⟩,?_⟩;rw[toList_push];exact aS.app.mpr ⟨lo,R2,rfl,by lia,A2,rfl⟩
   ·dsimp only;refine kasC_bind (cq (Q':=fun c f_ s'=>s=s'/\c=(none,())/\∃ pend p,Rg n p/\Hd κ it pend f_ p/\aS key p 0 pend.toList lo/\cz key p lo (m))
     (kasC_range<|bR (fun x c f_ s'=>s=s'/\c=(none,())/\∃ pend p,Rg n p/\Hd κ it pend f_ p/\aS key p 0 pend.toList lo/\cz key p lo (m)) ?_ _ 0 _ _ _ (fun _ _ _ z=>z) ⟨rfl,rfl,pend,p2,IC,H2,R2,A2⟩) ?_)
    ·rintro y c f_ s' ⟨rfl,rfl,pend,p,hp,H,R,A⟩;refine kasC_bind (kasC_get ?_);by_cases e:(pendingOf f_).size > 1
     ·rw[if_pos e];rcases hg:(pendingOf f_)[(pendingOf f_).size - 2]? with _ | ⟨a,b,Lf⟩
      ·dsimp only;exact kasC_pure ⟨rfl,rfl,pend,p,hp,H,R,A⟩
      ·dsimp only;split
       ·exact kasC_pure ⟨rfl,rfl,pend,p,hp,H,R,A⟩
       ·refine kasC_bind (md hc hp H (by rw[H.p] at e ⊢;lia) R (by lia) ?_);intro EY p' Le a b c d fr;rw[if_neg (by decide)];exact kasC_pure ⟨rfl,rfl,EY,p',a,b,d,A.congr fr⟩
     ·rw[if_neg e];dsimp only;exact kasC_pure ⟨rfl,rfl,pend,p,hp,H,R,A⟩
    ·rintro c f_ s' ⟨rfl,rfl,pend,p,hp,H,R,A⟩;dsimp only;refine kasC_bind (kasC_modify ?_);refine kasC_bind (kasC_modify ?_);refine kasC_pure ⟨rfl,lo+m,(pend.modify (pend.size - 1) _).push (lo,m,0),p,rfl,by lia,by lia,hp,⟨H.k,H.a,by show ((pendingOf f_).modify ((pendingOf f_).size - 1) _).push _=_;rw[H.p],H.f⟩,?_⟩;rw[toList_push];exact aS.app.mpr ⟨lo,R.same<|pV _ _ _,rfl,by lia,A,rfl⟩
theorem yo(hc:cl n key (kas_cmp prog w A κ it) s)(inj:∀ i j,i<n->j<n->key i=key j->i=j)(h2:2<=n)(up:n<1001\/∀ j,1<=j->j<n->key (j - 1)<=key j)(hG:∀ p' f_,Rg n p'->Up key p' n->arrOf f_=p'.map (kas_item it)->failedOf f_=none->Q () f_ s):kasC (model prog w) A E sortRuns' Q (kas_st κ it (range n).toArray) s:=yn hc inj h2 hG
end
end L2
namespace L2
open PySem PySem.Spec PyProof.Rows
section
variable{X:Cx}{pins:List (Addr×Obj)}{σ:St}{H:Hp}{s:Shared}{h':Heap}
variable{ch:List Addr}{t':Nat}
theorem Inv.Lg{T:Addr}{xs:List V}(I:Inv X pins σ H s)(Fh:∀ b∈ch,dr X pins H b)(k:∀ b o,b∉ch->s.heap.get? b=some o->h'.get? b=some o)(hT:s.heap.objs.size<=T)(new:bm X.prog X.w (upd H T<|.tup xs) h' T (.tup xs)):Inv X pins σ (upd H T<|.tup xs) { s with heap:=h',toks:=t' }:=by
 have fT:H T=none:=I.l_.fresh hT;have nT:∀ b o,s.heap.get? b=some o->b≠T:=fun b o e=>ne_of_lt (lt_of_lt_of_le (Heap.lt_size e) hT);have nc:∀ b u,H b=some u->b∉ch:=fun b u e z=>by rw[(Fh b z).1] at e;cases e
 refine I.step (g':=s.gens) (d':=s.drawn) (ch:=ch) (fun b hb=>⟨(Fh b hb).2.2.2.1,(Fh b hb).2.1,(Fh b hb).2.2.2.2.1,(Fh b hb).2.2.2.2.2⟩) (fun b o _ _ hc e _=>k b o hc e) (fun b o _ _ hc e _=>⟨o.slots,k b o hc e⟩)
  (fun b o _ e n=>by rw[aK (nT b o e)];exact n) (fun b o hc e=>⟨o,k b o hc e⟩) (fun b ys e=>by rw[aK (cj e fT)];exact e) (fun b o u e=>by rw[aK (cj e fT)];exact e)
  (fun b ps e=>⟨#[],by rw[aK (cj e fT),e];simp⟩) (fun m hm=>?_) (fun a o e=>?_) I.bare
 ·obtain⟨o,es,ep,ho,r⟩:=hm;exact⟨o,es,ep,k _ o (fun z=>(Fh _ z).2.1 rfl) ho,r⟩
 ·by_cases ha:a=T
  ·subst ha;rw[bp] at e;cases e;exact new
  ·rw[aK ha] at e;refine (I.l_ a o e).EU (fun b u hb q=>k b u ?_ q) (fun b q=>by rw[aK (cj q fT)];exact q) fun b ys q=>by rw[aK (cj q fT)];exact q
   rcases hb with z | z
   ·rw[z];exact nc a o e
   ·exact nc b _ z
theorem Inv.Lh(I:Inv X pins σ H s)(Fh:∀ b∈ch,dr X pins H b)(k:∀ b o,b∉ch->s.heap.get? b=some o->h'.get? b=some o):Inv X pins σ H { s with heap:=h',toks:=t' }:=by
 have nc:∀ b u,H b=some u->b∉ch:=fun b u e z=>by rw[(Fh b z).1] at e;cases e
 refine I.step (g':=s.gens) (d':=s.drawn) (ch:=ch) (fun b hb=>⟨(Fh b hb).2.2.2.1,(Fh b hb).2.1,(Fh b hb).2.2.2.2.1,(Fh b hb).2.2.2.2.2⟩) (fun b o _ _ hc e _=>k b o hc e) (fun b o _ _ hc e _=>⟨o.slots,k b o hc e⟩)
  (fun b o _ _ n=>n) (fun b o hc e=>⟨o,k b o hc e⟩) (fun b ys e=>e) (fun b o u e=>e) (fun b ps e=>⟨#[],by rw[e];simp⟩) (fun m hm=>?_) (fun a o e=>?_) I.bare
 ·obtain⟨o,es,ep,ho,r⟩:=hm;exact⟨o,es,ep,k _ o (fun z=>(Fh _ z).2.1 rfl) ho,r⟩
 ·refine (I.l_ a o e).EU (fun b u hb q=>k b u ?_ q) (fun b q=>q) fun b ys q=>q;rcases hb with z | z
  ·rw[z];exact nc a o e
  ·exact nc b _ z
end
section
variable{prog:Program}{w:World}{A:Around}{E:Value->Shared->Prop}{s:Shared}
variable{it t:Addr}{i:Nat}{items:Array Value}{Q:Value->Shared->Prop}
theorem me{x:Value}(hit:s.heap.IsTupleIter it t i)(ht:s.heap.IsTuple t items)(hx:items[i]?=some x)(q:∀ h',h'.IsTupleIter it t (i+1)->Heap.SameBut it s.heap h'->Q x { s with heap:=h' }):wpAny (model prog w) A (Builtin.SmallTypes.nextOf<|.ref it) Q E s:=by
 obtain⟨o,f1,f2,f3⟩:=id hit;obtain⟨ol,g1,_,nl,g2⟩:=ht;unfold Builtin.SmallTypes.nextOf;refine wpAny_bind (wpAny_callSpecial?_slot (name:=Str.ofString "__next__") hit.typeIs F.slot_tuple_iterator_next<|wpAny_call_entry F.slot_tuple_iterator_next hit.typeIs F.entry_tuple_iterator_next ?z<|F.args_tuple_iterator_next_1 _)
 case z=>
  show wpAny _ _ (field (.ref it) 0 >>= _) _ _ s;refine wpAny_bind (wpAny_field f1 f3 (x:=.ref t) rfl ?_);show wpAny _ _ (if (Value.ref t == Value.none)=true then _ else _) _ _ s;rw[if_neg (show ¬ (Value.ref t == Value.none)=true by intro z;cases z)];show wpAny _ _ (field (.ref it) 1 >>= _) _ _ s;refine wpAny_bind (wpAny_field f1 f3 (x:=.int i 0) rfl ?_);show wpAny _ _ (seqItems? (.ref t) >>= _) _ _ s;refine wpAny_bind (wpAny_seqItems g1 g2 ?_);simp only[toNat_natCast,hx];refine wpAny_bind (wpAny_setField f1 f3 (by simp) (wpAny_pure ⟨x,rfl,wpAny_pure (q _ ⟨_,Heap.get?_update_self _ f1<|Obj.isFreed_of_fields<|Obj.data_mapFields f3 _,(Obj.cls_mapFields ..).trans f2,by rw[Obj.data_mapFields f3];simp[rawInt]⟩<|Heap.SameBut.update ..)⟩))
theorem pW(hh:A.handled=none)(hit:s.heap.IsTupleIter it t i)(ht:s.heap.IsTuple t items)(hx:items[i]?=none)(q:∀ h' e,Heap.ExtBut it s.heap h'->(∃ o,h'.get? e=some o/\o.cls=.type "StopIteration")->E (.ref e) { s with heap:=h' }):wpAny (model prog w) A (Builtin.SmallTypes.nextOf<|.ref it) Q E s:=by
 obtain⟨o,f1,f2,f3⟩:=id hit;obtain⟨ol,g1,_,nl,g2⟩:=ht;unfold Builtin.SmallTypes.nextOf;refine wpAny_bind (wpAny_callSpecial?_slot (name:=Str.ofString "__next__") hit.typeIs F.slot_tuple_iterator_next<|wpAny_call_entry F.slot_tuple_iterator_next hit.typeIs F.entry_tuple_iterator_next ?z<|F.args_tuple_iterator_next_1 _)
 case z=>
  show wpAny _ _ (field (.ref it) 0 >>= _) _ _ s;refine wpAny_bind (wpAny_field f1 f3 (x:=.ref t) rfl ?_);show wpAny _ _ (if (Value.ref t == Value.none)=true then _ else _) _ _ s;rw[if_neg (show ¬ (Value.ref t == Value.none)=true by intro z;cases z)];show wpAny _ _ (field (.ref it) 1 >>= _) _ _ s;refine wpAny_bind (wpAny_field f1 f3 (x:=.int i 0) rfl ?_);show wpAny _ _ (seqItems? (.ref t) >>= _) _ _ s;refine wpAny_bind (wpAny_seqItems g1 g2 ?_);simp only[toNat_natCast,hx];refine wpAny_bind (wpAny_rule (wpAny_bind (wpAny_setField f1 f3 (by simp) ?_)));show wpAny _ _ (newExc (.type "StopIteration") [] >>= _) _ _ _;apply wpAny_bind;simp only[newExc,newTuple];refine wpAny_bind (wpAny_newObj_type (wpAny_bind (m:=firstArgMember _ _) (wpAny_of_eq (a:=Value.none) (by first | rfl | (simp only[firstArgMember];rfl)) (wpAny_newObj_type ?_ (by size_fits)))) (by size_fits));simp only[raiseNew];apply wpAny_bind;apply wpAny_handled;rw[show A.in1.handled=none from hh];refine wpAny_bind (m:=pure _) (wpAny_pure<|wpAny_throw ?_);exact q _ _ (((Heap.SameBut.update ..).extBut.push _).push _) ⟨_,Heap.get?_push_size _ rfl,rfl⟩
end
section
variable{prog:Program}{w:World}{A:Around}{E:Value->Shared->Prop}{s:Shared}
variable{h h':Heap}{a:Addr}
theorem cY{t:Addr}{i:Nat}(x:h.IsTupleIter a t i)(k:∀ o,h.get? a=some o->h'.get? a=some o):h'.IsTupleIter a t i:=let ⟨o,e,r⟩:=x;⟨o,k o e,r⟩
variable{xs:Array Value}
theorem gF(x:h.IsTuple a xs)(k:∀ o,h.get? a=some o->h'.get? a=some o):h'.IsTuple a xs:=let ⟨o,e,r⟩:=x;⟨o,k o e,r⟩
variable{a b:Value}{k1 k2:Nat}{ys:Array Value}
theorem yp{z TI TO i1 i2 l1 l2:Addr}{x y:Value}{Q:Value->Shared->Prop}(D:ZipApart z TI TO i1 i2 l1 l2)(hz:IsZip s.heap z TI TO .none)(NC:IsPair s.heap TI (.ref i1) (.ref i2))(ND:IsPair s.heap TO a b)(h1:s.heap.IsTupleIter i1 l1 k1)(h2:s.heap.IsTupleIter i2 l2 k2)(JW:s.heap.IsTuple l1 xs)(IB:s.heap.IsTuple l2 ys)(hx:xs[k1]?=some x)(hy:ys[k2]?=some y)(hQ:∀ h',IsZip h' z TI TO (rawInt s.heap.objs.size)->IsPair h' TO x y->h'.IsTupleIter i1 l1 (k1+1)->h'.IsTupleIter i2 l2 (k2+1)->IsPair h' s.heap.objs.size x y->
   (∀ c o,c≠z->c≠TO->c≠i1->c≠i2->s.heap.get? c=some o->h'.get? c=some o)->Q (.ref s.heap.objs.size) { s with heap:=h' }):
  wpAny (model prog w) A (Builtin.«zip.__next__» ⟨[.ref z],[]⟩) (fun fin s'=>∃ v,fin=.done (.ret v)/\Q v s') E s:=by
 show wpAny _ _ (field (.ref z) 2 >>= _) _ _ _;refine wpAny_bind (wpAny_field hz rfl (x:=.bool false) rfl ?_);show wpAny _ _ (field (.ref z) 3 >>= _) _ _ _;refine wpAny_bind (wpAny_field hz rfl (x:=.ref TI) rfl<|wpAny_bind<|wpAny_seqItems NC rfl ?_);show wpAny _ _ (Builtin.SmallTypes.ownedTupleIsFree (.ref z) >>= _) _ _ _;apply wpAny_bind;unfold Builtin.SmallTypes.ownedTupleIsFree;refine wpAny_bind (wpAny_field hz rfl (x:=.none) rfl<|wpAny_pure ?_);simp only[if_true];refine wpAny_bind (wpAny_rule (wpAny_bind (wpAny_field hz rfl (x:=.ref TO) rfl (wpAny_bind (wpAny_setField_rec hz (by simp) fun j1 z1 s1=>?_)))));replace z1:IsZip j1 z TI TO .ellipsis:=z1;apply wpAny_bind;simp only[List.zipIdx_cons,List.zipIdx_nil,forIn_cons,List.forIn_nil];refine wpAny_bind (wpAny_bind<|wpAny_onRaise ?_);show wpAny _ _ (Builtin.SmallTypes.nextOf (.ref i1) >>= _) _ _ _;refine wpAny_bind (me (s:={ s with heap:=j1 }) (cY h1 fun o e=>s1.extBut _ o D.i1z e) (gF JW fun o e=>s1.extBut _ o D.l1z e) hx fun j2 a2 s2=>wpAny_pure ?_);have o2:IsPair j2 TO a b:=s2.extBut _ _ D.TOi1 (s1.extBut _ _ D.TOz ND);refine wpAny_bind (wpAny_seqItems (s:={ s with heap:=j2 }) o2 rfl<|wpAny_bind<|wpAny_updateSeq_pair (s:={ s with heap:=j2 }) o2 fun j3 o3 s3=>?_);replace o3:IsPair j3 TO x b:=o3;refine wpAny_bind (wpAny_letGo<|wpAny_pure<|wpAny_bind<|wpAny_bind<|wpAny_onRaise ?_);show wpAny _ _ (Builtin.SmallTypes.nextOf (.ref i2) >>= _) _ _ _;refine wpAny_bind (me (s:={ s with heap:=j3 }) (cY h2 fun o e=>s3.extBut _ o D.TOi2.symm<|s2.extBut _ o D.i12.symm<|s1.extBut _ o D.i2z e) (gF IB fun o e=>s3.extBut _ o D.l2TO<|s2.extBut _ o D.l2i1<|s1.extBut _ o D.l2z e) hy fun j4 a4 s4=>wpAny_pure ?_);have o4:IsPair j4 TO x b:=s4.extBut _ _ D.TOi2 o3;refine wpAny_bind (wpAny_seqItems (s:={ s with heap:=j4 }) o4 rfl<|wpAny_bind<|wpAny_updateSeq_pair (s:={ s with heap:=j4 }) o4 fun j5 o5 s5=>?_);replace o5:IsPair j5 TO x y:=o5;refine wpAny_bind (wpAny_letGo<|wpAny_pure<|wpAny_pure<|wpAny_bind<|wpAny_seqItems (s:={ s with heap:=j5 }) o5 rfl<|wpAny_bind<|wpAny_newTuple ?_);have hsz:j5.objs.size=s.heap.objs.size:=by rw[s5.1,s4.1,s3.1,s2.1,s1.1]
 have z5:IsZip j5 z TI TO .ellipsis:=s5.extBut _ _ D.TOz.symm (s4.extBut _ _ D.i2z.symm<|s3.extBut _ _ D.TOz.symm<|s2.extBut _ _ D.i1z.symm z1);have k5:∀ c o,c≠z->c≠TO->c≠i1->c≠i2->s.heap.get? c=some o->j5.get? c=some o:=fun c o c1 c2 c3 c4 e=>s5.extBut _ _ c2 (s4.extBut _ _ c4<|s3.extBut _ _ c2<|s2.extBut _ _ c3<|s1.extBut _ _ c1 e);have b1:j5.IsTupleIter i1 l1 (k1+1):=cY a2 fun o e=>s5.extBut _ o D.TOi1.symm (s4.extBut _ o D.i12<|s3.extBut _ o D.TOi1.symm e);have b2:j5.IsTupleIter i2 l2 (k2+1):=cY a4 fun o e=>s5.extBut _ o D.TOi2.symm e;have O4:z<j5.objs.size:=Heap.lt_size z5;show wpAny _ _ (Builtin.SmallTypes.ownedTupleHandOut (.ref z) (.ref j5.objs.size) >>= _) _ _ _;apply wpAny_bind;unfold Builtin.SmallTypes.ownedTupleHandOut;have z6:IsZip (j5.push { cls:=.type "tuple",data:=.seq #[x,y] }) z TI TO .ellipsis:=Heap.get?_push_of_some _ z5;refine wpAny_bind (wpAny_setField_rec z6 (by simp) fun j7 z7 s7=>?_);replace z7:IsZip j7 z TI TO (rawInt j5.objs.size):=z7;refine wpAny_setField_rec z7 (by simp) fun j8 z8 s8=>?_;replace z8:IsZip j8 z TI TO (rawInt j5.objs.size):=z8;have up:∀ c o,c≠z->j5.get? c=some o->j8.get? c=some o:=fun c o c1 e=>s8.extBut _ _ c1 (s7.extBut _ _ c1<|Heap.get?_push_of_some _ e);have t8:IsPair j8 j5.objs.size x y:=s8.extBut _ _ (ne_of_gt O4) (s7.extBut _ _ (ne_of_gt O4)<|Heap.get?_push_size _ rfl);rw[hsz] at z8 t8;refine wpAny_pure ⟨_,rfl,?_⟩;show Q (.ref j5.objs.size) _;rw[hsz];exact hQ j8 z8 (up _ _ D.TOz o5) (cY b1 fun o e=>up _ o D.i1z e) (cY b2 fun o e=>up _ o D.i2z e) t8 fun c o c1 c2 c3 c4 e=>up c o c1 (k5 c o c1 c2 c3 c4 e)
theorem yq{z TI TO i1 i2 l1 l2:Addr}{Q:PySem.Fin->Shared->Prop}(hh:A.handled=none)(D:ZipApart z TI TO i1 i2 l1 l2)(hz:IsZip s.heap z TI TO .none)(NC:IsPair s.heap TI (.ref i1) (.ref i2))(ND:IsPair s.heap TO a b)(h1:s.heap.IsTupleIter i1 l1 k1)(h2:s.heap.IsTupleIter i2 l2 k2)(JW:s.heap.IsTuple l1 xs)(IB:s.heap.IsTuple l2 ys)(FU:xs[k1]?=none\/ys[k2]?=none)(hE:∀ h' e,(∀ c o,c≠z->c≠TO->c≠i1->c≠i2->s.heap.get? c=some o->h'.get? c=some o)->(∃ o,h'.get? e=some o/\o.cls=.type "StopIteration")->E (.ref e) { s with heap:=h' }):
  wpAny (model prog w) A (Builtin.«zip.__next__» ⟨[.ref z],[]⟩) Q E s:=by
 show wpAny _ _ (field (.ref z) 2 >>= _) _ _ _;refine wpAny_bind (wpAny_field hz rfl (x:=.bool false) rfl ?_);show wpAny _ _ (field (.ref z) 3 >>= _) _ _ _;refine wpAny_bind (wpAny_field hz rfl (x:=.ref TI) rfl<|wpAny_bind<|wpAny_seqItems NC rfl ?_);show wpAny _ _ (Builtin.SmallTypes.ownedTupleIsFree (.ref z) >>= _) _ _ _;apply wpAny_bind;unfold Builtin.SmallTypes.ownedTupleIsFree;refine wpAny_bind (wpAny_field hz rfl (x:=.none) rfl<|wpAny_pure ?_);simp only[if_true];refine wpAny_bind (wpAny_rule (wpAny_bind (wpAny_field hz rfl (x:=.ref TO) rfl (wpAny_bind (wpAny_setField_rec hz (by simp) fun j1 z1 s1=>?_)))));replace z1:IsZip j1 z TI TO .ellipsis:=z1;apply wpAny_bind;simp only[List.zipIdx_cons,List.zipIdx_nil,forIn_cons,List.forIn_nil];refine wpAny_bind (wpAny_bind<|wpAny_onRaise ?_);show wpAny _ _ (Builtin.SmallTypes.nextOf (.ref i1) >>= _) _ _ _;cases hx:xs[k1]? with
 | none=>
  refine wpAny_bind (pW (s:={ s with heap:=j1 }) hh (cY h1 fun o e=>s1.extBut _ o D.i1z e) (gF JW fun o e=>s1.extBut _ o D.l1z e) hx fun j2 e s2 ⟨oe,e1,e2⟩=>?_);have z2:IsZip j2 z TI TO .ellipsis:=s2 _ _ D.i1z.symm z1;have ez:e≠z:=fun q=>by subst q;rw[z2] at e1;cases e1;simp at e2
  refine wpAny_setField_rec z2 (by simp) fun j3 _ s3=>hE j3 e (fun c o c1 _ c3 _ q=>s3.extBut _ _ c1<|s2 _ _ c3<|s1.extBut _ _ c1 q) ⟨oe,s3.extBut _ _ ez e1,e2⟩
 | some x=>
  have hy:ys[k2]?=none:=by
   rcases FU with h | h
   ·rw[hx] at h;cases h
   ·exact h
  refine wpAny_bind (me (s:={ s with heap:=j1 }) (cY h1 fun o e=>s1.extBut _ o D.i1z e) (gF JW fun o e=>s1.extBut _ o D.l1z e) hx fun j2 a2 s2=>wpAny_pure ?_);have o2:IsPair j2 TO a b:=s2.extBut _ _ D.TOi1 (s1.extBut _ _ D.TOz ND);refine wpAny_bind (wpAny_seqItems (s:={ s with heap:=j2 }) o2 rfl<|wpAny_bind<|wpAny_updateSeq_pair (s:={ s with heap:=j2 }) o2 fun j3 o3 s3=>?_);refine wpAny_bind (wpAny_letGo<|wpAny_pure<|wpAny_bind<|wpAny_bind<|wpAny_onRaise ?_);show wpAny _ _ (Builtin.SmallTypes.nextOf (.ref i2) >>= _) _ _ _;refine wpAny_bind (pW (s:={ s with heap:=j3 }) hh (cY h2 fun o e=>s3.extBut _ o D.TOi2.symm<|s2.extBut _ o D.i12.symm<|s1.extBut _ o D.i2z e) (gF IB fun o e=>s3.extBut _ o D.l2TO<|s2.extBut _ o D.l2i1<|s1.extBut _ o D.l2z e) hy fun j4 e s4 ⟨oe,e1,e2⟩=>?_);have z4:IsZip j4 z TI TO .ellipsis:=s4 _ _ D.i2z.symm (s3.extBut _ _ D.TOz.symm<|s2.extBut _ _ D.i1z.symm z1);have ez:e≠z:=fun q=>by subst q;rw[z4] at e1;cases e1;simp at e2
  refine wpAny_setField_rec z4 (by simp) fun j5 _ s5=>hE j5 e (fun c o c1 c2 c3 c4 q=>s5.extBut _ _ c1<|s4 _ _ c4<|s3.extBut _ _ c2<|s2.extBut _ _ c3<|s1.extBut _ _ c1 q) ⟨oe,s5.extBut _ _ ez e1,e2⟩
end
variable{s:Shared}{r':R2}{caps fx fix:List Nat}{own ps:List Str}{iter tg c e b a:Expr}{body:List Stmt}{E:Ends}{st:Stmt}{j n ek:Nat}{σ1 σ:St}{fd:FuncData}{vs xs:List V}{ds:List Im}{C B A R F2 F1 F' G F:List Addr}{Q:VK}{x:Str}{r es:List Expr}{t':TT}{X:Cx}{H2 H1 H' H:Hp}{v:V}{p:Addr}{pos:Pos}{K:PySem.W.Frag}
def HK(h:Heap)(l1 l2:Addr):Heap:=((((h.push { cls:=.type "tuple_iterator",data:=.fields #[.ref l1,.int 0 0] }).push { cls:=.type "tuple_iterator",data:=.fields #[.ref l2,.int 0 0] }).push
 { cls:=.type "tuple",data:=.seq #[.ref h.objs.size,.ref (h.push { cls:=.type "tuple_iterator",data:=.fields #[.ref l1,.int 0 0] }).objs.size] }).push { cls:=.type "tuple",data:=.seq #[.none,.none] })
theorem yr(l1 l2 : Addr)(xs ys : Array Value):
    Meets (Builtin.«zip.__new__» ⟨[.type "zip", .ref l1, .ref l2], []⟩) (fun _ R s => s.heap.IsTuple l1 xs /\ s.heap.IsTuple l2 ys /\
      R (.ok<|.ret<|.ref (HK s.heap l1 l2).objs.size) { s with heap := (HK s.heap l1 l2).push { cls := .type "zip", data := .fields #[.none, .bool false, .bool false, .ref ((s.heap.push { cls := .type "tuple_iterator", data := .fields #[.ref l1, .int 0 0] }).push { cls := .type "tuple_iterator", data := .fields #[.ref l2, .int 0 0] }).objs.size,
        .ref (((s.heap.push { cls := .type "tuple_iterator", data := .fields #[.ref l1, .int 0 0] }).push { cls := .type "tuple_iterator", data := .fields #[.ref l2, .int 0 0] }).push
  { cls := .type "tuple", data := .seq #[.ref s.heap.objs.size, .ref (s.heap.push { cls := .type "tuple_iterator", data := .fields #[.ref l1, .int 0 0] }).objs.size] }).objs.size] } }) :=
  .of_wp fun prog w A R s h => by
    obtain ⟨hp, g, d, tk, os⟩ := s;obtain ⟨q1, q2, h⟩ := h;have Li := sub_zip;have m1 : Heap.IsTuple (Shared.heap ⟨hp, g, d, tk, os⟩) l1 xs := q1;have m2 : Heap.IsTuple (Shared.heap ⟨hp.push { cls := .type "tuple_iterator", data := .fields #[.ref l1, .int 0 0] }, g, d, tk, os⟩) l2 ys := gF q2 fun o e => Heap.get?_push_of_some _ e
    wp_walk using wpAny_pyIter_tuple m1, wpAny_pyIter_tuple m2
    exact ⟨_, rfl, h⟩
def Mv(K:PySem.W.Frag)(a b:Addr):It:=
 ⟨fun i H=>∃ xs ys x y,A_ K H a xs/\A_ K H b ys/\xs[i]?=some x/\ys[i]?=some y,
  fun i H v H'=>∃ T x y,H T=none/\v=.ref T/\H'=upd H T (.tup [x,y])/\(∀ xs,A_ K H a xs->xs[i]?=some x)/\(∀ ys,A_ K H b ys->ys[i]?=some y),
  fun i H=>∃ xs ys,A_ K H a xs/\A_ K H b ys/\(xs.length<=i\/ys.length<=i)⟩
def pX(a b z TI TO i1 i2:Addr)(i:Nat)(h:Heap):Prop:=IsZip h z TI TO .none/\IsPair h TI (.ref i1) (.ref i2)/\(∃ p q,IsPair h TO p q)/\h.IsTupleIter i1 a i/\h.IsTupleIter i2 b i
theorem yt{P:Program}{w:World}(a b z TI TO i1 i2:Addr)(D:ZipApart z TI TO i1 i2 a b):
  Turn P w K (.Tuple es ek pos) (Mv K a b) [z,TI,TO,i1,i2] z (pX a b z TI TO i1 i2) where
 mem:=by simp
 obj:=fun i h st c hc=>by
  obtain⟨h1,h2,⟨p,q,h3⟩,⟨o4,e4,_,d4⟩,⟨o5,e5,_,d5⟩⟩:=st;simp only[mem_cons,mem_nil_iff,or_false] at hc;rcases hc with rfl | rfl | rfl | rfl | rfl
  ·exact⟨_,h1,fun v e=>by cases e⟩
  ·exact⟨_,h2,fun v e=>by cases e⟩
  ·exact⟨_,h3,fun v e=>by cases e⟩
  ·exact⟨_,e4,fun v e=>by rw[d4] at e;cases e⟩
  ·exact⟨_,e5,fun v e=>by rw[d5] at e;cases e⟩
 keep:=fun i h h' st k=>by
  obtain⟨h1,h2,⟨p,q,h3⟩,h4,h5⟩:=st;exact⟨k z (by simp) _ h1,k TI (by simp) _ h2,⟨p,q,k TO (by simp) _ h3⟩,cY h4 fun o e=>k i1 (by simp) o e,cY h5 fun o e=>k i2 (by simp) o e⟩
 item:=by
  intro X hP hw hK hc i pins s σ H E I hf st hg;subst hP hw hK;obtain⟨xs,ys,x,y,q1,q2,x1,y1⟩:=hg;obtain⟨e_,rv,p,hz⟩:=I.tuple q1;obtain⟨EO,Mw,p2,Kr⟩:=I.tuple q2;obtain⟨u,hu,ru⟩:=rv.get x1;obtain⟨u2,Qt,Qu⟩:=Mw.get y1;have there:=st;obtain⟨h1,h2,⟨pa,pb,h3⟩,h4,h5⟩:=st;have hT:s.TypeIs (.ref z) "zip" := ⟨_,h1,rfl⟩;unfold pyNext;refine wpAny_bind (wpAny_attempt (wpAny_callSpecial?_slot (name:=Str.ofString "__next__") hT F.slot_zip_next (wpAny_call_entry F.slot_zip_next hT F.entry_zip_next
   (yp (Q:=fun v s'=>wpAny (model X.prog X.w) X.A (pure<|some v) (fun r s1=>∃ u,r=some u/\wpAny (model X.prog X.w) X.A (letOwnedTupleGo (.Tuple es ek pos) (.ref z) u) (fun _ s2=>∃ x H',Inv X pins σ H' s2/\aw x u/\(Mv X.K a b).KP i H x H'/\pX a b z TI TO i1 i2 (i+1) s2.heap/\∀ b∈[z,TI,TO,i1,i2],H' b=none) E s1) E s')
    D h1 h2 h3 h4 h5 (show s.heap.IsTuple a e_.toArray from p) (show s.heap.IsTuple b EO.toArray from p2) (x:=u) (y:=u2) (by simpa using hu) (by simpa using Qt) fun h' g1 g2 g3 g4 g5 kk=>wpAny_pure ⟨_,rfl,?_⟩) (F.args_zip_next_1 _))));refine wpAny_letOwnedTupleGo_zip g1 fun Jh Qw sb=>?_;have lt:∀ c∈[z,TI,TO,i1,i2],c<s.heap.objs.size:=fun c hc=>by
   obtain⟨h1,h2,⟨p,q,h3⟩,⟨o4,e4,_⟩,⟨o5,e5,_⟩⟩:=there;simp only[mem_cons,mem_nil_iff,or_false] at hc;rcases hc with rfl | rfl | rfl | rfl | rfl
   ·exact Heap.lt_size h1
   ·exact Heap.lt_size h2
   ·exact Heap.lt_size h3
   ·exact Heap.lt_size e4
   ·exact Heap.lt_size e5
  have kp:∀ c o,c∉[z,TI,TO,i1,i2]->s.heap.get? c=some o->Jh.get? c=some o:=fun c o hc e=>by
   simp only[mem_cons,mem_nil_iff,or_false,not_or] at hc;exact sb.extBut _ _ hc.1 (kk c o hc.1 hc.2.2.1 hc.2.2.2.1 hc.2.2.2.2 e)
  have zT:s.heap.objs.size≠z:=ne_of_gt (lt z (by simp));have fT:H s.heap.objs.size=none:=I.l_.fresh (Nat.le_refl _);refine⟨.ref s.heap.objs.size,upd H s.heap.objs.size<|.tup [x,y],I.Lg (t':=s.toks) hf kp (Nat.le_refl _) ⟨by show 2<=sizeLine;decide,[u,u2],.cons ru<|.cons Qu .nil,?_⟩,rfl,⟨_,x,y,fT,rfl,rfl,fun zs hz=>?_,fun zs hz=>?_⟩,?_,fun c hc=>?_⟩
  ·exact⟨_,sb.extBut _ _ zT g5,rfl,0,rfl⟩
  ·rw[I.E5 hz q1];exact x1
  ·rw[I.E5 hz q2];exact y1
  ·exact⟨Qw,sb.extBut _ _ D.TIz<|kk _ _ D.TIz D.TITO D.TIi1 D.TIi2 h2,⟨_,_,sb.extBut _ _ D.TOz g2⟩,cY g3 fun o e=>sb.extBut _ o D.i1z e,cY g4 fun o e=>sb.extBut _ o D.i2z e⟩
  ·rw[aK (ne_of_lt<|lt c hc)];exact (hf c hc).1
 done:=by
  intro X hP hw hK hc i pins s σ H E I hf st hg;subst hP hw hK;obtain⟨xs,ys,q1,q2,FU⟩:=hg;obtain⟨e_,rv,p,hz⟩:=I.tuple q1;obtain⟨EO,Mw,p2,Kr⟩:=I.tuple q2;obtain⟨h1,h2,⟨pa,pb,h3⟩,h4,h5⟩:=st;have hT:s.TypeIs (.ref z) "zip" := ⟨_,h1,rfl⟩;have l1:=rv.length;have l2:=Mw.length;unfold pyNext;refine wpAny_bind (wpAny_attempt (wpAny_callSpecial?_slot (name:=Str.ofString "__next__") hT F.slot_zip_next (wpAny_call_entry F.slot_zip_next hT F.entry_zip_next
   (yq (I.ok.hd hc) D h1 h2 h3 h4 h5 (show s.heap.IsTuple a e_.toArray from p) (show s.heap.IsTuple b EO.toArray from p2) (by
    rcases FU with h | h
    ·exact .inl (by simp;lia)
    ·exact .inr (by simp;lia)) fun h' e kk ⟨o,ho,Kv⟩=>?_) (F.args_zip_next_1 _))))
  refine wpAny_bind (wpAny_isInstance (T := "StopIteration") (b:=true) ⟨o,ho,Kv⟩ isSubtype_stop<|wpAny_pure ⟨rfl,I.Lh (t':=s.toks) hf fun c o hc e=>?_⟩);simp only[mem_cons,mem_nil_iff,or_false,not_or] at hc;exact kk c o hc.1 hc.2.2.1 hc.2.2.2.1 hc.2.2.2.2 e
 self:=fun _ _ _ _ _ st h=>wpAny_pyIter_zip st.1 h
section
variable{X:Cx}
def yu(K:PySem.W.Frag)(ta:TA):TI:=fun σ H R=>ta σ H fun vs H1=>∃ a b,vs=[.ref a,.ref b]/\(∃ xs,A_ K H1 a xs)/\(∃ ys,A_ K H1 b ys)/\R (Mv K a b) H1
theorem yw{ta:TA}{p:Pos}{ps:Pos}(hg:Gl X "zip")(hm:X.mg "zip" = none)(ha:PA X [a,b] ta)(hs:starEach [a,b] X.env=[(false,eval a X.env),(false,eval b X.env)]:=by rfl)(IL:starEach [b] X.env=[(false,eval b X.env)]:=by rfl):
  PI X (.Tuple es ek ps) (.Call (.Name "zip" p) [a,b] [] pos) (yu X.K ta):=by
 intro pins s σ H R I h;refine Call_ (fJ I hg hm boot_zip (PyProof.Rows.callWith_type1 (z_ (ha pos pins s σ H _ I h) fun us s1 ⟨vs,H1,I1,r1,q1⟩=>?_) (by rw[hs,IL]) (by rw[IL];rfl)));obtain⟨l1,l2,e,⟨xs,hx⟩,⟨ys,hy⟩,q⟩:=q1;subst e;cases r1 with
 | cons r rr=>
  cases rr with
  | cons r' rr=>
   cases rr;cases r;cases r';obtain⟨e_,rv,p,hz⟩:=I1.tuple hx;obtain⟨EO,Mw,p2,Kr⟩:=I1.tuple hy;have NA:l1<s1.heap.objs.size:=by obtain⟨o,e,_⟩:=p;exact Heap.lt_size e
   have Qx:l2<s1.heap.objs.size:=by obtain⟨o,e,_⟩:=p2;exact Heap.lt_size e
   refine callType_new F.called_zip (by decide) (F.typeCall_zip_2 _ _) (F.newCall_zip_2 _ _) (fun obj=>F.args_object_init_3 obj _ _) F.entry_zip_new (yr l1 l2 e_.toArray EO.toArray) ⟨p,p2,?_⟩;have z1:(s1.heap.push { cls:=.type "tuple_iterator",data:=.fields #[.ref l1,.int 0 0] }).objs.size=s1.heap.objs.size+1:=Heap.size_push ..;have z2:((s1.heap.push { cls:=.type "tuple_iterator",data:=.fields #[.ref l1,.int 0 0] }).push { cls:=.type "tuple_iterator",data:=.fields #[.ref l2,.int 0 0] }).objs.size=s1.heap.objs.size+2:=by rw[Heap.size_push,z1]
   have z3:(((s1.heap.push { cls:=.type "tuple_iterator",data:=.fields #[.ref l1,.int 0 0] }).push { cls:=.type "tuple_iterator",data:=.fields #[.ref l2,.int 0 0] }).push
    { cls:=.type "tuple",data:=.seq #[.ref s1.heap.objs.size,.ref (s1.heap.push { cls:=.type "tuple_iterator",data:=.fields #[.ref l1,.int 0 0] }).objs.size] }).objs.size=s1.heap.objs.size+3:=by rw[Heap.size_push,z2]
   have z4:(HK s1.heap l1 l2).objs.size=s1.heap.objs.size+4:=by unfold HK;rw[Heap.size_push,z3]
   show _/\_;refine⟨⟨_,Heap.get?_push_size _ rfl,rfl⟩,wpAny_pyIter_zip (TI:=s1.heap.objs.size+2) (TO:=s1.heap.objs.size+3) (f0:=.none) ?_ ?_⟩
   ·rw[z2,z3];exact Heap.get?_push_size _ rfl
   ·rw[z2,z3,z4];have g5:((HK s1.heap l1 l2).push { cls:=.type "zip",data:=.fields #[.none,.bool false,.bool false,.ref<|s1.heap.objs.size+2,.ref<|s1.heap.objs.size+3] }).get? (s1.heap.objs.size+4)=some { cls:=.type "zip",data:=.fields #[.none,.bool false,.bool false,.ref<|s1.heap.objs.size+2,.ref<|s1.heap.objs.size+3] }:=by rw[<- z4];exact Heap.get?_push_size _ rfl
    have g4:((HK s1.heap l1 l2).push { cls:=.type "zip",data:=.fields #[.none,.bool false,.bool false,.ref<|s1.heap.objs.size+2,.ref<|s1.heap.objs.size+3] }).get? (s1.heap.objs.size+3)=some { cls:=.type "tuple",data:=.seq #[.none,.none] }:=by
     rw[<- z3];exact Heap.get?_push_of_some _ (Heap.get?_push_size _ rfl)
    have g3:((HK s1.heap l1 l2).push { cls:=.type "zip",data:=.fields #[.none,.bool false,.bool false,.ref<|s1.heap.objs.size+2,.ref<|s1.heap.objs.size+3] }).get? (s1.heap.objs.size+2)=some { cls:=.type "tuple",data:=.seq #[.ref s1.heap.objs.size,.ref<|s1.heap.objs.size+1] }:=by
     rw[<- z2,<- z1];exact Heap.get?_push_of_some _ (Heap.get?_push_of_some _<|Heap.get?_push_size _ rfl)
    have g2:((HK s1.heap l1 l2).push { cls:=.type "zip",data:=.fields #[.none,.bool false,.bool false,.ref<|s1.heap.objs.size+2,.ref<|s1.heap.objs.size+3] }).get? (s1.heap.objs.size+1)=some { cls:=.type "tuple_iterator",data:=.fields #[.ref l2,.int 0 0] }:=by
     rw[<- z1];exact Heap.get?_push_of_some _ (Heap.get?_push_of_some _<|Heap.get?_push_of_some _<|Heap.get?_push_size _ rfl)
    have g1:((HK s1.heap l1 l2).push { cls:=.type "zip",data:=.fields #[.none,.bool false,.bool false,.ref<|s1.heap.objs.size+2,.ref<|s1.heap.objs.size+3] }).get? s1.heap.objs.size=some { cls:=.type "tuple_iterator",data:=.fields #[.ref l1,.int 0 0] }:=
     Heap.get?_push_of_some _ (Heap.get?_push_of_some _<|Heap.get?_push_of_some _<|Heap.get?_push_of_some _<|Heap.get?_push_size _ rfl);have kp:∀ c o,s1.heap.get? c=some o->((HK s1.heap l1 l2).push { cls:=.type "zip",data:=.fields #[.none,.bool false,.bool false,.ref<|s1.heap.objs.size+2,.ref<|s1.heap.objs.size+3] }).get? c=some o:=fun c o e=>
     Heap.get?_push_of_some _ (Heap.get?_push_of_some _<|Heap.get?_push_of_some _<|Heap.get?_push_of_some _<|Heap.get?_push_of_some _ e);generalize ((HK s1.heap l1 l2).push { cls:=.type "zip",data:=.fields #[.none,.bool false,.bool false,.ref<|s1.heap.objs.size+2,.ref<|s1.heap.objs.size+3] })=h5 at g1 g2 g3 g4 g5 kp ⊢;have D:ZipApart (s1.heap.objs.size+4) (s1.heap.objs.size+2) (s1.heap.objs.size+3) s1.heap.objs.size (s1.heap.objs.size+1) l1 l2:=PySem.W.ktu_apart _ _ _ NA Qx;refine⟨_,_,_,_,H1,rfl,I1.kept (t':=s1.toks) kp,yt l1 l2 _ _ _ _ _ D,⟨g5,g3,⟨_,_,g4⟩,⟨_,g1,rfl,rfl⟩,⟨_,g2,rfl,rfl⟩⟩,fun c hc=>?_,q⟩;have:s1.heap.objs.size<=c:=by
     simp only[mem_cons,mem_nil_iff,or_false] at hc;rcases hc with rfl | rfl | rfl | rfl | rfl
     ·exact le_add_right _ _
     ·exact le_add_right _ _
     ·exact le_add_right _ _
     ·exact Nat.le_refl _
     ·exact le_add_right _ _
    exact I1.Iv this (I1.l_.fresh this)
end
def pY(K:PySem.W.Frag)(H:Hp)(x:V)(T:String)(b:Bool):Prop:=
 (∃ i,x=.int i/\((T = "int" /\ b=true)\/(T = "tuple" /\ b=false)\/(T = "str" /\ b=false)\/(T = "bool" /\ b=false)\/(T = "list" /\ b=false)))\/
 (∃ i,x=.bl i/\((T = "bool" /\ b=true)\/(T = "int" /\ b=true)\/(T = "tuple" /\ b=false)\/(T = "str" /\ b=false)\/(T = "list" /\ b=false)))\/
 (∃ i,x=.str i/\((T = "str" /\ b=true)\/(T = "int" /\ b=false)\/(T = "tuple" /\ b=false)\/(T = "bool" /\ b=false)\/(T = "list" /\ b=false)))\/
 (∃ a xs,x=.ref a/\A_ K H a xs/\((T = "tuple" /\ b=true)\/(T = "int" /\ b=false)\/(T = "str" /\ b=false)\/(T = "bool" /\ b=false)\/(T = "list" /\ b=false)))\/
 (∃ a xs,x=.ref a/\En K H a xs/\((T = "list" /\ b=true)\/(T = "int" /\ b=false)\/(T = "str" /\ b=false)\/(T = "bool" /\ b=false)\/(T = "tuple" /\ b=false)))
section
variable{X:Cx}
theorem yx:bb X (.builtin "isinstance") (fun xs H Q=>∃ x T b,xs=[x,.ty T]/\pY X.K H x T b/\Q (.bl b) H):=by
 intro pins s σ H xs us Q I r h;obtain⟨x,T,b,rfl,hi,q⟩:=h;cases r with
 | cons r rr=>
  cases rr with
  | cons r' rr=>
   cases rr;cases r';have f0:∀ {b:Bool},Q (.bl b) H->EP X pins σ Q (.bool b) s:=fun {b} q=>⟨.bl b,H,I,rfl,q⟩;have f1:∀ {b:Bool},Q (.bl b) H->EP X pins σ Q (.bool b) { s with toks:=s.toks+1 }:=fun {b} q=>⟨.bl b,H,I.tok _,rfl,q⟩;rcases hi with ⟨i,rfl,hi⟩ | ⟨i,rfl,hi⟩ | ⟨i,rfl,hi⟩ | ⟨a,xs,rfl,hs,hi⟩ | ⟨a,xs,rfl,hs,hi⟩
   ·obtain⟨t,rfl⟩:=r;rcases hi with ⟨rfl,rfl⟩ | ⟨rfl,rfl⟩ | ⟨rfl,rfl⟩ | ⟨rfl,rfl⟩ | ⟨rfl,rfl⟩
    ·exact IsiPair.int_int (f0 q)
    ·exact IsiPair.int_tuple (f1 q)
    ·exact IsiPair.int_str (f1 q)
    ·exact IsiPair.int_bool (f1 q)
    ·exact IsiPair.int_list (f1 q)
   ·cases r;rcases hi with ⟨rfl,rfl⟩ | ⟨rfl,rfl⟩ | ⟨rfl,rfl⟩ | ⟨rfl,rfl⟩ | ⟨rfl,rfl⟩
    ·exact IsiPair.bool_bool (f0 q)
    ·exact IsiPair.bool_int (f0 q)
    ·exact IsiPair.bool_tuple (f1 q)
    ·exact IsiPair.bool_str (f1 q)
    ·exact IsiPair.bool_list (f1 q)
   ·obtain⟨t,rfl⟩:=r;rcases hi with ⟨rfl,rfl⟩ | ⟨rfl,rfl⟩ | ⟨rfl,rfl⟩ | ⟨rfl,rfl⟩ | ⟨rfl,rfl⟩
    ·exact IsiPair.str_str (f0 q)
    ·exact IsiPair.str_int (f1 q)
    ·exact IsiPair.str_tuple (f1 q)
    ·exact IsiPair.str_bool (f1 q)
    ·exact IsiPair.str_list (f1 q)
   ·cases r;obtain⟨e_,rv,⟨o,ho,hc,_⟩,hz⟩:=I.tuple hs;rcases hi with ⟨rfl,rfl⟩ | ⟨rfl,rfl⟩ | ⟨rfl,rfl⟩ | ⟨rfl,rfl⟩ | ⟨rfl,rfl⟩
    ·exact IsiPair.tuple_tuple ho hc (f0 q)
    ·exact IsiPair.tuple_int ho hc (f1 q)
    ·exact IsiPair.tuple_str ho hc (f1 q)
    ·exact IsiPair.tuple_bool ho hc (f1 q)
    ·exact IsiPair.tuple_list ho hc (f1 q)
   ·cases r;obtain⟨e_,rv,p,hz⟩:=I.list hs;obtain⟨o,ho,hc,_⟩:=p.isList;rcases hi with ⟨rfl,rfl⟩ | ⟨rfl,rfl⟩ | ⟨rfl,rfl⟩ | ⟨rfl,rfl⟩ | ⟨rfl,rfl⟩
    ·exact IsiPair.list_list ho hc (f0 q)
    ·exact IsiPair.list_int ho hc (f1 q)
    ·exact IsiPair.list_str ho hc (f1 q)
    ·exact IsiPair.list_bool ho hc (f1 q)
    ·exact IsiPair.list_tuple ho hc (f1 q)
theorem pZ:∀ {bs:List Bool}{us:List Value},au (bs.map V.bl) us->∀ (i:Nat) (v:Value),us[i]?=some v->∃ b,bs[i]?=some b/\v=Value.bool b:=by
 intro bs us r i v h;have hl:=r.length;rw[length_map] at hl;have hi:i<bs.length:=by rw[hl];exact (List.getElem?_eq_some_iff.mp h).1
 obtain⟨u,hu,ru⟩:=r.get (i:=i) (x:=V.bl bs[i]) (by simp[hi]);rw[h] at hu;cases hu;exact⟨bs[i],by simp[hi],ru⟩
theorem yy(hc:X.calm=true):bb X (.builtin "all") (fun xs H Q=>∃ l bs,xs=[.ref l]/\H l=some (.lst<|List.map V.bl bs)/\Q (.bl<|bs.all id) H):=by
 intro pins s σ H xs us Q I r h;obtain⟨l,bs,rfl,hl,q⟩:=h;obtain⟨u,rfl,ru⟩:=b9 r;cases ru;obtain⟨z,e_,n,rv,e⟩:=I.l_ l _ hl;have Gu:s.heap.IsList l e_.toArray:=⟨_,e,rfl,n,rfl⟩;refine call_all_walk (wpAny_pyIter_list Gu ⟨s.heap.objs.size,[s.heap.objs.size,l],[s.heap.objs.size],e_.toArray.size,_,_,fun i=>(bs[i]?).getD true,rfl,Walks.list (A:=X.A.in1) (I.ok.hd hc) _ l (ne_of_lt<|Heap.lt_size e) e_.toArray,
  ⟨⟨_,Heap.get?_push_size _ rfl,rfl,rfl⟩,Gu.push _⟩,fun i v s' Q' E' hP hQ=>?_,fun h' tk hk=>?_⟩)
 ·obtain⟨b,eb,rfl⟩:=pZ rv i v (by simpa using hP);simp only[eb,getD_some] at hQ;exact wpAny_truthy_bool hQ
 ·have el:e_.toArray.size=bs.length:=by
   have:=rv.length;rw[length_map] at this;rw[size_toArray,this]
  rw[el,LSm.range_all];exact⟨.bl _,H,I.kept<|LSm.kept_iter hk,rfl,q⟩
theorem yz:EJ X (binaryOp .Mult) (rI IntMulOk fun i j=>.int<|i * j):=Mm fun _ _ _ _ _ _ _ hc q=>mul_int q hc
end
inductive Vl where
 | im (d:Im)
 | jk
 | fz (ds:List Im)
 | lst (ds:List Im)
 | dK (kvs:List (Key×Im))
 | dT (kvs:List (List Im×Im))
 | EW (xs:List Vl)
 | Mx (ks:List (List Im)) (xs:List Vl)
 | Kw (xs:List Vl)
 | obj (C:Addr) (ns:List Str) (xs:List Vl)
variable{op:List Vl->Option Vl}{f:Vl->Vl->Option Vl}{o:Option Vl}{d:Vl}
abbrev SD:=List (Option Vl)
variable{D' D:SD}{h:List Vl->SD->Option SD}
abbrev E8{κ:Type}(H:Hp):List (κ×Im)->List (κ×V)->Prop:=Paired fun p q=>p.1=q.1/\Ef H p.2 q.2
theorem E8.mono{κ:Type}{l:List (κ×Im)}{m:List (κ×V)}(t:G8 H H')(h:E8 H l m):E8 H' l m:=Paired.Iq h fun _ _ z=>⟨z.1,z.2.mono t⟩
structure B_(H H':Hp):Prop where
 tup:G8 H H'
 Et:∀ a o u,H a=some (.Et o u)->H' a=some (.Et o u)
mutual
def Own(H:Hp):Vl->V->List Addr->Prop
 | .im d,v,F=>Ef H d v/\F=[]
 | .jk,_,F=>F=[]
 | .fz ds,v,F=>∃ a xs o,v=.ref a/\H a=some (.Et o<|.lst xs)/\ak H ds xs/\F=[]
 | .lst ds,v,F=>∃ a xs,v=.ref a/\H a=some (.lst xs)/\ak H ds xs/\F=[a]
 | .dK kvs,v,F=>∃ a Ex,v=.ref a/\H a=some (.dK Ex)/\E8 H kvs Ex/\F=[a]
 | .dT kvs,v,F=>∃ a Ex,v=.ref a/\H a=some (.dT Ex)/\E8 H kvs Ex/\F=[a]
 | .EW ds,v,F=>∃ a xs G,v=.ref a/\H a=some (.lst xs)/\aP H ds xs G/\F=a::G
 | .Mx ks ds,v,F=>∃ a Ex G,v=.ref a/\H a=some (.dT Ex)/\Ex.map (·.1)=ks/\aP H ds (Ex.map (·.2)) G/\F=a::G
 | .Kw ds,v,F=>∃ a xs,v=.ref a/\H a=some (.tup xs)/\aP H ds xs F
 | .obj C ns ds,v,F=>∃ a dx fs G,v=.ref a/\H a=some (.ins C dx fs)/\fs.map (·.1)=ns/\aP H ds (fs.map (·.2)) G/\F=a::G
def aP(H:Hp):List Vl->List V->List Addr->Prop
 | [],vs,F=>vs=[]/\F=[]
 | d::ds,vs,F=>∃ v r F1 F2,vs=v::r/\Own H d v F1/\aP H ds r F2/\F=F1++F2
end
mutual
theorem Own.mono{H H':Hp}(t:B_ H H'):∀ {d:Vl}{v:V}{F:List Addr},Own H d v F->(∀ a∈F,∀ o,H a=some o->H' a=some o)->Own H' d v F
 | .im d,v,F,h,_=>⟨h.1.mono t.tup,h.2⟩
 | .jk,v,F,h,_=>h
 | .fz ds,v,F,h,_=>by
  obtain⟨a,xs,o,rfl,h1,h2,rfl⟩:=h;exact⟨a,xs,o,rfl,t.Et _ _ _ h1,h2.mono t.tup,rfl⟩
 | .lst ds,v,F,h,k=>by
  obtain⟨a,xs,rfl,h1,h2,rfl⟩:=h;exact⟨a,xs,rfl,k a (.head _) _ h1,h2.mono t.tup,rfl⟩
 | .dK kvs,v,F,h,k=>by
  obtain⟨a,xs,rfl,h1,h2,rfl⟩:=h;exact⟨a,xs,rfl,k a (.head _) _ h1,h2.mono t.tup,rfl⟩
 | .dT kvs,v,F,h,k=>by
  obtain⟨a,xs,rfl,h1,h2,rfl⟩:=h;exact⟨a,xs,rfl,k a (.head _) _ h1,h2.mono t.tup,rfl⟩
 | .EW ds,v,F,h,k=>by
  obtain⟨a,xs,G,rfl,h1,h2,rfl⟩:=h;exact⟨a,xs,G,rfl,k a (.head _) _ h1,aP.mono t h2 fun b hb=>k b<|.tail _ hb,rfl⟩
 | .Mx ks ds,v,F,h,k=>by
  obtain⟨a,xs,G,rfl,h1,hk,h2,rfl⟩:=h;exact⟨a,xs,G,rfl,k a (.head _) _ h1,hk,aP.mono t h2 fun b hb=>k b<|.tail _ hb,rfl⟩
 | .Kw ds,v,F,h,k=>by
  obtain⟨a,xs,rfl,h1,h2⟩:=h;exact⟨a,xs,rfl,t.tup a xs h1,aP.mono t h2 k⟩
 | .obj C ns ds,v,F,h,k=>by
  obtain⟨a,dx,fs,G,rfl,h1,hk,h2,rfl⟩:=h;exact⟨a,dx,fs,G,rfl,k a (.head _) _ h1,hk,aP.mono t h2 fun b hb=>k b<|.tail _ hb,rfl⟩
theorem aP.mono{H H':Hp}(t:B_ H H'):∀ {ds:List Vl}{vs:List V}{F:List Addr},aP H ds vs F->(∀ a∈F,∀ o,H a=some o->H' a=some o)->aP H' ds vs F
 | [],vs,F,h,_=>h
 | d::ds,vs,F,h,k=>by
  obtain⟨v,r,F1,F2,rfl,h1,h2,rfl⟩:=h;exact⟨v,r,F1,F2,rfl,Own.mono t h1 fun a ha=>k a<|mem_append_left _ ha,aP.mono t h2 fun a ha=>k a<|mem_append_right _ ha,rfl⟩
end
def Gj(H:Hp)(a:Addr):Prop:=∃ o,H a=some o/\(∀ xs,o≠.tup xs)/\∀ p u,o≠.Et p u
mutual
theorem Own.chg{H:Hp}:∀ {d:Vl}{v:V}{F:List Addr},Own H d v F->∀ a∈F,Gj H a
 | .im d,v,F,h,a,ha=>by rw[h.2] at ha;cases ha
 | .jk,v,F,h,a,ha=>by rw[show F=[] from h] at ha;cases ha
 | .fz ds,v,F,h,b,hb=>by
  obtain⟨a,xs,o,rfl,h1,h2,rfl⟩:=h;cases hb
 | .lst ds,v,F,h,b,hb=>by
  obtain⟨a,xs,rfl,h1,h2,rfl⟩:=h;rw[mem_singleton.mp hb];exact⟨_,h1,(fun _ e=>by cases e),(fun _ _ e=>by cases e)⟩
 | .dK kvs,v,F,h,b,hb=>by
  obtain⟨a,xs,rfl,h1,h2,rfl⟩:=h;rw[mem_singleton.mp hb];exact⟨_,h1,(fun _ e=>by cases e),(fun _ _ e=>by cases e)⟩
 | .dT kvs,v,F,h,b,hb=>by
  obtain⟨a,xs,rfl,h1,h2,rfl⟩:=h;rw[mem_singleton.mp hb];exact⟨_,h1,(fun _ e=>by cases e),(fun _ _ e=>by cases e)⟩
 | .EW ds,v,F,h,b,hb=>by
  obtain⟨a,xs,G,rfl,h1,h2,rfl⟩:=h;rcases mem_cons.mp hb with rfl | hb
  ·exact⟨_,h1,(fun _ e=>by cases e),(fun _ _ e=>by cases e)⟩
  ·exact aP.chg h2 b hb
 | .Mx ks ds,v,F,h,b,hb=>by
  obtain⟨a,xs,G,rfl,h1,hk,h2,rfl⟩:=h;rcases mem_cons.mp hb with rfl | hb
  ·exact⟨_,h1,(fun _ e=>by cases e),(fun _ _ e=>by cases e)⟩
  ·exact aP.chg h2 b hb
 | .Kw ds,v,F,h,b,hb=>by
  obtain⟨a,xs,rfl,h1,h2⟩:=h;exact aP.chg h2 b hb
 | .obj C ns ds,v,F,h,b,hb=>by
  obtain⟨a,dx,fs,G,rfl,h1,hk,h2,rfl⟩:=h;rcases mem_cons.mp hb with rfl | hb
  ·exact⟨_,h1,(fun _ e=>by cases e),(fun _ _ e=>by cases e)⟩
  ·exact aP.chg h2 b hb
theorem aP.chg{H:Hp}:∀ {ds:List Vl}{vs:List V}{F:List Addr},aP H ds vs F->∀ a∈F,Gj H a
 | [],vs,F,h,a,ha=>by rw[h.2] at ha;cases ha
 | d::ds,vs,F,h,a,ha=>by
  obtain⟨v,r,F1,F2,rfl,h1,h2,rfl⟩:=h;rcases mem_append.mp ha with ha | ha
  ·exact Own.chg h1 a ha
  ·exact aP.chg h2 a ha
end
theorem aP.length:∀ {ds:List Vl}{vs:List V}{F:List Addr},aP H ds vs F->ds.length=vs.length
 | [],vs,F,h=>by rw[h.1];rfl
 | d::ds,vs,F,h=>by
  obtain⟨v,r,F1,F2,rfl,h1,h2,rfl⟩:=h;rw[length_cons,length_cons,h2.length]
theorem ak.length:∀ {ds:List Im}{vs:List V},ak H ds vs->ds.length=vs.length
 | [],vs,h=>by rw[show vs=[] from h];rfl
 | d::ds,vs,h=>by
  obtain⟨v,r,rfl,h1,h2⟩:=h;rw[length_cons,length_cons,h2.length]
def eS(H:Hp):Option Vl->Option V->List Addr->Prop
 | none,_,F=>F=[]
 | some d,x,F=>∃ v,x=some v/\Own H d v F
def aj(H:Hp):SD->St->List Addr->Prop
 | [],σ,F=>σ=[]/\F=[]
 | o::D,σ,F=>∃ x r F1 F2,σ=x::r/\eS H o x F1/\aj H D r F2/\F=F1++F2
structure m_(H:Hp)(F:List Addr)(H':Hp)(F':List Addr):Prop where
 keep:∀ a o,H a=some o->a∉F->H' a=some o
 sub:∀ a∈F',a∈F\/H a=none
 nd:F'.Nodup
 tup:B_ H H'
 grow:∀ a o,H a=some o->∃ o',H' a=some o'
theorem eS.mono(t:B_ H H'):∀ {o:Option Vl}{x:Option V}{F:List Addr},eS H o x F->(∀ a∈F,∀ o,H a=some o->H' a=some o)->eS H' o x F
 | none,_,_,h,_=>h
 | some d,x,F,h,k=>by
  obtain⟨v,rfl,h⟩:=h;exact⟨v,rfl,h.mono t k⟩
theorem aj.mono{H H':Hp}(t:B_ H H'):∀ {D:SD}{σ:St}{F:List Addr},aj H D σ F->(∀ a∈F,∀ o,H a=some o->H' a=some o)->aj H' D σ F
 | [],σ,F,h,_=>h
 | o::D,σ,F,h,k=>by
  obtain⟨x,r,F1,F2,rfl,h1,h2,rfl⟩:=h;exact⟨x,r,F1,F2,rfl,h1.mono t fun a ha=>k a<|mem_append_left _ ha,aj.mono t h2 fun a ha=>k a<|mem_append_right _ ha,rfl⟩
theorem eS.chg:∀ {o:Option Vl}{x:Option V}{F:List Addr},eS H o x F->∀ a∈F,Gj H a
 | none,_,F,h,a,ha=>by rw[show F=[] from h] at ha;cases ha
 | some d,x,F,h,a,ha=>by
  obtain⟨v,rfl,h⟩:=h;exact h.chg a ha
theorem aj.chg{H:Hp}:∀ {D:SD}{σ:St}{F:List Addr},aj H D σ F->∀ a∈F,Gj H a
 | [],σ,F,h,a,ha=>by rw[h.2] at ha;cases ha
 | o::D,σ,F,h,a,ha=>by
  obtain⟨x,r,F1,F2,rfl,h1,h2,rfl⟩:=h;rcases mem_append.mp ha with ha | ha
  ·exact h1.chg a ha
  ·exact aj.chg h2 a ha
theorem aj.len{H:Hp}:∀ {D:SD}{σ:St}{F:List Addr},aj H D σ F->D.length=σ.length
 | [],σ,F,h=>by rw[h.1];rfl
 | o::D,σ,F,h=>by
  obtain⟨x,r,F1,F2,rfl,h1,h2,rfl⟩:=h;rw[length_cons,length_cons,aj.len h2]
def Vl.cp:Vl->Bool
 | .im _=>true
 | .fz _=>true
 | _=>false
theorem Own.cp(h:Own H d v F)(c:d.cp=true):F=[]:=by
 cases d with
 | im d=>exact h.2
 | fz ds=>obtain⟨a,xs,o,rfl,h1,h2,rfl⟩:=h;rfl
 | _=>cases c
theorem aj.out{H:Hp}:∀ {D:SD}{σ:St}{F:List Addr}{i:Nat}{d:Vl},aj H D σ F->D[i]?=some (some d)->∃ v F1 F2,σ[i]?=some (some v)/\Own H d v F1/\aj H (D.set i<|some .jk) σ F2/\(F2++F1).Perm F
 | [],σ,F,i,d,h,e=>by simp at e
 | o::D,σ,F,0,d,h,e=>by
  obtain⟨x,r,F1,F2,rfl,h1,h2,rfl⟩:=h;simp at e;subst e;obtain⟨v,rfl,h1⟩:=h1;exact⟨v,F1,F2,rfl,h1,⟨some v,r,[],F2,rfl,⟨v,rfl,rfl⟩,h2,rfl⟩,perm_append_comm⟩
 | o::D,σ,F,i+1,d,h,e=>by
  obtain⟨x,r,F1,F2,rfl,h1,h2,rfl⟩:=h;obtain⟨v,G1,G2,g1,g2,g3,g4⟩:=aj.out (i:=i) h2 (by simpa using e);refine⟨v,G1,F1++G2,by simpa using g1,g2,⟨x,r,F1,G2,rfl,h1,g3,rfl⟩,?_⟩;rw[List.append_assoc];exact List.Perm.append_left _ g4
theorem aj.put{H:Hp}:∀ {D:SD}{σ:St}{F:List Addr}{i:Nat}{d:Vl}{v:V}{G:List Addr},aj H D σ F->Own H d v G->i<D.length->∃ F1 F2,aj H (D.set i<|some d) (σ.set i<|some v) F1/\(F1++F2).Perm (F++G)
 | [],σ,F,i,d,v,G,h,w,l=>by simp at l
 | o::D,σ,F,0,d,v,G,h,w,l=>by
  obtain⟨x,r,F1,F2,rfl,h1,h2,rfl⟩:=h;refine⟨G++F2,F1,⟨some v,r,G,F2,rfl,⟨v,rfl,w⟩,h2,rfl⟩,?_⟩;refine perm_append_comm.trans ?_;rw[List.append_assoc];exact List.Perm.append_left _ perm_append_comm
 | o::D,σ,F,i+1,d,v,G,h,w,l=>by
  obtain⟨x,r,F1,F2,rfl,h1,h2,rfl⟩:=h;obtain⟨G1,G2,g1,g2⟩:=aj.put (i:=i) h2 w (by simpa using l);refine⟨F1++G1,G2,⟨x,_,F1,G1,rfl,h1,g1,rfl⟩,?_⟩;rw[List.append_assoc,List.append_assoc];exact List.Perm.append_left _ g2
theorem aj.cp{i:Nat}(h:aj H D σ F)(e:D[i]?=some (some d))(c:d.cp=true):∃ v,σ[i]?=some (some v)/\Own H d v []:=by
 obtain⟨v,F1,F2,g1,g2,_⟩:=h.out e;obtain rfl:=g2.cp c;exact⟨v,g1,g2⟩
theorem yA{i:Nat}(h:σ[i]?=some (some v)):σ.set i (some v)=σ:=by
 refine ext_getElem? fun j=>?_;by_cases e:i=j
 ·subst e;rw[h,List.getElem?_set_self (List.getElem?_eq_some_iff.mp h).1]
 ·rw[getElem?_set_ne e]
theorem aj.back{i:Nat}(h:aj H D σ F)(w:Own H d v G)(hv:σ[i]?=some (some v)):∃ F1 F2,aj H (D.set i<|some d) σ F1/\(F1++F2).Perm (F++G):=by
 have l:i<D.length:=by rw[h.len];exact (List.getElem?_eq_some_iff.mp hv).1
 obtain⟨F1,F2,h1,h2⟩:=h.put (i:=i) w l;rw[yA hv] at h1;exact⟨F1,F2,h1,h2⟩
theorem B_.of(f:iC H H')(g:∀ a o u,H a=some (.Et o u)->H' a=some (.Et o u)):B_ H H':=⟨⟨f,g⟩,g⟩
theorem yB(H:Hp):B_ H H:=⟨⟨fun _ _ e=>e,fun _ _ _ e=>e⟩,fun _ _ _ e=>e⟩
theorem B_.trans(a:B_ H H1)(b:B_ H1 H2):B_ H H2:=⟨⟨fun x xs e=>b.tup.t x xs<|a.tup.t x xs e,fun x o u e=>b.Et x o u<|a.Et x o u e⟩,fun x o u e=>b.Et x o u<|a.Et x o u e⟩
theorem m_.refl(h:F'.Nodup)(s:∀ a∈F',a∈F):m_ H F H F':=⟨fun _ _ e _=>e,fun a ha=>.inl<|s a ha,h,yB H,fun _ o e=>⟨o,e⟩⟩
theorem m_.perm(h:F.Nodup)(p:F'.Perm F):m_ H F H F':=m_.refl ((p.nodup_iff).mpr h) fun a ha=>p.mem_iff.mp ha
theorem m_.trans(a:m_ H F H1 (F1++R))(b:m_ H1 F1 H2 F2)(cr:∀ x∈R,Gj H1 x):m_ H F H2 (F2++R):=by
 have nd:=nodup_append.mp a.nd;have al:∀ x∈F2,x∉R:=fun x hx hr=>by
  rcases b.sub x hx with h | h
  ·exact nd.2.2 x h x hr rfl
  ·obtain⟨o,e,_⟩:=cr x hr;rw[e] at h;cases h
 refine⟨fun x o e hx=>?_,fun x hx=>?_,nodup_append.mpr ⟨b.nd,nd.2.1,fun x hx y hy e=>al x hx<|e ▸ hy⟩,a.tup.trans b.tup,fun x o e=>let ⟨o',e'⟩:=a.grow x o e;b.grow x o' e'⟩
 ·refine b.keep x o (a.keep x o e hx) fun h1=>?_;rcases a.sub x (mem_append_left _ h1) with h | h
  ·exact hx h
  ·rw[e] at h;cases h
 ·rcases mem_append.mp hx with hx | hx
  ·rcases b.sub x hx with h | h
   ·exact a.sub x (mem_append_left _ h)
   ·refine .inr ?_;cases e:H x with
    | none=>rfl
    | some o=>
     obtain⟨o',e'⟩:=a.grow x o e;rw[e'] at h;cases h
  ·exact a.sub x (mem_append_right _ hx)
theorem aC.tupS(s:aC H H'):B_ H H':=⟨⟨fun a xs e=>s a _ e,fun a o u e=>s a _ e⟩,fun a o u e=>s a _ e⟩
theorem qc{a b:Addr}{o u:HO}(e:H b=some o)(h:H a=none):L2.upd H a u b=some o:=by rw[aK (cj e h)];exact e
theorem aC.upd(s:aC H H'){a:Addr}{o:HO}(h:H' a=none):aC H (L2.upd H' a o):=fun b u e=>qc (s b u e) h
abbrev M(α:Type):=SD->Option (α×SD)
variable{ge:M Vl}{gc k:M Bool}
inductive Opd where
 | sl (i:Nat)
 | vl (d:Vl)
variable{gb ga:M Opd}{g:M (List Opd)}
def rsl(D:SD):Opd->Option Vl
 | .sl i=>(D[i]?).getD none
 | .vl d=>some d
def cZ(H:Hp)(σ:St):Opd->V->List Addr->Prop
 | .sl i,v,R=>σ[i]?=some (some v)/\R=[]
 | .vl d,v,R=>Own H d v R
def tV(g:M Vl):TE:=fun σ H Q=>∃ D F r D',aj H D σ F/\F.Nodup/\g D=some (r,D')/\∀ v H' F' R,aj H' D' σ F'->Own H' r v R->m_ H F H' (F'++R)->Q v H'
def tO(g:M Opd):TE:=fun σ H Q=>∃ D F r D',aj H D σ F/\F.Nodup/\g D=some (r,D')/\∀ v H' F' R,aj H' D' σ F'->cZ H' σ r v R->m_ H F H' (F'++R)->Q v H'
def Hs(g:M Bool):TT:=fun σ H Q=>∃ D F b D',aj H D σ F/\F.Nodup/\g D=some (b,D')/\∀ H' F',aj H' D' σ F'->m_ H F H' F'->Q b H'
def VE(X:Cx)(e:Expr)(g:M Vl):Prop:=∀ ⦃p⦄,M2 X e (tV g) p
def VO(X:Cx)(e:Expr)(g:M Opd):Prop:=∀ ⦃p⦄,M2 X e (tO g) p
def VT(X:Cx)(e:Expr)(g:M Bool):Prop:=∀ ⦃p⦄,OF X e (Hs g) p
theorem bg{t t':TE}(h:PE X e t)(i:∀ σ H Q,t' σ H Q->t σ H Q):PE X e t':=fun pins s σ H Q I hw=>h pins s σ H Q I (i σ H Q hw)
theorem mf{t:TT}(h:PT X e t)(i:∀ σ H Q,t' σ H Q->t σ H Q):PT X e t':=fun pins s σ H Q I hw=>h pins s σ H Q I (i σ H Q hw)
theorem cZ.mono{r:Opd}(h:cZ H σ r v R)(t:B_ H H')(k:∀ a∈R,∀ o,H a=some o->H' a=some o):cZ H' σ r v R:=by
 cases r with
 | sl i=>exact h
 | vl d=>exact Own.mono t h k
theorem cZ.chg{r:Opd}(h:cZ H σ r v R):∀ a∈R,Gj H a:=by
 cases r with
 | sl i=>intro a ha;rw[h.2] at ha;cases ha
 | vl d=>exact Own.chg h
def FL(H:Hp)(d:Vl)(v:V):Prop:=∃ R,Own H d v R
theorem cZ.read{r:Opd}(h:cZ H σ r v R)(st:aj H D σ F)(e:rsl D r=some d):FL H d v:=by
 cases r with
 | vl d'=>cases e;exact⟨R,h⟩
 | sl i=>
  have e':D[i]?=some (some d):=by
   have:(D[i]?).getD none=some d:=e;cases q:D[i]? with
   | none=>rw[q] at this;cases this
   | some o=>rw[q] at this;rw[show o=some d from this]
  obtain⟨v',F1,F2,g1,g2,_⟩:=st.out e';rw[h.1] at g1;cases g1;exact⟨F1,g2⟩
@[simp] def bu(i:Nat):M Vl:=fun D=>match D[i]? with
 | some (some d)=>if d.cp=true then some (d,D) else some (d,D.set i<|some .jk)
 | _=>none
def eC(d:Im):M Vl:=fun D=>some (.im d,D)
@[simp] def oSl(i:Nat):M Opd:=fun D=>match D[i]? with
 | some (some _)=>some (.sl i,D)
 | _=>none
@[simp] def oV(g:M Vl):M Opd:=fun D=>(g D).map fun p=>(.vl p.1,p.2)
section
variable{X:Cx}
variable{i:Nat}
theorem cC(h:PE X e (eG i)):VE X e (bu i):=by
 refine bg h fun σ H Q ⟨D,F,r,D',st,nd,hg,q⟩=>?_;unfold bu at hg;split at hg
 ·rename_i d hd;split at hg
  ·rename_i hc;cases hg;obtain⟨v,h1,h2⟩:=st.cp hd hc;exact⟨v,h1,q v H F [] st h2 (by rw[append_nil];exact m_.perm nd (List.Perm.refl _))⟩
  ·cases hg;obtain⟨v,F1,F2,h1,h2,h3,h4⟩:=st.out hd;exact⟨v,h1,q v H F2 F1 h3 h2<|m_.perm nd h4⟩
 ·cases hg
theorem yC(h:PE X e (eG i)):VO X e (oSl i):=by
 refine bg h fun σ H Q ⟨D,F,r,D',st,nd,hg,q⟩=>?_;unfold oSl at hg;split at hg
 ·rename_i d hd;cases hg;obtain⟨v,F1,F2,h1,h2,h3,h4⟩:=st.out hd;exact⟨v,h1,q v H F [] st ⟨h1,rfl⟩ (by rw[append_nil];exact m_.perm nd (List.Perm.refl _))⟩
 ·cases hg
theorem ab{g:M Vl}(h:VE X e g):VO X e (oV g):=by
 refine bg h fun σ H Q ⟨D,F,r,D',st,nd,hg,q⟩=>?_;unfold oV at hg;obtain⟨⟨r',D1⟩,h1,h2⟩:=map_eq_some_iff.mp hg;cases h2;exact⟨D,F,r',_,st,nd,h1,q⟩
theorem iM{d:Im}(h:PE X e (tC v))(hd:∀ H,Ef H d v):VE X e (eC d):=by
 refine bg h fun σ H Q ⟨D,F,r,D',st,nd,hg,q⟩=>?_;cases hg;exact q v H F [] st ⟨hd H,rfl⟩ (by rw[append_nil];exact m_.perm nd (List.Perm.refl _))
theorem dv{i:Int}{j pos}:VE X (.Constant (.int i) j pos) (eC<|.int i):=iM u7 fun _=>rfl
theorem bv{b:Bool}{j pos}:VE X (.Constant (.bool b) j pos) (eC<|.bl b):=iM u8 fun _=>rfl
theorem qd{j pos}:VE X (.Constant .none j pos) (eC .j_):=iM u9 fun _=>rfl
theorem yD{j pos}:VE X (.Constant (.str x) j pos) (eC<|.str x):=iM va fun _=>rfl
theorem two{D1 D2:SD}{x y:Opd}{K:V->V->Hp->Prop}(st:aj H D σ F)(nd:F.Nodup)(ha:ga D=some (x,D1))(hb:gb D1=some (y,D2))(k:∀ v u H' F' R1 R2,aj H' D2 σ F'->cZ H' σ x v R1->cZ H' σ y u R2->m_ H F H' ((F'++R2)++R1)->K v u H'):tO ga σ H fun v H1=>tO gb σ H1 fun u H2=>K v u H2:=by
 refine⟨D,F,x,D1,st,nd,ha,fun v H1 F1 R1 s_ o1 s1=>⟨D1,F1,y,D2,s_,(nodup_append.mp s1.nd).1,hb,fun u H2 F2 R2 q_ o2 s2=>?_⟩⟩;refine k v u H2 F2 R1 R2 q_ (o1.mono s2.tup fun a ha o e=>s2.keep a o e fun h=>?_) o2 (s1.trans s2 o1.chg);exact (nodup_append.mp s1.nd).2.2 a h a ha rfl
theorem m_.new{R':List Addr}(a:m_ H F H1 (F1++R))(s:aC H1 H2)(nd:R'.Nodup)(fr:∀ x∈R',H1 x=none)(c:∀ x∈F1,Gj H1 x):m_ H F H2 (F1++R'):=by
 refine⟨fun x o e hx=>s _ _<|a.keep x o e hx,fun x hx=>?_,nodup_append.mpr ⟨(nodup_append.mp a.nd).1,nd,fun x hx y hy e=>?_⟩,a.tup.trans s.tupS,fun x o e=>let ⟨o',e'⟩:=a.grow x o e;⟨o',s _ _ e'⟩⟩
 ·rcases mem_append.mp hx with hx | hx
  ·exact a.sub x (mem_append_left _ hx)
  ·refine .inr ?_;cases e:H x with
   | none=>rfl
   | some o=>
    obtain⟨o',e'⟩:=a.grow x o e;rw[fr x hx] at e';cases e'
 ·subst e;obtain⟨o,e,_⟩:=c x hx;rw[fr x hy] at e;cases e
def FF(X:Cx)(f:Value->Value->Sem Value)(op:Vl->Vl->Option Vl):Prop:=
 EJ X f fun x y H Q=>∃ d1 d2 d,FL H d1 x/\FL H d2 y/\op d1 d2=some d/\∀ v H' R,aC H H'->Own H' d v R->R.Nodup->(∀ a∈R,H a=none)->Q v H'
@[simp] def ae(op:Vl->Vl->Option Vl)(ga gb:M Opd):M Vl:=fun D=>(ga D).bind fun p=>(gb p.2).bind fun q=>(rsl q.2 p.1).bind fun d1=>(rsl q.2 q.1).bind fun d2=>(op d1 d2).map fun d=>(d,q.2)
theorem jS{op:Vl->Vl->Option Vl}(h:tV (ae op ga gb) σ H Q):
  tO ga σ H fun x H1=>tO gb σ H1 fun y H2=>∃ d1 d2 d,FL H2 d1 x/\FL H2 d2 y/\op d1 d2=some d/\∀ v H' R,aC H2 H'->Own H' d v R->R.Nodup->(∀ a∈R,H2 a=none)->Q v H':=by
 obtain⟨D,F,r,D',st,nd,hg,q⟩:=h;unfold ae at hg;obtain⟨⟨x,D1⟩,ha,hg⟩:=bind_eq_some_iff.mp hg;obtain⟨⟨y,D2⟩,hb,hg⟩:=bind_eq_some_iff.mp hg;obtain⟨d1,h1,hg⟩:=bind_eq_some_iff.mp hg;obtain⟨d2,h2,hg⟩:=bind_eq_some_iff.mp hg;obtain⟨d,h3,hg⟩:=map_eq_some_iff.mp hg;cases hg;refine two st nd ha hb fun v u H2 F2 R1 R2 q_ o1 o2 s2=>⟨d1,d2,_,o1.read q_ h1,o2.read q_ h2,h3,fun w H3 R s3 ow Lj fr=>?_⟩;rw[List.append_assoc] at s2;exact q w H3 F2 R (q_.mono s3.tupS fun a _ o e=>s3 a o e) ow (s2.new s3 Lj fr q_.chg)
theorem am{op:Operator}(ho:FF X (binaryOp op) f)(ha:VO X a ga)(hb:VO X b gb):VE X (.BinOp a op b pos) (ae f ga gb):=
 bg (v7 ho ha hb) fun _ _ _ h=>jS h
variable{op:CmpOp}
theorem bL(ho:FF X (compareOp op) f)(ha:VO X a ga)(hb:VO X b gb)(hm:behindInMarks op b=false):VE X (.Compare a [op] [b] pos) (ae f ga gb):=
 bg (wy ho ha hb hm) fun _ _ _ h=>jS h
theorem yE(ho:Hb X (fun x y H Q=>∃ d1 d2 d,FL H d1 x/\FL H d2 y/\f d1 d2=some d/\∀ v H' R,aC H H'->Own H' d v R->R.Nodup->(∀ a∈R,H a=none)->Q v H'))(ha:VO X a ga)(hb:VO X b gb)(hs:lT b):VE X (.Subscript a b pos) (ae f ga gb):=
 bg (xk ho ha hb hs) fun _ _ _ h=>jS h
@[simp] def asB:Vl->Option Bool
 | .im (.bl b)=>some b
 | _=>none
@[simp] def kB(g:M Vl):M Bool:=fun D=>(g D).bind fun p=>(asB p.1).map fun b=>(b,p.2)
theorem qe{b:Bool}(h:asB d=some b):d=.im (.bl b):=by
 unfold asB at h;split at h
 ·cases h;rfl
 ·cases h
theorem bY(ho:FF X (compareOp op) f)(ha:VO X a ga)(hb:VO X b gb)(hm:behindInMarks op b=false):VT X (.Compare a [op] [b] pos) (kB<|ae f ga gb):=by
 refine mf (wA ho ha hb hm) fun σ H Q ⟨D,F,c,D',st,nd,hg,q⟩=>?_;refine jS ⟨D,F,.im<|.bl c,D',st,nd,?_,fun v H' F' R f_ ow s=>⟨c,ow.1,q H' F' f_ (by rw[ow.2,append_nil] at s;exact s)⟩⟩;obtain⟨p,h1,h2⟩:=bind_eq_some_iff.mp hg;obtain⟨c',h3,h4⟩:=map_eq_some_iff.mp h2;cases h4;rw[h1,<- qe h3]
@[simp] def bh(g:M Bool):M Bool:=fun D=>(g D).map fun p=>(!p.1,p.2)
variable{g:M Bool}
theorem dG(h:VT X a g):VT X (.UnaryOp .Not a pos) (bh g):=by
 refine mf (vj h) fun σ H Q ⟨D,F,c,D',st,nd,hg,q⟩=>?_;obtain⟨p,h1,h2⟩:=map_eq_some_iff.mp hg;cases h2;exact⟨D,F,p.1,_,st,nd,h1,q⟩
@[simp] def cP(g h:M Bool):M Bool:=fun D=>(g D).bind fun p=>if p.1=true then h p.2 else some (false,p.2)
@[simp] def kOr(g h:M Bool):M Bool:=fun D=>(g D).bind fun p=>if p.1=true then some (true,p.2) else h p.2
variable{Q:Bool->Hp->Prop}{h:M Bool}
theorem qf(w:Hs (cP g h) σ H Q):oP (Hs g) (Hs h) σ H Q:=by
 obtain⟨D,F,c,D',st,nd,hg,q⟩:=w;obtain⟨⟨b,D1⟩,h1,h2⟩:=bind_eq_some_iff.mp hg;refine⟨D,F,b,D1,st,nd,h1,fun H1 F1 s_ s1=>?_⟩;cases b with
 | true=>
  rw[if_pos rfl];rw[if_pos rfl] at h2;exact⟨D1,F1,c,D',s_,s1.nd,h2,fun H2 F2 q_ s2=>q H2 F2 q_ (by
   have:=m_.trans (R:=[]) (by rw[append_nil];exact s1) s2 (fun x hx=>nomatch hx)
   rwa [append_nil] at this)⟩
 | false=>
  rw[if_neg Bool.false_ne_true] at h2 ⊢;cases h2;exact q H1 F1 s_ s1
theorem qg(w:Hs (kOr g h) σ H Q):OJ (Hs g) (Hs h) σ H Q:=by
 obtain⟨D,F,c,D',st,nd,hg,q⟩:=w;obtain⟨⟨b,D1⟩,h1,h2⟩:=bind_eq_some_iff.mp hg;refine⟨D,F,b,D1,st,nd,h1,fun H1 F1 s_ s1=>?_⟩;cases b with
 | false=>
  rw[if_neg Bool.false_ne_true] at h2 ⊢;exact⟨D1,F1,c,D',s_,s1.nd,h2,fun H2 F2 q_ s2=>q H2 F2 q_ (by
   have:=m_.trans (R:=[]) (by rw[append_nil];exact s1) s2 (fun x hx=>nomatch hx)
   rwa [append_nil] at this)⟩
 | true=>
  rw[if_pos rfl] at h2 ⊢;cases h2;exact q H1 F1 s_ s1
def VW(X:Cx)(e:Expr)(g:M Bool):Prop:=∀ ⦃p⦄,OG X e (Hs g) p
theorem qh{t:TT}(h:PW X e t)(i:∀ σ H Q,t' σ H Q->t σ H Q):PW X e t':=fun wh pins s σ H Q I hw=>h wh pins s σ H Q I (i σ H Q hw)
theorem yF(h:VT X a g):VW X (.BoolOp .And [a] pos) g:=ve h
theorem eT(h:VT X a g):VW X (.BoolOp .Or [a] pos) g:=vf h
theorem yG(h:VT X a g)(hb:VW X (.BoolOp .And (b::r) pos) k):VW X (.BoolOp .And (a::b::r) pos) (cP g k):=qh (vg h hb) fun _ _ _ w=>qf w
theorem eU(h:VT X a g)(hb:VW X (.BoolOp .Or (b::r) pos) k):VW X (.BoolOp .Or (a::b::r) pos) (kOr g k):=qh (vh h hb) fun _ _ _ w=>qg w
theorem VW.vt(h:VW X e g):VT X e g:=PW.pt h
@[simp] def eB(g:M Bool):M Vl:=fun D=>(g D).map fun p=>(.im<|.bl p.1,p.2)
theorem iN(h:VE X e (eB g)):PE X e fun σ H Q=>Hs g σ H fun b H'=>Q (.bl b) H':=by
 refine bg h fun σ H Q ⟨D,F,c,D',st,nd,hg,q⟩=>⟨D,F,.im<|.bl c,D',st,nd,by unfold eB;rw[hg];rfl,fun v H' F' R f_ ow s=>?_⟩;rw[show v=.bl c from ow.1];exact q H' F' f_ (by rw[ow.2,append_nil] at s;exact s)
theorem mh(h:PE X e fun σ H Q=>Hs g σ H fun b H'=>Q (.bl b) H'):VE X e (eB g):=by
 refine bg h fun σ H Q ⟨D,F,r,D',st,nd,hg,q⟩=>?_;obtain⟨p,h1,h2⟩:=map_eq_some_iff.mp hg;cases h2;exact⟨D,F,p.1,_,st,nd,h1,fun H' F' f_ s=>q _ H' F' [] f_ ⟨rfl,rfl⟩ (by rw[append_nil];exact s)⟩
theorem cu{g:M Vl}(h:VE X e g):VE X e (eB<|kB g):=by
 refine bg h fun σ H Q ⟨D,F,r,D',st,nd,hg,q⟩=>?_;obtain⟨p,h1,h2⟩:=map_eq_some_iff.mp hg;obtain⟨p',h3,h4⟩:=bind_eq_some_iff.mp h1;obtain⟨c,h5,h6⟩:=map_eq_some_iff.mp h4;cases h6;cases h2;exact⟨D,F,p'.1,_,st,nd,h3,by rw[qe h5];exact q⟩
theorem qi(h:VE X a (eB g)):VE X (.UnaryOp .Not a pos) (eB<|bh g):=by
 refine mh (bg (vw<|iN h) fun σ H Q ⟨D,F,c,D',st,nd,hg,q⟩=>?_);obtain⟨p,h1,h2⟩:=map_eq_some_iff.mp hg;cases h2;exact⟨D,F,p.1,_,st,nd,h1,fun H' F' f_ s=>⟨_,rfl,q H' F' f_ s⟩⟩
theorem gG{op}{g:M Vl}(h:VE X a g):VE X (.BoolOp op [a] pos) g:=vo h
theorem gH(h:VE X a (eB g))(hb:VE X (.BoolOp .And (b::r) pos) (eB k)):VE X (.BoolOp .And (a::b::r) pos) (eB<|cP g k):=by
 refine mh (bg (vp (iN h)<|iN hb) fun σ H Q w=>?_);have:=qf w;obtain⟨D,F,c,D',st,nd,hg,q⟩:=this;exact⟨D,F,c,D',st,nd,hg,fun H' F' f_ s=>⟨c,rfl,q H' F' f_ s⟩⟩
theorem qj(h:VE X a (eB g))(hb:VE X (.BoolOp .Or (b::r) pos) (eB k)):VE X (.BoolOp .Or (a::b::r) pos) (eB<|kOr g k):=by
 refine mh (bg (vq (iN h)<|iN hb) fun σ H Q w=>?_);have:=qg w;obtain⟨D,F,c,D',st,nd,hg,q⟩:=this;exact⟨D,F,c,D',st,nd,hg,fun H' F' f_ s=>⟨c,rfl,q H' F' f_ s⟩⟩
theorem m_.seq(a:m_ H F H1 F1)(b:m_ H1 F1 H2 F2):m_ H F H2 F2:=by
 have:=m_.trans (R:=[]) (by rw[append_nil];exact a) b (fun x hx=>nomatch hx)
 rwa [append_nil] at this
end
def dH(H:Hp)(σ:St):List Opd->List V->List Addr->Prop
 | [],vs,R=>vs=[]/\R=[]
 | o::os,vs,R=>∃ v r R1 R2,vs=v::r/\cZ H σ o v R1/\dH H σ os r R2/\R=R1++R2
def tA(g:M (List Opd)):TA:=fun σ H Q=>∃ D F r D',aj H D σ F/\F.Nodup/\g D=some (r,D')/\∀ vs H' F' R,aj H' D' σ F'->dH H' σ r vs R->m_ H F H' (F'++R)->Q vs H'
def VA(X:Cx)(es:List Expr)(g:M (List Opd)):Prop:=∀ ⦃p⦄,OH X es (tA g) p
theorem qk{t t':TA}(h:PA X es t)(i:∀ σ H Q,t' σ H Q->t σ H Q):PA X es t':=fun pos pins s σ H Q I hw=>h pos pins s σ H Q I (i σ H Q hw)
def aNil:M (List Opd):=fun D=>some ([],D)
@[simp] def aa(g:M Opd)(h:M (List Opd)):M (List Opd):=fun D=>(g D).bind fun p=>(h p.2).map fun q=>(p.1::q.1,q.2)
theorem m_.EK(s:m_ H F H' A)(p:A.Perm B):m_ H F H' B:=⟨s.keep,fun a ha=>s.sub a<|p.mem_iff.mpr ha,(p.nodup_iff).mp s.nd,s.tup,s.grow⟩
theorem m_.less(s:m_ H F H' A)(p:(B++C).Perm A):m_ H F H' B:=
 ⟨s.keep,fun a ha=>s.sub a<|p.mem_iff.mp<|mem_append_left _ ha,(nodup_append.mp<|(p.nodup_iff).mpr s.nd).1,s.tup,s.grow⟩
section
variable{X:Cx}
theorem eV:VA X [] aNil:=by
 refine qk oY fun σ H Q ⟨D,F,r,D',st,nd,hg,q⟩=>?_;cases hg;exact q [] H F [] st ⟨rfl,rfl⟩ (by rw[append_nil];exact m_.perm nd (List.Perm.refl _))
theorem ah{g:M Opd}{h:M (List Opd)}(he:VO X e g)(hr:VA X es h)(hs:starEach (e::es) X.env=(false,eval e X.env)::starEach es X.env:=by rfl):VA X (e::es) (aa g h):=by
 refine qk (lQ he hr hs) fun σ H Q ⟨D,F,r,D',st,nd,hg,q⟩=>?_;obtain⟨⟨x,D1⟩,h1,h2⟩:=bind_eq_some_iff.mp hg;obtain⟨⟨ys,D2⟩,h3,h4⟩:=map_eq_some_iff.mp h2;cases h4;refine⟨D,F,x,D1,st,nd,h1,fun v H1 F1 R1 s_ o1 s1=>⟨D1,F1,ys,_,s_,(nodup_append.mp s1.nd).1,h3,fun vs H2 F2 R2 q_ o2 s2=>?_⟩⟩;refine q (v::vs) H2 F2 (R1++R2) q_ ⟨v,vs,R1,R2,rfl,o1.mono s2.tup fun a ha o e=>s2.keep a o e fun h=>?_,o2,rfl⟩ ((s1.trans s2 o1.chg).EK ?_)
 ·exact (nodup_append.mp s1.nd).2.2 a h a ha rfl
 ·rw[List.append_assoc];exact List.Perm.append_left _ perm_append_comm
end
def ce(D:SD):List Opd->Option (List Vl)
 | []=>some []
 | o::os=>(rsl D o).bind fun d=>(ce D os).map fun ds=>d::ds
def eZ(H:Hp):List Vl->List V->Prop
 | [],vs=>vs=[]
 | d::ds,vs=>∃ v r,vs=v::r/\FL H d v/\eZ H ds r
theorem dH.read{H:Hp}{D:SD}{σ:St}{F:List Addr}(st:aj H D σ F):∀ {os:List Opd}{vs:List V}{R:List Addr}{ds:List Vl},dH H σ os vs R->ce D os=some ds->eZ H ds vs
 | [],_,_,_,h,e=>by cases e;exact h.1
 | o::os,_,_,_,h,e=>by
  obtain⟨v,r,R1,R2,rfl,h1,h2,rfl⟩:=h;obtain⟨d,e1,e2⟩:=bind_eq_some_iff.mp e;obtain⟨ds,e3,e4⟩:=map_eq_some_iff.mp e2;cases e4;exact⟨v,r,rfl,h1.read st e1,dH.read st h2 e3⟩
def bi:List Opd->SD->Option (List Vl×SD)
 | [],D=>some ([],D)
 | .vl d::os,D=>(bi os D).map fun p=>(d::p.1,p.2)
 | .sl i::os,D=>(bu i D).bind fun p=>(bi os p.2).map fun q=>(p.1::q.1,q.2)
theorem ql{i:Nat}(st:aj H D σ F)(h:bu i D=some (d,D')):∃ v F1 R,σ[i]?=some (some v)/\Own H d v R/\aj H D' σ F1/\(F1++R).Perm F:=by
 unfold bu at h;split at h
 ·rename_i e hd;split at h
  ·rename_i hc;cases h;obtain⟨v,h1,h2⟩:=st.cp hd hc;exact⟨v,F,[],h1,h2,st,by rw[append_nil]⟩
  ·cases h;obtain⟨v,F1,F2,h1,h2,h3,h4⟩:=st.out hd;exact⟨v,F2,F1,h1,h2,h3,h4⟩
 ·cases h
theorem dJ:(A++(B++C)).Perm (B++(A++C)):=by
 rw[<- List.append_assoc,<- List.append_assoc];exact List.Perm.append_right _ perm_append_comm
theorem fU{H:Hp}{σ:St}:∀ {os:List Opd}{vs:List V}{R F:List Addr}{D D':SD}{ds:List Vl},aj H D σ F->dH H σ os vs R->bi os D=some (ds,D')->∃ F1 R1,aj H D' σ F1/\aP H ds vs R1/\(F1++R1).Perm (F++R)
 | [],_,_,F,_,_,_,st,h,e=>by
  cases e;exact⟨F,[],st,⟨h.1,rfl⟩,by rw[h.2]⟩
 | .vl d::os,_,_,F,D,_,_,st,h,e=>by
  obtain⟨v,r,R1,R2,rfl,h1,h2,rfl⟩:=h;rw[bi] at e;obtain⟨p,e3,e4⟩:=map_eq_some_iff.mp e;cases e4;obtain⟨F1,R3,g1,g2,g3⟩:=fU (D':=p.2) (ds:=p.1) st h2 e3;exact⟨F1,R1++R3,g1,⟨v,r,R1,R3,rfl,h1,g2,rfl⟩,dJ.trans<|(List.Perm.append_left _ g3).trans dJ⟩
 | .sl i::os,_,_,F,D,_,_,st,h,e=>by
  obtain⟨v,r,R1,R2,rfl,⟨h1,rfl⟩,h2,rfl⟩:=h;rw[bi] at e;obtain⟨⟨d,D1⟩,e1,e2⟩:=bind_eq_some_iff.mp e;obtain⟨p,e3,e4⟩:=map_eq_some_iff.mp e2;cases e4;obtain⟨v',F1,R3,g1,g2,g3,g4⟩:=ql st e1;rw[h1] at g1;cases g1;obtain⟨F2,R4,k1,k2,k3⟩:=fU (D':=p.2) (ds:=p.1) g3 h2 e3;refine⟨F2,R3++R4,k1,⟨v,r,R3,R4,rfl,g2,k2,rfl⟩,dJ.trans<|(List.Perm.append_left _ k3).trans ?_⟩;rw[<- List.append_assoc];exact List.Perm.append_right _ (perm_append_comm.trans g4)
@[simp] def wb:List Opd->List Vl->SD->SD
 | .sl i::os,d::ds,D=>wb os ds (match D[i]? with | some (some .jk)=>D.set i (some d) | _=>D)
 | .vl _::os,_::ds,D=>wb os ds D
 | _,_,D=>D
theorem jT{H H0:Hp}{σ:St}:∀ {os:List Opd}{ds:List Vl}{vs:List V}{R F S:List Addr}{D:SD},aj H D σ F->dH H0 σ os vs S->aP H ds vs R->∃ F1 R1,aj H (wb os ds D) σ F1/\(F1++R1).Perm (F++R)
 | [],ds,_,R,F,_,D,st,_,_=>⟨F,R,by unfold wb;exact st,List.Perm.refl _⟩
 | .vl _::os,[],_,R,F,_,D,st,_,_=>⟨F,R,by unfold wb;exact st,List.Perm.refl _⟩
 | .sl _::os,[],_,R,F,_,D,st,_,_=>⟨F,R,by unfold wb;exact st,List.Perm.refl _⟩
 | .vl _::os,d::ds,_,R,F,_,D,st,h,w=>by
  obtain⟨v,r,S1,S2,rfl,h1,h2,rfl⟩:=h;obtain⟨v',r',R1,R2,e,w1,w2,rfl⟩:=w;cases e;obtain⟨F1,R3,g1,g2⟩:=jT (D:=D) st h2 w2;refine⟨F1,R1++R3,by rw[wb];exact g1,dJ.trans<|(List.Perm.append_left _ g2).trans dJ⟩
 | .sl i::os,d::ds,_,R,F,_,D,st,h,w=>by
  obtain⟨v,r,S1,S2,rfl,⟨h1,_⟩,h2,rfl⟩:=h;obtain⟨v',r',R1,R2,e,w1,w2,rfl⟩:=w;cases e;rw[wb];split
  ·obtain⟨F1,G,g1,g2⟩:=st.back w1 h1;obtain⟨F2,R3,k1,k2⟩:=jT g1 h2 w2;refine⟨F2,R3++G,k1,?_⟩;rw[<- List.append_assoc,<- List.append_assoc];refine (List.Perm.append_right _ k2).trans ?_;rw[List.append_assoc];refine (List.Perm.append_left _ perm_append_comm).trans ?_;rw[<- List.append_assoc];exact List.Perm.append_right _ g2
  ·obtain⟨F1,R3,g1,g2⟩:=jT st h2 w2;exact⟨F1,R1++R3,g1,dJ.trans<|(List.Perm.append_left _ g2).trans dJ⟩
def ims:List Vl->Option (List Im)
 | []=>some []
 | .im d::ds=>(ims ds).map fun r=>d::r
 | _::_=>none
@[simp] def mkT(ds:List Vl):Vl:=match ims ds with
 | some is=>.im (.tup is)
 | none=>.Kw ds
@[simp] def mkL(ds:List Vl):Vl:=match ims ds with
 | some is=>.lst is
 | none=>.EW ds
theorem mo{H:Hp}:∀ {ds:List Vl}{vs:List V}{R:List Addr}{is:List Im},aP H ds vs R->ims ds=some is->ak H is vs/\R=[]
 | [],_,_,_,h,e=>by cases e;exact h
 | .im d::ds,_,_,_,h,e=>by
  obtain⟨v,r,R1,R2,rfl,⟨h1,rfl⟩,h2,rfl⟩:=h;rw[ims] at e;obtain⟨p,e3,e4⟩:=map_eq_some_iff.mp e;cases e4;obtain⟨g1,rfl⟩:=mo h2 e3;exact⟨⟨v,r,rfl,h1,g1⟩,rfl⟩
 | .jk::_,_,_,_,_,e=>by rw[ims] at e;cases e;all_goals (intro _ z;cases z)
 | .fz _::_,_,_,_,_,e=>by rw[ims] at e;cases e;all_goals (intro _ z;cases z)
 | .lst _::_,_,_,_,_,e=>by rw[ims] at e;cases e;all_goals (intro _ z;cases z)
 | .dK _::_,_,_,_,_,e=>by rw[ims] at e;cases e;all_goals (intro _ z;cases z)
 | .dT _::_,_,_,_,_,e=>by rw[ims] at e;cases e;all_goals (intro _ z;cases z)
 | .EW _::_,_,_,_,_,e=>by rw[ims] at e;cases e;all_goals (intro _ z;cases z)
 | .Mx _ _::_,_,_,_,_,e=>by rw[ims] at e;cases e;all_goals (intro _ z;cases z)
 | .Kw _::_,_,_,_,_,e=>by rw[ims] at e;cases e;all_goals (intro _ z;cases z)
 | .obj _ _ _::_,_,_,_,_,e=>by rw[ims] at e;cases e;all_goals (intro _ z;cases z)
@[simp] def ax(g:M (List Opd)):M Vl:=fun D=>(g D).bind fun p=>(bi p.1 p.2).bind fun q=>if q.1.length<=100000 then some (mkT q.1,q.2) else none
@[simp] def aZ(g:M (List Opd)):M Vl:=fun D=>(g D).bind fun p=>(bi p.1 p.2).bind fun q=>if q.1.length<=100000 then some (mkL q.1,q.2) else none
theorem yH{ds:List Vl}(s:aC H H')(h:aP H ds vs R)(e:H' p=some (.tup vs)):∃ R',Own H' (mkT ds) (.ref p) R'/\R'=R:=by
 unfold mkT;split
 ·rename_i is hi;obtain⟨g1,rfl⟩:=mo h hi;exact⟨[],⟨⟨p,vs,rfl,e,g1.mono s.tupS.tup⟩,rfl⟩,rfl⟩
 ·exact⟨R,⟨p,vs,rfl,e,h.mono s.tupS fun a _ o q=>s a o q⟩,rfl⟩
theorem yI{ds:List Vl}(s:aC H H')(h:aP H ds vs R)(e:H' p=some (.lst vs)):Own H' (mkL ds) (.ref p) (p::R):=by
 unfold mkL;split
 ·rename_i is hi;obtain⟨g1,rfl⟩:=mo h hi;exact⟨p,vs,rfl,e,g1.mono s.tupS.tup,rfl⟩
 ·exact⟨p,vs,R,rfl,e,h.mono s.tupS fun a _ o q=>s a o q,rfl⟩
theorem e8(h:n<=100000):n<=sizeLine:=Nat.le_trans h (by decide)
theorem m_.add{o:HO}(a:m_ H F H1 A)(fr:H1 p=none)(c:∀ x∈A,Gj H1 x):m_ H F (upd H1 p o) (A++[p]):=by
 have s:aC H1 (upd H1 p o):=(aC.refl H1).upd fr;have:=m_.new (R:=[]) (R':=[p]) (by rw[append_nil];exact a) s (pairwise_singleton _ _) (fun x hx=>by rw[mem_singleton.mp hx];exact fr) c;exact this
theorem m_.same(a:m_ H F H1 A)(s:aC H1 H2):m_ H F H2 A:=
 ⟨fun x o e hx=>s _ _<|a.keep x o e hx,a.sub,a.nd,a.tup.trans s.tupS,fun x o e=>let ⟨o',e'⟩:=a.grow x o e;⟨o',s _ _ e'⟩⟩
section
variable{X:Cx}
theorem aE{x1}(h:VA X es g):VE X (.Tuple es x1 pos) (ax g):=by
 refine bg (wM h) fun σ H Q ⟨D,F,r,D',st,nd,hg,q⟩=>?_;obtain⟨⟨os,D1⟩,h1,h2⟩:=bind_eq_some_iff.mp hg;obtain⟨⟨ds,D2⟩,h3,h4⟩:=bind_eq_some_iff.mp h2;refine⟨D,F,os,D1,st,nd,h1,fun vs H1 F1 R1 s_ o1 s1=>?_⟩;obtain⟨F2,R2,q_,ow,pm⟩:=fU s_ o1 h3;split at h4
 ·rename_i hl;cases h4;have Fm:vs.length<=100000:=by rw[<- ow.length];exact hl
  refine⟨e8 Fm,fun p hp=>?_⟩;have s:aC H1 (upd H1 p<|.tup vs):=(aC.refl H1).upd hp;obtain⟨R',g1,rfl⟩:=yH s ow bp;exact q _ _ F2 R' (q_.mono s.tupS fun a _ o e=>s a o e) g1 ((s1.EK pm.symm).same s)
 ·cases h4
theorem bE(h:VA X es g):VE X (.List es pos) (aZ g):=by
 refine bg (wN h) fun σ H Q ⟨D,F,r,D',st,nd,hg,q⟩=>?_;obtain⟨⟨os,D1⟩,h1,h2⟩:=bind_eq_some_iff.mp hg;obtain⟨⟨ds,D2⟩,h3,h4⟩:=bind_eq_some_iff.mp h2;refine⟨D,F,os,D1,st,nd,h1,fun vs H1 F1 R1 s_ o1 s1=>?_⟩;obtain⟨F2,R2,q_,ow,pm⟩:=fU s_ o1 h3;split at h4
 ·rename_i hl;cases h4;have Fm:vs.length<=100000:=by rw[<- ow.length];exact hl
  refine⟨e8 Fm,fun p hp=>?_⟩;have s:aC H1 (upd H1 p<|.lst vs):=(aC.refl H1).upd hp;have g1:=yI s ow (p:=p) bp;refine q _ _ F2 (p::R2) (q_.mono s.tupS fun a _ o e=>s a o e) g1 (((s1.EK pm.symm).add hp fun x hx=>?_).EK ?_)
  ·rcases mem_append.mp hx with hx | hx
   ·exact q_.chg x hx
   ·exact ow.chg x hx
  ·rw[List.append_assoc];exact List.Perm.append_left _ perm_append_comm
 ·cases h4
def cv(X:Cx)(f:Value)(op:List Vl->Option Vl):Prop:=
 bb X f fun xs H Q=>∃ ds d,eZ H ds xs/\op ds=some d/\∀ v H' R,aC H H'->Own H' d v R->R.Nodup->(∀ a∈R,H a=none)->Q v H'
@[simp] def av(op:List Vl->Option Vl)(g:M (List Opd)):M Vl:=fun D=>(g D).bind fun p=>(ce p.2 p.1).bind fun ds=>(op ds).map fun d=>(d,p.2)
theorem qm(h:tV (av op g) σ H Q):
  tA g σ H fun xs H1=>∃ ds d,eZ H1 ds xs/\op ds=some d/\∀ v H' R,aC H1 H'->Own H' d v R->R.Nodup->(∀ a∈R,H1 a=none)->Q v H':=by
 obtain⟨D,F,r,D',st,nd,hg,q⟩:=h;obtain⟨⟨os,D1⟩,h1,h2⟩:=bind_eq_some_iff.mp hg;obtain⟨ds,h3,h4⟩:=bind_eq_some_iff.mp h2;obtain⟨d,h5,h6⟩:=map_eq_some_iff.mp h4;cases h6;refine⟨D,F,os,D1,st,nd,h1,fun vs H1 F1 R1 s_ o1 s1=>⟨ds,_,o1.read s_ h3,h5,fun v H2 R s2 ow Lj fr=>?_⟩⟩;exact q v H2 F1 R (s_.mono s2.tupS fun a _ o e=>s2 a o e) ow (s1.new s2 Lj fr s_.chg)
variable{p:Pos}
theorem bf{id:String}(hc:cv X (.builtin id) op)(hg:Gl X x)(hm:X.mg x=none)(hv:bootBuiltins x=some (.builtin id))(ha:VA X (e::es) g)(hn:x ≠ "__name__" := by decide)(Ha:(x == ("__debug__" : Str))=false:=by decide)(he:starEach (e::es) X.env=(false,eval e X.env)::starEach es X.env:=by rfl)(Fz:(backTo pos<|starEach es X.env).any (·.1)=false:=by rfl):
  VE X (.Call (.Name x p) (e::es) [] pos) (av op g):=bg (pi hc hg hm hv ha hn Ha he Fz) fun _ _ _ h=>qm h
theorem dh{T:String}(hc:cv X (.type T) op)(hg:Gl X x)(hm:X.mg x=none)(hv:bootBuiltins x=some (.type T))(ha:VA X (e::es) g)(hn:x ≠ "__name__" := by decide)(Ha:(x == ("__debug__" : Str))=false:=by decide)(he:starEach (e::es) X.env=(false,eval e X.env)::starEach es X.env:=by rfl)(Fz:(backTo pos<|starEach es X.env).any (·.1)=false:=by rfl):
  VE X (.Call (.Name x p) (e::es) [] pos) (av op g):=bg (wR hc hg hm hv ha hn Ha he Fz) fun _ _ _ h=>qm h
abbrev Fn:=List Vl->Option (Vl×List Vl)
def HL(n:Nat)(G:Fn):Sp:=fun vs H Q _=>vs.length=n/\∃ ds F r outs,aP H ds vs F/\F.Nodup/\G ds=some (r,outs)/\∀ v H' R R',Own H' r v R->aP H' outs vs R'->m_ H F H' (R++R')->Q v H'
@[simp] def ao(n:Nat)(G:Fn)(g:M (List Opd)):M Vl:=fun D=>(g D).bind fun p=>if p.1.length=n then (bi p.1 p.2).bind fun q=>(G q.1).map fun r=>(r.1,wb p.1 r.2 q.2) else none
theorem dH.length{H:Hp}{σ:St}:∀ {os:List Opd}{vs:List V}{R:List Addr},dH H σ os vs R->os.length=vs.length
 | [],_,_,h=>by rw[h.1];rfl
 | o::os,_,_,h=>by
  obtain⟨v,r,R1,R2,rfl,h1,h2,rfl⟩:=h;rw[length_cons,length_cons,dH.length h2]
theorem qo{G:Fn}{E:XK}(h:tV (ao n G g) σ H Q):lR (HL n G) [] E (tA g) σ H Q:=by
 obtain⟨D,F,r,D',st,nd,hg,q⟩:=h;obtain⟨⟨os,D1⟩,h1,h2⟩:=bind_eq_some_iff.mp hg;split at h2
 ·rename_i hn;obtain⟨⟨ds,D2⟩,h3,h4⟩:=bind_eq_some_iff.mp h2;obtain⟨⟨r',outs⟩,h5,h6⟩:=map_eq_some_iff.mp h4;cases h6;refine⟨D,F,os,D1,st,nd,h1,fun vs H1 F1 R1 s_ o1 s1=>?_⟩;obtain⟨F2,R2,q_,ow,pm⟩:=fU s_ o1 h3;have s2:=s1.EK (pm.symm.trans perm_append_comm);rw[append_nil];refine⟨by rw[<- o1.length];exact hn,ds,R2,_,outs,ow,(nodup_append.mp s2.nd).1,h5,fun v H3 R R' w1 w2 s3=>?_⟩;have s4:=s2.trans s3 q_.chg;have My:∀ a∈F2,a∉R2:=fun a ha hb=>(nodup_append.mp s2.nd).2.2 a hb a ha rfl;have E6:aj H3 D2 σ F2:=q_.mono s3.tup fun a ha o e=>s3.keep a o e (My a ha);obtain⟨F3,R3,FB,Lk⟩:=jT E6 o1 w2;refine q v H3 F3 R FB w1 (s4.less (C:=R3) ?_);refine List.Perm.trans ?_ perm_append_comm;rw[List.append_assoc];refine (List.Perm.append_left _ perm_append_comm).trans ?_;rw[<- List.append_assoc];refine (List.Perm.append_right _ Lk).trans ?_;rw[List.append_assoc];exact List.Perm.append_left _ perm_append_comm
 ·cases h2
end
section
variable{X:Cx}
variable{k:Nat}
theorem yJ{G:Fn}{f:Addr}{p:Pos}(F:EN X.prog X.w X.K X.mg X.base GT k f fd ps (HL n G))(hr:Ed k X.A)(hg:Gl X x)(hm:X.mg x=some (.ref f))(hk:PySem.W.keepIn X.K (.ref f)=true)(hb:cH X.K fd ps [])(ha:VA X (e::es) g)(Ha:(x == ("__debug__" : Str))=false:=by decide)(he:starEach (e::es) X.env=(false,eval e X.env)::starEach es X.env:=by rfl)(Fz:(backTo pos<|starEach es X.env).any (·.1)=false:=by rfl):
  VE X (.Call (.Name x p) (e::es) [] pos) (ao n G g):=bg (wO F hr hg hm hk hb .nil pJ ha Ha he Fz) fun _ _ _ h=>qo h
inductive Fl where
 | nx | rt (d:Vl) | bk | ct
abbrev MS:=SD->Option (Fl×SD)
def aM(fix:List Nat)(σ σ':St):Prop:=σ'.length=σ.length/\∀ i∈fix,σ'[i]?=σ[i]?
theorem aM.refl:aM fix σ σ:=⟨rfl,fun _ _=>rfl⟩
theorem aM.trans{σ2:St}(a:aM fix σ σ1)(b:aM fix σ1 σ2):aM fix σ σ2:=⟨b.1.trans a.1,fun i hi=>(b.2 i hi).trans<|a.2 i hi⟩
theorem aM.set{v:Option V}(h:j∉fix):aM fix σ (σ.set j v):=⟨length_set,fun i hi=>getElem?_set_ne fun e=>h (by rw[e];exact hi)⟩
def Ll(fix:List Nat)(E:Ends)(σ:St)(H:Hp)(F:List Addr)(D':SD):Fl->Prop
 | .nx=>∀ σ' H' F',aM fix σ σ'->aj H' D' σ' F'->m_ H F H' F'->E.nx σ' H'
 | .bk=>∀ σ' H' F',aM fix σ σ'->aj H' D' σ' F'->m_ H F H' F'->E.bk σ' H'
 | .ct=>∀ σ' H' F',aM fix σ σ'->aj H' D' σ' F'->m_ H F H' F'->E.ct σ' H'
 | .rt d=>∀ v σ' H' F' R,aM fix σ σ'->aj H' D' σ' F'->Own H' d v R->m_ H F H' (F'++R)->E.rt v H'
def tS(fix:List Nat)(g:MS):TS:=fun E σ H=>∃ D F fl D',aj H D σ F/\F.Nodup/\g D=some (fl,D')/\Ll fix E σ H F D' fl
def VS(X:Cx)(fix:List Nat)(st:Stmt)(g:MS):Prop:=∀ ⦃p⦄,OI X st (tS fix g) p
def HM(X:Cx)(fix:List Nat)(Mz:List Stmt)(g:MS):Prop:=∀ ⦃p⦄,oM X Mz (tS fix g) p
variable{t':TS}
theorem d6{t:TS}(h:PS X st t)(i:∀ E σ H,t' E σ H->t E σ H):PS X st t':=fun pins s σ H D I hw=>h pins s σ H D I (i D σ H hw)
theorem qp{st:List Stmt}{t:TS}(h:Gz X st t)(i:∀ E σ H,t' E σ H->t E σ H):Gz X st t':=fun pins s σ H D I hw=>h pins s σ H D I (i D σ H hw)
theorem Ll.on{fl:Fl}(h:Ll fix E σ H F D' fl)(fx:aM fix σ σ1)(s:m_ H F H1 F1):Ll fix E σ1 H1 F1 D' fl:=by
 cases fl with
 | nx=>exact fun σ' H' F' f st s'=>h σ' H' F' (fx.trans f) st (s.seq s')
 | bk=>exact fun σ' H' F' f st s'=>h σ' H' F' (fx.trans f) st (s.seq s')
 | ct=>exact fun σ' H' F' f st s'=>h σ' H' F' (fx.trans f) st (s.seq s')
 | rt d=>exact fun v σ' H' F' R f st ow s'=>h v σ' H' F' R (fx.trans f) st ow (s.seq s')
def sNil:MS:=fun D=>some (.nx,D)
@[simp] def ai(g h:MS):MS:=fun D=>(g D).bind fun p=>match p.1 with
 | .nx=>h p.2
 | fl=>some (fl,p.2)
theorem bz:HM X fix [] sNil:=by
 refine qp vy fun E σ H ⟨D,F,fl,D',st,nd,hg,q⟩=>?_;cases hg;exact q σ H F aM.refl st (m_.perm nd<|List.Perm.refl _)
variable{g:MS}
theorem az(h:VS X fix st g):HM X fix [st] g:=vA h
theorem yK{h:MS}(w:tS fix (ai g h) E σ H):oQ (tS fix g) (tS fix h) E σ H:=by
 obtain⟨D,F,fl,D',st,nd,hg,q⟩:=w;obtain⟨⟨f1,D1⟩,h1,h2⟩:=bind_eq_some_iff.mp hg;cases f1 with
 | nx=>exact⟨D,F,.nx,D1,st,nd,h1,fun σ' H' F' fx f_ s=>⟨D1,F',fl,D',f_,s.nd,h2,q.on fx s⟩⟩
 | bk=>cases h2;exact⟨D,F,.bk,D1,st,nd,h1,q⟩
 | ct=>cases h2;exact⟨D,F,.ct,D1,st,nd,h1,q⟩
 | rt d=>cases h2;exact⟨D,F,.rt d,D1,st,nd,h1,q⟩
theorem aq{Mz:List Stmt}{h:MS}(h1:VS X fix st g)(h2:HM X fix Mz h):HM X fix (st::Mz) (ai g h):=qp (vz h1 h2) fun _ _ _ w=>yK w
@[simp] def fV(g:M Vl):MS:=fun D=>(g D).map fun p=>(.nx,p.2)
variable{g:M Vl}
theorem mq(h:VE X e g)(hs:swapsWith e none pos.line X.env=pure false:=by rfl):VS X fix (.Expr e pos) (fV g):=by
 refine d6 (vC h hs) fun E σ H ⟨D,F,fl,D',st,nd,hg,q⟩=>?_;obtain⟨⟨r,D1⟩,h1,h2⟩:=map_eq_some_iff.mp hg;cases h2;exact⟨D,F,r,_,st,nd,h1,fun v H' F' R f_ ow s=>q σ H' F' aM.refl f_<|s.less<|List.Perm.refl _⟩
@[simp] def aG(g:M Vl):MS:=fun D=>(g D).map fun p=>(.rt p.1,p.2)
theorem aQ(h:VE X e g):VS X fix (.Return (some e) pos) (aG g):=by
 refine d6 (vE h) fun E σ H ⟨D,F,fl,D',st,nd,hg,q⟩=>?_;obtain⟨⟨r,D1⟩,h1,h2⟩:=map_eq_some_iff.mp hg;cases h2;exact⟨D,F,r,_,st,nd,h1,fun v H' F' R f_ ow s=>q v σ H' F' R aM.refl f_ ow s⟩
@[simp] def sIf(c:M Bool)(a b:MS):MS:=fun D=>(c D).bind fun p=>if p.1=true then a p.2 else b p.2
variable{gb:MS}
theorem bA{a b:List Stmt}{ga:MS}(hc:VT X c gc)(ha:HM X fix a ga)(hb:HM X fix b gb):VS X fix (.If c a b pos) (sIf gc ga gb):=by
 refine d6 (vG hc ha hb) fun E σ H ⟨D,F,fl,D',st,nd,hg,q⟩=>?_;obtain⟨⟨t,D1⟩,h1,h2⟩:=bind_eq_some_iff.mp hg;refine⟨D,F,t,D1,st,nd,h1,fun H1 F1 s_ s1=>?_⟩;cases t with
 | true=>
  rw[if_pos rfl] at h2 ⊢;exact⟨D1,F1,fl,D',s_,s1.nd,h2,q.on aM.refl s1⟩
 | false=>
  rw[if_neg Bool.false_ne_true] at h2 ⊢;exact⟨D1,F1,fl,D',s_,s1.nd,h2,q.on aM.refl s1⟩
@[simp] def ar(i:Nat)(g:M Vl):MS:=fun D=>(g D).bind fun p=>if i<p.2.length then some (.nx,p.2.set i<|some p.1) else none
variable{i:Nat}
theorem aB{pos':Pos}(hN:X.N.Nodup)(hi:X.N[i]?=some x)(hx:Loc X.env.scope x)(he:VE X e g)(hf:i∉fix)(hs:swapsWith e (some<|.Name x pos') pos.line X.env=pure false:=by rfl)(Jz:X.fn x=true\/X.env.scope.names.lookup x=some .local:=by first | exact .inl rfl | exact .inr rfl | assumption):VS X fix (.Assign [.Name x pos'] e pos) (ar i g):=by
 refine d6 (vQ hN hi hx he hs Jz) fun E σ H ⟨D,F,fl,D',st,nd,hg,q⟩=>?_;obtain⟨⟨r,D1⟩,h1,h2⟩:=bind_eq_some_iff.mp hg;split at h2
 ·rename_i hl;cases h2;refine⟨D,F,r,_,st,nd,h1,fun v H1 F1 R s_ ow s1=>?_⟩;obtain⟨F2,R2,q_,pm⟩:=s_.put (i:=i) ow hl;exact q _ H1 F2 (aM.set hf) q_ (s1.less pm)
 ·cases h2
abbrev MG:=Vl->SD->Option SD
def tG(fix:List Nat)(g:MG):TG:=fun v σ H Q=>∃ D F d R D',aj H D σ F/\Own H d v R/\(F++R).Nodup/\g d D=some D'/\∀ σ' H' F',aM fix σ σ'->aj H' D' σ' F'->m_ H (F++R) H' F'->Q σ' H'
def VG(X:Cx)(fix:List Nat)(e:Expr)(g:MG):Prop:=∀ ⦃p⦄,OK X e (tG fix g) p
theorem mr{t t':TG}(h:PG X e t)(i:∀ v σ H Q,t' v σ H Q->t v σ H Q):PG X e t':=fun pins s σ H x v Q I r hw=>h pins s σ H x v Q I r (i x σ H Q hw)
@[simp] def gN(i:Nat):MG:=fun d D=>if i<D.length then some (D.set i<|some d) else none
theorem aR(hN:X.N.Nodup)(hi:X.N[i]?=some x)(hx:Loc X.env.scope x)(hf:i∉fix)(Jz:X.fn x=true\/X.env.scope.names.lookup x=some .local:=by first | exact .inl rfl | exact .inr rfl | assumption):VG X fix (.Name x pos) (gN i):=by
 refine mr (vH hN hi hx Jz) fun v σ H Q ⟨D,F,d,R,D',st,ow,nd,hg,q⟩=>?_;unfold gN at hg;split at hg
 ·rename_i hl;cases hg;obtain⟨F2,R2,q_,pm⟩:=st.put (i:=i) ow hl;exact q _ H F2 (aM.set hf) q_ ((m_.perm nd<|List.Perm.refl _).less pm)
 ·cases hg
def Qy(fix:List Nat)(g:List Vl->SD->Option SD):Ig:=fun vs σ H Q=>∃ D F ds R D',aj H D σ F/\aP H ds vs R/\(F++R).Nodup/\g ds D=some D'/\∀ σ' H' F',aM fix σ σ'->aj H' D' σ' F'->m_ H (F++R) H' F'->Q σ' H'
def MA(X:Cx)(fix:List Nat)(es:List Expr)(g:List Vl->SD->Option SD):Prop:=∀ ⦃p⦄,oR X es (Qy fix g) p
@[simp] def gNil':List Vl->SD->Option SD
 | [],D=>some D
 | _,_=>none
@[simp] def c6(g:MG)(h:List Vl->SD->Option SD):List Vl->SD->Option SD
 | d::ds,D=>(g d D).bind (h ds)
 | _,_=>none
theorem qq{t t':Ig}(h:Kl X es t)(i:∀ v σ H Q,t' v σ H Q->t v σ H Q):Kl X es t':=fun pins s σ H xs vs Q I r hw=>h pins s σ H xs vs Q I r (i xs σ H Q hw)
theorem jU:MA X fix [] gNil':=by
 refine qq vJ fun vs σ H Q ⟨D,F,ds,R,D',st,ow,nd,hg,q⟩=>?_;cases ds with
 | cons d ds=>cases hg
 | nil=>
  cases hg;exact⟨ow.1,q σ H F aM.refl st<|(m_.perm nd<|List.Perm.refl _).less<|List.Perm.refl _⟩
theorem fb{g:MG}(h1:VG X fix e g)(h2:MA X fix es h)(hs:(assignEach (e::es) X.env).map (·.2)=assign e X.env::(assignEach es X.env).map (·.2):=by rfl):MA X fix (e::es) (c6 g h):=by
 refine qq (vK h1 h2 hs) fun vs σ H Q ⟨D,F,ds,R,D',st,ow,nd,hg,q⟩=>?_;cases ds with
 | nil=>cases hg
 | cons d ds=>
  obtain⟨v,r,R1,R2,rfl,w1,w2,rfl⟩:=ow;obtain⟨D1,g1,g2⟩:=bind_eq_some_iff.mp (show (g d D).bind (h ds)=some D' from hg);have HN:((F++R1)++R2).Nodup:=by rw[List.append_assoc];exact nd
  refine⟨v,r,rfl,D,F,d,R1,D1,st,w1,(nodup_append.mp HN).1,g1,fun σ1 H1 F1 fx s_ s1=>?_⟩;have My:∀ a∈R2,a∉F++R1:=fun a ha hb=>(nodup_append.mp HN).2.2 a hb a ha rfl;have Qz:aP H1 ds r R2:=w2.mono s1.tup fun a ha o e=>s1.keep a o e (My a ha);have s2:m_ H (F++(R1++R2)) H1 (F1++R2):=by
   refine⟨fun a o e ha=>s1.keep a o e fun h=>ha ?_,fun a ha=>?_,nodup_append.mpr ⟨s1.nd,(nodup_append.mp HN).2.1,fun a ha b hb e=>?_⟩,s1.tup,s1.grow⟩
   ·rw[<- List.append_assoc];exact mem_append_left _ h
   ·rcases mem_append.mp ha with ha | ha
    ·rcases s1.sub a ha with h | h
     ·left;rw[<- List.append_assoc];exact mem_append_left _ h
     ·exact .inr h
    ·left;rw[<- List.append_assoc];exact mem_append_right _ ha
   ·subst e;rcases s1.sub a ha with h | h
    ·exact My a hb h
    ·obtain⟨o,e,_⟩:=w2.chg a hb;rw[e] at h;cases h
  exact⟨D1,F1,ds,R2,D',s_,Qz,s2.nd,g2,fun σ2 H2 F2 QA q_ s3=>q σ2 H2 F2 (fx.trans QA) q_<|s2.seq s3⟩
@[simp] def gT(n:Nat)(h:List Vl->SD->Option SD):MG:=fun d D=>match d with
 | .im (.tup is)=>if is.length=n then h (is.map .im) D else none
 | .Kw ds=>if ds.length=n then h ds D else none
 | _=>none
theorem qr{H:Hp}:∀ {is:List Im}{vs:List V},ak H is vs->aP H (is.map .im) vs []
 | [],vs,h=>⟨h,rfl⟩
 | d::is,vs,h=>by
  obtain⟨v,r,rfl,h1,h2⟩:=h;exact⟨v,r,[],[],rfl,⟨h1,rfl⟩,qr h2,rfl⟩
theorem jV(hc:X.calm=true)(hs:MA X fix es h)(hn:(assignEach es X.env).length=n:=by rfl)(Iu:(assignEach es X.env).findIdx? (·.1)=none:=by rfl):VG X fix (.Tuple es k pos) (gT n h):=by
 refine mr (vM hc hs hn Iu) fun v σ H Q ⟨D,F,d,R,D',st,ow,nd,hg,q⟩=>?_;unfold gT at hg;split at hg
 ·rename_i is;split at hg
  ·rename_i hl;obtain⟨⟨a,xs,rfl,h1,h2⟩,rfl⟩:=ow;exact⟨a,xs,rfl,A_.of h1,by rw[<- h2.length];exact hl,D,F,_,[],D',st,qr h2,nd,hg,q⟩
  ·cases hg
 ·rename_i ds;split at hg
  ·rename_i hl;obtain⟨a,xs,rfl,h1,h2⟩:=ow;exact⟨a,xs,rfl,A_.of h1,by rw[<- h2.length];exact hl,D,F,_,R,D',st,h2,nd,hg,q⟩
  ·cases hg
 ·cases hg
@[simp] def c7(g:M Vl)(h:MG):MS:=fun D=>(g D).bind fun p=>(h p.1 p.2).map fun D'=>(.nx,D')
theorem fc{h:MG}(he:VE X e g)(hg:VG X fix tg h)(hs:swapsWithSole [tg] e pos.line X.env=pure false:=by rfl)(hw:swappedStores [tg] e X.env=pure none:=by rfl)(h1:(assignEach [tg] X.env).map (·.2)=[assign tg X.env]:=by rfl):VS X fix (.Assign [tg] e pos) (c7 g h):=by
 refine d6 (vP he hg hs hw h1) fun E σ H ⟨D,F,fl,D',st,nd,FW,q⟩=>?_;obtain⟨⟨r,D1⟩,g1,g2⟩:=bind_eq_some_iff.mp FW;obtain⟨D2,g3,g4⟩:=map_eq_some_iff.mp g2;cases g4;exact⟨D,F,r,D1,st,nd,g1,fun v H1 F1 R s_ ow s1=>⟨D1,F1,r,R,_,s_,ow,s1.nd,g3,fun σ' H' F' fx f_ s2=>q σ' H' F' fx f_<|s1.seq s2⟩⟩
@[simp] def fe(i j:Nat)(g:M (List Opd)):MS:=fun D=>(g D).bind fun p=>(bi p.1 p.2).bind fun q=>match q.1 with
 | [d1,d2]=>if i<q.2.length/\j<q.2.length then some (.nx,(q.2.set i<|some d1).set j<|some d2) else none
 | _=>none
theorem mv{y:Str}{g:M (List Opd)}{px py pt:Pos}{kt k2 JB}(hc:X.calm=true)(hN:X.N.Nodup)(hi:X.N[i]?=some x)(hj:X.N[j]?=some y)(Fq:i≠j)(hx:X.env.scope.names.lookup x=some .local)(hy:X.env.scope.names.lookup y=some .local)(ha:VA X [a,b] g)(QB:i∉fix)(QC:j∉fix)(hw:swappedStores [.Tuple [.Name x px,.Name y py] kt pt] (.Tuple [a,b] k2 JB) X.env=pure (some [x,y]))(hs:swapsWithSole [.Tuple [.Name x px,.Name y py] kt pt] (.Tuple [a,b] k2 JB) pos.line X.env=pure false:=by rfl):
  VS X fix (.Assign [.Tuple [.Name x px,.Name y py] kt pt] (.Tuple [a,b] k2 JB) pos) (fe i j g):=by
 refine d6 (vS hc hN hi hj Fq hx hy ha hw hs) fun E σ H ⟨D,F,fl,D',st,nd,hg,q⟩=>?_;obtain⟨⟨os,D1⟩,h1,h2⟩:=bind_eq_some_iff.mp hg;obtain⟨⟨ds,D2⟩,h3,h4⟩:=bind_eq_some_iff.mp h2;refine⟨D,F,os,D1,st,nd,h1,fun vs H1 F1 R1 s_ o1 s1=>?_⟩;obtain⟨F2,R2,q_,ow,pm⟩:=fU s_ o1 h3;dsimp only at h4;split at h4
 ·rename_i d1 d2 e;split at h4
  ·rename_i hl;cases h4;obtain⟨v,r,A,B,rfl,w1,w2,rfl⟩:=ow;obtain⟨u,r',A',B',rfl,w3,⟨rfl,rfl⟩,rfl⟩:=w2;obtain⟨F3,G3,E6,Lm⟩:=q_.put (i:=i) w1 hl.1;obtain⟨F4,G4,FB,Lk⟩:=E6.put (i:=j) w3 (by rw[length_set];exact hl.2);refine⟨v,u,rfl,q _ H1 F4 ((aM.set QB).trans<|aM.set QC) FB<|(s1.EK pm.symm).less (C:=G4++G3) ?_⟩;rw[<- List.append_assoc,append_nil,<- List.append_assoc];refine (List.Perm.append_right G3 Lk).trans ?_;rw[List.append_assoc];refine (List.Perm.append_left F3 perm_append_comm).trans ?_;rw[<- List.append_assoc];exact List.Perm.append_right _ Lm
  ·cases h4
 ·cases h4
def d7(c:M Bool)(b:MS):Nat->MS
 | 0=>fun _=>none
 | n+1=>fun D=>(c D).bind fun p=>if p.1=true then (b p.2).bind fun q=>match q.1 with
  | .nx=>d7 c b n q.2
  | .ct=>d7 c b n q.2
  | .bk=>some (.nx,q.2)
  | .rt d=>some (.rt d,q.2) else some (.nx,p.2)
theorem yL(n:Nat)(hp:PassesOwn (model X.prog X.w) X.A X.env X.xe)(hc:VT X c gc)(hb:HM X fix body gb):VS X fix (.While c body [] pos) (d7 gc gb n):=by
 refine d6 (vU hp hc hb) fun E σ H ⟨D,F,fl,D',st,nd,hg,q⟩=>?_;refine⟨fun m σ' H'=>∃ Dd F',aj H' Dd σ' F'/\aM fix σ σ'/\m_ H F H' F'/\d7 gc gb m Dd=some (fl,D'),⟨n,D,F,st,aM.refl,m_.perm nd<|List.Perm.refl _,hg⟩,?_⟩;rintro m σ1 H1 ⟨D1,F1,s_,Ln,s1,w⟩;cases m with
 | zero=>cases w
 | succ m=>
  rw[d7] at w;obtain⟨⟨t,D2⟩,w1,w2⟩:=bind_eq_some_iff.mp w;refine⟨D1,F1,t,D2,s_,s1.nd,w1,fun H2 F2 q_ s2=>?_⟩;cases t with
  | false=>
   rw[if_neg Bool.false_ne_true] at w2 ⊢;cases w2;exact q σ1 H2 F2 Ln q_ (s1.seq s2)
  | true=>
   rw[if_pos rfl] at w2 ⊢;obtain⟨⟨f,D3⟩,w3,w4⟩:=bind_eq_some_iff.mp w2;refine⟨fun σ' H'=>∃ Dd F',aj H' Dd σ' F'/\aM fix σ σ'/\m_ H F H' F'/\d7 gc gb m Dd=some (fl,D'),fun σ' H' h=>⟨m,lt_succ_self m,h⟩,D2,F2,f,D3,q_,s2.nd,w3,?_⟩;cases f with
   | nx=>exact fun σ' H' F' fx f_ s'=>⟨D3,F',f_,Ln.trans fx,(s1.seq s2).seq s',w4⟩
   | ct=>exact fun σ' H' F' fx f_ s'=>⟨D3,F',f_,Ln.trans fx,(s1.seq s2).seq s',w4⟩
   | bk=>
    cases w4;exact fun σ' H' F' fx f_ s'=>q σ' H' F' (Ln.trans fx) f_ ((s1.seq s2).seq s')
   | rt d=>
    cases w4;exact fun v σ' H' F' R fx f_ ow s'=>q v σ' H' F' R (Ln.trans fx) f_ ow ((s1.seq s2).seq s')
structure Gk(J:It)(H:Hp)(R:List Addr)(ds:List Im):Prop where
 go:∀ H',B_ H H'->(∀ a∈R,∀ o,H a=some o->H' a=some o)->∀ (i:Nat) (d:Im),ds[i]?=some d->J.go i H'/\∀ x Ji,J.KP i H' x Ji->aC H' Ji/\Ef Ji d x
 stop:∀ H',B_ H H'->(∀ a∈R,∀ o,H a=some o->H' a=some o)->J.stop ds.length H'
def iO(H:Hp)(σ:St)(R:List Addr):Option (Nat×Vl)->Prop
 | none=>True
 | some (i,d)=>∃ v,σ[i]?=some (some v)/\Own H d v R
def tI(g:M (List Im×Option (Nat×Vl))):TI:=fun σ H Rk=>∃ D F r D',aj H D σ F/\F.Nodup/\g D=some (r,D')/\∀ J H' F' R,aj H' D' σ F'->Gk J H' R r.1->iO H' σ R r.2->(∀ a∈R,Gj H' a)->m_ H F H' (F'++R)->Rk J H'
def VI(X:Cx)(tg iter:Expr)(g:M (List Im×Option (Nat×Vl))):Prop:=∀ ⦃p⦄,OM X tg iter (tI g) p
theorem mw{t t':TI}(h:PI X tg iter t)(i:∀ σ H R,t' σ H R->t σ H R):PI X tg iter t':=fun pins s σ H R I hw=>h pins s σ H R I (i σ H R hw)
def bj(tg:MG)(b:MS):List Im->MS
 | []=>fun D=>some (.nx,D)
 | x::r=>fun D=>(tg (.im x) D).bind fun D1=>(b D1).bind fun q=>match q.1 with
  | .nx=>bj tg b r q.2
  | .ct=>bj tg b r q.2
  | .bk=>some (.nx,q.2)
  | .rt d=>some (.rt d,q.2)
@[simp] def rst:Option (Nat×Vl)->SD->SD
 | none,D=>D
 | some (i,d),D=>match D[i]? with
  | some (some .jk)=>D.set i (some d)
  | _=>D
@[simp] def bZ(g:M (List Im×Option (Nat×Vl)))(tg:MG)(b:MS):MS:=fun D=>(g D).bind fun p=>(bj tg b p.1.1 p.2).map fun q=>(q.1,rst p.1.2 q.2)
theorem mx{o:Option (Nat×Vl)}(st:aj H D σ F)(h:iO H σ R o):∃ F1 G,aj H (rst o D) σ F1/\(F1++G).Perm (F++R):=by
 cases o with
 | none=>exact⟨F,R,st,List.Perm.refl _⟩
 | some p=>
  obtain⟨i,d⟩:=p;obtain⟨v,h1,h2⟩:=h;unfold rst;dsimp only;split
  ·exact st.back h2 h1
  ·exact⟨F,R,st,List.Perm.refl _⟩
def gI(fx:List Nat):Option (Nat×Vl)->Prop
 | none=>True
 | some (i,_)=>i∈fx
theorem yM{g:M (List Im×Option (Nat×Vl))}{gt:MG}(hp:PassesOwn (model X.prog X.w) X.A X.env X.xe)(hc:X.calm=true)(hi:VI X tg iter g)(hg:VG X fx tg gt)(hb:HM X fx body gb)(hf:∀ i∈fix,i∈fx)(hs:∀ D r D',g D=some (r,D')->gI fx r.2)(MB:PS X (.For tg iter body [] pos) (oT (tI g) (tG fx gt)<|tS fx gb)):VS X fix (.For tg iter body [] pos) (bZ g gt gb):=by
 refine d6 MB fun E σ H ⟨D,F,fl,D',st,nd,FW,q⟩=>?_;obtain⟨⟨⟨ds,o⟩,D1⟩,h1,h2⟩:=bind_eq_some_iff.mp FW;obtain⟨⟨f,D2⟩,h3,h4⟩:=map_eq_some_iff.mp h2;cases h4;refine⟨D,F,(ds,o),D1,st,nd,h1,fun J H1 F1 R s_ it ln cR s1=>?_⟩;have QD:gI fx o:=hs D _ _ h1;have Lo:=nodup_append.mp s1.nd;have keepR:∀ {H2:Hp}{F2:List Addr},m_ H1 F1 H2 F2->∀ a∈R,∀ u,H1 a=some u->H2 a=some u:=fun s a ha u e=>s.keep a u e fun h=>Lo.2.2 a h a ha rfl;have Lp:∀ {H2:Hp}{F2:List Addr}{σ2:St},m_ H1 F1 H2 F2->aM fx σ σ2->iO H2 σ2 R o:=fun {H2 F2 σ2} s f=>by
  cases o with
  | none=>trivial
  | some p=>
   obtain⟨i,d⟩:=p;obtain⟨v,e1,e2⟩:=ln;exact⟨v,(f.2 i QD).trans e1,e2.mono s.tup<|keepR s⟩
 have O5:∀ {σ2:St},aM fx σ σ2->aM fix σ σ2:=fun f=>⟨f.1,fun i hi=>f.2 i<|hf i hi⟩;have leave:∀ {σ2:St}{H2:Hp}{F2:List Addr}{D2:SD},Ll fix E σ H F (rst o D2) .nx->aM fx σ σ2->aj H2 D2 σ2 F2->m_ H1 F1 H2 F2->E.nx σ2 H2:=fun {σ2 H2 F2 D2} q f q_ s2=>by
  obtain⟨F3,G,E6,pm⟩:=mx q_ (Lp s2 f);exact q σ2 H2 F3 (O5 f) E6 ((s1.trans s2 cR).less pm)
 refine⟨fun i m σ' H'=>m+i=ds.length/\∃ Dd F',aM fx σ σ'/\aj H' Dd σ' F'/\m_ H1 F1 H' F'/\bj gt gb (ds.drop i) Dd=some (f,D2),⟨ds.length,rfl,D1,F1,aM.refl,s_,m_.perm Lo.1<|List.Perm.refl _,h3⟩,?_⟩;rintro i m σ' H' ⟨hm,Dd,F',Lq,f_,s',hw⟩;by_cases Ff:i<ds.length
 ·obtain⟨NE,hy⟩:=it.go H' s'.tup (keepR s') i ds[i] (by simp[Ff]);rw[drop_eq_getElem_cons Ff,bj] at hw;obtain⟨D3,w1,w2⟩:=bind_eq_some_iff.mp hw;obtain⟨⟨f2,D4⟩,w3,w4⟩:=bind_eq_some_iff.mp w2;refine .inr ⟨NE,fun σ2 H2=>(m - 1)+(i+1)=ds.length/\∃ Dd F',aM fx σ σ2/\aj H2 Dd σ2 F'/\m_ H1 F1 H2 F'/\bj gt gb (ds.drop<|i+1) Dd=some (f,D2),fun σ2 H2 h=>⟨m - 1,by lia,h⟩,fun x H2 hx=>?_⟩;obtain⟨sm,NF⟩:=hy x H2 hx;have q_:=f_.mono sm.tupS fun a _ o e=>sm a o e;have s2:=s'.same sm;refine⟨Dd,F',.im ds[i],[],D3,q_,⟨NF,rfl⟩,by rw[append_nil];exact s2.nd,w1,fun σ3 H3 F3 IM E6 sg=>?_⟩;have s3:m_ H1 F1 H3 F3:=s2.seq (by rw[append_nil] at sg;exact sg);refine⟨D3,F3,f2,D4,E6,s3.nd,w3,?_⟩;cases f2 with
  | nx=>exact fun σ4 H4 F4 JX FB s4=>⟨by lia,D4,F4,(Lq.trans IM).trans JX,FB,s3.seq s4,w4⟩
  | ct=>exact fun σ4 H4 F4 JX FB s4=>⟨by lia,D4,F4,(Lq.trans IM).trans JX,FB,s3.seq s4,w4⟩
  | bk=>
   cases w4;exact fun σ4 H4 F4 JX FB s4=>leave q ((Lq.trans IM).trans JX) FB (s3.seq s4)
  | rt d=>
   cases w4;intro v σ4 H4 F4 R4 JX FB QE s4;have s5:=s3.seq s4;have f5:=(Lq.trans IM).trans JX;obtain⟨F5,G5,Fi,IN⟩:=mx (R:=R) FB (Lp s5 f5);refine q v σ4 H4 F5 R4 (O5 f5) Fi QE ((s1.trans s5 cR).less (C:=G5) ?_);rw[List.append_assoc];refine (List.Perm.append_left F5 perm_append_comm).trans ?_;rw[<- List.append_assoc];refine (List.Perm.append_right R4 IN).trans ?_;rw[List.append_assoc,List.append_assoc];exact List.Perm.append_left _ perm_append_comm
 ·have hi:i=ds.length:=by lia
  subst hi;refine .inl ⟨it.stop H' s'.tup<|keepR s',?_⟩;rw[drop_of_length_le (Nat.le_refl _)] at hw;cases hw;exact leave q Lq f_ s'
end
section
variable{X:Cx}
variable{gt:MG}
theorem dw{g:M (List Im×Option (Nat×Vl))}{gb:MS}(hp:PassesOwn (model X.prog X.w) X.A X.env X.xe)(hc:X.calm=true)(hi:VI X tg iter g)(hg:VG X fx tg gt)(hb:HM X fx body gb)(hf:∀ i∈fix,i∈fx)(hs:∀ D r D',g D=some (r,D')->gI fx r.2)(MC:∀ x,foldedSetIterable iter X.env x=pure x:=by intro _;rfl):VS X fix (.For tg iter body [] pos) (bZ g gt gb):=
 yM hp hc hi hg hb hf hs (v4 hp hc hi hg hb MC)
def QF(K:PySem.W.Frag)(tl:TE):TI:=fun σ H R=>tl σ H fun x H1=>∃ a,x=.ref a/\(((∃ xs,En K H1 a xs)/\R (KQ K a) H1)\/((∃ xs,A_ K H1 a xs)/\R (Mj K a) H1))
variable{l:Expr}
theorem yN{tl:TE}(hl:PE X l tl):PI X tg l (QF X.K tl):=by
 intro pins s σ H R I h;refine z_ (hl pins s σ H _ I h) fun v s1 ⟨x,H1,I1,r1,q1⟩=>?_;obtain⟨a,e,q⟩:=q1;subst e;cases r1;rcases q with ⟨⟨xs,hq⟩,q⟩ | ⟨⟨xs,hq⟩,q⟩
 ·obtain⟨e_,rv,p,hz⟩:=I1.list hq;refine wpAny_pyIter_list p.isList ?_;refine⟨s1.heap.objs.size,[s1.heap.objs.size],_,_,H1,rfl,I1.kept (t':=s1.toks) fun b o e=>Heap.get?_push_of_some _ e,vV a _,⟨_,Heap.get?_push_size _ rfl,rfl,rfl⟩,fun b hb=>?_,q⟩;have e:b=s1.heap.objs.size:=by simpa using hb
  subst e;exact I1.Iv (Nat.le_refl _) (I1.l_.fresh<|Nat.le_refl _)
 ·obtain⟨e_,rv,p,hz⟩:=I1.tuple hq;refine wpAny_pyIter_tuple (show s1.heap.IsTuple a e_.toArray from p) ?_;refine⟨s1.heap.objs.size,[s1.heap.objs.size],_,_,H1,rfl,I1.kept (t':=s1.toks) fun b o e=>Heap.get?_push_of_some _ e,vW a _,⟨_,Heap.get?_push_size _ rfl,rfl,rfl⟩,fun b hb=>?_,q⟩;have e:b=s1.heap.objs.size:=by simpa using hb
  subst e;exact I1.Iv (Nat.le_refl _) (I1.l_.fresh<|Nat.le_refl _)
theorem ak.get{H:Hp}:∀ {ds:List Im}{vs:List V}{i:Nat}{d:Im},ak H ds vs->ds[i]?=some d->∃ v,vs[i]?=some v/\Ef H d v
 | [],_,_,_,_,e=>by simp at e
 | d::ds,_,0,_,h,e=>by
  obtain⟨v,r,rfl,h1,h2⟩:=h;simp at e;subst e;exact⟨v,rfl,h1⟩
 | d::ds,_,i+1,_,h,e=>by
  obtain⟨v,r,rfl,h1,h2⟩:=h;obtain⟨u,g1,g2⟩:=ak.get (i:=i) h2 (by simpa using e);exact⟨u,by simpa using g1,g2⟩
variable{a:Addr}
theorem yO(h:H a=some (.lst xs))(hd:ak H ds xs):Gk (KQ K a) H [a] ds where
 go:=fun H' t k i d e=>by
  obtain⟨v,g1,g2⟩:=hd.get e;have h':=En.of (K:=K) (k a (.head _) _ h);refine⟨⟨xs,v,h',g1⟩,fun x Ji ⟨e1,e2⟩=>?_⟩;subst e1;rw[e2 xs h'] at g1;cases g1;exact⟨aC.refl _,g2.mono t.tup⟩
 stop:=fun H' t k=>⟨xs,En.of<|k a (.head _) _ h,by rw[<- hd.length];exact Nat.le_refl _⟩
theorem yP{o:Obj}(h:H a=some (.Et o<|.lst xs))(hd:ak H ds xs):Gk (KQ K a) H [] ds where
 go:=fun H' t k i d e=>by
  obtain⟨v,g1,g2⟩:=hd.get e;have h':En K H' a xs:=.inl (.inr ⟨o,t.Et _ _ _ h⟩);refine⟨⟨xs,v,h',g1⟩,fun x Ji ⟨e1,e2⟩=>?_⟩;subst e1;rw[e2 xs h'] at g1;cases g1;exact⟨aC.refl _,g2.mono t.tup⟩
 stop:=fun H' t k=>⟨xs,.inl<|.inr ⟨o,t.Et _ _ _ h⟩,by rw[<- hd.length];exact Nat.le_refl _⟩
theorem yQ(h:H a=some (.tup xs))(hd:ak H ds xs):Gk (Mj K a) H [] ds where
 go:=fun H' t k i d e=>by
  obtain⟨v,g1,g2⟩:=hd.get e;have h':=A_.of (K:=K) (t.tup a _ h);refine⟨⟨xs,v,h',g1⟩,fun x Ji ⟨e1,e2⟩=>?_⟩;subst e1;rw[e2 xs h'] at g1;cases g1;exact⟨aC.refl _,g2.mono t.tup⟩
 stop:=fun H' t k=>⟨xs,A_.of<|t.tup a _ h,by rw[<- hd.length];exact Nat.le_refl _⟩
abbrev MI:=M (List Im×Option (Nat×Vl))
@[simp] def dL(d:Vl):Option (List Im):=match d with
 | .im (.tup ds)=>some ds
 | .lst ds=>some ds
 | .fz ds=>some ds
 | _=>none
@[simp] def aF(g:M Opd):MI:=fun D=>(g D).bind fun p=>match p.1 with
 | .vl d=>(dL d).map fun ds=>((ds,none),p.2)
 | .sl i=>(bu i p.2).bind fun q=>(dL q.1).map fun ds=>((ds,if q.1.cp=true then none else some (i,q.1)),q.2)
theorem qt(w:Own H d v R)(e:dL d=some ds):
  ∃ a,v=.ref a/\(((∃ xs,En K H a xs)/\Gk (KQ K a) H R ds)\/((∃ xs,A_ K H a xs)/\Gk (Mj K a) H R ds)):=by
 unfold dL at e;split at e
 ·cases e;obtain⟨⟨a,xs,rfl,h1,h2⟩,rfl⟩:=w;exact⟨a,rfl,.inr ⟨⟨xs,A_.of h1⟩,yQ h1 h2⟩⟩
 ·cases e;obtain⟨a,xs,rfl,h1,h2,rfl⟩:=w;exact⟨a,rfl,.inl ⟨⟨xs,En.of h1⟩,yO h1 h2⟩⟩
 ·cases e;obtain⟨a,xs,o,rfl,h1,h2,rfl⟩:=w;exact⟨a,rfl,.inl ⟨⟨xs,.inl<|.inr ⟨o,h1⟩⟩,yP h1 h2⟩⟩
 ·cases e
theorem bT{g:M Opd}(h:VO X l g):VI X tg l (aF g):=by
 refine mw (yN h) fun σ H Rk ⟨D,F,r,D',st,nd,hg,q⟩=>?_;obtain⟨⟨x,D1⟩,h1,h2⟩:=bind_eq_some_iff.mp hg;refine⟨D,F,x,D1,st,nd,h1,fun v H1 F1 R s_ o1 s1=>?_⟩;cases x with
 | vl d=>
  obtain⟨ds,h3,h4⟩:=map_eq_some_iff.mp h2;cases h4;obtain⟨a,rfl,hh⟩:=qt (K:=X.K) o1 h3;refine⟨a,rfl,?_⟩;rcases hh with ⟨hx,it⟩ | ⟨hx,it⟩
  ·exact .inl ⟨hx,q _ H1 F1 R s_ it trivial (Own.chg o1) s1⟩
  ·exact .inr ⟨hx,q _ H1 F1 R s_ it trivial (Own.chg o1) s1⟩
 | sl i=>
  obtain⟨⟨d,D2⟩,h3,h4⟩:=bind_eq_some_iff.mp h2;obtain⟨ds,h5,h6⟩:=map_eq_some_iff.mp h4;cases h6;obtain⟨v',F2,R2,g1,g2,g3,g4⟩:=ql s_ h3;obtain⟨o1,rfl⟩:=o1;rw[o1] at g1;cases g1;rw[append_nil] at s1;have s2:=s1.EK g4.symm;obtain⟨a,rfl,hh⟩:=qt (K:=X.K) g2 h5;have ln:iO H1 σ R2 (if d.cp=true then none else some (i,d)):=by
   split
   ·trivial
   ·exact⟨_,o1,g2⟩
  refine⟨a,rfl,?_⟩;rcases hh with ⟨hx,it⟩ | ⟨hx,it⟩
  ·exact .inl ⟨hx,q _ H1 F2 R2 g3 it ln g2.chg s2⟩
  ·exact .inr ⟨hx,q _ H1 F2 R2 g3 it ln g2.chg s2⟩
variable{i:Nat}
theorem iP(hi:i∈fx):∀ D r D',aF (oSl i) D=some (r,D')->gI fx r.2:=by
 intro D r D' h;obtain⟨⟨x,D1⟩,h1,h2⟩:=bind_eq_some_iff.mp h;unfold oSl at h1;split at h1
 ·cases h1;obtain⟨⟨d,D2⟩,h3,h4⟩:=bind_eq_some_iff.mp h2;obtain⟨ds,h5,h6⟩:=map_eq_some_iff.mp h4;cases h6;show gI fx (if d.cp=true then none else some (i,d));split
  ·trivial
  ·exact hi
 ·cases h1
def bF(lo:Int)(n:Nat):List Im:=(range n).map fun (k:Nat)=>Im.int (lo+(k:Int))
theorem yR{lo:Int}:Gk (Mk lo n) H [] (bF lo n) where
 go:=fun H' t k i d e=>by
  have hi:i<n:=by
   have:=(List.getElem?_eq_some_iff.mp e).1
   rwa [bF,length_map,length_range] at this
  refine⟨hi,fun x Ji ⟨e1,e2⟩=>?_⟩;subst e1;rw[bF,List.getElem?_map,List.getElem?_range hi] at e;cases e;exact⟨aC.refl _,e2⟩
 stop:=fun H' t k=>by
  show n<=_;rw[bF,length_map,length_range];exact Nat.le_refl _
def jW(i:Int):Prop := -1000000<=i/\i<=1000000
instance (i:Int):Decidable (jW i):=inferInstanceAs (Decidable<|_/\_)
@[simp] def iR1(g:M (List Opd)):MI:=fun D=>(g D).bind fun p=>(ce p.2 p.1).bind fun ds=>match ds with
 | [.im (.int j)]=>if jW j then some ((bF 0 j.toNat,none),p.2) else none
 | _=>none
theorem iQ{d:Im}(h:eZ H [.im d] vs):∃ v,vs=[v]/\Ef H d v:=by
 obtain⟨v,r,rfl,⟨R,h1,_⟩,h2⟩:=h;cases (show r=[] from h2);exact⟨v,rfl,h1⟩
theorem yS{d e:Im}(h:eZ H [.im d,.im e] vs):∃ v u,vs=[v,u]/\Ef H d v/\Ef H e u:=by
 obtain⟨v,r,rfl,⟨R,h1,_⟩,h2⟩:=h;obtain⟨u,rfl,h3⟩:=iQ h2;exact⟨v,u,rfl,h1,h3⟩
theorem ff{a:Expr}{p:Pos}(hg:Gl X "range")(hm:X.mg "range" = none)(ha:VA X [a] g)(hs:starEach [a] X.env=[(false,eval a X.env)]:=by rfl):VI X tg (.Call (.Name "range" p) [a] [] pos) (iR1 g):=by
 refine mw (v3 hg hm ha hs) fun σ H Rk ⟨D,F,r,D',st,nd,FW,q⟩=>?_;obtain⟨⟨os,D1⟩,h1,h2⟩:=bind_eq_some_iff.mp FW;obtain⟨ds,h3,h4⟩:=bind_eq_some_iff.mp h2;refine⟨D,F,os,D1,st,nd,h1,fun vs H1 F1 R1 s_ o1 s1=>?_⟩;have rd:=o1.read s_ h3;split at h4
 ·rename_i j;split at h4
  ·rename_i hj;cases h4;obtain⟨v,rfl,e⟩:=iQ rd;cases (show v=.int j from e);exact⟨j,rfl,by have:=hj.1;lia,by have:=hj.2;lia,q _ H1 F1 [] s_ yR trivial (fun a ha=>nomatch ha) (by rw[append_nil];exact s1.less (List.Perm.refl _))⟩
  ·cases h4
 ·cases h4
theorem gJ:∀ D r D',iR1 g D=some (r,D')->gI fx r.2:=by
 intro D r D' h;obtain⟨⟨os,D1⟩,h1,h2⟩:=bind_eq_some_iff.mp h;obtain⟨ds,h3,h4⟩:=bind_eq_some_iff.mp h2;split at h4
 ·split at h4
  ·cases h4;trivial
  ·cases h4
 ·cases h4
def MD(X:Cx)(ifs:List Expr)(g:M Bool):Prop:=∀ ⦃p⦄,pM X ifs (Hs g) p
def kYes:M Bool:=fun D=>some (true,D)
theorem c8:MD X [] kYes:=by
 intro pins s σ H Q I ⟨D,F,b,D',st,nd,hg,q⟩;cases hg;exact xX pins s σ H Q I (q H F st<|m_.perm nd<|List.Perm.refl _)
theorem jX{g:M Bool}(h:VT X c g):MD X [c] g:=xY h
@[simp] def dM(caps:List Nat)(D:SD):SD:=caps.map fun i=>D.getD i none
def dN:List Nat->SD->SD
 | [],D=>D
 | i::r,D=>dN r (match D[i]? with | some (some _)=>D.set i (some .jk) | _=>D)
@[simp] def c9:List Nat->SD->SD->SD
 | i::r,o::C,D=>c9 r C (D.set i o)
 | _,_,D=>D
def cw(own : Nat)(tg : MG)(c : M Bool)(e : M Vl): List Im -> List Im -> SD -> Option (List Im × SD)
  | [], acc, C => some (acc, C)
  | x :: r, acc, C => (tg (.im x)<|List.replicate own none ++ C).bind fun D1 => (c D1).bind fun p => if p.1 = true then (e p.2).bind fun q => match q.1 with
      | .im d => if acc.length < 100000 then cw own tg c e r (acc ++ [d]) (q.2.drop own) else none
      | _ => none
    else cw own tg c e r acc (p.2.drop own)
@[simp] def aD(own:Nat)(caps:List Nat)(gi:MI)(tg:MG)(c:M Bool)(e:M Vl):M Vl:=fun D=>(gi D).bind fun p=>(cw own tg c e p.1.1 []<|dM caps p.2).map fun q=>(.lst q.1,rst p.1.2<|c9 caps q.2 p.2)
def iR(own n:Nat):List Nat:=(range n).map (·+own)
theorem yT(h:D[i]?=some o):D.getD i none=o:=by rw[getD_eq_getElem?_getD,h];rfl
theorem aj.void(st:aj H D σ F)(i:Nat):∃ F1 F2,aj H (match D[i]? with | some (some _)=>D.set i (some .jk) | _=>D) σ F1/\eS H (D.getD i none) (σ.getD i none) F2/\(F1++F2).Perm F:=by
 split
 ·rename_i d hd;obtain⟨v,F1,F2,h1,h2,h3,h4⟩:=st.out hd;refine⟨F2,F1,h3,?_,h4⟩;rw[yT hd,getD_eq_getElem?_getD,h1];exact⟨v,rfl,h2⟩
 ·rename_i hn;refine⟨F,[],st,?_,by rw[append_nil]⟩;have:D.getD i none=none:=by
   rw[getD_eq_getElem?_getD];cases e:D[i]? with
   | none=>rfl
   | some o=>
    cases o with
    | none=>rfl
    | some d=>exact absurd e (hn d)
  rw[this];exact rfl
theorem qu{H:Hp}{σ:St}:∀ {caps:List Nat}{D:SD}{F:List Addr},caps.Nodup->aj H D σ F->∃ F1 F2,aj H (dN caps D) σ F1/\aj H (dM caps D) (caps.map fun i=>σ.getD i none) F2/\(F1++F2).Perm F
 | [],D,F,_,st=>⟨F,[],st,⟨rfl,rfl⟩,by rw[append_nil]⟩
 | i::r,D,F,nd,st=>by
  obtain⟨F1,F2,h1,h2,h3⟩:=st.void i;have hn:=nodup_cons.mp nd;obtain⟨F3,F4,g1,g2,g3⟩:=qu (caps:=r) hn.2 h1;refine⟨F3,F2++F4,g1,⟨_,_,F2,F4,rfl,h2,?_,rfl⟩,dJ.trans<|(List.Perm.append_left _ g3).trans<|perm_append_comm.trans h3⟩;have e:dM r (match D[i]? with | some (some _)=>D.set i (some .jk) | _=>D)=dM r D:=by
   unfold dM;refine map_congr_left fun j hj=>?_;split
   ·rw[getD_eq_getElem?_getD,getD_eq_getElem?_getD,getElem?_set_ne];rintro rfl;exact hn.1 hj
   ·rfl
  rw[e] at g2;exact g2
theorem aj.NG(st:aj H D σ F)(h:eS H o (σ.getD i none) G):∃ F1 F2,aj H (D.set i o) σ F1/\(F1++F2).Perm (F++G):=by
 cases o with
 | some d=>
  obtain⟨v,e,w⟩:=h;refine st.back w ?_;rw[getD_eq_getElem?_getD] at e;cases q:σ[i]? with
  | none=>rw[q] at e;cases e
  | some x=>rw[q] at e;rw[show x=some v from e]
 | none=>
  cases (show G=[] from h);rw[append_nil];by_cases hi:i<D.length
  ·cases q:D[i]? with
   | none=>exact absurd (List.getElem?_eq_none_iff.mp q) (by lia)
   | some x=>
    cases x with
    | none=>
     refine⟨F,[],?_,by rw[append_nil]⟩;have:D.set i none=D:=by
      refine ext_getElem? fun j=>?_;by_cases e:i=j
      ·subst e;rw[q,List.getElem?_set_self hi]
      ·rw[getElem?_set_ne e]
     rw[this];exact st
    | some d=>
     obtain⟨v,F1,F2,h1,h2,h3,h4⟩:=st.out q;have gen:∀ {D:SD}{σ:St}{F:List Addr}{i:Nat},aj H D σ F->∃ F1 F2,aj H (D.set i none) σ F1/\(F1++F2).Perm F:=by
      intro D;induction D with
      | nil=>intro σ F i st;exact⟨F,[],by simpa using st,by rw[append_nil]⟩
      | cons o D ih=>
       intro σ F i st;obtain⟨x,r,A,B,rfl,s1,s2,rfl⟩:=st;cases i with
       | zero=>exact⟨B,A,⟨x,r,[],B,rfl,rfl,s2,rfl⟩,perm_append_comm⟩
       | succ i=>
        obtain⟨C,E,c1,c2⟩:=ih (i:=i) s2;refine⟨A++C,E,⟨x,r,A,C,rfl,s1,c1,rfl⟩,?_⟩;rw[List.append_assoc];exact List.Perm.append_left _ c2
     exact gen st
  ·refine⟨F,[],?_,by rw[append_nil]⟩;rw[List.set_eq_of_length_le (by lia)];exact st
theorem qv{H:Hp}{σ:St}:∀ {caps:List Nat}{C D:SD}{F G:List Addr},aj H D σ F->aj H C (caps.map fun i=>σ.getD i none) G->∃ F1 F2,aj H (c9 caps C D) σ F1/\(F1++F2).Perm (F++G)
 | [],C,D,F,G,st,_=>⟨F,G,by cases C<;>exact st,List.Perm.refl _⟩
 | i::r,[],D,F,G,st,h=>⟨F,G,st,List.Perm.refl _⟩
 | i::r,o::C,D,F,G,st,h=>by
  obtain⟨x,t,G1,G2,e,h1,h2,rfl⟩:=h;cases e;obtain⟨F1,A,g1,g2⟩:=st.NG h1;obtain⟨F2,B,k1,k2⟩:=qv (caps:=r) (C:=C) g1 h2;refine⟨F2,B++A,k1,?_⟩;rw[<- List.append_assoc,<- List.append_assoc];refine (List.Perm.append_right A k2).trans ?_;rw[List.append_assoc];refine (List.Perm.append_left F1 perm_append_comm).trans ?_;rw[<- List.append_assoc];exact List.Perm.append_right _ g2
theorem yU:∀ {caps:List Nat}{C D:SD},caps.length=C.length->caps.Nodup->c9 caps C (dN caps D)=c9 caps C D:=by
 have comm:∀ {r:List Nat}{C D:SD}{i:Nat}{o:Option Vl},i∉r->c9 r C (D.set i o)=(c9 r C D).set i o:=by
  intro r;induction r with
  | nil=>intro C D i o _;cases C<;>rfl
  | cons j r ih=>
   intro C D i o h;cases C with
   | nil=>rfl
   | cons c C=>
    have hj:i≠j:=fun e=>h (by rw[e];exact .head _);show c9 r C ((D.set i o).set j c)=(c9 r C<|D.set j c).set i o;rw[set_comm _ _ hj,ih fun z=>h<|.tail _ z]
 have HP:∀ {r:List Nat}{D:SD}{i:Nat}{o:Option Vl},i∉r->dN r (D.set i o)=(dN r D).set i o:=by
  intro r;induction r with
  | nil=>intro D i o _;rfl
  | cons j r ih=>
   intro D i o h;have hj:i≠j:=fun e=>h (by rw[e];exact .head _);show dN r (match (D.set i o)[j]? with | some (some _)=>(D.set i o).set j (some .jk) | _=>D.set i o)=(dN r (match D[j]? with | some (some _)=>D.set j (some .jk) | _=>D)).set i o;rw[getElem?_set_ne hj];cases D[j]? with
   | none=>exact ih fun z=>h (.tail _ z)
   | some q=>
    cases q with
    | none=>exact ih fun z=>h (.tail _ z)
    | some d=>
     show dN r ((D.set i o).set j<|some .jk)=_;rw[set_comm _ _ hj];exact ih fun z=>h (.tail _ z)
 intro caps;induction caps with
 | nil=>intro C D _ _;cases C<;>rfl
 | cons i r ih=>
  intro C D hl nd;have hn:=nodup_cons.mp nd;cases C with
  | nil=>cases hl
  | cons c C=>
   have Fm:r.length=C.length:=by simpa using hl
   show c9 r C ((dN r (match D[i]? with | some (some _)=>D.set i (some .jk) | _=>D)).set i c)=c9 r C (D.set i c);split
   ·rw[HP hn.1,set_set,<- HP hn.1,ih Fm hn.2]
   ·rw[<- HP hn.1,ih Fm hn.2]
theorem qw{H:Hp}{D:SD}{r:St}{F:List Addr}(h:aj H D r F):∀ {own:List Str},aj H (List.replicate own.length none++D) (own.map (fun _=>none)++r) F
 | []=>h
 | x::own=>⟨none,_,[],F,rfl,rfl,qw h (own:=own),rfl⟩
theorem my{H:Hp}:∀ {n:Nat}{D:SD}{σ:St}{F:List Addr},aj H D σ F->∃ F1 F2,aj H (D.drop n) (σ.drop n) F1/\(F1++F2).Perm F
 | 0,D,σ,F,h=>⟨F,[],h,by rw[append_nil]⟩
 | n+1,[],σ,F,h=>by
  cases h.1;exact⟨[],F,⟨rfl,rfl⟩,List.Perm.refl _⟩
 | n+1,o::D,σ,F,h=>by
  obtain⟨x,r,A,B,rfl,h1,h2,rfl⟩:=h;obtain⟨F1,F2,g1,g2⟩:=my (n:=n) h2;exact⟨F1,F2++A,g1,by rw[<- List.append_assoc];exact (List.Perm.append_right A g2).trans perm_append_comm⟩
theorem m_.both(a:m_ H F H1 (F1++R)):m_ H F H1 F1:=a.less (List.Perm.refl _)
theorem ak.snoc:∀ {ds:List Im}{vs:List V}{d:Im}{v:V},ak H ds vs->Ef H d v->ak H (ds++[d]) (vs++[v])
 | [],vs,d,v,h,w=>by cases (show vs=[] from h);exact⟨v,[],rfl,w,rfl⟩
 | e::ds,vs,d,v,h,w=>by
  obtain⟨u,r,rfl,h1,h2⟩:=h;exact⟨u,r++[v],rfl,h1,h2.snoc w⟩
variable{gi:MI}
theorem qx(nd:caps.Nodup)(h:tV (aD own.length caps gi gt gc ge) σ H Q):
  jQ own caps (tI gi) (fun _=>tG (iR own.length caps.length) gt) (fun _=>Hs gc) (fun _=>tV ge) σ H Q:=by
 obtain⟨D,F,r,D',st,QG,FW,q⟩:=h;obtain⟨⟨⟨xs,o⟩,D1⟩,h1,h2⟩:=bind_eq_some_iff.mp FW;obtain⟨⟨ds,C'⟩,h3,h4⟩:=map_eq_some_iff.mp h2;cases h4;refine⟨D,F,(xs,o),D1,st,QG,h1,fun J H1 F1 R s_ it ln cR s1 Y=>?_⟩;obtain⟨Fo,Fc,so,sc,pm⟩:=qu nd s_;have s2:m_ H F H1 (Fc++(Fo++R)):=s1.EK (by
  refine (List.Perm.append_right R pm.symm).trans ?_;rw[List.append_assoc];exact dJ)
 have Gv:=nodup_append.mp s2.nd;have cO:∀ x∈Fo++R,Gj H1 x:=fun x hx=>by
  rcases mem_append.mp hx with hx | hx
  ·exact so.chg x hx
  ·exact cR x hx
 have GU:∀ {H2:Hp}{F2:List Addr},m_ H1 Fc H2 F2->∀ a∈Fo++R,∀ u,H1 a=some u->H2 a=some u:=fun s a ha u e=>s.keep a u e fun h=>Gv.2.2 a h a ha rfl;refine⟨fun i m ys H'=>m+i=xs.length/\∃ acc C JY,aj H' C (caps.map fun i=>σ.getD i none) JY/\C.length=caps.length/\m_ H1 Fc H' JY/\ak H' acc ys/\cw own.length gt gc ge (xs.drop i) acc C=some (ds,C'),
  ⟨xs.length,rfl,[],dM caps D1,Fc,sc,by rw[dM,length_map],m_.perm Gv.1<|List.Perm.refl _,rfl,h3⟩,?_⟩;rintro i m ys H' ⟨hm,acc,C,JY,sC,lC,s',ME,hw⟩;by_cases Ff:i<xs.length
 ·obtain⟨NE,hy⟩:=it.go H' s'.tup (fun a ha=>GU s' a<|mem_append_right _ ha) i xs[i] (by simp[Ff]);rw[drop_eq_getElem_cons Ff,cw] at hw;obtain⟨D3,w1,w2⟩:=bind_eq_some_iff.mp hw;obtain⟨⟨b,D4⟩,w3,w4⟩:=bind_eq_some_iff.mp w2;refine .inr ⟨NE,fun O6 H2=>(m - 1)+(i+1)=xs.length/\∃ acc C JY,aj H2 C (caps.map fun i=>σ.getD i none) JY/\C.length=caps.length/\m_ H1 Fc H2 JY/\ak H2 acc O6/\cw own.length gt gc ge (xs.drop<|i+1) acc C=some (ds,C'),fun O6 H2 h=>⟨m - 1,by lia,h⟩,fun x H2 hx=>?_⟩;obtain⟨sm,NF⟩:=hy x H2 hx;have QH:=sC.mono sm.tupS fun a _ o e=>sm a o e;have O7:=s'.same sm;have IO:=ME.mono sm.tupS.tup;refine⟨List.replicate own.length none++C,JY,.im xs[i],[],D3,qw QH,⟨NF,rfl⟩,by rw[append_nil];exact O7.nd,w1,fun σ3 H3 F3 IM E6 sg=>⟨fun j v hj=>?_,?_⟩⟩
  ·
   have hlen:own.length<=j:=by
    by_cases QI:j<own.length
    ·rw[du,getElem?_append_left (by simpa using QI),List.getElem?_map] at hj;cases e:own[j]? with
     | none=>rw[e] at hj;cases hj
     | some z=>rw[e] at hj;cases hj
    ·lia
   have QJ:j<own.length+caps.length:=by
    have:=(List.getElem?_eq_some_iff.mp hj).1
    rwa [du,length_append,length_map,length_map] at this
   have hm:j∈iR own.length caps.length:=mem_map.mpr ⟨j - own.length,mem_range.mpr (by lia),by lia⟩;exact (IM.2 j hm).trans hj
  ·have s3:m_ H1 Fc H3 F3:=O7.seq (by rw[append_nil] at sg;exact sg);have IO:=IO.mono sg.tup.tup;have HQ:σ3.drop own.length=caps.map fun i=>σ.getD i none:=by
    have Si:=E6.len;refine ext_getElem? fun j=>?_;by_cases hj:j<caps.length
    ·have hm:j+own.length∈iR own.length caps.length:=mem_map.mpr ⟨j,mem_range.mpr hj,rfl⟩;have:=IM.2 _ hm;rw[getElem?_drop,Nat.add_comm,this,du,getElem?_append_right (by simp),length_map,Nat.add_sub_cancel]
    ·have l1:σ3.length<=own.length+caps.length:=by
      rw[IM.1,du,length_append,length_map,length_map];exact Nat.le_refl _
     rw[List.getElem?_eq_none (by rw[length_drop];lia),List.getElem?_eq_none (by rw[length_map];lia)]
   have lσ:σ3.length=own.length+caps.length:=by rw[IM.1,du,length_append,length_map,length_map]
   refine⟨D3,F3,b,D4,E6,s3.nd,w3,fun H4 F4 FB s4=>?_⟩;have s5:=s3.seq s4;dsimp only at w4 ⊢;cases b with
   | false=>
    rw[if_neg Bool.false_ne_true] at w4 ⊢;obtain⟨F5,G5,Fi,IN⟩:=my (n:=own.length) FB;rw[HQ] at Fi;exact⟨by lia,acc,D4.drop own.length,F5,Fi,by rw[length_drop,FB.len,lσ];lia,s5.less IN,IO.mono s4.tup.tup,w4⟩
   | true=>
    rw[if_pos rfl] at w4 ⊢;obtain⟨⟨v,D5⟩,w5,w6⟩:=bind_eq_some_iff.mp w4;dsimp only at w6;split at w6
    ·rename_i d;split at w6
     ·rename_i hl;refine⟨D4,F4,.im d,D5,FB,s5.nd,w5,fun u H5 F5 R5 Fi ow s6=>?_⟩;obtain⟨iu,rfl⟩:=ow;rw[append_nil] at s6;have Ft:=(IO.mono s4.tup.tup).mono s6.tup.tup;refine⟨lt_of_le_of_lt (show ys.length<=100000 by rw[<- Ft.length];lia) (by decide),?_⟩;obtain⟨F6,G6,O8,QK⟩:=my (n:=own.length) Fi;rw[HQ] at O8;exact⟨by lia,acc++[d],D5.drop own.length,F6,O8,by rw[length_drop,Fi.len,lσ];lia,(s5.seq s6).less QK,Ft.snoc iu,w6⟩
     ·cases w6
    ·cases w6
 ·have hi:i=xs.length:=by lia
  subst hi;refine .inl ⟨it.stop H' s'.tup<|fun a ha=>GU s' a<|mem_append_right _ ha,fun Dn O9=>?_⟩;rw[drop_of_length_le (Nat.le_refl _),cw] at hw;cases hw;have QL:aj H' (dN caps D1) σ Fo:=so.mono s'.tup fun a ha=>GU s' a (mem_append_left _ ha);obtain⟨F4,G4,FB,Lk⟩:=qv QL sC;rw[yU (by rw[lC]) nd] at FB;have QM:iO H' σ R o:=by
   cases o with
   | none=>trivial
   | some p=>
    obtain⟨i,d⟩:=p;obtain⟨v,e1,e2⟩:=ln;exact⟨v,e1,e2.mono s'.tup fun a ha=>GU s' a<|mem_append_right _ ha⟩
  obtain⟨F5,G5,Fi,IN⟩:=mx (R:=R) FB QM;have sm:aC H' (upd H' Dn<|.lst ys):=(aC.refl H').upd O9;have s5:m_ H F H' F5:=(s2.trans s' cO).less (C:=G5++G4) (by
   rw[<- List.append_assoc];refine (List.Perm.append_right G4 IN).trans ?_;rw[List.append_assoc];refine (List.Perm.append_left F4 perm_append_comm).trans ?_;rw[<- List.append_assoc];refine (List.Perm.append_right R Lk).trans ?_;rw[List.append_assoc];exact dJ)
  exact q _ _ F5 [Dn] (Fi.mono sm.tupS fun a _ o e=>sm a o e) ⟨Dn,ys,rfl,bp,ME.mono sm.tupS.tup,rfl⟩ (s5.add O9 Fi.chg)
theorem cD{elt:Expr}{ifs:List Expr}{scope:Scope}(hc:X.calm=true)(S:n_ X scope own caps)(nd:caps.Nodup)(hi:VI X tg iter gi)(hg:∀ Y,VG (X.FT (bQ X own caps) scope Y) (iR own.length caps.length) tg gt)(ht:∀ Y,MD (X.FT (bQ X own caps) scope Y) ifs gc)(he:∀ Y,VE (X.FT (bQ X own caps) scope Y) elt ge)(hs:∀ x,foldedSetIterable iter X.env x=pure x:=by intro _;rfl):VE X (.ListComp elt [⟨tg,iter,ifs,0⟩] scope pos) (aD own.length caps gi gt gc ge):=
 bg (x6 hc S hi hg ht he hs) fun σ H Q h=>qx nd h
end
@[simp] def di(fix:List Nat):List Vl->SD->Nat->List Vl
 | d::ds,o::D,j=>(if d.cp=true then d else if j∈fix then o.getD .jk else .jk)::di fix ds D (j+1)
 | d::ds,[],j=>(if d.cp=true then d else .jk)::di fix ds [] (j+1)
 | [],_,_=>[]
@[simp] def bd(n m:Nat)(fix:List Nat)(g:MS):Fn:=fun ds=>if ds.length=n then match g (ds.map some++List.replicate (m - n) none) with
 | some (.rt r,D)=>some (r,di fix ds D 0)
 | some (.nx,D)=>some (.im .j_,di fix ds D 0)
 | _=>none else none
theorem qy{H:Hp}:∀ {ds:List Vl}{vs:List V}{F:List Addr}{m:Nat},aP H ds vs F->aj H (ds.map some++List.replicate m none) (vs.map some++List.replicate m none) F
 | [],vs,F,m,h=>by
  obtain⟨rfl,rfl⟩:=h;show aj H (List.replicate m none) (List.replicate m none) [];induction m with
  | zero=>exact⟨rfl,rfl⟩
  | succ m ih=>exact⟨none,_,[],[],rfl,rfl,ih,rfl⟩
 | d::ds,vs,F,m,h=>by
  obtain⟨v,r,F1,F2,rfl,h1,h2,rfl⟩:=h;exact⟨some v,_,F1,F2,rfl,⟨v,rfl,h1⟩,qy h2,rfl⟩
theorem mz{H H':Hp}{fix:List Nat}(t:B_ H H'):∀ {ds:List Vl}{vs:List V}{F0:List Addr}{D:SD}{σ:St}{F:List Addr}{j0:Nat},aP H ds vs F0->aj H' D σ F->(∀ (j:Nat) (v:V),(j0+j)∈fix->vs[j]?=some v->σ[j]?=some (some v))->
  ∃ R G,aP H' (di fix ds D j0) vs R/\(R++G).Perm F
 | [],vs,F0,D,σ,F,j0,h,st,_=>⟨[],F,by unfold di;exact⟨h.1,rfl⟩,List.Perm.refl _⟩
 | d::ds,vs,F0,[],σ,F,j0,h,st,k=>by
  obtain⟨v,r,A,B,rfl,h1,h2,rfl⟩:=h;obtain⟨rfl,rfl⟩:=st;obtain⟨R,G,g1,g2⟩:=mz (D:=[]) (σ:=[]) (F:=[]) (j0:=j0+1) t h2 ⟨rfl,rfl⟩ fun j v hj hv=>by
   have:=k (j+1) v (by rw[show j0+(j+1)=j0+1+j by lia];exact hj) (by simpa using hv);simp at this
  rw[di];refine⟨R,G,⟨v,r,[],R,rfl,?_,g1,rfl⟩,g2⟩;split
  ·rename_i hc;have:=h1.mono t fun a ha=>by rw[h1.cp hc] at ha;cases ha
   rw[h1.cp hc] at this;exact this
  ·exact rfl
 | d::ds,vs,F0,o::D,σ,F,j0,h,st,k=>by
  obtain⟨v,r,A,B,rfl,h1,h2,rfl⟩:=h;obtain⟨x,s,C,E,rfl,s1,s2,rfl⟩:=st;obtain⟨R,G,g1,g2⟩:=mz (D:=D) (σ:=s) (j0:=j0+1) t h2 s2 fun j v hj hv=>by
   have:=k (j+1) v (by rw[show j0+(j+1)=j0+1+j by lia];exact hj) (by simpa using hv);simpa using this
  rw[di];split
  ·rename_i hc;have hm:=h1.mono t fun a ha=>by rw[h1.cp hc] at ha;cases ha
   rw[h1.cp hc] at hm;refine⟨R,G++C,⟨v,r,[],R,rfl,hm,g1,rfl⟩,?_⟩;rw[<- List.append_assoc];exact (List.Perm.append_right C g2).trans perm_append_comm
  ·split
   ·rename_i hf;have hx:x=some v:=by
     have:=k 0 v hf rfl;simpa using this
    subst hx;cases o with
    | none=>
     refine⟨R,G++C,⟨v,r,[],R,rfl,rfl,g1,rfl⟩,?_⟩;rw[<- List.append_assoc];exact (List.Perm.append_right C g2).trans perm_append_comm
    | some e=>
     obtain⟨v',e1,w⟩:=s1;cases e1;refine⟨C++R,G,⟨v,r,C,R,rfl,w,g1,rfl⟩,?_⟩;rw[List.append_assoc];exact List.Perm.append_left _ g2
   ·refine⟨R,G++C,⟨v,r,[],R,rfl,rfl,g1,rfl⟩,?_⟩;rw[<- List.append_assoc];exact (List.Perm.append_right C g2).trans perm_append_comm
section
variable{P:Program}{w:World}{K:PySem.W.Frag}{mg:Str->Option Value}{base:Heap}
theorem QN{qual:Str}{f:Addr}{N:List Str}{k:Nat}{g:MS}(F:Ga K x qual st f fd)(S:i_ N ps (ay st))(hn:ps.length=n)(O':∀ i∈fix,i<n)(hb:∀ (r_:Value) (A:Around) (outer:List Env) (s:Shared) (H:Hp) (E:XK),Ed k (A.deeper<|envOfC qual (ay st) s.heap.objs.size f r_)->HM (eJ GT P w K mg base N qual (ay st) f r_ A outer s H E).Kk fix (ca st) g):
  EN P w K mg base GT (k+1) f fd ps (HL n<|bd n N.length fix g):=by
 refine F.ok S (fun vs H Q E h=>h.1.trans hn.symm) (fun r_ A outer s H vs Q E hr h=>⟨_,hb r_ A outer s H E hr,?_⟩);obtain⟨hl,ds,F0,r,outs,ow,nd,hg,q⟩:=h;have Kx:ds.length=n:=ow.length.trans hl;unfold bd at hg;rw[if_pos Kx] at hg;have st:=qy (m:=N.length - n) ow;have es:start N vs=vs.map some++List.replicate (N.length - n) none:=by unfold start;rw[hl]
 rw[es];have fin:∀ {σ':St}{H':Hp}{F':List Addr}{D':SD}{v:V}{R:List Addr},di fix ds D' 0=outs->aM fix (vs.map some++List.replicate (N.length - n) none) σ'->aj H' D' σ' F'->Own H' r v R->m_ H F0 H' (F'++R)->Q v H':=fun {σ' H' F' D' v R} eo fx f_ wr s'=>by
  obtain⟨R2,G,g1,g2⟩:=mz (fix:=fix) (j0:=0) s'.tup ow f_ fun j v hj hv=>by
   rw[Nat.zero_add] at hj;rw[fx.2 j hj,getElem?_append_left (by rw[length_map];exact (List.getElem?_eq_some_iff.mp hv).1),List.getElem?_map,hv];rfl
  rw[eo] at g1;refine q v H' R R2 wr g1 (s'.less (C:=G) ?_);rw[List.append_assoc];exact (List.Perm.append_left R g2).trans perm_append_comm
 split at hg
 ·rename_i r' D' e;cases hg;exact⟨_,F0,.rt r,D',st,nd,e,fun v σ' H' F' R fx f_ wr s'=>fin rfl fx f_ wr s'⟩
 ·rename_i D' e;cases hg;exact⟨_,F0,.nx,D',st,nd,e,fun σ' H' F' fx f_ s'=>fin rfl fx f_ ⟨rfl,rfl⟩ (by rw[append_nil];exact s')⟩
 ·cases hg
end
def Out(H:Hp)(d:Vl)(Q:VK):Prop:=∀ v H' R,aC H H'->Own H' d v R->R.Nodup->(∀ a∈R,H a=none)->Q v H'
theorem Out.O_{d:Im}(q:Out H (.im d) Q)(s:aC H H')(h:Ef H' d v):Q v H':=q v H' [] s ⟨h,rfl⟩ nodup_nil (fun a ha=>nomatch ha)
theorem Out.i{d:Im}(q:Out H (.im d) Q)(h:Ef H d v):Q v H:=q.O_ (aC.refl H) h
theorem Out.l(q:Out H (.lst ds) Q)(hp:H p=none)(h:ak H ds xs):Q (.ref p) (upd H p<|.lst xs):=by
 have s:aC H (upd H p<|.lst xs):=(aC.refl H).upd hp;exact q _ _ [p] s ⟨p,xs,rfl,bp,h.mono s.tupS.tup,rfl⟩ (pairwise_singleton _ _) fun a ha=>by rw[mem_singleton.mp ha];exact hp
theorem Out.t(q:Out H (.im<|.tup ds) Q)(hp:H p=none)(h:ak H ds xs):Q (.ref p) (upd H p<|.tup xs):=by
 have s:aC H (upd H p<|.tup xs):=(aC.refl H).upd hp;exact q.O_ s ⟨p,xs,rfl,bp,h.mono s.tupS.tup⟩
section
variable{X:Cx}
theorem EJ.imp{f:Value->Value->Sem Value}{r:R2}(h:EJ X f r)(i:∀ x y H Q,r' x y H Q->r x y H Q):EJ X f r':=fun pins s σ H x y v u Q I rx ry hh=>h pins s σ H x y v u Q I rx ry (i x y H Q hh)
theorem bb.imp{f:Value}{r r':List V->Hp->VK->Prop}(h:bb X f r)(i:∀ xs H Q,r' xs H Q->r xs H Q):bb X f r':=fun pins s σ H xs us Q I rx hh=>h pins s σ H xs us Q I rx (i xs H Q hh)
theorem Hb.imp{r:R2}(h:Hb X r)(i:∀ x y H Q,r' x y H Q->r x y H Q):Hb X r':=fun e1 e2 pins s σ H x y v u Q I rx ry hh=>h e1 e2 pins s σ H x y v u Q I rx ry (i x y H Q hh)
theorem FL.i{d:Im}(h:FL H (.im d) v):Ef H d v:=h.elim fun _ w=>w.1
end
abbrev Op2:=Vl->Vl->Option Vl
@[simp] def da(C:Int->Int->Bool)(g:Int->Int->Im):Op2:=fun a b=>match a,b with
 | .im (.int i),.im (.int j)=>if C i j=true then some (.im<|g i j) else none
 | _,_=>none
theorem qz{C:Int->Int->Bool}{g:Int->Int->Im}{a b:Vl}(h:da C g a b=some d):∃ i j,a=.im (.int i)/\b=.im (.int j)/\C i j=true/\d=.im (g i j):=by
 unfold da at h;split at h
 ·rename_i i j;split at h
  ·rename_i hc;cases h;exact⟨i,j,rfl,rfl,hc,rfl⟩
  ·cases h
 ·cases h
section
variable{X:Cx}
variable{f:Value->Value->Sem Value}{g:Int->Int->V}{h:Int->Int->Im}
theorem jY{C:Int->Int->Prop}{B:Int->Int->Bool}(o:EJ X f (rI C g))(hB:∀ i j,B i j=true->C i j)(hg:∀ H i j,Ef H (h i j)<|g i j):FF X f (da B h):=
 o.imp fun x y H Q ⟨d1,d2,d,r1,r2,e,q⟩=>by
  obtain⟨i,j,rfl,rfl,hc,rfl⟩:=qz e;exact⟨i,j,r1.i,r2.i,hB i j hc,Out.i q<|hg H i j⟩
theorem iS(o:EJ X f (Iw g))(hg:∀ H i j,Ef H (h i j)<|g i j):FF X f (da (fun _ _=>true) h):=
 o.imp fun x y H Q ⟨d1,d2,d,r1,r2,e,q⟩=>by
  obtain⟨i,j,rfl,rfl,hc,rfl⟩:=qz e;exact⟨i,j,r1.i,r2.i,Out.i q<|hg H i j⟩
@[simp] def vSub:Op2:=da (fun _ _=>true) fun i j=>.int (i - j)
def cf(i j:Int):Bool:=!(decide (Builtin.Int.intBits i > shortFactorBits) && decide (Builtin.Int.intBits j > shortFactorBits) && Builtin.Int.intTooBig (Builtin.Int.intBits i+Builtin.Int.intBits j))
@[simp] def vMul:Op2:=da cf fun i j=>.int (i * j)
@[simp] def vDiv:Op2:=da (fun _ j=>decide (0<j/\j<1073741824)) fun i j=>.int (i / j)
@[simp] def vMod:Op2:=da (fun _ j=>decide (0<j)) fun i j=>.int (i % j)
@[simp] def vPow:Op2:=da (fun i j=>decide (0<=j/\j<=1000000/\i.natAbs<2 ^ 64)) fun i j=>.int (i ^ j.toNat)
@[simp] def vLt:Op2:=da (fun _ _=>true) fun i j=>.bl (decide (i<j))
@[simp] def vLe:Op2:=da (fun _ _=>true) fun i j=>.bl (decide (i<=j))
@[simp] def vGt:Op2:=da (fun _ _=>true) fun i j=>.bl (decide (j<i))
@[simp] def vGe:Op2:=da (fun _ _=>true) fun i j=>.bl (decide (j<=i))
theorem dO:FF X (binaryOp .Sub) vSub:=iS wj fun _ _ _=>rfl
theorem dj:FF X (binaryOp .Mult) vMul:=jY yz (fun i j h=>by unfold cf at h;unfold IntMulOk;rw[not_eq_true'] at h;rw[h];exact Bool.false_ne_true) fun _ _ _=>rfl
theorem iT:FF X (binaryOp .FloorDiv) vDiv:=jY wl (fun i j h=>show 0<j/\j<1073741824 from of_decide_eq_true h) fun _ _ _=>rfl
theorem dP:FF X (binaryOp .Mod) vMod:=jY wm (fun i j h=>of_decide_eq_true h) fun _ _ _=>rfl
theorem jZ:FF X (binaryOp .Pow) vPow:=jY wn (fun i j h=>show 0<=j/\j<=1000000/\i.natAbs<2 ^ 64 from of_decide_eq_true h) fun _ _ _=>rfl
theorem qA:FF X (compareOp .Lt) vLt:=iS wt fun _ _ _=>rfl
theorem yV:FF X (compareOp .LtE) vLe:=iS wu fun _ _ _=>rfl
theorem qB:FF X (compareOp .Gt) vGt:=iS wv fun _ _ _=>rfl
theorem yW:FF X (compareOp .GtE) vGe:=iS ww fun _ _ _=>rfl
theorem yX:EJ X (binaryOp .Add) (fun x y H Q=>∃ a b ys,x=.ref a/\y=.ref b/\A_ X.K H a []/\A_ X.K H b ys/\Q (.ref b) H):=by
 intro pins s σ H x y v u Q I rx ry h;obtain⟨a,b,ys,rfl,rfl,ha,hb,q⟩:=h;cases rx;cases ry;obtain⟨e_,r1,p1,_⟩:=I.tuple ha;obtain⟨EO,r2,p2,_⟩:=I.tuple hb;have e:e_=[]:=r1.Fj.mpr rfl;subst e;obtain⟨⟨cls,dd,data,sl⟩,ho,hc,n,hd⟩:=id p1;obtain⟨⟨Nb,IY,data2,Km⟩,JE,KU,n2,hd2⟩:=id p2;simp only at hc hd KU hd2;subst hc hd KU hd2;exact concat_meets ⟨_,ho,rfl⟩ ⟨_,JE,rfl⟩ noFill_tuple_add seq_tuple_add PySem.F.slot_tuple_add PySem.F.entry_tuple_add (PySem.F.args_tuple_add_2 _ _) (tuple_addW0 a b _ _ n n2 dd IY sl Km rfl) ⟨ho,JE,.ref b,H,I,rfl,q⟩
@[simp] def vAdd:Op2:=fun a b=>match a,b with
 | .im (.int i),.im (.int j)=>some (.im<|.int<|i+j)
 | .im (.tup x),.im (.tup y)=>if x.length+y.length<=100000 then some (.im<|.tup<|x++y) else none
 | .lst x,.lst y=>if x.length+y.length<=100000 then some (.lst<|x++y) else none
 | .im (.str x),.im (.str y)=>if x.length+y.length<=100000 then some (.im<|.str<|x++y) else none
 | _,_=>none
theorem ak.app:∀ {a b:List Im}{x y:List V},ak H a x->ak H b y->ak H (a++b) (x++y)
 | [],b,x,y,h,k=>by cases (show x=[] from h);exact k
 | d::a,b,x,y,h,k=>by
  obtain⟨v,r,rfl,h1,h2⟩:=h;exact⟨v,r++y,rfl,h1,h2.app k⟩
theorem ak.nil{H:Hp}{a:List Im}(h:ak H a []):a=[]:=by
 cases a with
 | nil=>rfl
 | cons d a=>obtain⟨_,_,e,_⟩:=h;cases e
theorem aH:FF X (binaryOp .Add) vAdd:=by
 refine (wg.or<|yX.or<|xj.or<|xE.or wE).imp fun x y H Q ⟨d1,d2,d,r1,r2,e,q⟩=>?_;unfold vAdd at e;split at e
 ·cases e;exact .inl ⟨_,_,r1.i,r2.i,Out.i q rfl⟩
 ·rename_i a b;split at e
  ·rename_i hl;cases e;obtain⟨p,xs,rfl,h1,h2⟩:=r1.i;obtain⟨p',ys,rfl,h3,h4⟩:=r2.i;refine .inr ?_;by_cases hx:xs=[]
   ·subst hx;cases h2.nil;exact .inl ⟨p,p',ys,rfl,rfl,A_.of h1,A_.of h3,Out.i q ⟨p',ys,rfl,h3,h4⟩⟩
   ·refine .inr (.inl ⟨p,p',xs,ys,rfl,rfl,A_.of h1,A_.of h3,hx,e8 (by rw[<- h2.length,<- h4.length];exact hl),fun hy=>?_,fun hy n hn=>Out.t q hn<|h2.app h4⟩);subst hy;cases h4.nil;rw[append_nil] at q;exact Out.i q ⟨p,xs,rfl,h1,h2⟩
  ·cases e
 ·rename_i a b;split at e
  ·rename_i hl;cases e;obtain⟨_,p,xs,rfl,h1,h2,_⟩:=r1;obtain⟨_,p',ys,rfl,h3,h4,_⟩:=r2;exact .inr (.inr (.inr (.inl ⟨p,p',xs,ys,rfl,rfl,h1,h3,e8 (by rw[<- h2.length,<- h4.length];exact hl),fun n hn=>Out.l q hn<|h2.app h4⟩)))
  ·cases e
 ·rename_i a b;split at e
  ·rename_i hl;cases e;exact .inr (.inr<|.inr<|.inr ⟨a,b,r1.i,r2.i,e8 hl,Out.i q rfl⟩)
  ·cases e
 ·cases e
theorem yY(n:Nat){A:Around}{x y:Im}{u v:Value}(kx:Im.pl n x=true)(ky:Im.pl n y=true)(hu:A.units+n+2<cLine)(hx:EH s.heap x u)(hy:EH s.heap y v):SeqAt.RcAt A s u v (aA x y):=by
 cases x with
 | j_=>
  cases (show u=.none from hx);cases y with
  | j_=>cases (show v=.none from hy);exact SeqAt.RcAt.none_none
  | bl b=>cases (show v=.bool b from hy);exact SeqAt.RcAt.none_bool b
  | int j=>obtain⟨t,rfl⟩:=hy;exact SeqAt.RcAt.none_int j t
  | str z=>obtain⟨t,rfl⟩:=hy;exact SeqAt.RcAt.none_str z t
  | tup ds=>obtain⟨a,o,items,m,rfl,h1,h2,h3,_⟩:=hy;exact SeqAt.RcAt.none_tuple ⟨o,h1,h2,m,h3⟩ (by lia)
  | fn a=>cases n<;>cases ky
  | fl a=>cases n<;>cases ky
  | fd=>cases n<;>cases ky
 | bl b=>
  cases (show u=.bool b from hx);cases y with
  | j_=>cases (show v=.none from hy);exact SeqAt.RcAt.bool_none b
  | bl c=>cases (show v=.bool c from hy);exact SeqAt.RcAt.bool_bool b c
  | int j=>obtain⟨t,rfl⟩:=hy;exact SeqAt.RcAt.bool_int b j t
  | str z=>obtain⟨t,rfl⟩:=hy;exact SeqAt.RcAt.bool_str b z t
  | tup ds=>obtain⟨a,o,items,m,rfl,h1,h2,h3,_⟩:=hy;exact SeqAt.RcAt.bool_tuple b ⟨o,h1,h2,m,h3⟩ (by lia)
  | fn a=>cases n<;>cases ky
  | fl a=>cases n<;>cases ky
  | fd=>cases n<;>cases ky
 | int i=>
  obtain⟨t0,rfl⟩:=hx;cases y with
  | j_=>cases (show v=.none from hy);exact SeqAt.RcAt.int_none i t0
  | bl c=>cases (show v=.bool c from hy);exact SeqAt.RcAt.int_bool i t0 c
  | int j=>obtain⟨t,rfl⟩:=hy;exact SeqAt.RcAt.int_int i t0 j t
  | str z=>obtain⟨t,rfl⟩:=hy;exact SeqAt.RcAt.int_str i t0 z t
  | tup ds=>obtain⟨a,o,items,m,rfl,h1,h2,h3,_⟩:=hy;exact SeqAt.RcAt.int_tuple i t0 ⟨o,h1,h2,m,h3⟩ (by lia)
  | fn a=>cases n<;>cases ky
  | fl a=>cases n<;>cases ky
  | fd=>cases n<;>cases ky
 | str i=>
  obtain⟨t0,rfl⟩:=hx;cases y with
  | j_=>cases (show v=.none from hy);exact SeqAt.RcAt.str_none i t0
  | bl c=>cases (show v=.bool c from hy);exact SeqAt.RcAt.str_bool i t0 c
  | int j=>obtain⟨t,rfl⟩:=hy;exact SeqAt.RcAt.str_int i t0 j t
  | str z=>obtain⟨t,rfl⟩:=hy;exact SeqAt.RcAt.str_str i t0 z t
  | tup ds=>obtain⟨a,o,items,m,rfl,h1,h2,h3,_⟩:=hy;exact SeqAt.RcAt.str_tuple i t0 ⟨o,h1,h2,m,h3⟩ (by lia)
  | fn a=>cases n<;>cases ky
  | fl a=>cases n<;>cases ky
  | fd=>cases n<;>cases ky
 | fn a=>cases n<;>cases kx
 | fl a=>cases n<;>cases kx
 | fd=>cases n<;>cases kx
 | tup ds=>
  cases n with
  | zero=>cases kx
  | succ n=>
  obtain⟨a,o,items,m,rfl,h1,h2,h3,h4⟩:=hx;have ta:s.heap.IsTuple a items:=⟨o,h1,h2,m,h3⟩;cases y with
  | j_=>cases (show v=.none from hy);exact SeqAt.RcAt.tuple_none ta (by lia)
  | bl c=>cases (show v=.bool c from hy);exact SeqAt.RcAt.tuple_bool c ta (by lia)
  | int j=>obtain⟨t,rfl⟩:=hy;exact SeqAt.RcAt.tuple_int j t ta (by lia)
  | str z=>obtain⟨t,rfl⟩:=hy;exact SeqAt.RcAt.tuple_str z t ta (by lia)
  | fn a=>cases ky
  | fl a=>cases ky
  | fd=>cases ky
  | tup es=>
   obtain⟨b,o',x_,m',rfl,g1,g2,g3,g4⟩:=hy;have tb:s.heap.IsTuple b x_:=⟨o',g1,g2,m',g3⟩;have l1:=h4.length;have l2:=g4.length;have l3:items.toList.length=items.size:=by simp
   have l4:x_.toList.length=x_.size:=by simp
   rw[l3] at l1;rw[l4] at l2;have q:=SeqAt.RcAt.tuples (A:=A) (e:=fun j=>aA (ds.getD j .j_)<|es.getD j .j_) ta tb (by lia) fun j j1 j2=>by
    obtain⟨d1,e1,r1⟩:=h4.get (j:=j) (v:=items[j]) (by rw[getElem?_toList];simp[j1]);obtain⟨d2,e2,r2⟩:=g4.get (j:=j) (v:=x_[j]) (by rw[getElem?_toList];simp[j2]);rw[getD_eq_getElem?_getD,e1,getD_eq_getElem?_getD,e2];exact dg n (dq kx e1) (dq ky e2) (by show A.units+1+n+1<cLine;lia) r1 r2
   rw[<- l1,<- l2,iB (ds:=ds) (es:=es) (fun j x y a b=>by rw[getD_eq_getElem?_getD,a,getD_eq_getElem?_getD,b];rfl)] at q;rw[aA];exact q
@[simp] def vEq:Op2:=fun a b=>match a,b with
 | .im x,.im y=>if (Im.pl 8 x && Im.pl 8 y)=true then some (.im<|.bl<|aA x y) else none
 | .lst x,.lst y=>if (Im.pls 8 x && Im.pls 8 y)=true then some (.im<|.bl<|bD x y) else none
 | _,_=>none
theorem mC:∀ {x y:List Im},x.length≠y.length->bD x y=false
 | [],[],h=>absurd rfl h
 | [],_::_,_=>rfl
 | _::_,[],_=>rfl
 | a::x,b::y,h=>by
  rw[bD,mC (fun e=>h (by rw[length_cons,length_cons,e])),Bool.and_false]
theorem gK{pins:List (Addr×Obj)}(I:Inv X pins σ H s){a:Addr}{xs:List V}{ds:List Im}(h1:H a=some (.lst xs))(h2:ak H ds xs):∃ e_:List Value,s.heap.IsList a e_.toArray/\aO s.heap ds e_/\e_.length=ds.length:=by
 obtain⟨z,e_,n,rv,e⟩:=I.l_ a _ h1;have:=h2.FA I.l_ rv;exact⟨e_,⟨_,e,rfl,n,rfl⟩,this,this.length.symm⟩
theorem fg(hu:X.A.units+20<cLine):FF X (compareOp .Eq) vEq:=by
 intro pins s σ H x y v u Q I rx ry ⟨d1,d2,d,r1,r2,e,q⟩;unfold vEq at e;split at e
 ·rename_i a b;split at e
  ·rename_i hp;cases e;rw[and_eq_true] at hp;exact yY 8 hp.1 hp.2 (by lia) (r1.i.FA I.l_ rx) (r2.i.FA I.l_ ry) X.prog X.w _ _ ⟨.bl _,H,I,rfl,Out.i q rfl⟩
  ·cases e
 ·rename_i a b;split at e
  ·rename_i hp;cases e;rw[and_eq_true] at hp;obtain⟨_,p,xs,rfl,h1,h2,_⟩:=r1;obtain⟨_,p',ys,rfl,h3,h4,_⟩:=r2;cases rx;cases ry;obtain⟨i1,l1,v1,n1⟩:=gK I h1 h2;obtain⟨i2,l2,v2,n2⟩:=gK I h3 h4;by_cases hl:a.length=b.length
   ·have:=SeqAt.RcAt.lists (A:=X.A) (e:=fun j=>aA (a.getD j .j_)<|b.getD j .j_) l1 l2 (by rw[size_toArray,size_toArray,n1,n2];exact hl) (by lia) fun j j1 j2=>by
     obtain⟨d1,e1,r1⟩:=v1.get (j:=j) (v:=i1.toArray[j]) (by simp at j1;simp[j1]);obtain⟨d2,e2,r2⟩:=v2.get (j:=j) (v:=i2.toArray[j]) (by simp at j2;simp[j2]);rw[getD_eq_getElem?_getD,e1,getD_eq_getElem?_getD,e2];exact dg 8 (dq hp.1 e1) (dq hp.2 e2) (by show X.A.units+1+8+1<cLine;lia) r1 r2
    refine this X.prog X.w _ _ ⟨.bl _,H,I,rfl,?_⟩;have e5:=iB (ds:=a) (es:=b) (e:=fun j=>aA (a.getD j .j_)<|b.getD j .j_) (fun j x y a b=>by rw[getD_eq_getElem?_getD,a,getD_eq_getElem?_getD,b];rfl);rw[<- hl,Nat.min_self,beq_self_eq_true,Bool.and_true] at e5;rw[size_toArray,n1,e5];exact Out.i q rfl
   ·refine SeqAt.RcAt.lists_lengths (A:=X.A) l1 l2 (by rw[size_toArray,size_toArray,n1,n2];simpa using hl) (by lia) X.prog X.w _ _ ⟨.bl _,H,I,rfl,?_⟩;rw[mC hl] at q;exact Out.i q rfl
  ·cases e
 ·cases e
end
section
variable{X:Cx}
theorem yZ(n:Nat){A:Around}{x y:Im}{u v:Value}(kx:Im.pl n x=true)(ky:Im.pl n y=true)(hu:A.units+n+2<cLine)(hx:EH s.heap x u)(hy:EH s.heap y v):SeqAt.RcNeAt A s u v (!aA x y):=by
 cases x with
 | j_=>
  cases (show u=.none from hx);cases y with
  | j_=>cases (show v=.none from hy);exact SeqAt.RcNeAt.none_none
  | bl b=>cases (show v=.bool b from hy);exact SeqAt.RcNeAt.none_bool b
  | int j=>obtain⟨t,rfl⟩:=hy;exact SeqAt.RcNeAt.none_int j t
  | str z=>obtain⟨t,rfl⟩:=hy;exact SeqAt.RcNeAt.none_str z t
  | tup ds=>obtain⟨a,o,items,m,rfl,h1,h2,h3,_⟩:=hy;exact SeqAt.RcNeAt.none_tuple ⟨o,h1,h2,m,h3⟩ (by lia)
  | fn a=>cases n<;>cases ky
  | fl a=>cases n<;>cases ky
  | fd=>cases n<;>cases ky
 | bl b=>
  cases (show u=.bool b from hx);cases y with
  | j_=>cases (show v=.none from hy);exact SeqAt.RcNeAt.bool_none b
  | bl c=>cases (show v=.bool c from hy);exact SeqAt.RcNeAt.bool_bool b c
  | int j=>obtain⟨t,rfl⟩:=hy;exact SeqAt.RcNeAt.bool_int b j t
  | str z=>obtain⟨t,rfl⟩:=hy;exact SeqAt.RcNeAt.bool_str b z t
  | tup ds=>obtain⟨a,o,items,m,rfl,h1,h2,h3,_⟩:=hy;exact SeqAt.RcNeAt.bool_tuple b ⟨o,h1,h2,m,h3⟩ (by lia)
  | fn a=>cases n<;>cases ky
  | fl a=>cases n<;>cases ky
  | fd=>cases n<;>cases ky
 | int i=>
  obtain⟨t0,rfl⟩:=hx;cases y with
  | j_=>cases (show v=.none from hy);exact SeqAt.RcNeAt.int_none i t0
  | bl c=>cases (show v=.bool c from hy);exact SeqAt.RcNeAt.int_bool i t0 c
  | int j=>obtain⟨t,rfl⟩:=hy;exact SeqAt.RcNeAt.int_int i t0 j t
  | str z=>obtain⟨t,rfl⟩:=hy;exact SeqAt.RcNeAt.int_str i t0 z t
  | tup ds=>obtain⟨a,o,items,m,rfl,h1,h2,h3,_⟩:=hy;exact SeqAt.RcNeAt.int_tuple i t0 ⟨o,h1,h2,m,h3⟩ (by lia)
  | fn a=>cases n<;>cases ky
  | fl a=>cases n<;>cases ky
  | fd=>cases n<;>cases ky
 | str i=>
  obtain⟨t0,rfl⟩:=hx;cases y with
  | j_=>cases (show v=.none from hy);exact SeqAt.RcNeAt.str_none i t0
  | bl c=>cases (show v=.bool c from hy);exact SeqAt.RcNeAt.str_bool i t0 c
  | int j=>obtain⟨t,rfl⟩:=hy;exact SeqAt.RcNeAt.str_int i t0 j t
  | str z=>obtain⟨t,rfl⟩:=hy;exact SeqAt.RcNeAt.str_str i t0 z t
  | tup ds=>obtain⟨a,o,items,m,rfl,h1,h2,h3,_⟩:=hy;exact SeqAt.RcNeAt.str_tuple i t0 ⟨o,h1,h2,m,h3⟩ (by lia)
  | fn a=>cases n<;>cases ky
  | fl a=>cases n<;>cases ky
  | fd=>cases n<;>cases ky
 | fn a=>cases n<;>cases kx
 | fl a=>cases n<;>cases kx
 | fd=>cases n<;>cases kx
 | tup ds=>
  cases n with
  | zero=>cases kx
  | succ n=>
  obtain⟨a,o,items,m,rfl,h1,h2,h3,h4⟩:=hx;have ta:s.heap.IsTuple a items:=⟨o,h1,h2,m,h3⟩;cases y with
  | j_=>cases (show v=.none from hy);exact SeqAt.RcNeAt.tuple_none ta (by lia)
  | bl c=>cases (show v=.bool c from hy);exact SeqAt.RcNeAt.tuple_bool c ta (by lia)
  | int j=>obtain⟨t,rfl⟩:=hy;exact SeqAt.RcNeAt.tuple_int j t ta (by lia)
  | str z=>obtain⟨t,rfl⟩:=hy;exact SeqAt.RcNeAt.tuple_str z t ta (by lia)
  | fn a=>cases ky
  | fl a=>cases ky
  | fd=>cases ky
  | tup es=>
   obtain⟨b,o',x_,m',rfl,g1,g2,g3,g4⟩:=hy;have tb:s.heap.IsTuple b x_:=⟨o',g1,g2,m',g3⟩;have l1:=h4.length;have l2:=g4.length;have l3:items.toList.length=items.size:=by simp
   have l4:x_.toList.length=x_.size:=by simp
   rw[l3] at l1;rw[l4] at l2;have q:=SeqAt.RcNeAt.tuples (A:=A) (e:=fun j=>aA (ds.getD j .j_)<|es.getD j .j_) ta tb (by lia) fun j j1 j2=>by
    obtain⟨d1,e1,r1⟩:=h4.get (j:=j) (v:=items[j]) (by rw[getElem?_toList];simp[j1]);obtain⟨d2,e2,r2⟩:=g4.get (j:=j) (v:=x_[j]) (by rw[getElem?_toList];simp[j2]);rw[getD_eq_getElem?_getD,e1,getD_eq_getElem?_getD,e2];exact dg n (dq kx e1) (dq ky e2) (by show A.units+1+n+1<cLine;lia) r1 r2
   rw[<- l1,<- l2,iB (ds:=ds) (es:=es) (fun j x y a b=>by rw[getD_eq_getElem?_getD,a,getD_eq_getElem?_getD,b];rfl)] at q;rw[aA];exact q
@[simp] def vNe:Op2:=fun a b=>match a,b with
 | .im x,.im y=>if (Im.pl 8 x && Im.pl 8 y)=true then some (.im<|.bl<|!aA x y) else none
 | .lst x,.lst y=>if (Im.pls 8 x && Im.pls 8 y)=true then some (.im<|.bl<|!bD x y) else none
 | _,_=>none
theorem gL(hu:X.A.units+20<cLine):FF X (compareOp .NotEq) vNe:=by
 intro pins s σ H x y v u Q I rx ry ⟨d1,d2,d,r1,r2,e,q⟩;unfold vNe at e;split at e
 ·rename_i a b;split at e
  ·rename_i hp;cases e;rw[and_eq_true] at hp;exact yZ 8 hp.1 hp.2 (by lia) (r1.i.FA I.l_ rx) (r2.i.FA I.l_ ry) X.prog X.w _ _ ⟨.bl _,H,I,rfl,Out.i q rfl⟩
  ·cases e
 ·rename_i a b;split at e
  ·rename_i hp;cases e;rw[and_eq_true] at hp;obtain⟨_,p,xs,rfl,h1,h2,_⟩:=r1;obtain⟨_,p',ys,rfl,h3,h4,_⟩:=r2;cases rx;cases ry;obtain⟨i1,l1,v1,n1⟩:=gK I h1 h2;obtain⟨i2,l2,v2,n2⟩:=gK I h3 h4;by_cases hl:a.length=b.length
   ·have:=SeqAt.RcNeAt.lists (A:=X.A) (e:=fun j=>aA (a.getD j .j_)<|b.getD j .j_) l1 l2 (by rw[size_toArray,size_toArray,n1,n2];exact hl) (by lia) fun j j1 j2=>by
     obtain⟨d1,e1,r1⟩:=v1.get (j:=j) (v:=i1.toArray[j]) (by simp at j1;simp[j1]);obtain⟨d2,e2,r2⟩:=v2.get (j:=j) (v:=i2.toArray[j]) (by simp at j2;simp[j2]);rw[getD_eq_getElem?_getD,e1,getD_eq_getElem?_getD,e2];exact dg 8 (dq hp.1 e1) (dq hp.2 e2) (by show X.A.units+1+8+1<cLine;lia) r1 r2
    refine this X.prog X.w _ _ ⟨.bl _,H,I,rfl,?_⟩;have e5:=iB (ds:=a) (es:=b) (e:=fun j=>aA (a.getD j .j_)<|b.getD j .j_) (fun j x y a b=>by rw[getD_eq_getElem?_getD,a,getD_eq_getElem?_getD,b];rfl);rw[<- hl,Nat.min_self,beq_self_eq_true,Bool.and_true] at e5;rw[size_toArray,n1,e5];exact Out.i q rfl
   ·refine SeqAt.RcNeAt.lists_lengths (A:=X.A) l1 l2 (by rw[size_toArray,size_toArray,n1,n2];simpa using hl) (by lia) X.prog X.w _ _ ⟨.bl _,H,I,rfl,?_⟩;rw[mC hl] at q;exact Out.i q rfl
  ·cases e
 ·cases e
@[simp] def oIs(n:Bool):Op2:=fun a b=>match a,b with
 | .im x,.im .j_=>some (.im<|.bl<|n != decide (x=.j_))
 | .im (.bl x),.im (.bl y)=>some (.im<|.bl<|n != (x == y))
 | _,_=>none
theorem y3{d:Im}(h:Ef H d v):decide (v=.j_)=decide (d=.j_):=by
 cases d with
 | j_=>cases (show v=.j_ from h);rfl
 | bl b=>cases (show v=.bl b from h);rfl
 | int b=>cases (show v=.int b from h);rfl
 | str b=>cases (show v=.str b from h);rfl
 | fn b=>cases (show v=.ref b from h);rfl
 | tup ds=>obtain⟨a,xs,rfl,_⟩:=h;rfl
 | fl ds=>obtain⟨a,xs,o,rfl,_⟩:=h;rfl
 | fd=>obtain⟨a,o,rfl,_⟩:=h;rfl
theorem y4:EJ X (compareOp .Is) (fun x y H Q=>∃ a b,x=.bl a/\y=.bl b/\Q (.bl<|a == b) H):=by
 intro pins s σ H x y v u Q I rx ry ⟨a,b,e1,e2,q⟩;subst e1 e2;cases rx;cases ry;refine wpAny_is_plain (by cases a<;>cases b<;>rfl) ⟨.bl<|a == b,H,I,?_,q⟩;cases a<;>cases b<;>rfl
theorem y6:FF X (compareOp .Is) (oIs false):=by
 refine (wx.or y4).imp fun x y H Q ⟨d1,d2,d,r1,r2,e,q⟩=>?_;unfold oIs at e;split at e
 ·rename_i a;cases e;refine .inl ⟨r2.i,?_⟩;rw[y3 r1.i];refine Out.i q ?_;show _=_;rw[Bool.false_bne]
 ·cases e;refine .inr ⟨_,_,r1.i,r2.i,Out.i q ?_⟩;show _=_;rw[Bool.false_bne]
 ·cases e
def bG{κ:Type}[DecidableEq κ](kvs:List (κ×Im))(k:κ):Option Im:=(kvs.find? fun p=>decide (p.1=k)).map (·.2)
theorem gM{κ:Type}[DecidableEq κ]{H:Hp}{k:κ}:∀ {kvs:List (κ×Im)}{Ex:List (κ×V)},E8 H kvs Ex->(∀ d,bG kvs k=some d->∃ v,cy Ex k=some v/\Ef H d v)/\(bG kvs k=none->cy Ex k=none)
 | _,_,.nil=>⟨(fun d e=>by cases e),(fun _=>rfl)⟩
 | _,_,.cons (a:=p) (b:=q) h t=>by
  obtain⟨h1,h2⟩:=gM (k:=k) t;by_cases e:p.1=k
  ·have e':q.1=k:=h.1.symm.trans e;refine⟨fun d hd=>?_,fun hn=>?_⟩
   ·have:∀ r,bG (p::r) k=some p.2:=fun r=>by simp[bG,find?_cons,e]
    rw[this] at hd;cases hd;exact⟨q.2,jM e',h.2⟩
   ·have:∀ r,bG (p::r) k=some p.2:=fun r=>by simp[bG,find?_cons,e]
    rw[this] at hn;cases hn
  ·have e':¬ q.1=k:=fun z=>e (h.1.trans z);have:∀ r,bG (p::r) k=bG r k:=fun r=>by simp[bG,find?_cons,e]
   rw[this,jN e'];exact⟨h1,h2⟩
@[simp] def vIx:Op2:=fun a b=>match a,b with
 | .im (.tup ds),.im (.int i)=>(FS ds i).map .im
 | .lst ds,.im (.int i)=>(FS ds i).map .im
 | .fz ds,.im (.int i)=>(FS ds i).map .im
 | .dT kvs,.im (.tup k)=>if Im.keys 7 k=true then (bG kvs k).map .im else none
 | .dK kvs,.im (.int i)=>(bG kvs<|.inl i).map .im
 | .dK kvs,.im (.str i)=>(bG kvs<|.inr i).map .im
 | _,_=>none
theorem y7(hu:X.A.units+20<cLine):Hb X (fun x y H Q=>∃ a v,x=.ref a/\bW H a y (some v)/\Q v H):=by
 intro value slice pins s σ H x y v u Q I rx ry ⟨a,z,e,g,q⟩ hs;subst e;cases rx;exact tail_any (xK I g) PySem.F.slot_dict_getitem.lookup (xH hu I g ry fun w' s3 I3 Hw=>⟨z,H,I3,Hw,q⟩) hs
theorem mE{i:Int}{d:Im}(h:ak H ds xs)(e:FS ds i=some d):∃ v,FS xs i=some v/\Ef H d v:=by
 unfold FS at e ⊢;rw[<- h.length];obtain⟨j,e1,e2⟩:=bind_eq_some_iff.mp e;obtain⟨v,g1,g2⟩:=h.get e2;exact⟨v,by rw[e1];exact g1,g2⟩
theorem y8(hu:X.A.units+20<cLine):Hb X (fun x y H Q=>∃ d1 d2 d,FL H d1 x/\FL H d2 y/\vIx d1 d2=some d/\∀ v H' R,aC H H'->Own H' d v R->R.Nodup->(∀ a∈R,H a=none)->Q v H'):=by
 refine (xn.or<|xo.or<|y7 hu).imp fun x y H Q ⟨d1,d2,d,r1,r2,e,q⟩=>?_;unfold vIx at e;split at e
 ·obtain⟨d',e1,e2⟩:=map_eq_some_iff.mp e;cases e2;obtain⟨p,xs,rfl,h1,h2⟩:=r1.i;obtain⟨v,g1,g2⟩:=mE h2 e1;exact .inr (.inl ⟨p,xs,_,v,rfl,r2.i,A_.of h1,g1,Out.i q g2⟩)
 ·obtain⟨d',e1,e2⟩:=map_eq_some_iff.mp e;cases e2;obtain⟨_,p,xs,rfl,h1,h2,_⟩:=r1;obtain⟨v,g1,g2⟩:=mE h2 e1;exact .inl ⟨p,xs,_,v,rfl,r2.i,En.of h1,g1,Out.i q g2⟩
 ·obtain⟨d',e1,e2⟩:=map_eq_some_iff.mp e;cases e2;obtain⟨_,p,xs,o,rfl,h1,h2,_⟩:=r1;obtain⟨v,g1,g2⟩:=mE h2 e1;exact .inl ⟨p,xs,_,v,rfl,r2.i,.inl<|.inr ⟨o,h1⟩,g1,Out.i q g2⟩
 ·rename_i kvs k;split at e
  ·rename_i hk;obtain⟨d',e1,e2⟩:=map_eq_some_iff.mp e;cases e2;obtain⟨_,p,Ex,rfl,h1,h2,_⟩:=r1;obtain⟨v,g1,g2⟩:=(gM h2).1 d' e1;obtain⟨b,xs,rfl,k1,k2⟩:=r2.i;exact .inr (.inr ⟨p,v,rfl,by rw[<- g1];exact bW.t h1 ⟨hk,b,xs,rfl,k1,k2⟩,Out.i q g2⟩)
  ·cases e
 ·rename_i kvs i;obtain⟨d',e1,e2⟩:=map_eq_some_iff.mp e;cases e2;obtain⟨_,p,Ex,rfl,h1,h2,_⟩:=r1;obtain⟨v,g1,g2⟩:=(gM h2).1 d' e1;refine .inr (.inr ⟨p,v,rfl,?_,Out.i q g2⟩);rw[show y=kV (.inl i) from r2.i,<- g1];exact bW.k h1
 ·rename_i kvs i;obtain⟨d',e1,e2⟩:=map_eq_some_iff.mp e;cases e2;obtain⟨_,p,Ex,rfl,h1,h2,_⟩:=r1;obtain⟨v,g1,g2⟩:=(gM h2).1 d' e1;refine .inr (.inr ⟨p,v,rfl,?_,Out.i q g2⟩);rw[show y=kV (.inr i) from r2.i,<- g1];exact bW.k h1
 ·cases e
end
end L2
namespace HT
open PySem PySem.Spec PyProof.Rows
section
variable{prog:Program}{w:World}{A:Around}{E:Value->Shared->Prop}{s:Shared}
theorem y9{t sl:Addr}{e_:Array Value}{vl vu:Value}{lo hi:Option Int}{Q:Value->Shared->Prop}(p:IsTup s.heap t e_)(hs:s.heap.IsSliceOf sl vl vu .none)(pl:IsPart vl lo)(pu:IsPart vu hi)(h0:D_ e_.size 0 lo=0)(h1:D_ e_.size e_.size hi=e_.size)(q:Q (.ref t) s):wpAny (model prog w) A (getItem (.ref t)<|.ref sl) Q E s:=by
 obtain⟨os,ho,hc,hd⟩:=id hs;have ty:s.TypeIs (.ref sl) "slice" := ⟨os,ho,hc⟩;unfold getItem;try with_reducible refine wpAny_holding ?_
 first | refine wpAny_bind (wpAny_pure ?_) | skip
 refine wpAny_bind (wpAny_sequenceKey p.typeIs (by decide) ?_);refine wpAny_bind (wpAny_callSpecial?_slot (name:=Str.ofString "__getitem__") p.typeIs PyProof.Rows.slot_tuple_getitem<|wpAny_call_entry PyProof.Rows.slot_tuple_getitem p.typeIs entry_tuple_getitem ?_<|args_tuple_getitem _ _);show wpAny _ _ (Builtin.Tuple.tupleItemsOf (.ref t) >>= _) _ _ s;refine wpAny_bind (tupleItemsOf_ p ?_);refine wpAny_bind (wpAny_typeOf ty ?_);rw[if_pos (by decide)];refine wpAny_bind (pp hs pl pu ?_);rw[h0,h1];show wpAny _ _ (if (((0:Nat):Int) == 0 && (1:Int) == 1 && (e_.size - 0) == e_.size)=true then _ else _) _ _ s;rw[if_pos (by simp)];refine wpAny_bind (m:=Builtin.Tuple.tupleIsExact _) (wpAny_bind<|wpAny_typeOf p.typeIs<|wpAny_pure ?_);show wpAny _ _ (if (Value.type "tuple" == Value.type "tuple")=true then _ else _) _ _ s;rw[if_pos (by decide)];exact wpAny_bind (wpAny_rule<|wpAny_pure ⟨_,rfl,wpAny_pure q⟩)
end
end HT
namespace L2
open PySem PySem.Spec PyProof.Rows
section
variable{X:Cx}
@[simp] def iU(g:M Vl):M Vl:=fun D=>(g D).bind fun p=>match p.1 with
 | .im (.int i)=>some (.im<|.int<|-i,p.2)
 | _=>none
variable{g:M Vl}{pos:Pos}
theorem j6{a:Expr}(h:VE X a g):VE X (.UnaryOp .USub a pos) (iU g):=by
 refine bg (v9 wo h) fun σ H Q ⟨D,F,r,D',st,nd,hg,q⟩=>?_;obtain⟨⟨x,D1⟩,h1,h2⟩:=bind_eq_some_iff.mp hg;refine⟨D,F,x,D1,st,nd,h1,fun v H1 F1 R s_ ow s1=>?_⟩;dsimp only at h2;split at h2
 ·rename_i i;cases h2;exact⟨i,ow.1,q _ H1 F1 [] s_ ⟨rfl,rfl⟩ (by rw[append_nil];exact s1.both)⟩
 ·cases h2
def tP(g:M (Option Int)):TO:=fun σ H Q=>∃ D F l D',aj H D σ F/\F.Nodup/\g D=some (l,D')/\∀ H' F',aj H' D' σ F'->m_ H F H' F'->Q l H'
def VP(X:Cx)(e:Option Expr)(g:M (Option Int)):Prop:=∀ ⦃p⦄,OP X e (tP g) p
theorem qC{e:Option Expr}{t t':TO}(h:PO X e t)(i:∀ σ H Q,t' σ H Q->t σ H Q):PO X e t':=fun pins s σ H Q I hw=>h pins s σ H Q I (i σ H Q hw)
def pNone:M (Option Int):=fun D=>some (none,D)
@[simp] def dQ(g:M Vl):M (Option Int):=fun D=>(g D).bind fun p=>match p.1 with
 | .im (.int i)=>some (some i,p.2)
 | _=>none
theorem fh:VP X none pNone:=by
 refine qC xb fun σ H Q ⟨D,F,r,D',st,nd,hg,q⟩=>?_;cases hg;exact q H F st (m_.perm nd<|List.Perm.refl _)
variable{e:Expr}
theorem fi(h:VE X e g):VP X (some e) (dQ g):=by
 refine qC (xc h) fun σ H Q ⟨D,F,r,D',st,nd,hg,q⟩=>?_;obtain⟨⟨x,D1⟩,h1,h2⟩:=bind_eq_some_iff.mp hg;refine⟨D,F,x,D1,st,nd,h1,fun v H1 F1 R s_ ow s1=>?_⟩;dsimp only at h2;split at h2
 ·rename_i i;cases h2;exact⟨i,ow.1,q H1 F1 s_ s1.both⟩
 ·cases h2
def a0{α:Type}(xs:List α)(lo hi:Option Int):List α:=(xs.drop<|HT.D_ xs.length 0 lo).take (HT.D_ xs.length xs.length hi - HT.D_ xs.length 0 lo)
variable{H:Hp}
theorem ak.drop:∀ {ds:List Im}{xs:List V} (n:Nat),ak H ds xs->ak H (ds.drop n) (xs.drop n)
 | ds,xs,0,h=>h
 | [],xs,n+1,h=>by cases (show xs=[] from h);exact rfl
 | d::ds,xs,n+1,h=>by
  obtain⟨v,r,rfl,h1,h2⟩:=h;exact h2.drop n
theorem ak.take:∀ {ds:List Im}{xs:List V} (n:Nat),ak H ds xs->ak H (ds.take n) (xs.take n)
 | ds,xs,0,h=>rfl
 | [],xs,n+1,h=>by cases (show xs=[] from h);exact rfl
 | d::ds,xs,n+1,h=>by
  obtain⟨v,r,rfl,h1,h2⟩:=h;exact⟨v,_,rfl,h1,h2.take n⟩
theorem ak.cut{ds:List Im}{xs:List V}(lo hi:Option Int)(h:ak H ds xs):ak H (a0 ds lo hi) (eM xs lo hi):=by
 unfold a0 eM;rw[h.length];exact (h.drop _).take _
@[simp] def vSl(d:Vl)(lo hi:Option Int):Option Vl:=match d with
 | .im (.tup ds)=>some (.im<|.tup<|a0 ds lo hi)
 | .lst ds=>some (.lst<|a0 ds lo hi)
 | .fz ds=>some (.lst<|a0 ds lo hi)
 | _=>none
def zc(K:PySem.W.Frag):V->Option Int->Option Int->Hp->VK->Prop:=fun x lo hi H Q=>∃ a xs,x=.ref a/\A_ K H a xs/\HT.D_ xs.length 0 lo=0/\HT.D_ xs.length xs.length hi=xs.length/\Q (.ref a) H
theorem zd:KW X (fun x lo hi H Q=>∃ d r,FL H d x/\vSl d lo hi=some r/\Out H r Q):=by
 have all:KW X (zc X.K):=by
  intro pins s σ H x v vl vu lo hi sl Q I rx hs pl pu h;obtain⟨a,xs,rfl,hx,h0,h1,q⟩:=h;cases rx;obtain⟨e_,r,ht,hz⟩:=I.tuple hx;have hlen:e_.toArray.size=xs.length:=by rw[size_toArray];exact r.length.symm
  exact⟨"tuple",_,PyProof.Rows.slot_tuple_getitem.lookup,ht.typeIs,HT.y9 ht hs pl pu (by rw[hlen];exact h0) (by rw[hlen];exact h1) ⟨.ref a,H,I,rfl,q⟩⟩
 intro pins s σ H x v vl vu lo hi sl Q I rx hs pl pu ⟨d,r,rd,e,q⟩;unfold vSl at e;split at e
 ·rename_i ds;cases e;obtain⟨p,xs,rfl,h1,h2⟩:=rd.i;by_cases hw:HT.D_ xs.length 0 lo=0/\HT.D_ xs.length xs.length hi=xs.length
  ·refine all pins s σ H _ v vl vu lo hi sl Q I rx hs pl pu ⟨p,xs,rfl,A_.of h1,hw.1,hw.2,Out.i q ⟨p,xs,rfl,h1,?_⟩⟩;have:a0 ds lo hi=ds:=by
    unfold a0;rw[h2.length,hw.1,hw.2,drop_zero,Nat.sub_zero,<- h2.length,take_length]
   rw[this];exact h2
  ·exact xh pins s σ H _ v vl vu lo hi sl Q I rx hs pl pu ⟨p,xs,rfl,A_.of h1,hw,fun n hn=>Out.t q hn<|h2.cut lo hi⟩
 ·cases e;obtain⟨_,p,xs,rfl,h1,h2,_⟩:=rd;exact pB pins s σ H _ v vl vu lo hi sl Q I rx hs pl pu ⟨p,xs,rfl,En.of h1,fun n hn=>Out.l q hn<|h2.cut lo hi⟩
 ·cases e;obtain⟨_,p,xs,o,rfl,h1,h2,_⟩:=rd;exact pB pins s σ H _ v vl vu lo hi sl Q I rx hs pl pu ⟨p,xs,rfl,.inl<|.inr ⟨o,h1⟩,fun n hn=>Out.l q hn<|h2.cut lo hi⟩
 ·cases e
@[simp] def eSl(g:M Opd)(l h:M (Option Int)):M Vl:=fun D=>(g D).bind fun p=>(l p.2).bind fun q=>(h q.2).bind fun r=>(rsl r.2 p.1).bind fun d=>(vSl d q.1 r.1).map fun d'=>(d',r.2)
theorem fj{lo hi:Option Expr}{g:M Opd}{gl gh:M (Option Int)}{p2:Pos}(he:VO X e g)(hl:VP X lo gl)(hh:VP X hi gh):VE X (.Subscript e (.Slice lo hi none p2) pos) (eSl g gl gh):=by
 refine bg (xf zd he hl hh) fun σ H Q ⟨D,F,r,D',st,nd,hg,q⟩=>?_;obtain⟨⟨x,D1⟩,h1,h2⟩:=bind_eq_some_iff.mp hg;obtain⟨⟨l,D2⟩,h3,h4⟩:=bind_eq_some_iff.mp h2;obtain⟨⟨u,D3⟩,h5,h6⟩:=bind_eq_some_iff.mp h4;obtain⟨d,h7,h8⟩:=bind_eq_some_iff.mp h6;obtain⟨d',h9,QO⟩:=map_eq_some_iff.mp h8;cases QO;refine⟨D,F,x,D1,st,nd,h1,fun v H1 F1 R s_ o1 s1=>⟨D1,F1,l,D2,s_,(nodup_append.mp s1.nd).1,h3,fun H2 F2 q_ s2=>⟨D2,F2,u,D3,q_,s2.nd,h5,fun H3 F3 E6 s3=>?_⟩⟩⟩;have s4:=s2.seq s3;have o3:cZ H3 σ x v R:=o1.mono s4.tup fun a ha o e=>s4.keep a o e fun h=>(nodup_append.mp s1.nd).2.2 a h a ha rfl;have s5:=s1.trans s4 o1.chg;exact⟨d,_,o3.read E6 h7,h9,fun w H4 R4 s6 ow Lj fr=>q w H4 F3 R4 (E6.mono s6.tupS fun a _ o e=>s6 a o e) ow<|s5.new s6 Lj fr E6.chg⟩
abbrev OpN:=List Vl->Option Vl
@[simp] def vLen:OpN:=fun ds=>match ds with
 | [.im (.tup x)]=>some (.im<|.int x.length)
 | [.lst x]=>some (.im<|.int x.length)
 | [.fz x]=>some (.im<|.int x.length)
 | [.EW x]=>some (.im<|.int x.length)
 | [.dK x]=>some (.im<|.int x.length)
 | [.im (.str x)]=>if x.length<=100000 then some (.im<|.int x.length) else none
 | _=>none
variable{vs:List V}
theorem bU{d:Vl}(h:eZ H [d] vs):∃ v,vs=[v]/\FL H d v:=by
 obtain⟨v,r,rfl,h1,h2⟩:=h;cases (show r=[] from h2);exact⟨v,rfl,h1⟩
theorem qE{d e:Vl}(h:eZ H [d,e] vs):∃ v u,vs=[v,u]/\FL H d v/\FL H e u:=by
 obtain⟨v,r,rfl,h1,h2⟩:=h;obtain⟨u,rfl,h3⟩:=bU h2;exact⟨v,u,rfl,h1,h3⟩
theorem E8.length{κ:Type}{l:List (κ×Im)}{m:List (κ×V)}(h:E8 H l m):l.length=m.length:=Paired.length h
theorem gO:cv X (.builtin "len") vLen:=by
 refine (xv.or<|xw.or xT).imp fun xs H Q ⟨ds,d,rd,e,q⟩=>?_;unfold vLen at e;split at e
 ·cases e;obtain⟨v,rfl,h⟩:=bU rd;obtain⟨p,xs,rfl,h1,h2⟩:=h.i;exact .inl ⟨p,xs,rfl,.inr<|A_.of h1,by rw[<- h2.length];exact Out.i q rfl⟩
 ·cases e;obtain⟨v,rfl,_,p,xs,rfl,h1,h2,_⟩:=bU rd;exact .inl ⟨p,xs,rfl,.inl<|En.of h1,by rw[<- h2.length];exact Out.i q rfl⟩
 ·cases e;obtain⟨v,rfl,_,p,xs,o,rfl,h1,h2,_⟩:=bU rd;exact .inl ⟨p,xs,rfl,.inl<|.inl<|.inr ⟨o,h1⟩,by rw[<- h2.length];exact Out.i q rfl⟩
 ·cases e;obtain⟨v,rfl,_,p,xs,G,rfl,h1,h2,_⟩:=bU rd;exact .inl ⟨p,xs,rfl,.inl<|En.of h1,by rw[<- h2.length];exact Out.i q rfl⟩
 ·cases e;obtain⟨v,rfl,_,p,Ex,rfl,h1,h2,_⟩:=bU rd;exact .inr (.inr ⟨p,Ex,rfl,h1,by rw[<- h2.length];exact Out.i q rfl⟩)
 ·split at e
  ·rename_i hl;cases e;obtain⟨v,rfl,h⟩:=bU rd;cases (show v=_ from h.i);exact .inr (.inl ⟨_,rfl,e8 hl,Out.i q rfl⟩)
  ·cases e
 ·cases e
@[simp] def vTuple:OpN:=fun ds=>match ds with
 | [d]=>(dL d).map fun x=>.im (.tup x)
 | _=>none
@[simp] def vList:OpN:=fun ds=>match ds with
 | [d]=>(dL d).map .lst
 | _=>none
theorem iV:cv X (.type "tuple") vTuple:=by
 refine xy.imp fun xs H Q ⟨ds,d,rd,e,q⟩=>?_;unfold vTuple at e;split at e
 ·obtain⟨x,e1,e2⟩:=map_eq_some_iff.mp e;cases e2;obtain⟨v,rfl,h⟩:=bU rd;unfold dL at e1;split at e1
  ·cases e1;obtain⟨p,xs,rfl,h1,h2⟩:=h.i;exact⟨p,xs,rfl,.inr ⟨A_.of h1,Out.i q ⟨p,xs,rfl,h1,h2⟩⟩⟩
  ·cases e1;obtain⟨_,p,xs,rfl,h1,h2,_⟩:=h;exact⟨p,xs,rfl,.inl ⟨En.of h1,fun l hl=>Out.t q hl h2⟩⟩
  ·cases e1;obtain⟨_,p,xs,o,rfl,h1,h2,_⟩:=h;exact⟨p,xs,rfl,.inl ⟨.inl<|.inr ⟨o,h1⟩,fun l hl=>Out.t q hl h2⟩⟩
  ·cases e1
 ·cases e
theorem j9:cv X (.type "list") vList:=by
 refine xx.imp fun xs H Q ⟨ds,d,rd,e,q⟩=>?_;unfold vList at e;split at e
 ·obtain⟨x,e1,e2⟩:=map_eq_some_iff.mp e;cases e2;obtain⟨v,rfl,h⟩:=bU rd;unfold dL at e1;split at e1
  ·cases e1;obtain⟨p,xs,rfl,h1,h2⟩:=h.i;exact⟨p,xs,rfl,.inr<|A_.of h1,fun l hl=>Out.l q hl h2⟩
  ·cases e1;obtain⟨_,p,xs,rfl,h1,h2,_⟩:=h;exact⟨p,xs,rfl,.inl<|En.of h1,fun l hl=>Out.l q hl h2⟩
  ·cases e1;obtain⟨_,p,xs,o,rfl,h1,h2,_⟩:=h;exact⟨p,xs,rfl,.inl<|.inl<|.inr ⟨o,h1⟩,fun l hl=>Out.l q hl h2⟩
  ·cases e1
 ·cases e
@[simp] def vInt:OpN:=fun ds=>match ds with
 | [.im (.int i)]=>some (.im<|.int i)
 | [.im (.bl b)]=>some (.im<|.int<|if b then 1 else 0)
 | _=>none
theorem qF:cv X (.type "int") vInt:=by
 refine wI.imp fun xs H Q ⟨ds,d,rd,e,q⟩=>?_;unfold vInt at e;split at e
 ·cases e;obtain⟨v,rfl,h⟩:=bU rd;cases (show v=_ from h.i);exact .inl ⟨_,rfl,Out.i q rfl⟩
 ·cases e;obtain⟨v,rfl,h⟩:=bU rd;cases (show v=_ from h.i);exact .inr ⟨_,rfl,Out.i q rfl⟩
 ·cases e
@[simp] def vAbs:OpN:=fun ds=>match ds with
 | [.im (.int i)]=>some (.im<|.int<|if i<0 then -i else i)
 | _=>none
theorem qG:cv X (.builtin "abs") vAbs:=by
 refine wF.imp fun xs H Q ⟨ds,d,rd,e,q⟩=>?_;unfold vAbs at e;split at e
 ·cases e;obtain⟨v,rfl,h⟩:=bU rd;cases (show v=_ from h.i);exact⟨_,rfl,Out.i q rfl⟩
 ·cases e
@[simp] def vMax2:OpN:=fun ds=>match ds with
 | [.im (.int i),.im<|.int j]=>some (.im<|.int<|if j > i then j else i)
 | _=>none
@[simp] def vMin2:OpN:=fun ds=>match ds with
 | [.im (.int i),.im<|.int j]=>some (.im<|.int<|if j<i then j else i)
 | _=>none
theorem mF(hc:X.calm=true):cv X (.builtin "max") vMax2:=by
 refine (wG hc).imp fun xs H Q ⟨ds,d,rd,e,q⟩=>?_;unfold vMax2 at e;split at e
 ·cases e;obtain⟨v,u,rfl,h,k⟩:=qE rd;cases (show v=_ from h.i);cases (show u=_ from k.i);exact⟨_,_,rfl,Out.i q rfl⟩
 ·cases e
theorem mG(hc:X.calm=true):cv X (.builtin "min") vMin2:=by
 refine (wH hc).imp fun xs H Q ⟨ds,d,rd,e,q⟩=>?_;unfold vMin2 at e;split at e
 ·cases e;obtain⟨v,u,rfl,h,k⟩:=qE rd;cases (show v=_ from h.i);cases (show u=_ from k.i);exact⟨_,_,rfl,Out.i q rfl⟩
 ·cases e
@[simp] def bls:List Im->Option (List Bool)
 | []=>some []
 | .bl b::ds=>(bls ds).map fun r=>b::r
 | _::_=>none
theorem mH{H:Hp}:∀ {ds:List Im}{xs:List V}{bs:List Bool},ak H ds xs->bls ds=some bs->xs=bs.map V.bl
 | [],xs,bs,h,e=>by cases e;exact h
 | .bl b::ds,xs,bs,h,e=>by
  obtain⟨v,r,rfl,h1,h2⟩:=h;rw[bls] at e;obtain⟨p,e1,e2⟩:=map_eq_some_iff.mp e;cases e2;cases (show v=.bl b from h1);rw[mH h2 e1];rfl
 | .j_::_,_,_,_,e=>by cases e
 | .int _::_,_,_,_,e=>by cases e
 | .str _::_,_,_,_,e=>by cases e
 | .tup _::_,_,_,_,e=>by cases e
 | .fn _::_,_,_,_,e=>by cases e
 | .fl _::_,_,_,_,e=>by cases e
 | .fd::_,_,_,_,e=>by cases e
@[simp] def vAll:OpN:=fun ds=>match ds with
 | [.lst x]=>(bls x).map fun bs=>.im (.bl<|bs.all id)
 | _=>none
@[simp] def vAny:OpN:=fun ds=>match ds with
 | [.lst x]=>(bls x).map fun bs=>.im (.bl<|bs.any id)
 | _=>none
theorem gP(hc:X.calm=true):cv X (.builtin "all") vAll:=by
 refine (yy hc).imp fun xs H Q ⟨ds,d,rd,e,q⟩=>?_;unfold vAll at e;split at e
 ·obtain⟨x,e1,e2⟩:=map_eq_some_iff.mp e;cases e2;obtain⟨v,rfl,_,p,xs,rfl,h1,h2,_⟩:=bU rd;rw[mH h2 e1] at h1;exact⟨p,x,rfl,h1,Out.i q rfl⟩
 ·cases e
end
section
variable{X:Cx}
theorem ze(hc:X.calm=true):bb X (.builtin "any") (fun xs H Q=>∃ l bs,xs=[.ref l]/\H l=some (.lst<|List.map V.bl bs)/\Q (.bl<|bs.any id) H):=by
 intro pins s σ H xs us Q I r h;obtain⟨l,bs,rfl,hl,q⟩:=h;obtain⟨u,rfl,ru⟩:=b9 r;cases ru;obtain⟨z,e_,n,rv,e⟩:=I.l_ l _ hl;have Gu:s.heap.IsList l e_.toArray:=⟨_,e,rfl,n,rfl⟩;refine call_any_walk (wpAny_pyIter_list Gu ⟨s.heap.objs.size,[s.heap.objs.size,l],[s.heap.objs.size],e_.toArray.size,_,_,fun i=>(bs[i]?).getD false,rfl,Walks.list (A:=X.A.in1) (I.ok.hd hc) _ l (ne_of_lt<|Heap.lt_size e) e_.toArray,
  ⟨⟨_,Heap.get?_push_size _ rfl,rfl,rfl⟩,Gu.push _⟩,fun i v s' Q' E' hP hQ=>?_,fun h' tk hk=>?_⟩)
 ·obtain⟨b,eb,rfl⟩:=pZ rv i v (by simpa using hP);simp only[eb,getD_some] at hQ;exact wpAny_truthy_bool hQ
 ·have el:e_.toArray.size=bs.length:=by
   have:=rv.length;rw[length_map] at this;rw[size_toArray,this]
  rw[el,LSm.range_any];exact⟨.bl _,H,I.kept<|LSm.kept_iter hk,rfl,q⟩
theorem kc(hc:X.calm=true):cv X (.builtin "any") vAny:=by
 refine (ze hc).imp fun xs H Q ⟨ds,d,rd,e,q⟩=>?_;unfold vAny at e;split at e
 ·obtain⟨x,e1,e2⟩:=map_eq_some_iff.mp e;cases e2;obtain⟨v,rfl,_,p,xs,rfl,h1,h2,_⟩:=bU rd;rw[mH h2 e1] at h1;exact⟨p,x,rfl,h1,Out.i q rfl⟩
 ·cases e
@[simp] def mI(T:String)(d:Vl):Option Bool:=
 if T = "int" then match d with
  | .im (.int _)=>some true
  | .im (.bl _)=>some true
  | .im (.str _)=>some false
  | .im (.tup _)=>some false
  | .im .j_=>some false
  | .lst _=>some false
  | .im (.fl _)=>some false
  | .im .fd=>some false
  | .dT _=>some false
  | .dK _=>some false
  | _=>none
 else if T = "bool" then match d with
  | .im (.int _)=>some false
  | .im (.bl _)=>some true
  | .im (.str _)=>some false
  | .im (.tup _)=>some false
  | .im .j_=>some false
  | .lst _=>some false
  | .im (.fl _)=>some false
  | .im .fd=>some false
  | .dT _=>some false
  | .dK _=>some false
  | _=>none
 else if T = "str" then match d with
  | .im (.int _)=>some false
  | .im (.bl _)=>some false
  | .im (.str _)=>some true
  | .im (.tup _)=>some false
  | .im .j_=>some false
  | .lst _=>some false
  | .im (.fl _)=>some false
  | .im .fd=>some false
  | .dT _=>some false
  | .dK _=>some false
  | _=>none
 else if T = "tuple" then match d with
  | .im (.int _)=>some false
  | .im (.bl _)=>some false
  | .im (.str _)=>some false
  | .im (.tup _)=>some true
  | .im .j_=>some false
  | .lst _=>some false
  | .im (.fl _)=>some false
  | .im .fd=>some false
  | .dT _=>some false
  | .dK _=>some false
  | _=>none
 else none
variable{pins:List (Addr×Obj)}{H:Hp}{s:Shared}
theorem fk{σ:St}(I:Inv X pins σ H s){a:Addr}(h:(∃ k,H a=some (.dT k))\/∃ k,H a=some (.dK k)):∃ o,s.heap.get? a=some o/\o.cls=.type "dict" := by
 rcases h with ⟨k,h⟩ | ⟨k,h⟩
 ·obtain⟨_,_,xs,_,o,es,ep,h1,h2,_⟩:=(show bm X.prog X.w H s.heap a (.dT k) from I.l_ a _ h);exact⟨o,h1,h2.1⟩
 ·obtain⟨_,_,vs,_,o,es,ep,h1,h2,_⟩:=(show bm X.prog X.w H s.heap a (.dK k) from I.l_ a _ h);exact⟨o,h1,h2.1⟩
theorem ke{σ:St}(I:Inv X pins σ H s){a:Addr}{p:Obj}(h:H a=some (.Et p<|.dT [])):∃ o,s.heap.get? a=some o/\o.cls=.type "dict" := by
 obtain⟨_,_,_,xs,_,o,es,ep,h1,h2,_⟩:=(show bm X.prog X.w H s.heap a (.Et p<|.dT []) from I.l_ a _ h);exact⟨o,h1,h2.1⟩
theorem zf:bb X (.builtin "isinstance") (fun xs H Q=>∃ x T d b,xs=[x,.ty T]/\FL H d x/\mI T d=some b/\Q (.bl b) H):=by
 intro pins s σ H xs us Q I r h;obtain⟨x,T,d,b,rfl,rd,hi,q⟩:=h;have r0:=r;cases r with
 | cons r rr=>
  cases rr with
  | cons r' rr=>
   cases rr;cases r';have f1:∀ {b:Bool},Q (.bl b) H->EP X pins σ Q (.bool b) { s with toks:=s.toks+1 }:=fun {b} q=>⟨.bl b,H,I.tok _,rfl,q⟩;have dI:∀ {a:Addr},(∃ o,s.heap.get? a=some o/\o.cls=.type "dict")->(T = "int" \/ T = "bool" \/ T = "str" \/ T = "tuple")->b=false->wpAny (model X.prog X.w) X.A (call (.builtin "isinstance") [.ref a,.type T]) (EP X pins σ Q) X.xe s:=by
    rintro a ⟨o,ho,hc⟩ hT rfl;rcases hT with rfl | rfl | rfl | rfl
    ·exact IsiPair.dict_int ho hc (f1 q)
    ·exact IsiPair.dict_bool ho hc (f1 q)
    ·exact IsiPair.dict_str ho hc (f1 q)
    ·exact IsiPair.dict_tuple ho hc (f1 q)
   have nI:(T = "int" \/ T = "bool" \/ T = "str" \/ T = "tuple")->b=false->wpAny (model X.prog X.w) X.A (call (.builtin "isinstance") [.none,.type T]) (EP X pins σ Q) X.xe s:=by
    rintro hT rfl;rcases hT with rfl | rfl | rfl | rfl
    ·exact IsiPair.NoneType_int (f1 q)
    ·exact IsiPair.NoneType_bool (f1 q)
    ·exact IsiPair.NoneType_str (f1 q)
    ·exact IsiPair.NoneType_tuple (f1 q)
   have cI:pY X.K H x T b->wpAny (model X.prog X.w) X.A (call (.builtin "isinstance") [_,.type T]) (EP X pins σ Q) X.xe s:=fun hh=>yx pins s σ H _ _ Q I r0 ⟨x,T,b,rfl,hh,q⟩;unfold mI at hi;split at hi
   ·rename_i hT;subst hT;split at hi
    ·cases hi;exact cI (.inl ⟨_,rd.i,.inl ⟨rfl,rfl⟩⟩)
    ·cases hi;exact cI (.inr<|.inl ⟨_,rd.i,.inr<|.inl ⟨rfl,rfl⟩⟩)
    ·cases hi;exact cI (.inr<|.inr<|.inl ⟨_,rd.i,.inr<|.inl ⟨rfl,rfl⟩⟩)
    ·cases hi;obtain⟨a,xs,e,h1,h2⟩:=rd.i;exact cI (.inr<|.inr<|.inr<|.inl ⟨a,xs,e,A_.of h1,.inr<|.inl ⟨rfl,rfl⟩⟩)
    ·cases hi;cases (show x=.j_ from rd.i);cases r;exact nI (.inl rfl) rfl
    ·cases hi;obtain⟨_,a,xs,e,h1,h2,_⟩:=rd;exact cI (.inr<|.inr<|.inr<|.inr ⟨a,xs,e,En.of h1,.inr<|.inl ⟨rfl,rfl⟩⟩)
    ·cases hi;obtain⟨a,xs,o,e,h1,h2⟩:=rd.i;exact cI (.inr<|.inr<|.inr<|.inr ⟨a,xs,e,.inl<|.inr ⟨o,h1⟩,.inr<|.inl ⟨rfl,rfl⟩⟩)
    ·cases hi;obtain⟨a,o,rfl,h1⟩:=rd.i;cases r;exact dI (ke I h1) (.inl rfl) rfl
    ·cases hi;obtain⟨_,a,xs,rfl,h1,h2,_⟩:=rd;cases r;exact dI (fk I<|.inl ⟨_,h1⟩) (.inl rfl) rfl
    ·cases hi;obtain⟨_,a,xs,rfl,h1,h2,_⟩:=rd;cases r;exact dI (fk I<|.inr ⟨_,h1⟩) (.inl rfl) rfl
    ·cases hi
   ·split at hi
    ·rename_i hT;subst hT;split at hi
     ·cases hi;exact cI (.inl ⟨_,rd.i,.inr<|.inr<|.inr<|.inl ⟨rfl,rfl⟩⟩)
     ·cases hi;exact cI (.inr<|.inl ⟨_,rd.i,.inl ⟨rfl,rfl⟩⟩)
     ·cases hi;exact cI (.inr<|.inr<|.inl ⟨_,rd.i,.inr<|.inr<|.inr<|.inl ⟨rfl,rfl⟩⟩)
     ·cases hi;obtain⟨a,xs,e,h1,h2⟩:=rd.i;exact cI (.inr<|.inr<|.inr<|.inl ⟨a,xs,e,A_.of h1,.inr<|.inr<|.inr<|.inl ⟨rfl,rfl⟩⟩)
     ·cases hi;cases (show x=.j_ from rd.i);cases r;exact nI (.inr<|.inl rfl) rfl
     ·cases hi;obtain⟨_,a,xs,e,h1,h2,_⟩:=rd;exact cI (.inr<|.inr<|.inr<|.inr ⟨a,xs,e,En.of h1,.inr<|.inr<|.inr<|.inl ⟨rfl,rfl⟩⟩)
     ·cases hi;obtain⟨a,xs,o,e,h1,h2⟩:=rd.i;exact cI (.inr<|.inr<|.inr<|.inr ⟨a,xs,e,.inl<|.inr ⟨o,h1⟩,.inr<|.inr<|.inr<|.inl ⟨rfl,rfl⟩⟩)
     ·cases hi;obtain⟨a,o,rfl,h1⟩:=rd.i;cases r;exact dI (ke I h1) (.inr<|.inl rfl) rfl
     ·cases hi;obtain⟨_,a,xs,rfl,h1,h2,_⟩:=rd;cases r;exact dI (fk I<|.inl ⟨_,h1⟩) (.inr<|.inl rfl) rfl
     ·cases hi;obtain⟨_,a,xs,rfl,h1,h2,_⟩:=rd;cases r;exact dI (fk I<|.inr ⟨_,h1⟩) (.inr<|.inl rfl) rfl
     ·cases hi
    ·split at hi
     ·rename_i hT;subst hT;split at hi
      ·cases hi;exact cI (.inl ⟨_,rd.i,.inr<|.inr<|.inl ⟨rfl,rfl⟩⟩)
      ·cases hi;exact cI (.inr<|.inl ⟨_,rd.i,.inr<|.inr<|.inr<|.inl ⟨rfl,rfl⟩⟩)
      ·cases hi;exact cI (.inr<|.inr<|.inl ⟨_,rd.i,.inl ⟨rfl,rfl⟩⟩)
      ·cases hi;obtain⟨a,xs,e,h1,h2⟩:=rd.i;exact cI (.inr<|.inr<|.inr<|.inl ⟨a,xs,e,A_.of h1,.inr<|.inr<|.inl ⟨rfl,rfl⟩⟩)
      ·cases hi;cases (show x=.j_ from rd.i);cases r;exact nI (.inr<|.inr<|.inl rfl) rfl
      ·cases hi;obtain⟨_,a,xs,e,h1,h2,_⟩:=rd;exact cI (.inr<|.inr<|.inr<|.inr ⟨a,xs,e,En.of h1,.inr<|.inr<|.inl ⟨rfl,rfl⟩⟩)
      ·cases hi;obtain⟨a,xs,o,e,h1,h2⟩:=rd.i;exact cI (.inr<|.inr<|.inr<|.inr ⟨a,xs,e,.inl<|.inr ⟨o,h1⟩,.inr<|.inr<|.inl ⟨rfl,rfl⟩⟩)
      ·cases hi;obtain⟨a,o,rfl,h1⟩:=rd.i;cases r;exact dI (ke I h1) (.inr<|.inr<|.inl rfl) rfl
      ·cases hi;obtain⟨_,a,xs,rfl,h1,h2,_⟩:=rd;cases r;exact dI (fk I<|.inl ⟨_,h1⟩) (.inr<|.inr<|.inl rfl) rfl
      ·cases hi;obtain⟨_,a,xs,rfl,h1,h2,_⟩:=rd;cases r;exact dI (fk I<|.inr ⟨_,h1⟩) (.inr<|.inr<|.inl rfl) rfl
      ·cases hi
     ·split at hi
      ·rename_i hT;subst hT;split at hi
       ·cases hi;exact cI (.inl ⟨_,rd.i,.inr<|.inl ⟨rfl,rfl⟩⟩)
       ·cases hi;exact cI (.inr<|.inl ⟨_,rd.i,.inr<|.inr<|.inl ⟨rfl,rfl⟩⟩)
       ·cases hi;exact cI (.inr<|.inr<|.inl ⟨_,rd.i,.inr<|.inr<|.inl ⟨rfl,rfl⟩⟩)
       ·cases hi;obtain⟨a,xs,e,h1,h2⟩:=rd.i;exact cI (.inr<|.inr<|.inr<|.inl ⟨a,xs,e,A_.of h1,.inl ⟨rfl,rfl⟩⟩)
       ·cases hi;cases (show x=.j_ from rd.i);cases r;exact nI (.inr<|.inr<|.inr rfl) rfl
       ·cases hi;obtain⟨_,a,xs,e,h1,h2,_⟩:=rd;exact cI (.inr<|.inr<|.inr<|.inr ⟨a,xs,e,En.of h1,.inr<|.inr<|.inr<|.inr ⟨rfl,rfl⟩⟩)
       ·cases hi;obtain⟨a,xs,o,e,h1,h2⟩:=rd.i;exact cI (.inr<|.inr<|.inr<|.inr ⟨a,xs,e,.inl<|.inr ⟨o,h1⟩,.inr<|.inr<|.inr<|.inr ⟨rfl,rfl⟩⟩)
       ·cases hi;obtain⟨a,o,rfl,h1⟩:=rd.i;cases r;exact dI (ke I h1) (.inr<|.inr<|.inr rfl) rfl
       ·cases hi;obtain⟨_,a,xs,rfl,h1,h2,_⟩:=rd;cases r;exact dI (fk I<|.inl ⟨_,h1⟩) (.inr<|.inr<|.inr rfl) rfl
       ·cases hi;obtain⟨_,a,xs,rfl,h1,h2,_⟩:=rd;cases r;exact dI (fk I<|.inr ⟨_,h1⟩) (.inr<|.inr<|.inr rfl) rfl
       ·cases hi
      ·cases hi
@[simp] def cQ(T:String)(g:M Opd):M Vl:=fun D=>(g D).bind fun p=>(rsl p.2 p.1).bind fun d=>(mI T d).map fun b=>(.im<|.bl b,p.2)
variable{x:Str}{e:Expr}{g:M Opd}{pos:Pos}
theorem dy{T:String}{p p2:Pos}(hg:Gl X "isinstance")(hm:X.mg "isinstance" = none)(hv:bootBuiltins "isinstance" = some (.builtin "isinstance"))(QP:Gl X x)(QQ:X.mg x=none)(QR:bootBuiltins x=some (.type T))(h:VO X e g)(hn:x ≠ "__name__" := by decide)(hd:(x == ("__debug__" : Str))=false:=by decide)(he:starEach [e,.Name x p2] X.env=(false,eval e X.env)::starEach [.Name x p2] X.env:=by rfl)(IL:starEach [.Name x p2] X.env=(false,eval (.Name x p2) X.env)::starEach [] X.env:=by rfl)(Fz:(backTo pos<|starEach [.Name x p2] X.env).any (·.1)=false:=by rfl):VE X (.Call (.Name "isinstance" p) [e,.Name x p2] [] pos) (cQ T g):=by
 refine bg (pi zf hg hm hv (lQ h (lQ (vc (v:=.ty T) QP QQ QR rfl hn hd) oY IL) he) (by decide) (by decide) he Fz) fun σ H Q ⟨D,F,r,D',st,nd,FW,q⟩=>?_;obtain⟨⟨o,D1⟩,h1,h2⟩:=bind_eq_some_iff.mp FW;obtain⟨d,h3,h4⟩:=bind_eq_some_iff.mp h2;obtain⟨b,h5,h6⟩:=map_eq_some_iff.mp h4;cases h6;exact⟨D,F,o,D1,st,nd,h1,fun v H1 F1 R s_ o1 s1=>⟨v,T,d,b,rfl,o1.read s_ h3,h5,q _ H1 F1 [] s_ ⟨rfl,rfl⟩ (by rw[append_nil];exact s1.both)⟩⟩
@[simp] def iW:Vl->Option Bool
 | .im .j_=>some false
 | .im (.bl b)=>some b
 | .im (.int i)=>some (i != 0)
 | .im (.str x)=>if x.length<=100000 then some ((x.length:Int) != 0) else none
 | .im (.tup ds)=>some (!ds.isEmpty)
 | .lst ds=>some (!ds.isEmpty)
 | .fz ds=>some (!ds.isEmpty)
 | .dK kvs=>some (!kvs.isEmpty)
 | _=>none
theorem ak.emp{ds:List Im}{xs:List V}(h:ak H ds xs):(!xs.isEmpty)=!ds.isEmpty:=by
 cases ds with
 | nil=>cases (show xs=[] from h);rfl
 | cons d ds=>obtain⟨v,r,rfl,_⟩:=h;rfl
theorem zg{d:Vl}{v:V}{b:Bool}(h:FL H d v)(e:iW d=some b):lN X.K v H b:=by
 unfold iW at e;split at e
 ·cases e;cases (show v=_ from h.i);rfl
 ·cases e;cases (show v=_ from h.i);rfl
 ·cases e;cases (show v=_ from h.i);rfl
 ·split at e
  ·rename_i hl;cases e;cases (show v=_ from h.i);exact⟨e8 hl,rfl⟩
  ·cases e
 ·cases e;obtain⟨p,xs,rfl,h1,h2⟩:=h.i;exact .inr (.inl ⟨xs,A_.of h1,h2.emp.symm⟩)
 ·cases e;obtain⟨_,p,xs,rfl,h1,h2,_⟩:=h;exact .inl ⟨xs,En.of h1,h2.emp.symm⟩
 ·cases e;obtain⟨_,p,xs,o,rfl,h1,h2,_⟩:=h;exact .inl ⟨xs,.inl<|.inr ⟨o,h1⟩,h2.emp.symm⟩
 ·cases e;obtain⟨_,p,Ex,rfl,h1,h2,_⟩:=h;refine .inr (.inr ⟨Ex,h1,?_⟩);cases h2<;>rfl
 ·cases e
@[simp] def aU(g:M Opd):M Bool:=fun D=>(g D).bind fun p=>(rsl p.2 p.1).bind fun d=>(iW d).map fun b=>(b,p.2)
theorem b6(h:VO X e g)(he:∀ whole,isTrue e X.env whole=(do let v <- whole;standAt e.pos;holding [v] (truthy v)):=by intro _;rfl):VT X e (aU g):=by
 refine mf (wD h he) fun σ H Q ⟨D,F,b,D',st,nd,FW,q⟩=>?_;obtain⟨⟨o,D1⟩,h1,h2⟩:=bind_eq_some_iff.mp FW;obtain⟨d,h3,h4⟩:=bind_eq_some_iff.mp h2;obtain⟨b',h5,h6⟩:=map_eq_some_iff.mp h4;cases h6;exact⟨D,F,o,D1,st,nd,h1,fun v H1 F1 R s_ o1 s1=>⟨_,zg (o1.read s_ h3) h5,q H1 F1 s_ s1.both⟩⟩
theorem zh{f:Addr}(hg:Gl X x)(hm:X.mg x=some (.ref f))(hd:(x == ("__debug__" : Str))=false:=by decide):VE X (.Name x pos) (eC<|.fn f):=iM (vb (v:=.ref f) hg hm rfl hd) fun _=>rfl
end
variable{o:Expr}{g:M (List Opd)}{i:Nat}{ty:Vl->Bool}{K:PySem.W.Frag}{o':HO}{a:Addr}{T:String}{H:Hp}
theorem m_.chg{F F1:List Addr}(ha:a∈F)(c:Gj H a)(nd:F1.Nodup)(sb:∀ x∈F1,x∈F):m_ H F (upd H a o') F1:=by
 obtain⟨o,e,ht,hf⟩:=c;refine⟨fun x u ex hx=>?_,fun x hx=>.inl<|sb x hx,nd,B_.of (fun x xs ex=>?_)<|fun x p u ex=>?_,fun x u ex=>?_⟩
 ·rw[aK (fun z=>hx (by rw[z];exact ha))];exact ex
 ·rw[aK]
  ·exact ex
  ·rintro rfl;rw[e] at ex;exact ht xs (Option.some.inj ex)
 ·rw[aK]
  ·exact ex
  ·rintro rfl;rw[e] at ex;exact hf p u (Option.some.inj ex)
 ·by_cases hx:x=a
  ·subst hx;exact⟨o',bp⟩
  ·exact⟨u,(aK hx).trans ex⟩
theorem Ef.HR(c:Gj H a):G8 H (upd H a o'):=(m_.chg (F:=[a]) (F1:=[]) (.head _) c nodup_nil<|fun x hx=>nomatch hx).tup.tup
def NH(X:Cx)(id:String)(mt:Vl->List Vl->Option (Vl×Vl)):Prop:=
 OQ X id fun x vs H Q=>∃ c ds r c' R S,Own H c x R/\aP H ds vs S/\(R++S).Nodup/\mt c ds=some (r,c')/\∀ v H' R1 R2,Own H' r v R1->Own H' c' x R2->m_ H (R++S) H' (R1++R2)->Q v H'
@[simp] def iX:Vl->Bool
 | .lst _=>true
 | .EW _=>true
 | _=>false
@[simp] def d8(ty:Vl->Bool)(i:Nat)(mt:Vl->List Vl->Option (Vl×Vl))(g:M (List Opd)):M Vl:=fun D=>match D[i]? with
 | some (some c0)=>if ty c0=true then (g D).bind fun p=>(bi p.1 p.2).bind fun q=>match q.2[i]? with
   | some (some c)=>(mt c q.1).map fun r=>(r.1,q.2.set i<|some r.2)
   | _=>none
  else none
 | _=>none
theorem zi{mt:Vl->List Vl->Option (Vl×Vl)}{σ:St}{Q:VK}(KZ:∀ H c x R,Own H c x R->ty c=true->Kn K T x H)(h:tV (d8 ty i mt g) σ H Q):∃ x,σ[i]?=some (some x)/\Kn K T x H/\tA g σ H fun vs H2=>∃ c ds r c' R S,Own H2 c x R/\aP H2 ds vs S/\(R++S).Nodup/\mt c ds=some (r,c')/\∀ v H' R1 R2,Own H' r v R1->Own H' c' x R2->m_ H2 (R++S) H' (R1++R2)->Q v H':=by
 obtain⟨D,F,r,D',st,nd,hg,q⟩:=h;unfold d8 at hg;split at hg
 ·rename_i c0 NI;split at hg
  ·rename_i ht;obtain⟨x,A0,B0,hx,w0,_,_⟩:=st.out NI;refine⟨x,hx,KZ H c0 x _ w0 ht,?_⟩;obtain⟨⟨os,D1⟩,h1,h2⟩:=bind_eq_some_iff.mp hg;obtain⟨⟨ds,D2⟩,h3,h4⟩:=bind_eq_some_iff.mp h2;refine⟨D,F,os,D1,st,nd,h1,fun vs H1 F1 R1 s_ o1 s1=>?_⟩;obtain⟨F2,S,q_,ow,pm⟩:=fU s_ o1 h3;dsimp only at h4;split at h4
   ·rename_i c hc;obtain⟨⟨r',c'⟩,h5,h6⟩:=map_eq_some_iff.mp h4;cases h6;obtain⟨x',R,F3,Gx,w1,E6,Lm⟩:=q_.out hc;rw[hx] at Gx;cases Gx;have s2:m_ H F H1 ((R++S)++F3):=s1.EK (pm.symm.trans ((List.Perm.append_right S Lm.symm).trans (by
     rw[List.append_assoc];exact perm_append_comm)))
    have Gv:=nodup_append.mp s2.nd;refine⟨c,ds,_,c',R,S,w1,ow,Gv.1,h5,fun v H' A B wa wb s3=>?_⟩;have FB:aj H' (D2.set i<|some .jk) σ F3:=E6.mono s3.tup fun a ha o e=>s3.keep a o e fun h=>Gv.2.2 a h a ha rfl;obtain⟨F4,G,Fi,IN⟩:=FB.back wb hx;rw[set_set] at Fi;refine q v H' F4 A Fi wa ((s2.trans s3 E6.chg).less (C:=G) ?_);rw[List.append_assoc];refine (List.Perm.append_left F4 perm_append_comm).trans ?_;rw[<- List.append_assoc];refine (List.Perm.append_right A IN).trans ?_;rw[List.append_assoc];refine perm_append_comm.trans ?_;rw[List.append_assoc];refine perm_append_comm.trans ?_;rw[List.append_assoc,List.append_assoc];refine (List.Perm.append_left A ?_);exact perm_append_comm
   ·cases h4
  ·cases hg
 ·cases hg
section
variable{X:Cx}
theorem mJ:∀ (H:Hp) (c:Vl) (x:V) (R:List Addr),Own H c x R->iX c=true->Kn K "list" x H:=by
 intro H c x R h e;cases c with
 | lst ds=>obtain⟨a,xs,rfl,h1,_⟩:=h;exact .inl ⟨rfl,xs,En.of h1⟩
 | EW ds=>obtain⟨a,xs,G,rfl,h1,_⟩:=h;exact .inl ⟨rfl,xs,En.of h1⟩
 | _=>cases e
theorem mK{name:Str}{id:String}{mt:Vl->List Vl->Option (Vl×Vl)}{e:Expr}{es:List Expr}{apos EV:Pos}(KZ:∀ H c x R,Own H c x R->ty c=true->Kn X.K T x H)(pa:PlainAttrs T)(slot:Slot T name id)(ht:typeOf (.builtin id)=pure (.type "method_descriptor"))(hm:NH X id mt)(ho:PE X o (eG i))(ha:VA X (e::es) g)(HC:attributeBase o name X.env (eval o X.env)=eval o X.env:=by rfl)(JH:((backTo EV<|starEach (e::es) X.env).all (fun x=>!x.1) && (backToKw EV<|keywordEach [] X.env).all (fun x=>x.1.isSome)
   && decide ((e::es).length+([]:List Keyword).length+(if ([]:List Keyword).isEmpty then 0 else 1)<30))=true:=by rfl)(HD:(apos.endLine == EV.line)=true:=by rfl)(hs:starEach (e::es) X.env=(false,eval e X.env)::starEach es X.env:=by rfl)(GA:(backTo EV<|starEach es X.env).any (·.1)=false:=by rfl):
  VE X (.Call (.Attribute o name apos) (e::es) [] EV) (d8 ty i mt g):=
 bg (xA pa slot ht hm ho ha HC JH HD hs GA) fun σ H Q h=>by
  obtain⟨x,hx,h1,h2⟩:=zi KZ h;exact⟨x,hx,h1,h2⟩
@[simp] def mAppend:Vl->List Vl->Option (Vl×Vl):=fun c ds=>match c,ds with
 | .lst xs,[.im d]=>if xs.length<100000 then some (.im .j_,.lst<|xs++[d]) else none
 | _,_=>none
theorem mL{n:Nat}(h:n<100000):n<sizeLine:=lt_of_lt_of_le h (by decide)
theorem qH:NH X "list.append" mAppend:=by
 intro pins s σ H x vs v us Q I rx rv ⟨c,ds,r,c',R,S,wc,wd,nd,e,q⟩;unfold mAppend at e;split at e
 ·split at e
  ·rename_i hl;cases e;obtain⟨a,ys,rfl,h1,h2,rfl⟩:=wc;obtain⟨y,t,S1,S2,rfl,⟨hy,rfl⟩,⟨rfl,rfl⟩,rfl⟩:=wd;have c:Gj H a:=⟨_,h1,(fun _ e=>by cases e),(fun _ _ e=>by cases e)⟩;refine xC pins s σ H _ _ v us Q I rx rv ⟨a,ys,y,rfl,rfl,h1,mL (by rw[<- h2.length];exact hl),q .j_ _ [] [a] ⟨rfl,rfl⟩ ?_ (m_.chg (.head _) c (pairwise_singleton _ _) fun x hx=>by simpa using hx)⟩;exact⟨a,_,rfl,bp,(h2.snoc hy).mono<|Ef.HR c,rfl⟩
  ·cases e
 ·cases e
@[simp] def Dw:Vl->List Vl->Option (Vl×Vl):=fun c ds=>match c,ds with
 | .lst xs,[.im (.int i)]=>if 0<=i/\i<xs.length then (xs[i.toNat]?).map fun d=>(.im d,.lst<|xs.eraseIdx i.toNat) else none
 | _,_=>none
@[simp] def mExtend:Vl->List Vl->Option (Vl×Vl):=fun c ds=>match c,ds with
 | .lst xs,[.lst ys]=>if xs.length+ys.length<=100000 then some (.im .j_,.lst<|xs++ys) else none
 | _,_=>none
theorem zj:NH X "list.extend" mExtend:=by
 intro pins s σ H x vs v us Q I rx rv ⟨c,ds,r,c',R,S,wc,wd,nd,e,q⟩;unfold mExtend at e;split at e
 ·split at e
  ·rename_i hl;cases e;obtain⟨a,ys,rfl,h1,h2,rfl⟩:=wc;obtain⟨y,t,S1,S2,rfl,⟨b,zs,rfl,h3,h4,rfl⟩,⟨rfl,rfl⟩,rfl⟩:=wd;have c:Gj H a:=⟨_,h1,(fun _ e=>by cases e),(fun _ _ e=>by cases e)⟩;refine xD pins s σ H _ _ v us Q I rx rv ⟨a,b,ys,zs,rfl,rfl,h1,h3,e8 (by rw[<- h2.length,<- h4.length];exact hl),q .j_ _ [] [a] ⟨rfl,rfl⟩ ?_ (m_.chg (.head _) c (pairwise_singleton _ _) fun x hx=>by
    rw[nil_append] at hx;exact mem_append_left _ hx)⟩
   exact⟨a,_,rfl,bp,(h2.app h4).mono<|Ef.HR c,rfl⟩
  ·cases e
 ·cases e
def kf(X:Cx)(pt:Vl->Vl->Vl->Option Vl):Prop:=
 lH X fun o i v H Q=>∃ c k d c' R S,Own H c o R/\Own H k i []/\Own H d v S/\(R++S).Nodup/\pt c k d=some c'/\∀ H' R',Own H' c' o R'->m_ H (R++S) H' R'->Q H'
@[simp] def putV(c k d:Vl):Option Vl:=match c,k,d with
 | .lst xs,.im<|.int i,.im d=>(Ih xs.length i).map fun j=>.lst (xs.set j d)
 | _,_,_=>none
theorem ak.set{H:Hp}{d:Im}{v:V}(w:Ef H d v):∀ {ds:List Im}{xs:List V} (n:Nat),ak H ds xs->ak H (ds.set n d) (xs.set n v)
 | [],xs,n,h=>by cases (show xs=[] from h);exact rfl
 | e::ds,xs,0,h=>by obtain⟨u,r,rfl,h1,h2⟩:=h;exact⟨v,r,rfl,w,h2⟩
 | e::ds,xs,n+1,h=>by obtain⟨u,r,rfl,h1,h2⟩:=h;exact⟨u,_,rfl,h1,ak.set w n h2⟩
theorem qI:kf X putV:=by
 intro pins s σ H o i v ov iv u Q I ro ri rv ⟨c,k,d,c',R,S,wc,wk,wd,nd,e,q⟩;unfold putV at e;split at e
 ·obtain⟨j,e1,e2⟩:=map_eq_some_iff.mp e;cases e2;obtain⟨a,ys,rfl,h1,h2,rfl⟩:=wc;obtain⟨hd,rfl⟩:=wd;have c:Gj H a:=⟨_,h1,(fun _ e=>by cases e),(fun _ _ e=>by cases e)⟩;refine xq pins s σ H _ _ _ ov iv u Q I ro ri rv ⟨a,ys,_,j,rfl,wk.1,h1,by rw[<- h2.length];exact e1,q _ [a] ?_ (m_.chg (.head _) c (pairwise_singleton _ _) fun x hx=>by simpa using hx)⟩;exact⟨a,_,rfl,bp,(ak.set hd j h2).mono<|Ef.HR c,rfl⟩
 ·cases e
@[simp] def gIx(i:Nat)(gk:M Vl)(pt:Vl->Vl->Vl->Option Vl):MG:=fun d D=>match D[i]? with
 | some (some _)=>(gk D).bind fun p=>if p.1.cp=true then match p.2[i]? with
   | some (some c)=>(pt c p.1 d).map fun c'=>p.2.set i (some c')
   | _=>none
  else none
 | _=>none
theorem iY{fix:List Nat}{k:Expr}{gk:M Vl}{pt:Vl->Vl->Vl->Option Vl}{pos:Pos}(ho:PE X o (eG i))(hk:VE X k gk)(hp:kf X pt)(ha:∀ v,assign (.Subscript o k pos) X.env v=(do
   let ov <- holding [v] (eval o X.env)
   let iv <- holding [v,ov] (eval k X.env)
   standAt pos
   holding [v,ov,iv] (setItem ov iv v)
   release [v,ov,iv] []):=by intro _;rfl):VG X fix (.Subscript o k pos) (gIx i gk pt):=by
 refine mr (vO ho hk hp ha) fun v σ H Q ⟨D,F,d,R,D',st,ow,nd,hg,q⟩=>?_;unfold gIx at hg;split at hg
 ·rename_i c0 NI;obtain⟨x,A0,B0,hx,w0,_,_⟩:=st.out NI;obtain⟨⟨kd,D1⟩,h1,h2⟩:=bind_eq_some_iff.mp hg;split at h2
  ·rename_i QS;refine⟨x,hx,D,F,kd,D1,st,(nodup_append.mp nd).1,h1,fun kv H1 F1 RK s_ wk s1=>?_⟩;obtain rfl:=wk.cp QS;rw[append_nil] at s1;have QT:=nodup_append.mp nd;dsimp only at h2;split at h2
   ·rename_i c hc;obtain⟨c',h5,h6⟩:=map_eq_some_iff.mp h2;cases h6;obtain⟨x',RC,F3,Gx,w1,E6,Lm⟩:=s_.out hc;rw[hx] at Gx;cases Gx;have QU:Own H1 d v R:=ow.mono s1.tup fun a ha o e=>s1.keep a o e fun h=>QT.2.2 a h a ha rfl;have s2:m_ H (F++R) H1 ((RC++R)++F3):=by
     have e0:m_ H (F++R) H (F++R):=m_.perm nd (List.Perm.refl _);have:=m_.trans (F1:=F) (R:=R) e0 s1 ow.chg;refine this.EK ((List.Perm.append_right R Lm.symm).trans ?_);rw[List.append_assoc];exact perm_append_comm
    have Gv:=nodup_append.mp s2.nd;refine⟨c,kd,d,c',RC,R,w1,wk,QU,Gv.1,h5,fun H' R' w' s3=>?_⟩;have FB:aj H' (D1.set i<|some .jk) σ F3:=E6.mono s3.tup fun a ha o e=>s3.keep a o e fun h=>Gv.2.2 a h a ha rfl;obtain⟨F4,G,Fi,IN⟩:=FB.back w' hx;rw[set_set] at Fi;exact q σ H' F4 aM.refl Fi ((s2.trans s3 E6.chg).less<|IN.trans perm_append_comm)
   ·cases h2
  ·cases h2
 ·cases hg
end
section
variable{prog:Program}{w:World}{A:Around}{E:Value->Shared->Prop}{s:Shared}
end
section
variable{X:Cx}
end
end L2
namespace L2
open PySem PySem.Spec PyProof.Rows PySem.W
variable{ns:List Int}{p:Array Nat}{α:Type}
theorem zk(l:List α)(d:α):(range l.length).map (fun i=>l.getD i d)=l:=by
 apply List.ext_getElem
 ·simp
 ·intro i h1 h2;simp[List.getD,h2]
theorem kg{l:List α}{d:α}(h:Rg l.length p):(p.toList.map fun i=>l.getD i d).Perm l:=by
 have:=List.Perm.map (fun i=>l.getD i d) h;rw[zk] at this;exact this
theorem kh{α β:Type}{F:α->β->Prop}:∀ {l₁:List α}{l₂:List β},l₁.length=l₂.length->(∀ (i:Nat) a b,l₁[i]?=some a->l₂[i]?=some b->F a b)->Paired F l₁ l₂
 | [],[],_,_=>.nil
 | a::l,b::m,h,f=>.cons (f 0 a b rfl rfl) (kh (by simpa using h) fun i x y h1 h2=>f (i+1) x y (by simpa using h1) (by simpa using h2))
 | [],_::_,h,_=>by simp at h
 | _::_,[],h,_=>by simp at h
section
variable{prog:Program}{w:World}{A:Around}{E:Value->Shared->Prop}{s:Shared}{vs:List Value}
theorem mM{B:Addr}{n0:Nat}{P:PySem.Fin->Shared->Prop}(key:Nat->Int)(κ:SortKind)(ho:s.heap.get? B=some (seqObj "list" vs.toArray n0))(o_:2<=vs.length->∀ h6:Heap,(∀ b o,b≠B->s.heap.get? b=some o->h6.get? b=some o)->∀ Q:SortKind->Shared->Prop,Q κ { s with heap:=h6 }->wpAny (model prog w) A (keyKind' vs.toArray) Q E { s with heap:=h6 })(JZ:∀ h6:Heap,(∀ b o,b≠B->s.heap.get? b=some o->h6.get? b=some o)->cl vs.length key (kas_cmp prog w A κ<|vs.toArray.zip vs.toArray) { s with heap:=h6 })(inj:∀ i j,i<vs.length->j<vs.length->key i=key j->i=j)(up:vs.length<1001\/∀ j,1<=j->j<vs.length->key (j - 1)<=key j)(hz:vs.length<=1000)(h:∀ (p:Array Nat) (h':Heap),Rg vs.length p->Up key p vs.length->(∀ b o,b≠B->s.heap.get? b=some o->h'.get? b=some o)->(∃ e,h'.get? B=some (seqObj "list" (p.toList.map fun i=>vs.getD i Value.none).toArray e))->
   P (.done<|.ret .none) { s with heap:=h' }):wpAny (model prog w) A (Builtin.«list.sort» ⟨[.ref B],[]⟩) P E s:=by
 have Pa:vs.length<=sizeLine:=Nat.le_trans hz (by decide);rw[list_sort_plain];have hB:B<s.heap.objs.size:=Heap.lt_size ho;refine wpAny_bind (listItems_at ho rfl (wpAny_bind (listUpdate_at ho rfl ?_ (hsz:=by rw[size_toArray];exact Pa) (hsz2:=by show 0<=_;exact zero_le _))));have Jj:=get?_update_seq ho (fun _=>#[]);generalize NJ:(if (#[]:Array Value).size == vs.toArray.size then n0 else n0+1)=e1 at Jj;refine wpAny_bind (seqEpoch_at Jj rfl (wpAny_bind (wpAny_newTuple (wpAny_bind<|wpAny_newList<|wpAny_holding ?_) (by simpa using Pa))));have k6:∀ b o,b≠B->s.heap.get? b=some o->(((s.heap.update B<|Obj.mapSeq fun _=>#[]).push<|seqObj "tuple" vs.toArray.toList.toArray 0).push<|seqObj "list" ([]:List Value).toArray 0).get? b=some o:=fun b o hb e=>
  Heap.get?_push_of_some _ (Heap.get?_push_of_some _<|(Heap.get?_update_other _ _<|Ne.symm hb).trans e);have o6:(((s.heap.update B<|Obj.mapSeq fun _=>#[]).push<|seqObj "tuple" vs.toArray.toList.toArray 0).push<|seqObj "list" ([]:List Value).toArray 0).get? B=some (seqObj "list" #[] e1):=
  Heap.get?_push_of_some _ (Heap.get?_push_of_some _ Jj);show wpAny (model prog w) A _ P E { s with heap:=((s.heap.update B<|Obj.mapSeq fun _=>#[]).push<|seqObj "tuple" vs.toArray.toList.toArray 0).push (seqObj "list" ([]:List Value).toArray 0) };generalize ((s.heap.update B<|Obj.mapSeq fun _=>#[]).push<|seqObj "tuple" vs.toArray.toList.toArray 0).push (seqObj "list" ([]:List Value).toArray 0)=h6 at k6 o6 ⊢;have fin:∀ (st:SortSt) (p:Array Nat),Rg vs.length p->Up key p vs.length->arrOf st=p.map (kas_item<|vs.toArray.zip vs.toArray)->failedOf st=none->
   wpAny (model prog w) A (do
    let touched:=(<- seqEpoch B) != e1
    Builtin.List.listUpdate (.ref B) fun _=>(arrOf st).map (·.2)
    if let some e:=failedOf st then rule "list.sort.comparison-raised";throw e
    if touched then rule "list.sort.modified";raiseError "ValueError" "list modified during sort"
    ret .none) P E { s with heap:=h6 }:=fun st p r1 r2 r3 r4=>by
  have out:=kat_snds (ks:=vs) (vs:=vs) rfl r3;rw[out,r4];refine wpAny_bind (seqEpoch_at (s:={ s with heap:=h6 }) o6 rfl (wpAny_bind (listUpdate_at (s:={ s with heap:=h6 }) o6 rfl ?_ (hsz:=zero_le _) (hsz2:=by
   show (List.toArray<|p.toList.map fun i=>vs.getD i Value.none).size<=_;rw[size_toArray,length_map,length_toList,r1.size];lia))))
  simp only[bne_self_eq_false,false_eq_true,if_false];refine wpAny_pure (h p _ r1 r2 (fun b o hb e=>(Heap.get?_update_other _ _<|Ne.symm hb).trans<|k6 b o hb e) ⟨_,get?_update_seq o6 fun _=>_⟩)
 dsimp only;by_cases h2:vs.toArray.size<2
 ·rw[if_pos h2,if_pos h2];refine wpAny_bind (wpAny_pure ?_);rw[StateT.run_pure];apply wpAny_bind;apply wpAny_pure;have Jh:vs.length<2:=by simpa using h2
  refine fin (SortSt.mk' general' (vs.toArray.zip vs.toArray) #[] 7 none) (range vs.length).toArray (List.Perm.refl _) (fun i j Fq hj=>?_) ?_ rfl
  ·have:i=j:=by lia
   subst this;exact Int.le_refl _
  ·have:=kas_range (vs.toArray.zip vs.toArray);rw[show (vs.toArray.zip vs.toArray).size=vs.length by simp] at this;exact this.symm
 ·rw[if_neg h2,if_neg h2];have Jh:2<=vs.length:=by simpa using h2
  refine wpAny_bind (o_ Jh h6 k6 _ ?_)
  ·have cm:=JZ h6 k6;have kr:=kas_range (vs.toArray.zip vs.toArray);rw[show (vs.toArray.zip vs.toArray).size=vs.length by simp] at kr;have run:=yo (E:=E) (Q:=fun _ st s'=>s'={ s with heap:=h6 }/\∃ p,Rg vs.length p/\Up key p vs.length/\arrOf st=p.map (kas_item<|vs.toArray.zip vs.toArray)/\failedOf st=none) cm
    inj Jh up fun p' f_ a b c d=>⟨rfl,p',a,b,c,d⟩;unfold kas_st at run;rw[kr] at run;refine wpAny_bind (wpAny_mono run (fun r s' hr=>?_) fun _ _ e=>e);obtain⟨u,st⟩:=r;obtain⟨rfl,p,r1,r2,r3,r4⟩:=hr;exact fin st p r1 r2 r3 r4
end
section
variable{X:Cx}{pins:List (Addr×Obj)}{σ:L2.St}{H:Hp}{s:Shared}
theorem qJ(hc:X.calm=true){a:Addr}{ys:List V}{e_:List Value}{n:Nat}{T:String}{o:Obj}{Q:VK}(key:Nat->Int)(κ:SortKind)(I:Inv X pins σ H s)(rv:au ys e_)(hT:T = "list" \/ T = "tuple")(e:s.heap.get? a=some o)(eC:o.cls=.type T)(eD:o.data=.seq e_.toArray n)(hz:ys.length<=1000)(o_:2<=e_.length->∀ (h6:Heap) (tk:Nat),(∀ b o,s.heap.get? b=some o->h6.get? b=some o)->∀ (A:Around) (E:Value->Shared->Prop) (Q:SortKind->Shared->Prop),Q κ { s with heap:=h6,toks:=tk }->wpAny (model X.prog X.w) A (keyKind' e_.toArray) Q E { s with heap:=h6,toks:=tk })(JZ:∀ (h6:Heap) (tk:Nat),(∀ b o,s.heap.get? b=some o->h6.get? b=some o)->cl e_.length key (kas_cmp X.prog X.w X.A.in1.in1 κ<|e_.toArray.zip e_.toArray) { s with heap:=h6,toks:=tk })(inj:∀ i j,i<e_.length->j<e_.length->key i=key j->i=j)(up:e_.length<1001\/∀ j,1<=j->j<e_.length->key (j - 1)<=key j)(q:∀ (p:Array Nat) l,Rg e_.length p->Up key p e_.length->H l=none->Q (.ref l) (upd H l<|.lst<|p.toList.map fun i=>ys.getD i .j_)):
  wpAny (model X.prog X.w) X.A (call (.builtin "sorted") [.ref a]) (EP X pins σ Q) X.xe s:=by
 have hl:ys.length=e_.length:=rv.length;have Lr:e_.length<=sizeLine:=Nat.le_trans (by lia) (show 1000<=sizeLine by decide);refine Calls.call_function_entry kind_sorted plain_sorted entry_sorted (args_sorted1 _) ?z
 case z=>
  unfold Builtin.«sorted»;refine wpAny_bind (m:=checkCount "sorted" 1 1 _) (wpAny_pure (wpAny_bind (wpAny_collect_seq a hT e eC eD (fun h' IP=>?_) (by rw[size_toArray];exact Lr))));show wpAny _ _ (newList e_ >>= _) _ _ _;refine wpAny_bind (wpAny_newList ?_ Lr);have oB:(h'.push<|seqObj "list" e_.toArray 0).get? h'.objs.size=some (seqObj "list" e_.toArray 0):=Heap.get?_push_size _ rfl;have kB:∀ b o,s.heap.get? b=some o->(h'.push<|seqObj "list" e_.toArray 0).get? b=some o:=fun b o e=>Heap.get?_push_of_some _ (IP b o e);have I1:Inv X pins σ H { s with heap:=h' }:=I.kept (t':=s.toks) IP;have nB:∀ b o,s.heap.get? b=some o->b≠h'.objs.size:=fun b o e=>ne_of_lt (Heap.lt_size<|IP b o e);refine wpAny_bind (wpAny_holding<|wpAny_call_entry slot_list_sort ⟨_,oB,rfl⟩ entry_list_sort ?y<|args_list_sort _)
  case y=>
   refine mM (s:={ s with heap:=h'.push (seqObj "list" e_.toArray 0) }) key κ oB (fun h2 h6 k6 Q hq=>o_ h2 h6 s.toks (fun b o eb=>k6 b o (nB b o eb)<|kB b o eb) _ _ Q hq) (fun h6 k6=>JZ h6 s.toks fun b o eb=>k6 b o (nB b o eb)<|kB b o eb) inj up (by lia) fun p h2 r1 r2 k2 ⟨e9,Ls⟩=>⟨_,rfl,wpAny_pure ⟨_,rfl,?_⟩⟩;have fB:H h'.objs.size=none:=I1.l_.fresh (Nat.le_refl _);have NK:∀ b o,h'.get? b=some o->b≠h'.objs.size:=fun b o e=>ne_of_lt (Heap.lt_size e);refine⟨.ref h'.objs.size,upd H h'.objs.size<|.lst<|p.toList.map fun i=>ys.getD i .j_,?_,rfl,q p _ r1 r2 fB⟩;refine I1.laid (t':=s.toks) (fun b u e=>k2 b u (NK b u e)<|Heap.get?_push_of_some _ e) (Nat.le_refl _) ⟨?_,_,e9,?_,Ls⟩
   ·rw[length_map,length_toList,r1.size];lia
   ·refine kh (by simp) fun i v u h1 h2=>?_;rw[List.getElem?_map] at h1 h2;cases HS:p.toList[i]? with
    | none=>rw[HS] at h1;cases h1
    | some k=>
     rw[HS] at h1 h2;cases h1;cases h2;have hk:k<e_.length:=mem_range.mp (r1.mem_iff.mp<|mem_of_getElem? HS);obtain⟨u,h3,h4⟩:=rv.get (i:=k) (x:=ys[k]'(by lia)) (by simp[show k<ys.length by lia]);rw[List.getElem?_eq_getElem hk] at h3;have h3:=Option.some.inj h3;simp only[List.getD,List.getElem?_eq_getElem hk,List.getElem?_eq_getElem (show k<ys.length by lia),getD_some];rw[h3];exact h4
end
def gQ(ns:List Int)(i:Nat):Int:=ns.getD i 0
theorem qK(nd:ns.Nodup):∀ i j,i<ns.length->j<ns.length->gQ ns i=gQ ns j->i=j:=fun i j hi hj e=>by
 unfold gQ at e;rw[getD_eq_getElem?_getD,getD_eq_getElem?_getD,List.getElem?_eq_getElem hi,List.getElem?_eq_getElem hj] at e;have e':ns[i]=ns[j]:=e;rcases Nat.lt_trichotomy i j with h | h | h
 ·exact absurd e' ((pairwise_iff_getElem.mp nd) i j hi hj h)
 ·exact h
 ·exact absurd e'.symm ((pairwise_iff_getElem.mp nd) j i hj hi h)
theorem QV(hp:Rg ns.length p)(up:Up (gQ ns) p ns.length)(nd:ns.Nodup):(p.toList.map fun i=>ns.getD i 0).Pairwise (· < ·):=by
 rw[pairwise_iff_getElem];intro i j hi hj Fq;have hs:=hp.size;have Fg:i<ns.length:=by simpa [hs] using hi
 have Jg:j<ns.length:=by simpa [hs] using hj
 have ne:=hp.ne (qK nd) Fq Jg;have le:=up i j (by lia) Jg;have g:∀ k (hk:k<(p.toList.map fun i=>ns.getD i 0).length),(p.toList.map fun i=>ns.getD i 0)[k]=y_ (gQ ns) p k:=fun k hk=>by
  have E1:k<p.size:=by simpa using hk
  rw[List.getElem_map,Array.getElem_toList];show _=ns.getD (p.getD k 0) 0;simp[Array.getD,E1]
 rw[g i hi,g j hj];lia
section
variable{X:Cx}
theorem kj{H:Hp}:∀ {ns:List Int}{e_:List Value},au (ns.map V.int) e_->∀ (i:Nat),i<ns.length->∃ t,e_[i]?=some (.int (ns.getD i 0) t)
 | n::r,_,.cons a b,0,h=>by obtain⟨t,rfl⟩:=a;exact⟨t,rfl⟩
 | n::r,_,.cons a b,i+1,h=>by
  obtain⟨t,e⟩:=kj (H:=H) b i (by simpa using h);exact⟨t,by simpa using e⟩
theorem zl(hc:X.calm=true):bb X (.builtin "sorted") (fun xs H Q=>∃ (a:Addr) (ns:List Int),xs=[.ref a]/\H a=some (.lst<|ns.map V.int)/\ns.Nodup/\ns.length<=1000/\
  ∀ l (MF:List Int),H l=none->MF.Perm ns->MF.Pairwise (· < ·)->Q (.ref l) (upd H l<|.lst<|MF.map V.int)):=by
 intro pins s σ H xs us Q I r h;obtain⟨a,ns,rfl,ha,nd,hz,q⟩:=h;obtain⟨u,rfl,ru⟩:=b9 r;cases ru;obtain⟨z,e_,n,rv,e⟩:=I.l_ a _ ha;have li:e_.length=ns.length:=by rw[<- rv.length,length_map]
 refine qJ hc (gQ ns) oneType' I rv (.inl rfl) e rfl rfl (by rw[length_map];exact hz) (fun h2 h6 tk k A E Q hq=>?_) (fun h6 tk k=>?_) (by rw[li];exact qK nd) (.inl (by lia)) fun p l r1 r2 fl=>?_
 ·refine kas_kind (T:=Value.type "int") h2 (fun v hv=>?_) (by decide) (by decide) hq;obtain⟨i,hi⟩:=getElem?_of_mem hv;obtain⟨t,ht⟩:=kj (H:=H) rv i (by rw[<- li];exact (List.getElem?_eq_some_iff.mp hi).1);rw[hi] at ht;cases ht;exact Looks.of_pure rfl
 ·intro i j C hi hj q;obtain⟨t,h1⟩:=kj (H:=H) rv i (by lia);obtain⟨u,h2⟩:=kj (H:=H) rv j (by lia);unfold kas_cmp;rw[kat_item rfl,kat_item rfl,getD_eq_getElem?_getD,getD_eq_getElem?_getD,h1,h2];show wpAny _ _ (keyLt' oneType' (.int _ t)<|.int _ u) _ _ _;rw[keyLt'_oneType];exact oneLt_int q
 ·rw[li] at r1 r2;have e2:(p.toList.map fun i=>(ns.map V.int).getD i .j_)=(p.toList.map fun i=>ns.getD i 0).map V.int:=by
   rw[List.map_map];refine map_congr_left fun k hk=>?_;have E1:k<ns.length:=mem_range.mp (r1.mem_iff.mp hk);show (ns.map V.int).getD k .j_=V.int (ns.getD k 0);simp[List.getD,E1]
  rw[e2];exact q l _ fl (kg r1) (QV r1 r2 nd)
end
end L2
namespace L2
open PySem PySem.Spec PyProof.Rows
section
variable{X:Cx}
def cS:List Im->List Im->List Im
 | x::xs,y::ys=>.tup [x,y]::cS xs ys
 | _,_=>[]
theorem qL:∀ (xs ys:List Im),(cS xs ys).length=min xs.length ys.length
 | [],ys=>by simp[cS]
 | x::xs,[]=>by simp[cS]
 | x::xs,y::ys=>by simp[cS,qL xs ys]
theorem qM:∀ (xs ys:List Im) (i:Nat) (d:Im),(cS xs ys)[i]?=some d->∃ x y,xs[i]?=some x/\ys[i]?=some y/\d=.tup [x,y]
 | [],ys,i,d,h=>by simp[cS] at h
 | x::xs,[],i,d,h=>by simp[cS] at h
 | x::xs,y::ys,0,d,h=>by simp[cS] at h;exact⟨x,y,rfl,rfl,h.symm⟩
 | x::xs,y::ys,i+1,d,h=>by
  obtain⟨a,b,h1,h2,h3⟩:=qM xs ys i d (by simpa [cS] using h);exact⟨a,b,by simpa using h1,by simpa using h2,h3⟩
@[simp] def iZ(g:M (List Opd)):MI:=fun D=>(g D).bind fun p=>(ce p.2 p.1).bind fun ds=>match ds with
 | [.im (.tup x),.im<|.tup y]=>some ((cS x y,none),p.2)
 | _=>none
theorem zm{K:PySem.W.Frag}{H:Hp}{a b:Addr}{xs ys:List V}{ds es:List Im}(h:H a=some (.tup xs))(hd:ak H ds xs)(h':H b=some (.tup ys))(Js:ak H es ys):Gk (Mv K a b) H [] (cS ds es) where
 go:=fun H' t k i d e=>by
  obtain⟨x,y,e1,e2,rfl⟩:=qM ds es i d e;obtain⟨v,g1,g2⟩:=hd.get e1;obtain⟨u,k1,k2⟩:=Js.get e2;have q1:=A_.of (K:=K) (t.tup a _ h);have q2:=A_.of (K:=K) (t.tup b _ h');refine⟨⟨xs,ys,v,u,q1,q2,g1,k1⟩,fun z Ji ⟨T,x',y',f,ez,eH,y1,y2⟩=>?_⟩;subst ez eH;have z1:=y1 xs q1;have z2:=y2 ys q2;rw[g1] at z1;rw[k1] at z2;cases z1;cases z2;have s:aC H' (upd H' T<|.tup [v,u]):=(aC.refl H').upd f;exact⟨s,T,[v,u],rfl,bp,⟨v,[u],rfl,(g2.mono t.tup).mono s.tupS.tup,u,[],rfl,(k2.mono t.tup).mono s.tupS.tup,rfl⟩⟩
 stop:=fun H' t k=>⟨xs,ys,A_.of<|t.tup a _ h,A_.of<|t.tup b _ h',by rw[qL,<- hd.length,<- Js.length];lia⟩
theorem zn{a b:Expr}{g:M (List Opd)}{p pos:Pos}{es:List Expr}{ek:Nat}{ps:Pos}(hg:Gl X "zip")(hm:X.mg "zip" = none)(ha:VA X [a,b] g)(hs:starEach [a,b] X.env=[(false,eval a X.env),(false,eval b X.env)]:=by rfl)(IL:starEach [b] X.env=[(false,eval b X.env)]:=by rfl):
  VI X (.Tuple es ek ps) (.Call (.Name "zip" p) [a,b] [] pos) (iZ g):=by
 refine mw (yw hg hm ha hs IL) fun σ H Rk ⟨D,F,r,D',st,nd,FW,q⟩=>?_;obtain⟨⟨os,D1⟩,h1,h2⟩:=bind_eq_some_iff.mp FW;obtain⟨ds,h3,h4⟩:=bind_eq_some_iff.mp h2;refine⟨D,F,os,D1,st,nd,h1,fun vs H1 F1 R1 s_ o1 s1=>?_⟩;have rd:=o1.read s_ h3;split at h4
 ·cases h4;obtain⟨v,u,rfl,e,e'⟩:=yS rd;obtain⟨a,xs,rfl,k1,k2⟩:=e;obtain⟨b,ys,rfl,k3,k4⟩:=e';exact⟨a,b,rfl,⟨xs,A_.of k1⟩,⟨ys,A_.of k3⟩,q _ H1 F1 [] s_ (zm k1 k2 k3 k4) trivial (fun a ha=>nomatch ha) (by rw[append_nil];exact s1.both)⟩
 ·cases h4
@[simp] def Dx:OpN:=fun ds=>match ds with
 | [.im (.int i),.im<|.int j,.im<|.int k]=>some (.im<|.int<|min (min i j) k)
 | _=>none
def fm(lt:Im->Im->Bool)(x:Im):List Im->List Im
 | []=>[x]
 | y::r=>if lt x y=true then x::y::r else y::fm lt x r
def bH(lt:Im->Im->Bool):List Im->List Im
 | []=>[]
 | x::r=>fm lt x (bH lt r)
def ltI:Im->Im->Bool
 | .int i,.int j=>decide (i<j)
 | _,_=>false
def Fv:List Im->Option (List Int)
 | []=>some []
 | .int i::r=>(Fv r).map fun s=>i::s
 | _::_=>none
@[simp] def vSorted:OpN:=fun ds=>match ds with
 | [.lst x]=>(Fv x).bind fun ns=>if ns.Nodup/\ns.length<=1000 then some (.lst<|bH ltI x) else none
 | _=>none
def fo(x:Int):List Int->List Int
 | []=>[x]
 | y::r=>if x<y then x::y::r else y::fo x r
def gR:List Int->List Int
 | []=>[]
 | x::r=>fo x (gR r)
theorem qN(x:Int):∀ l:List Int,fm ltI (.int x) (l.map .int)=(fo x l).map .int
 | []=>rfl
 | y::r=>by
  rw[map_cons,fm,fo,ltI];by_cases h:x<y
  ·rw[if_pos (by simpa using h),if_pos h];rfl
  ·rw[if_neg (by simpa using h),if_neg h,qN x r];rfl
theorem qO:∀ l:List Int,bH ltI (l.map .int)=(gR l).map .int
 | []=>rfl
 | x::r=>by rw[map_cons,bH,qO r,qN];rfl
theorem mN(x:Int):∀ l:List Int,(fo x l).Perm (x::l)
 | []=>List.Perm.refl _
 | y::r=>by
  rw[fo];split
  ·exact List.Perm.refl _
  ·exact ((mN x r).cons y).trans (List.Perm.swap x y r)
theorem mO:∀ l:List Int,(gR l).Perm l
 | []=>List.Perm.refl _
 | x::r=>(mN x _).trans ((mO r).cons x)
theorem qP(x:Int):∀ l:List Int,l.Pairwise (·<=·)->(fo x l).Pairwise (·<=·)
 | [],_=>pairwise_singleton _ _
 | y::r,h=>by
  obtain⟨h1,h2⟩:=pairwise_cons.mp h;rw[fo];split
  ·rename_i QW;refine pairwise_cons.mpr ⟨fun z hz=>?_,h⟩;rcases mem_cons.mp hz with rfl | hz
   ·lia
   ·have:=h1 z hz;lia
  ·rename_i QW;refine pairwise_cons.mpr ⟨fun z hz=>?_,qP x r h2⟩;rcases mem_cons.mp ((mN x r).mem_iff.mp hz) with rfl | hz
   ·lia
   ·exact h1 z hz
theorem qQ:∀ l:List Int,(gR l).Pairwise (·<=·)
 | []=>List.Pairwise.nil
 | x::r=>qP x _ (qQ r)
theorem zo{l:List Int}(h:l.Nodup):(gR l).Pairwise (· < ·):=by
 have h1:=qQ l;have h2:(gR l).Nodup:=(mO l).nodup_iff.mpr h;exact List.Pairwise.imp₂ (fun a b x y=>by lia) h1 h2
theorem qR:∀ {l m:List Int},l.Perm m->l.Pairwise (· < ·)->m.Pairwise (· < ·)->l=m
 | [],m,h,_,_=>h.nil_eq
 | a::l,[],h,_,_=>absurd h.length_eq (by simp)
 | a::l,b::m,h,hl,hm=>by
  have Fm:=pairwise_cons.mp hl;have NL:=pairwise_cons.mp hm;have e:a=b:=by
   rcases mem_cons.mp (h.mem_iff.mp<|.head _) with z | z
   ·exact z
   ·rcases mem_cons.mp (h.mem_iff.mpr<|.head _) with y | y
    ·exact y.symm
    ·have h1:=Fm.1 b y;have h2:=NL.1 a z;lia
  subst e;rw[qR h.cons_inv Fm.2 NL.2]
theorem qS:∀ {x:List Im}{ns:List Int},Fv x=some ns->x=ns.map .int
 | [],ns,h=>by cases h;rfl
 | .int i::r,ns,h=>by
  rw[Fv] at h;obtain⟨s,h1,rfl⟩:=map_eq_some_iff.mp h;rw[qS h1];rfl
 | .j_::_,_,h=>by cases h
 | .bl _::_,_,h=>by cases h
 | .str _::_,_,h=>by cases h
 | .tup _::_,_,h=>by cases h
 | .fn _::_,_,h=>by cases h
 | .fl _::_,_,h=>by cases h
 | .fd::_,_,h=>by cases h
theorem kl{H:Hp}:∀ {ns:List Int}{vs:List V},ak H (ns.map .int) vs->vs=ns.map V.int
 | [],vs,h=>h
 | n::r,vs,h=>by
  obtain⟨v,t,rfl,h1,h2⟩:=h;cases (show v=.int n from h1);rw[kl h2];rfl
theorem qT{H:Hp}:∀ ns:List Int,ak H (ns.map .int) (ns.map V.int)
 | []=>rfl
 | n::r=>⟨.int n,_,rfl,rfl,qT r⟩
theorem zp(hc:X.calm=true)(hu:X.A.units+20<cLine):cv X (.builtin "sorted") vSorted:=by
 refine (zl hc).imp fun xs H Q ⟨ds,d,rd,e,q⟩=>?_;unfold vSorted at e;split at e
 ·rename_i x;obtain⟨ns,e1,e2⟩:=bind_eq_some_iff.mp e;split at e2
  ·rename_i hn;cases e2;obtain⟨v,rfl,_,p,xs,rfl,h1,h2,_⟩:=bU rd;cases qS e1;cases kl h2;refine⟨p,ns,rfl,h1,hn.1,hn.2,fun l MF fl pm up=>?_⟩;rw[qO] at q;rw[qR (pm.trans (mO ns).symm) up (zo hn.1)];exact Out.l q fl (qT _)
  ·cases e2
 ·cases e
theorem qU(hu:X.A.units+20<cLine):kf X putV:=qI
end
end L2
namespace L2
open PySem
variable{a h g b:MS}{e:M Vl}{own m n:Nat}{ds:List Vl}{fix:List Nat}{o:Option (Nat×Vl)}{xs:List Im}{d:Vl}{D1 D:SD}{c:M Bool}{tg:MG}{α:Type}{j i:Int}
@[simp] theorem Dy(d:Im)(D:SD):eC d D=some (.im d,D):=rfl
@[simp] theorem Dz(D:SD):aNil D=some ([],D):=rfl
@[simp] theorem DA(D:SD):sNil D=some (.nx,D):=rfl
@[simp] theorem DB(D:SD):pNone D=some (none,D):=rfl
@[simp] theorem DC(D:SD):kYes D=some (true,D):=rfl
@[simp] theorem DD(d:Im):(Vl.im d).cp=true:=rfl
@[simp] theorem DE(d:List Im):(Vl.fz d).cp=true:=rfl
@[simp] theorem DF(d:List Im):(Vl.lst d).cp=false:=rfl
@[simp] theorem DG(d:List (List Im×Im)):(Vl.dT d).cp=false:=rfl
@[simp] theorem DH(d:List (Key×Im)):(Vl.dK d).cp=false:=rfl
@[simp] theorem DJ(D:SD)(d:Vl):rsl D (.vl d)=some d:=rfl
@[simp] theorem DK(D:SD)(i:Nat):rsl D (.sl i)=(D[i]?).getD none:=rfl
@[simp] theorem DL(D:SD):ce D []=some []:=rfl
@[simp] theorem DM(D:SD)(o:Opd)(os:List Opd):ce D (o::os)=(rsl D o).bind fun d=>(ce D os).map fun ds=>d::ds:=rfl
@[simp] theorem DN(D:SD):bi [] D=some ([],D):=rfl
@[simp] theorem DO(d:Vl)(os:List Opd)(D:SD):bi (.vl d::os) D=(bi os D).map fun p=>(d::p.1,p.2):=rfl
@[simp] theorem DP(i:Nat)(os:List Opd)(D:SD):bi (.sl i::os) D=(bu i D).bind fun p=>(bi os p.2).map fun q=>(p.1::q.1,q.2):=rfl
@[simp] theorem DQ:ims []=some []:=rfl
@[simp] theorem DR(d:Im)(ds:List Vl):ims (.im d::ds)=(ims ds).map fun r=>d::r:=rfl
@[simp] theorem DS(b:Bool):asB (.im<|.bl b)=some b:=rfl
theorem mP(h1 : -(2 ^ 64)<j)(h2:j<2 ^ 64):cf i j=true:=by
 have:Builtin.Int.intBits j<=64:=intBits_le_64 h1 h2;have h':¬ (Builtin.Int.intBits j > shortFactorBits):=Nat.not_lt.mpr this;unfold cf;rw[decide_eq_false h'];simp
theorem fW(h1 : -(2 ^ 64)<i)(h2:i<2 ^ 64):cf i j=true:=by
 have:Builtin.Int.intBits i<=64:=intBits_le_64 h1 h2;have h':¬ (Builtin.Int.intBits i > shortFactorBits):=Nat.not_lt.mpr this;unfold cf;rw[decide_eq_false h'];simp
theorem zq{xs:List α}(h:xs.length<=n):xs.take n=xs:=List.take_of_length_le h
theorem zr(xs:List α)(k:Nat):a0 xs (some (k:Int)) none=xs.drop k:=by
 unfold a0;rw[HT.wV,HT.wU];by_cases h:k<=xs.length
 ·rw[min_eq_left h,zq (by rw[length_drop];lia)]
 ·rw[Nat.min_eq_right (by lia),Nat.sub_self,take_zero,drop_of_length_le (by lia)]
theorem mQ{xs:List α}{d:α}(h0:0<=i)(h:xs[i.toNat]?=some d):FS xs i=some d:=by
 unfold FS Ih;have hi:i.toNat<xs.length:=(List.getElem?_eq_some_iff.mp h).1;rw[if_pos h0,if_pos (by lia)];exact h
theorem zt(I:Nat->SD->Prop)(R:Vl->SD->Prop):∀ {xs:List Im}{D:SD},I 0 D->
  (∀ (i:Nat) (x:Im) (D:SD),xs[i]?=some x->I i D->∃ D1 fl D2,tg (.im x) D=some D1/\b D1=some (fl,D2)/\(((fl=.nx\/fl=.ct)/\I (i+1) D2)\/∃ d,fl=.rt d/\R d D2))->
  (∃ D',bj tg b xs D=some (.nx,D')/\I xs.length D')\/∃ d D',bj tg b xs D=some (.rt d,D')/\R d D':=by
 intro xs;induction xs generalizing I with
 | nil=>intro D h0 _;exact .inl ⟨D,rfl,h0⟩
 | cons x r ih=>
  intro D h0 h;obtain⟨D1,fl,D2,h1,h2,h3⟩:=h 0 x D rfl h0;rcases h3 with ⟨hf,hI⟩ | ⟨d,rfl,hR⟩
  ·have:=ih (fun i=>I<|i+1) (D:=D2) hI fun i y D' hy NM=>h (i+1) y D' (by simpa using hy) NM;have e:bj tg b (x::r) D=bj tg b r D2:=by
    rw[bj];dsimp only;rw[h1];show (b D1).bind _=_;rw[h2];rcases hf with rfl | rfl<;>rfl
   rw[e];exact this
  ·refine .inr ⟨d,D2,?_,hR⟩;rw[bj];dsimp only;rw[h1];show (b D1).bind _=_;rw[h2];rfl
theorem gS(I:Nat->SD->Prop){xs:List Im}{D:SD}(h0:I 0 D)(h:∀ (i:Nat) (x:Im) (D:SD),xs[i]?=some x->I i D->∃ D1 fl D2,tg (.im x) D=some D1/\b D1=some (fl,D2)/\(fl=.nx\/fl=.ct)/\I (i+1) D2):
  ∃ D',bj tg b xs D=some (.nx,D')/\I xs.length D':=by
 rcases zt I (fun _ _=>False) h0 (fun i x D hx hI=>by
  obtain⟨D1,fl,D2,h1,h2,h3,h4⟩:=h i x D hx hI;exact⟨D1,fl,D2,h1,h2,.inl ⟨h3,h4⟩⟩) with h | ⟨_,_,_,h⟩
 ·exact h
 ·exact h.elim
theorem zu(I:Nat->SD->Prop)(Lu:SD->Prop)(step:∀ m D,I m D->∃ t D1,c D=some (t,D1)/\(t=true->∃ fl D2,b D1=some (fl,D2)/\(fl=.nx\/fl=.ct)/\∃ m',m'<m/\I m' D2)/\(t=false->Lu D1)):
  ∀ (n m:Nat) (D:SD),I m D->m<n->∃ D',d7 c b n D=some (.nx,D')/\Lu D':=by
 intro n;induction n with
 | zero=>intro m D _ h;lia
 | succ n ih=>
  intro m D hI hm;obtain⟨t,D1,h1,h2,h3⟩:=step m D hI;rw[d7];dsimp only;rw[h1];cases t with
  | false=>exact⟨D1,rfl,h3 rfl⟩
  | true=>
   obtain⟨fl,D2,h4,hf,m',NL,NM⟩:=h2 rfl;obtain⟨D',h5,h6⟩:=ih m' D2 NM (by lia);refine⟨D',?_,h6⟩;simp only[Option.bind_some,if_true,h4];rcases hf with rfl | rfl<;>exact h5
theorem zv(xs:List α):xs.filter (fun _=>true)=xs:=List.filter_eq_self.mpr fun _ _=>rfl
theorem zw(e:g D=some (.nx,D1)):ai g h D=h D1:=by unfold ai;rw[e];rfl
theorem cU(e:g D=some (.rt d,D1)):ai g h D=some (.rt d,D1):=by unfold ai;rw[e];rfl
theorem zx{g:MI}{D2:SD}{fl:Fl}(e:g D=some ((xs,o),D1))(h:bj tg b xs D1=some (fl,D2)):bZ g tg b D=some (fl,rst o D2):=by
 unfold bZ;rw[e];show (bj tg b xs D1).map _=_;rw[h];rfl
theorem zy{r:Vl}(hl:ds.length=n)(e:g (ds.map some++List.replicate (m - n) none)=some (.rt r,D)):bd n m fix g ds=some (r,di fix ds D 0):=by
 unfold bd;rw[if_pos hl,e]
theorem zz{caps:List Nat}{gi:MI}{C':SD}{ds:List Im}(h1:gi D=some ((xs,o),D1))(h2:cw own tg c e xs [] (dM caps D1)=some (ds,C')):aD own caps gi tg c e D=some (.lst ds,rst o<|c9 caps C' D1):=by
 unfold aD;rw[h1];show (cw own tg c e xs []<|dM caps D1).map _=_;rw[h2];rfl
theorem cg{g:M Vl}(e:g D=some (d,D1)):aG g D=some (.rt d,D1):=by unfold aG;rw[e];rfl
theorem zA{i:Nat}{g:M Vl}(e:g D=some (d,D1))(h:i<D1.length):ar i g D=some (.nx,D1.set i<|some d):=by unfold ar;rw[e];show (if i<D1.length then _ else _)=_;rw[if_pos h]
theorem zB(e:c D=some (true,D1)):sIf c a b D=a D1:=by unfold sIf;rw[e];rfl
theorem zC(e:c D=some (false,D1)):sIf c a b D=b D1:=by unfold sIf;rw[e];rfl
theorem zD(D:SD){r:Vl}{outs:List Vl}(hl:ds.length=n)(e:g (ds.map some++List.replicate (m - n) none)=some (.rt r,D))(ho:di fix ds D 0=outs):bd n m fix g ds=some (r,outs):=by
 rw[zy hl e,ho]
theorem fX{α:Type}{own:Nat}{tg:MG}{c:M Bool}{e:M Vl}{C:SD}(φ:α->Im)(p:α->Bool)(f:α->Im):∀ (xs:List α) (acc:List Im),(∀ x∈xs,∃ D1 D2,tg (.im<|φ x) (List.replicate own none++C)=some D1/\c D1=some (p x,D2)/\(p x=false->D2.drop own=C)/\(p x=true->∃ D3,e D2=some (.im<|f x,D3)/\D3.drop own=C))->
  acc.length+xs.length<=100000->cw own tg c e (xs.map φ) acc C=some (acc++(xs.filter p).map f,C)
 | [],acc,_,_=>by simp[cw]
 | x::r,acc,h,hl=>by
  obtain⟨D1,D2,h1,h2,h3,h4⟩:=h x (.head _);rw[length_cons] at hl;rw[map_cons,cw,h1];show (c D1).bind _=_;rw[h2];show (if p x=true then _ else _)=_;cases hp:p x with
  | false=>
   rw[if_neg Bool.false_ne_true];show cw own tg c e (r.map φ) acc (D2.drop own)=_;rw[h3 hp,fX φ p f r acc (fun y hy=>h y<|.tail _ hy) (by lia),List.filter_cons,hp];rfl
  | true=>
   obtain⟨D3,h5,h6⟩:=h4 hp;rw[if_pos rfl];show (e D2).bind _=_;rw[h5];show (if acc.length<100000 then cw own tg c e (r.map φ) (acc++[f x]) (D3.drop own) else none)=_;rw[if_pos (by lia),h6,fX φ p f r (acc++[f x]) (fun y hy=>h y<|.tail _ hy) (by rw[length_append,length_singleton];lia),List.filter_cons,hp];simp
theorem db{C:SD}(φ:α->Im)(f:α->Im)(xs:List α)(h:∀ x∈xs,∃ D1 D2 D3,tg (.im<|φ x) (List.replicate own none++C)=some D1/\c D1=some (true,D2)/\e D2=some (.im<|f x,D3)/\D3.drop own=C)(hl:xs.length<=100000):cw own tg c e (xs.map φ) [] C=some (xs.map f,C):=by
 have:=fX (own:=own) (tg:=tg) (c:=c) (e:=e) (C:=C) φ (fun _=>true) f xs [] (fun x hx=>by
  obtain⟨D1,D2,D3,h1,h2,h3,h4⟩:=h x hx;exact⟨D1,D2,h1,h2,(fun z=>by cases z),(fun _=>⟨D3,h3,h4⟩)⟩) (by rw[length_nil];lia)
 rw[zv] at this;exact this
end L2
namespace L2
open PySem PySem.Spec PyProof.Rows
section
variable{prog:Program}{w:World}{A:Around}{E:Value->Shared->Prop}{s:Shared}
end
section
variable{X:Cx}
end
section
variable{X:Cx}
end
section
variable{X:Cx}
def i5:Im->Option Key
 | .int i=>some (.inl i)
 | .str x=>some (.inr x)
 | _=>none
@[simp] theorem DT(i:Int):i5 (.int i)=some (.inl i):=rfl
@[simp] theorem DU(x:Str):i5 (.str x)=some (.inr x):=rfl
def kI:Key->Im
 | .inl i=>.int i
 | .inr x=>.str x
@[simp] theorem DV(i:Int):kI (.inl i)=.int i:=rfl
@[simp] theorem DW(x:Str):kI (.inr x)=.str x:=rfl
theorem zE{H:Hp}{d:Im}{v:V}{k:Key}(h:Ef H d v)(e:i5 d=some k):v=kV k:=by
 cases d with
 | int i=>cases e;exact h
 | str x=>cases e;exact h
 | _=>cases e
def dz{κ:Type}[DecidableEq κ](kvs:List (κ×Im))(k:κ)(d:Im):List (κ×Im):=
 if (kvs.any fun kv=>decide (kv.1=k))=true then kvs.map (fun kv=>if kv.1=k then (kv.1,d) else kv) else kvs++[(k,d)]
variable{κ:Type}
theorem E8.any[DecidableEq κ]{H:Hp}{k:κ}{l:List (κ×Im)}{m:List (κ×V)}(h:E8 H l m):(l.any fun kv=>decide (kv.1=k))=(m.any fun kv=>decide (kv.1=k)):=by
 unfold E8 at h;induction h with
 | nil=>rfl
 | cons r _ ih=>rw[any_cons,any_cons,ih,r.1]
theorem E8.upd[DecidableEq κ]{H:Hp}{k:κ}{d:Im}{v:V}(w:Ef H d v){l:List (κ×Im)}{m:List (κ×V)}(h:E8 H l m):E8 H (l.map fun kv=>if kv.1=k then (kv.1,d) else kv) (m.map fun kv=>if kv.1=k then (kv.1,v) else kv):=by
 unfold E8 at h;induction h with
 | nil=>exact .nil
 | @cons p q _ _ r _ ih=>
  rw[map_cons,map_cons];refine .cons ?_ ih;by_cases e:p.1=k
  ·have e':q.1=k:=r.1.symm.trans e;rw[if_pos e,if_pos e'];exact⟨r.1,w⟩
  ·have e':¬ q.1=k:=fun z=>e (r.1.trans z);rw[if_neg e,if_neg e'];exact r
theorem zF{α β:Type}{F:α->β->Prop}{l:List α}{m:List β}{a:α}{b:β}(h:Paired F l m)(x:F a b):Paired F (l++[a]) (m++[b]):=by
 induction h with
 | nil=>exact .cons x .nil
 | cons r _ ih=>exact .cons r ih
theorem E8.put[DecidableEq κ]{H:Hp}{k:κ}{d:Im}{v:V}(w:Ef H d v){l:List (κ×Im)}{m:List (κ×V)}(h:E8 H l m):E8 H (dz l k d) (ck m k v):=by
 unfold dz ck;rw[h.any];split
 ·exact h.upd w
 ·exact zF h ⟨rfl,w⟩
@[simp] def eDict0T:M Vl:=fun D=>some (.dT [],D)
theorem mR{pos:Pos}:VE X (.Dict [] [] pos) eDict0T:=by
 refine bg xM fun σ H Q ⟨D,F,r,D',st,nd,FW,q⟩ p hp=>?_;cases FW;have s:aC H (L2.upd H p<|.dT []):=(aC.refl H).upd hp;have s1:m_ H F H (F++[]):=by rw[append_nil];exact m_.perm nd (List.Perm.refl _)
 exact q _ _ F [p] (st.mono s.tupS fun a _ o e=>s a o e) ⟨p,[],rfl,bp,.nil,rfl⟩ (s1.new s (pairwise_singleton _ _) (fun a ha=>by rw[mem_singleton.mp ha];exact hp) st.chg)
@[simp] def DX(gk gv:M Vl):M Vl:=fun D=>(gk D).bind fun p=>(gv p.2).bind fun q=>match p.1,q.1 with
 | .im k,.im d=>(i5 k).map fun k'=>(.dK [(k',d)],q.2)
 | _,_=>none
@[simp] def putA(c k d:Vl):Option Vl:=match c,k,d with
 | .lst xs,.im<|.int i,.im d=>(Ih xs.length i).map fun j=>.lst (xs.set j d)
 | .dK kvs,.im k,.im d=>(i5 k).bind fun k'=>if kvs.length<100000 then some (.dK<|dz kvs k' d) else none
 | .dT kvs,.im<|.tup k,.im d=>if Im.keys 7 k=true/\kvs.length<100000 then some (.dT<|dz kvs k d) else none
 | _,_,_=>none
theorem mS(hu:X.A.units+20<cLine):kf X putA:=by
 intro pins s σ H o i v ov iv u Q I ro ri rv ⟨c,k,d,c',R,S,wc,wk,wd,nd,e,q⟩;unfold putA at e;split at e
 ·exact qI pins s σ H o i v ov iv u Q I ro ri rv ⟨_,_,_,c',R,S,wc,wk,wd,nd,e,q⟩
 ·obtain⟨k',e1,e2⟩:=bind_eq_some_iff.mp e;split at e2
  ·rename_i hl;cases e2;obtain⟨a,ys,rfl,h1,h2,rfl⟩:=wc;obtain⟨hd,rfl⟩:=wd;have c:Gj H a:=⟨_,h1,(fun _ e=>by cases e),(fun _ _ e=>by cases e)⟩;cases ro;have hy:=zE wk.1 e1;subst hy;refine pH hu I (fL.k h1 (by rw[<- h2.length];exact mL hl)) ri rv fun s' I'=>⟨_,I',q _ [a] ?_ (m_.chg (.head _) c (pairwise_singleton _ _) fun x hx=>by simpa using hx)⟩;exact⟨a,_,rfl,bp,(E8.put hd h2).mono<|Ef.HR c,rfl⟩
  ·cases e2
 ·split at e
  ·rename_i hl;cases e;obtain⟨a,ys,rfl,h1,h2,rfl⟩:=wc;obtain⟨hd,rfl⟩:=wd;have c:Gj H a:=⟨_,h1,(fun _ e=>by cases e),(fun _ _ e=>by cases e)⟩;cases ro;obtain⟨b,xs,rfl,k1,k2⟩:=wk.1;refine pH hu I (fL.t h1 ⟨hl.1,b,xs,rfl,k1,k2⟩ (by rw[<- h2.length];exact mL hl.2)) ri rv fun s' I'=>⟨_,I',q _ [a] ?_ (m_.chg (.head _) c (pairwise_singleton _ _) fun x hx=>by simpa using hx)⟩;exact⟨a,_,rfl,bp,(E8.put hd h2).mono<|Ef.HR c,rfl⟩
  ·cases e
 ·cases e
end
section
variable{X:Cx}
def qV:Opd->Vl->Option (Nat×Vl)
 | .sl i,d=>some (i,d)
 | .vl _,_=>none
@[simp] theorem DY(i:Nat)(d:Vl):qV (.sl i) d=some (i,d):=rfl
@[simp] theorem DZ(c d:Vl):qV (.vl c) d=none:=rfl
end
section
variable{prog:Program}{w:World}{A:Around}{E:Value->Shared->Prop}{s:Shared}
end
section
variable{X:Cx}
end
section
variable{X:Cx}
theorem km{ns:List Int}{us:List Value}(r:au (ns.map V.int) us)(i:Nat)(v:Value)(h:us[i]?=some v):∃ t,v=.int ((ns[i]?).getD 0) t:=by
 have hl:=r.length;rw[length_map] at hl;have hi:i<ns.length:=by rw[hl];exact (List.getElem?_eq_some_iff.mp h).1
 obtain⟨u,hu,t,e⟩:=r.get (i:=i) (x:=V.int ns[i]) (by simp[hi]);rw[h] at hu;cases hu;exact⟨t,by rw[e];simp[hi]⟩
end
section
variable{prog:Program}{w:World}{A:Around}{E:Value->Shared->Prop}{s:Shared}
end
section
variable{prog:Program}{w:World}{A:Around}{E:Value->Shared->Prop}{s:Shared}
end
section
variable{X:Cx}
end
section
variable{X:Cx}
end
section
variable{X:Cx}
end
section
variable{X:Cx}
theorem zG{i0:Nat}{x0:Str}{pos' HU:Pos}{tg iter elt:Expr}{ifs:List Expr}{scope:Scope}{pos:Pos}{own:List Str}{caps:List Nat}{wi:TI}{g:HF->TG}{tt:HF->TT}{te:HF->TE}(hN:X.N.Nodup)(NN:X.N[i0]?=some x0)(NO:Loc X.env.scope x0)(hc:X.calm=true)(S:n_ X scope own caps)(hi:PI X tg iter wi)(hg:∀ Y,PG (X.FT (bQ X own caps) scope Y) tg<|g Y)(ht:∀ Y,K5 (X.FT (bQ X own caps) scope Y) ifs<|tt Y)(he:∀ Y,PE (X.FT (bQ X own caps) scope Y) elt<|te Y)(hs:∀ x,foldedSetIterable iter X.env x=pure x:=by intro _;rfl)(NP:swapsWith (.ListComp elt [⟨tg,iter,ifs,0⟩] scope pos) (some<|.Name x0 pos') HU.line X.env=pure true:=by rfl)(Lv:X.fn x0=true\/X.env.scope.names.lookup x0=some .local:=by first | exact .inl rfl | exact .inr rfl | assumption):
  PS X (.Assign [.Name x0 pos'] (.ListComp elt [⟨tg,iter,ifs,0⟩] scope pos) HU) (lK (jQ own caps wi g tt te)<|lJ i0):=by
 intro pins s σ H Dn I h;rw[exec_Assign_Name_used _ _ _ _ NP];refine wpAny_bind (wpAny_standAt<|wpAny_bind ?_);show wpAny _ X.A (do let _ <- comprehension (.ListComp elt [⟨tg,iter,ifs,0⟩] scope pos) scope X.env _ (newList []) false (eval iter X.env) (some<|assign (.Name x0 pos') X.env)) _ _ s;refine wpAny_bind (wpAny_mono (pN (use:=some (assign (.Name x0 pos') X.env)) (Qp:=fun _ s'=>SP X pins Dn .next s') hc S hi hg ht he hs I h fun D C H4 s4 m I4 hn f Mq Mr z p q=>?_) (fun _ s' hq=>wpAny_pure<|wpAny_pure hq) fun _ _ e=>e);show wpAny _ X.A (assign (.Name x0 pos') X.env<|.ref D) _ _ s4;refine wpAny_assign_Name (oK I4 hN NN NO (v:=.ref D) rfl (fun s5 I5 h5=>?_) Lv);obtain⟨a,QX,ha⟩:=h5;have QY:C≠a:=by
  rcases ha with rfl | ha
  ·exact Ne.symm Mq
  ·exact Ne.symm (Mr _ _ ha)
 exact⟨m,hn.sameBut QX QY,fun h' sb=>⟨_,_,I5.turned (it:=C) (t':=s5.toks) (fun b o hb e=>(sb.2 b hb).trans e) f (Ne.symm Mq) (.inr z) Mr p,q⟩⟩
end
section
variable{X:Cx}
theorem qW{fix:List Nat}{i:Nat}{x0:Str}{pos' HU:Pos}{tg iter elt:Expr}{ifs:List Expr}{scope:Scope}{pos:Pos}{own:List Str}{caps:List Nat}{gi:MI}{gt:MG}{gc:M Bool}{ge:M Vl}(hN:X.N.Nodup)(NN:X.N[i]?=some x0)(NO:Loc X.env.scope x0)(hc:X.calm=true)(S:n_ X scope own caps)(nd:caps.Nodup)(hi:VI X tg iter gi)(hg:∀ Y,VG (X.FT (bQ X own caps) scope Y) (iR own.length caps.length) tg gt)(ht:∀ Y,MD (X.FT (bQ X own caps) scope Y) ifs gc)(he:∀ Y,VE (X.FT (bQ X own caps) scope Y) elt ge)(hf:i∉fix)(hs:∀ x,foldedSetIterable iter X.env x=pure x:=by intro _;rfl)(NP:swapsWith (.ListComp elt [⟨tg,iter,ifs,0⟩] scope pos) (some<|.Name x0 pos') HU.line X.env=pure true:=by rfl)(Lv:X.fn x0=true\/X.env.scope.names.lookup x0=some .local:=by first | exact .inl rfl | exact .inr rfl | assumption):
  VS X fix (.Assign [.Name x0 pos'] (.ListComp elt [⟨tg,iter,ifs,0⟩] scope pos) HU) (ar i<|aD own.length caps gi gt gc ge):=by
 refine d6 (zG hN NN NO hc S hi hg ht he hs NP Lv) fun E σ H ⟨D,F,fl,D',st,HN,FW,q⟩=>?_;obtain⟨⟨r,D1⟩,h1,h2⟩:=bind_eq_some_iff.mp FW;split at h2
 ·rename_i hl;cases h2;refine qx nd ⟨D,F,r,_,st,HN,h1,fun v H1 F1 R s_ ow s1=>?_⟩;obtain⟨F2,R2,q_,pm⟩:=s_.put (i:=i) ow hl;exact q _ H1 F2 (aM.set hf) q_ (s1.less pm)
 ·cases h2
end
section
variable{X:Cx}
def kn:Vl->Vl
 | .lst x=>.im (.fl x)
 | .dT []=>.im .fd
 | d=>d
@[simp] theorem D6(x:List Im):kn (.lst x)=.im (.fl x):=rfl
@[simp] theorem D7(d:Im):kn (.im d)=.im d:=rfl
@[simp] def eFz(g:M Vl):M Vl:=fun D=>(g D).map fun p=>(kn p.1,p.2)
theorem zH{H:Hp}{a:Addr}{u:HO}{ob:Obj}(k1:H a=some u)(n1:∀ xs,u≠.tup xs)(n2:∀ p v,u≠.Et p v):B_ H (upd H a<|.Et ob u):=B_.of (fun b xs e=>by
  have:b≠a:=fun z=>by subst z;rw[k1] at e;cases e;exact n1 _ rfl
  rw[aK this];exact e) fun b o u e=>by
  have:b≠a:=fun z=>by subst z;rw[k1] at e;cases e;exact n2 _ _ rfl
  rw[aK this];exact e
variable{e:Expr}
theorem mT{g:M Vl}(h:VE X e g):VE X e (eFz g):=by
 intro pins s σ H Q I ⟨D,F,r,D',st,nd,hg,q⟩;obtain⟨⟨r0,D1⟩,h1,h2⟩:=map_eq_some_iff.mp hg;cases h2;refine z_ (@h pins s σ H (fun v H1=>∃ F1 R,aj H1 D1 σ F1/\Own H1 r0 v R/\m_ H F H1 (F1++R)) I ⟨D,F,r0,D1,st,nd,h1,fun v H1 F1 R a b c=>⟨F1,R,a,b,c⟩⟩) fun u s1 ⟨v,H1,I1,rv,F1,R,s_,ow,s2⟩=>?_;have fin:∀ {a:Addr}{ob:Obj}{u:HO}{d:Im},H1 a=some u->(∀ xs,u≠.tup xs)->(∀ p w,u≠.Et p w)->R=[a]->Inv X pins σ (upd H1 a<|.Et ob u) s1->(B_ H1 (upd H1 a<|.Et ob u)->Ef (upd H1 a<|.Et ob u) d (.ref a))->(∀ v H' F' R',aj H' D1 σ F'->Own H' (.im d) v R'->m_ H F H' (F'++R')->Q v H')->EP X pins σ Q (.ref a) s1:=by
  intro a ob u d k1 n1 n2 eR I2 hd q;subst eR;have Gv:=nodup_append.mp s2.nd;have QZ:a∉F1:=fun z=>Gv.2.2 a z a (.head _) rfl;have EU:=zH (ob:=ob) k1 n1 n2;refine⟨.ref a,_,I2,rfl,q _ _ F1 [] (s_.mono EU fun b hb o e=>by
    have ne:b≠a:=fun z=>by subst z;exact QZ hb
    rw[aK ne];exact e) ⟨hd EU,rfl⟩ ?_⟩
  rw[append_nil];refine⟨fun b o e hb=>?_,fun b hb=>s2.sub b<|mem_append_left _ hb,Gv.1,s2.tup.trans EU,fun b o e=>?_⟩
  ·have:b≠a:=fun z=>by
    subst z;rcases s2.sub b (mem_append_right _<|.head _) with h | h
    ·exact hb h
    ·rw[e] at h;cases h
   rw[aK this];exact s2.keep b o e hb
  ·by_cases z:b=a
   ·exact⟨_,by rw[z];exact bp⟩
   ·obtain⟨o',e'⟩:=s2.grow b o e;exact⟨o',by rw[aK z];exact e'⟩
 cases r0 with
 | lst x=>
  obtain⟨a,xs,rfl,k1,k2,eR⟩:=ow;cases rv;obtain⟨z,e_,n,rel,f1⟩:=I1.l_ a _ k1;exact fin (d:=.fl x) k1 (fun _ e=>by cases e) (fun _ _ e=>by cases e) eR (I1.write (h':=s1.heap) (t':=s1.toks) (e:=a) (by rw[k1];trivial) (.inl rfl) (fun b u _ e=>e) ⟨_,f1⟩ ⟨f1,z,e_,n,rel,f1⟩) (fun EU=>⟨a,xs,_,rfl,bp,k2.mono EU.tup⟩) q
 | dT kvs=>
  cases kvs with
  | nil=>
   obtain⟨a,Ex,rfl,k1,k2,eR⟩:=ow;cases k2;cases rv;obtain⟨z,lo,xs,rel,o,es,ep,f1,f2,f3,f4,f5⟩:=I1.l_ a _ k1;cases rel;exact fin (d:=.fd) k1 (fun _ e=>by cases e) (fun _ _ e=>by cases e) eR (I1.write (h':=s1.heap) (t':=s1.toks) (e:=a) (by rw[k1];trivial) (.inl rfl) (fun b u _ e=>e) ⟨_,f1⟩ ⟨f1,z,lo,[],.nil,o,es,ep,f1,f2,f3,f4,f5⟩) (fun _=>⟨a,_,rfl,bp⟩) q
  | cons k r=>exact⟨v,H1,I1,rv,q v H1 F1 R s_ ow s2⟩
 | _=>exact⟨v,H1,I1,rv,q v H1 F1 R s_ ow s2⟩
variable{k:Nat}{f:Addr}{fd:FuncData}{ps:List Str}{x:Str}{p pos:Pos}{es:List Expr}
theorem zI{CX:Hx}{sp:Sp}{E:XK}{tv:TE}{t:TA}{ds:List Value}{Hy:List V}(F:EN X.prog X.w X.K X.mg X.base CX k f fd ps sp)(hr:Ed k X.A)(hv:PE X (.Name x p) tv)(hk:PySem.W.keepIn X.K (.ref f)=true)(hb:cH X.K fd ps ds)(hd:au Hy ds)(hx:jL CX X E)(ha:PA X (e::es) t)(he:starEach (e::es) X.env=(false,eval e X.env)::starEach es X.env:=by rfl)(Fz:(backTo pos<|starEach es X.env).any (·.1)=false:=by rfl):
  PE X (.Call (.Name x p) (e::es) [] pos) (fun σ H Q=>tv σ H fun v H1=>v=.ref f/\lR sp Hy E t σ H1 Q):=by
 intro pins s σ H Q I h;refine wpAny_Call_Name_kw (z_ (hv pins s σ H _ I h) fun v s1 ⟨y,H1,I1,r1,e1,q1⟩=>?_);subst e1;cases r1;refine PySem.W.callWith_K (h₀:=X.base) I1.ok.mod.Me hk (z_ (ha pos pins s1 σ H1 _ I1 q1) fun us s2 ⟨vs,H2,I2,r,q⟩=>⟨I2.Jw,?_⟩) he Fz;exact oZ F hr hb hd hx I2 r q
@[simp] def ko(i:Nat)(f:Addr)(n:Nat)(G:Fn)(g:M (List Opd)):M Vl:=fun D=>match D[i]? with
 | some (some<|.im<|.fn a)=>if a=f then ao n G g D else none
 | _=>none
theorem zJ{i n:Nat}{G:Fn}{g:M (List Opd)}(F:EN X.prog X.w X.K X.mg X.base GT k f fd ps (HL n G))(hr:Ed k X.A)(hv:PE X (.Name x p) (eG i))(hk:PySem.W.keepIn X.K (.ref f)=true)(hb:cH X.K fd ps [])(ha:VA X (e::es) g)(he:starEach (e::es) X.env=(false,eval e X.env)::starEach es X.env:=by rfl)(Fz:(backTo pos<|starEach es X.env).any (·.1)=false:=by rfl):
  VE X (.Call (.Name x p) (e::es) [] pos) (ko i f n G g):=by
 refine bg (zI F hr hv hk hb .nil pJ ha he Fz) fun σ H Q ⟨D,F0,r,D',st,nd,hg,q⟩=>?_;unfold ko at hg;split at hg
 ·rename_i a hd;split at hg
  ·rename_i ha;subst ha;obtain⟨v,F1,F2,h1,h2,h3,h4⟩:=st.out hd;exact⟨v,h1,h2.1,qo ⟨D,F0,r,D',st,nd,hg,q⟩⟩
  ·cases hg
 ·cases hg
end
end L2
namespace HT
open PySem PySem.Spec PyProof.Rows
section
variable{prog:Program}{w:World}{A:Around}{E:Value->Shared->Prop}{s:Shared}
theorem zK(n:Nat):Builtin.Slice.slicePlaces ((n:Int) - 1) (-1) (-1)=n:=by
 unfold Builtin.Slice.slicePlaces;rw[if_neg (by decide)];split
 ·rw[show (- -1:Int)=1 by decide,Int.ediv_one];lia
 ·show (0:Int).toNat=n;lia
variable{sl:Addr}
theorem zL{t:Tok}{n:Nat}{Q:Int×Int×Nat->Shared->Prop}(hs:s.heap.IsSliceOf sl .none .none (.int (-1) t))(h:Q ((n:Int) - 1,-1,n) s):wpAny (model prog w) A (Builtin.Slice.sliceApplied (.ref sl)<|pure (n:Int)) Q E s:=by
 obtain⟨os,HA,JF,HB⟩:=id hs;unfold Builtin.Slice.sliceApplied Builtin.Slice.sliceFields;refine wpAny_bind (wpAny_bind<|wpAny_field HA HB (x:=.none) rfl<|wpAny_bind<|wpAny_field HA HB (x:=.none) rfl<|wpAny_bind<|wpAny_field HA HB (x:=.int (-1) t) rfl<|wpAny_pure ?_);refine wpAny_bind (slicePart_int ?_);show wpAny _ _ (if ((-1:Int) == 0)=true then _ else _) _ _ s;rw[if_neg (by decide)];refine wpAny_bind (slicePart_none<|wpAny_bind<|slicePart_none<|wpAny_bind<|wpAny_pure ?_);show wpAny _ _ (pure ((n:Int) - 1,(-1:Int),Builtin.Slice.slicePlaces ((n:Int) - 1) (-1)<|-1)) _ _ s;rw[zK];exact wpAny_pure h
theorem qX{α β:Type}{f g:α->Option β}:∀ (l:List α),(∀ x∈l,f x=g x)->l.filterMap f=l.filterMap g
 | [],_=>rfl
 | x::r,h=>by rw[filterMap_cons,filterMap_cons,h x<|.head _,qX r fun y hy=>h y<|.tail _ hy]
theorem zM(xs:Array Value):((range xs.size).filterMap fun (m:Nat)=>xs[((xs.size:Int) - 1+(m:Int) * (-1)).toNat]?).toArray=xs.toList.reverse.toArray:=by
 have e:(range xs.size).filterMap (fun (m:Nat)=>xs[((xs.size:Int) - 1+(m:Int) * (-1)).toNat]?)=((range xs.size).map fun k=>xs.size - 1 - k).filterMap (xs[·]?):=by
  rw[List.filterMap_map];refine qX _ fun k hk=>?_;have:=mem_range.mp hk;show xs[_]?=xs[xs.size - 1 - k]?;congr 1;lia
 rw[e,PySem.W.krv_range,List.filterMap_reverse,PySem.W.krv_all]
theorem zN{t:Addr}{items:Array Value}{tk:Tok}{Q:Value->Shared->Prop}(ht:IsTup s.heap t items)(hs:s.heap.IsSliceOf sl .none .none (.int (-1) tk))(h:Q (.ref s.heap.objs.size) { s with heap:=s.heap.push { cls:=.type "tuple",data:=.seq items.toList.reverse.toArray } })(hsz:items.size<=sizeLine):wpAny (model prog w) A (getItem (.ref t)<|.ref sl) Q E s:=by
 obtain⟨os,HA,JF,HB⟩:=id hs;have Nc:s.TypeIs (.ref sl) "slice" := ⟨os,HA,JF⟩;unfold getItem;try with_reducible refine wpAny_holding ?_
 first | refine wpAny_bind (wpAny_pure ?_) | skip
 refine wpAny_bind (wpAny_sequenceKey ht.typeIs (by decide) ?_);refine wpAny_bind (wpAny_callSpecial?_slot (name:=Str.ofString "__getitem__") ht.typeIs PyProof.Rows.slot_tuple_getitem<|wpAny_call_entry PyProof.Rows.slot_tuple_getitem ht.typeIs entry_tuple_getitem ?_<|args_tuple_getitem _ _);show wpAny _ _ (Builtin.Tuple.tupleItemsOf (.ref t) >>= _) _ _ s;refine wpAny_bind (tupleItemsOf_ ht<|wpAny_bind<|wpAny_typeOf Nc ?_);rw[if_pos (by decide)];refine wpAny_bind (zL hs ?_);show wpAny _ _ (if (((items.size:Int) - 1) == 0 && (-1:Int) == 1 && items.size == items.size)=true then _ else _) _ _ s;rw[if_neg (by simp),zM];have hz:sizeOk (.seq items.toList.reverse.toArray):=by
  show items.toList.reverse.toArray.size<=sizeLine;simpa using hsz
 first
  | exact wpAny_bind (m:=Builtin.Tuple.tupleExact _) (wpAny_newObj_type (wpAny_pure ⟨_,rfl,wpAny_pure h⟩) hz)
  | exact wpAny_bind (m:=Builtin.Tuple.tupleExact _) (wpAny_newObj_type (wpAny_bind<|wpAny_pure<|wpAny_pure ⟨_,rfl,wpAny_pure h⟩) hz)
  | exact wpAny_bind (wpAny_bind (m:=Builtin.Tuple.tupleExact _)<|wpAny_newObj_type (wpAny_pure<|wpAny_pure ⟨_,rfl,wpAny_pure h⟩) hz)
  | exact wpAny_bind (wpAny_bind (m:=Builtin.Tuple.tupleExact _)<|wpAny_newObj_type (wpAny_pure ⟨_,rfl,wpAny_pure h⟩) hz)
end
end HT
namespace L2
open PySem PySem.Spec PyProof.Rows
section
variable{X:Cx}
def zO(K:PySem.W.Frag)(te ts:TE):TE:=fun σ H Q=>te σ H fun x H1=>ts σ H1 fun y H2=>y=.int (-1)/\∃ a xs,x=.ref a/\A_ K H2 a xs/\∀ p,H2 p=none->Q (.ref p) (upd H2 p<|.tup xs.reverse)
variable{e st:Expr}{p2 pos:Pos}
theorem zP{te ts:TE}(he:PE X e te)(hs:PE X st ts):PE X (.Subscript e (.Slice none none (some st) p2) pos) (zO X.K te ts):=by
 intro pins s σ H Q I h;refine Subscript_ (z_ (he pins s σ H _ I h) fun v s1 ⟨x,H1,I1,r1,q1⟩=>?_);refine wpAny_Slice ?_;rw[evalPart_none,evalPart_some];refine wpAny_pure (wpAny_pure ?_);refine z_ (hs pins s1 σ H1 _ I1 q1) fun vs s2 ⟨y,H2,I2,r2,e1,a,xs,ex,hx,q⟩=>?_;subst e1 ex;cases r1;obtain⟨t,rfl⟩:=r2;have I3:Inv X pins σ H2 { s2 with heap:=s2.heap.push { cls:=.type "slice",data:=.fields #[.none,.none,.int (-1) t] } }:=I2.kept (t':=s2.toks) fun b ob q=>Heap.get?_push_of_some _ q;obtain⟨e_,r,ht,hz⟩:=I3.tuple hx;show wpAny (model X.prog X.w) X.A (subscriptTail e (.Slice none none (some st) p2) (.ref a)<|.ref s2.heap.objs.size) (EP X pins σ Q) X.xe { s2 with heap:=s2.heap.push { cls:=.type "slice",data:=.fields #[.none,.none,.int (-1) t] } };refine tail_any (ops:=[.ref a,.ref s2.heap.objs.size]) ht.typeIs PyProof.Rows.slot_tuple_getitem.lookup (HT.zN ht (Heap.IsSliceOf.new ..) ?_ (by rw[size_toArray,<- r.length];exact hz)) (by with_unfolding_all rfl);refine⟨.ref _,_,I3.laid (t':=s2.toks) (o:=.tup xs.reverse) (fun b ob q=>Heap.get?_push_of_some _ q) (Nat.le_refl _) ?_,rfl,q _<|I3.l_.fresh<|Nat.le_refl _⟩;exact⟨by rw[List.length_reverse];exact hz,e_.reverse,r.reverse,IsTup.new _ _⟩
theorem ak.rev{H:Hp}:∀ {ds:List Im}{xs:List V},ak H ds xs->ak H ds.reverse xs.reverse
 | [],xs,h=>by cases (show xs=[] from h);rfl
 | d::ds,xs,h=>by
  obtain⟨v,r,rfl,h1,h2⟩:=h;rw[reverse_cons,reverse_cons];exact h2.rev.app ⟨v,[],rfl,h1,rfl⟩
@[simp] def qY(g:M Opd):M Vl:=fun D=>(g D).bind fun p=>(rsl p.2 p.1).bind fun d=>match d with
 | .im (.tup x)=>some (.im<|.tup x.reverse,p.2)
 | _=>none
theorem zQ{g:M Opd}(he:VO X e g)(hs:VE X st (iU<|eC<|.int 1)):VE X (.Subscript e (.Slice none none (some st) p2) pos) (qY g):=by
 refine bg (zP he hs) fun σ H Q ⟨D,F,r,D',st,nd,hg,q⟩=>?_;obtain⟨⟨x,D1⟩,h1,h2⟩:=bind_eq_some_iff.mp hg;obtain⟨d,h3,h4⟩:=bind_eq_some_iff.mp h2;split at h4
 ·rename_i x';cases h4;refine⟨D,F,x,D1,st,nd,h1,fun v H1 F1 R s_ o1 s1=>⟨D1,F1,.im<|.int<|-1,D1,s_,(nodup_append.mp s1.nd).1,rfl,fun w H2 F2 R2 q_ Q0 s2=>?_⟩⟩;obtain⟨e2,rfl⟩:=Q0;rw[append_nil] at s2;have o3:cZ H2 σ x v R:=o1.mono s2.tup fun a ha o e=>s2.keep a o e fun h=>(nodup_append.mp s1.nd).2.2 a h a ha rfl;have s5:=s1.trans s2 o1.chg;obtain⟨p,xs,rfl,k1,k2⟩:=(o3.read q_ h3).i;refine⟨e2,p,xs,rfl,A_.of k1,fun l hl=>?_⟩;have s6:aC H2 (upd H2 l<|.tup xs.reverse):=(aC.refl H2).upd hl;exact q _ _ F2 [] (q_.mono s6.tupS fun a _ o e=>s6 a o e) ⟨⟨l,_,rfl,bp,(k2.mono s6.tupS.tup).rev⟩,rfl⟩ (s5.new s6 nodup_nil (fun a ha=>nomatch ha) q_.chg)
 ·cases h4
end
variable{Q:Value->Shared->Prop}{b:Bool}{d2:Vl}{u v:Value}{y x:V}{s:Shared}{σ:St}{pins:List (Addr×Obj)}{d:Im}{H:Hp}
theorem qZ{h:Heap}:∀ (n:Nat) {x y:Im}{v:Value},Im.pl n x=true->Im.pl n y=true->EH h x v->EH h y v->x=y
 | n,.j_,y,v,_,ky,hx,hy=>by
  cases (show v=.none from hx);cases y with
  | j_=>rfl
  | bl b=>cases hy
  | int j=>obtain⟨u,e⟩:=hy;cases e
  | str z=>obtain⟨u,e⟩:=hy;cases e
  | tup ds=>obtain⟨_,_,_,_,e,_⟩:=hy;cases e
  | fn a=>cases n<;>cases ky
  | fl a=>cases n<;>cases ky
  | fd=>cases n<;>cases ky
 | n,.bl b,y,v,_,ky,hx,hy=>by
  cases (show v=.bool b from hx);cases y with
  | j_=>cases hy
  | bl c=>cases hy;rfl
  | int j=>obtain⟨u,e⟩:=hy;cases e
  | str z=>obtain⟨u,e⟩:=hy;cases e
  | tup ds=>obtain⟨_,_,_,_,e,_⟩:=hy;cases e
  | fn a=>cases n<;>cases ky
  | fl a=>cases n<;>cases ky
  | fd=>cases n<;>cases ky
 | n,.int i,y,v,_,ky,hx,hy=>by
  obtain⟨t,rfl⟩:=hx;cases y with
  | j_=>cases hy
  | bl c=>cases hy
  | int j=>obtain⟨u,e⟩:=hy;injection e with e;rw[e]
  | str z=>obtain⟨u,e⟩:=hy;cases e
  | tup ds=>obtain⟨_,_,_,_,e,_⟩:=hy;cases e
  | fn a=>cases n<;>cases ky
  | fl a=>cases n<;>cases ky
  | fd=>cases n<;>cases ky
 | n,.str i,y,v,_,ky,hx,hy=>by
  obtain⟨t,rfl⟩:=hx;cases y with
  | j_=>cases hy
  | bl c=>cases hy
  | int j=>obtain⟨u,e⟩:=hy;cases e
  | str z=>obtain⟨u,e⟩:=hy;injection e with e;rw[e]
  | tup ds=>obtain⟨_,_,_,_,e,_⟩:=hy;cases e
  | fn a=>cases n<;>cases ky
  | fl a=>cases n<;>cases ky
  | fd=>cases n<;>cases ky
 | n+1,.tup ds,y,v,kx,ky,hx,hy=>by
  obtain⟨a,o,items,m,rfl,h1,h2,h3,h4⟩:=hx;cases y with
  | j_=>cases hy
  | bl c=>cases hy
  | int j=>obtain⟨u,e⟩:=hy;cases e
  | str z=>obtain⟨u,e⟩:=hy;cases e
  | fn a=>cases ky
  | fl a=>cases ky
  | fd=>cases ky
  | tup es=>
   obtain⟨a',o',x_,m',e,g1,g2,g3,g4⟩:=hy;cases e;rw[h1] at g1;cases g1;rw[h3] at g3;injection g3 with g3 _;subst g3;have all:∀ (ds es:List Im) (vs:List Value),Im.pls n ds=true->Im.pls n es=true->aO h ds vs->aO h es vs->ds=es:=by
    intro ds;induction ds with
    | nil=>
     intro es vs _ _ a b;cases es with
     | nil=>rfl
     | cons e es=>obtain⟨_,_,q,_⟩:=b;rw[show vs=[] from a] at q;cases q
    | cons d ds ih=>
     intro es vs k1 k2 a b;obtain⟨v,r,rfl,a1,a2⟩:=a;cases es with
     | nil=>cases (show v::r=[] from b)
     | cons e es=>
      obtain⟨v',r',q,b1,b2⟩:=b;cases q;rw[Im.pls,and_eq_true] at k1 k2;rw[qZ n k1.1 k2.1 a1 b1,ih es r k1.2 k2.2 a2 b2]
   rw[all ds es _ kx ky h4 g4]
 | 0,.tup _,_,_,k,_,_,_=>by cases k
 | n,.fn _,_,_,k,_,_,_=>by cases n<;>cases k
 | n,.fl _,_,_,k,_,_,_=>by cases n<;>cases k
 | n,.fd,_,_,k,_,_,_=>by cases n<;>cases k
open Classical in
noncomputable def fY(h:Heap)(d:Im)(v:Value):Bool:=if z:∃ x,Im.pl 8 x=true/\EH h x v then aA z.choose d else false
theorem i6{h:Heap}{x:Im}(k:Im.pl 8 x=true)(i:EH h x v):fY h d v=aA x d:=by
 unfold fY;have z:∃ x,Im.pl 8 x=true/\EH h x v:=⟨x,k,i⟩;rw[dif_pos z,qZ 8 z.choose_spec.1 k z.choose_spec.2 i]
theorem i7{h:Heap}{d:Im}:∀ {ds:List Im}{vs:List Value},Im.pls 8 ds=true->aO h ds vs->vs.any (fY h d)=ds.any fun x=>aA x d
 | [],vs,_,e=>by rw[show vs=[] from e];rfl
 | x::ds,vs,k,e=>by
  obtain⟨v,r,rfl,h1,h2⟩:=e;rw[Im.pls,and_eq_true] at k;rw[any_cons,any_cons,i6 k.1 h1,i7 k.2 h2]
theorem i8{h:Heap}:∀ {ds:List Im}{vs:List Value}{v:Value},Im.pls 8 ds=true->aO h ds vs->v∈vs->∃ x,Im.pl 8 x=true/\EH h x v
 | [],vs,v,_,e,m=>by rw[show vs=[] from e] at m;cases m
 | x::ds,vs,v,k,e,m=>by
  obtain⟨u,r,rfl,h1,h2⟩:=e;rw[Im.pls,and_eq_true] at k;rcases mem_cons.mp m with rfl | m
  ·exact⟨x,k.1,h1⟩
  ·exact i8 k.2 h2 m
section
variable{X:Cx}
def inB(d:Im):Vl->Option Bool
 | .im (.tup ds)=>if (Im.pl 8 d && Im.pls 8 ds)=true then some (ds.any fun x=>aA x d) else none
 | .lst ds=>if (Im.pl 8 d && Im.pls 8 ds)=true then some (ds.any fun x=>aA x d) else none
 | .dT kvs=>match d with
  | .tup k=>if Im.keys 7 k=true then some (bG kvs k).isSome else none
  | _=>none
 | .dK kvs=>match d with
  | .int i=>some (bG kvs<|.inl i).isSome
  | .str x=>some (bG kvs<|.inr x).isSome
  | _=>none
 | _=>none
@[simp] theorem zR(d:Im)(ds:List Im):inB d (.im<|.tup ds)=if (Im.pl 8 d && Im.pls 8 ds)=true then some (ds.any fun x=>aA x d) else none:=rfl
@[simp] theorem zS(d:Im)(ds:List Im):inB d (.lst ds)=if (Im.pl 8 d && Im.pls 8 ds)=true then some (ds.any fun x=>aA x d) else none:=rfl
@[simp] theorem D8(k:List Im)(kvs:List (List Im×Im)):inB (.tup k) (.dT kvs)=if Im.keys 7 k=true then some (bG kvs k).isSome else none:=rfl
@[simp] def vIn:Op2:=fun a b=>match a with
 | .im d=>(inB d b).map fun r=>.im (.bl r)
 | _=>none
@[simp] def vNotIn:Op2:=fun a b=>match a with
 | .im d=>(inB d b).map fun r=>.im (.bl<|!r)
 | _=>none
theorem gU{κ:Type}[DecidableEq κ]{H:Hp}{k:κ}{kvs:List (κ×Im)}{Ex:List (κ×V)}(h:E8 H kvs Ex):(cy Ex k).isSome=(bG kvs k).isSome:=by
 cases e:bG kvs k with
 | none=>rw[(gM h).2 e];rfl
 | some d=>obtain⟨v,h1,_⟩:=(gM h).1 d e;rw[h1];rfl
theorem zU(hu:X.A.units+20<cLine)(I:Inv X pins σ H s)(rx:aw x v)(ry:aw y u)(i1:Ef H d x)(r2:FL H d2 y)(e:inB d d2=some b)(q:∀ s',Inv X pins σ H s'->Q (.bool b) s'):wpAny (model X.prog X.w) X.A (compareOp .In v u) Q X.xe s:=by
 unfold inB at e;split at e
 ·rename_i ds;split at e
  ·rename_i hp;cases e;rw[and_eq_true] at hp;obtain⟨a,xs,rfl,h1,h2⟩:=r2.i;cases ry;obtain⟨e_,rv,p,_⟩:=I.tuple (A_.of h1);have iv:=h2.FA I.l_ rv;refine SeqAt.in_tupleAt (fY s.heap d) (show s.heap.IsTuple a e_.toArray from p) (fun w hw=>?_) ?_
   ·obtain⟨z,z1,z2⟩:=i8 hp.2 iv (by simpa using hw);rw[i6 z1 z2];exact dg 8 z1 hp.1 (by show X.A.units+1+8+1<cLine;lia) z2 (i1.FA I.l_ rx)
   ·rw[any_toArray,i7 hp.2 iv];exact q s I
  ·cases e
 ·rename_i ds;split at e
  ·rename_i hp;cases e;rw[and_eq_true] at hp;obtain⟨_,a,xs,rfl,h1,h2,_⟩:=r2;cases ry;obtain⟨e_,p,iv,_⟩:=gK I h1 h2;refine SeqAt.in_listAt (fY s.heap d) p (fun w hw=>?_) ?_
   ·obtain⟨z,z1,z2⟩:=i8 hp.2 iv (by simpa using hw);rw[i6 z1 z2];exact dg 8 z1 hp.1 (by show X.A.units+1+8+1<cLine;lia) z2 (i1.FA I.l_ rx)
   ·rw[any_toArray,i7 hp.2 iv];exact q s I
  ·cases e
 ·rename_i kvs;split at e
  ·rename_i k;split at e
   ·rename_i hk;cases e;obtain⟨_,a,Ex,rfl,h1,h2,_⟩:=r2;cases ry;obtain⟨b,ys,rfl,g1,g2⟩:=i1;rw[<- gU h2] at q;exact lU hu I (bW.t h1 ⟨hk,b,ys,rfl,g1,g2⟩) rx q
   ·cases e
  ·cases e
 ·rename_i kvs;split at e
  ·rename_i i;cases e;obtain⟨_,a,Ex,rfl,h1,h2,_⟩:=r2;cases ry;rw[<- gU h2] at q;cases (show x=kV (.inl i) from i1);exact lU hu I (bW.k h1) rx q
  ·rename_i i;cases e;obtain⟨_,a,Ex,rfl,h1,h2,_⟩:=r2;cases ry;rw[<- gU h2] at q;cases (show x=kV (.inr i) from i1);exact lU hu I (bW.k h1) rx q
  ·cases e
 ·cases e
theorem dR(hu:X.A.units+20<cLine):FF X (compareOp .In) vIn:=by
 intro pins s σ H x y v u Q I rx ry ⟨d1,d2,d,r1,r2,e,q⟩;unfold vIn at e;split at e
 ·obtain⟨b,e1,e2⟩:=map_eq_some_iff.mp e;cases e2;exact zU hu I rx ry r1.i r2 e1 fun s' I'=>⟨.bl b,H,I',rfl,Out.i q rfl⟩
 ·cases e
theorem zV(hu:X.A.units+20<cLine)(I:Inv X pins σ H s)(rx:aw x v)(ry:aw y u)(i1:Ef H d x)(r2:FL H d2 y)(e:inB d d2=some b)(q:∀ s',Inv X pins σ H s'->Q (.bool<|!b) s'):wpAny (model X.prog X.w) X.A (compareOp .NotIn v u) Q X.xe s:=by
 unfold inB at e;split at e
 ·rename_i ds;split at e
  ·rename_i hp;cases e;rw[and_eq_true] at hp;obtain⟨a,xs,rfl,h1,h2⟩:=r2.i;cases ry;obtain⟨e_,rv,p,_⟩:=I.tuple (A_.of h1);have iv:=h2.FA I.l_ rv;refine SeqAt.notIn_tupleAt (fY s.heap d) (show s.heap.IsTuple a e_.toArray from p) (fun w hw=>?_) ?_
   ·obtain⟨z,z1,z2⟩:=i8 hp.2 iv (by simpa using hw);rw[i6 z1 z2];exact dg 8 z1 hp.1 (by show X.A.units+1+8+1<cLine;lia) z2 (i1.FA I.l_ rx)
   ·rw[any_toArray,i7 hp.2 iv];exact q s I
  ·cases e
 ·rename_i ds;split at e
  ·rename_i hp;cases e;rw[and_eq_true] at hp;obtain⟨_,a,xs,rfl,h1,h2,_⟩:=r2;cases ry;obtain⟨e_,p,iv,_⟩:=gK I h1 h2;refine SeqAt.notIn_listAt (fY s.heap d) p (fun w hw=>?_) ?_
   ·obtain⟨z,z1,z2⟩:=i8 hp.2 iv (by simpa using hw);rw[i6 z1 z2];exact dg 8 z1 hp.1 (by show X.A.units+1+8+1<cLine;lia) z2 (i1.FA I.l_ rx)
   ·rw[any_toArray,i7 hp.2 iv];exact q s I
  ·cases e
 ·rename_i kvs;split at e
  ·rename_i k;split at e
   ·rename_i hk;cases e;obtain⟨_,a,Ex,rfl,h1,h2,_⟩:=r2;cases ry;obtain⟨b,ys,rfl,g1,g2⟩:=i1;rw[<- gU h2] at q;exact lV hu I (bW.t h1 ⟨hk,b,ys,rfl,g1,g2⟩) rx q
   ·cases e
  ·cases e
 ·rename_i kvs;split at e
  ·rename_i i;cases e;obtain⟨_,a,Ex,rfl,h1,h2,_⟩:=r2;cases ry;rw[<- gU h2] at q;cases (show x=kV (.inl i) from i1);exact lV hu I (bW.k h1) rx q
  ·rename_i i;cases e;obtain⟨_,a,Ex,rfl,h1,h2,_⟩:=r2;cases ry;rw[<- gU h2] at q;cases (show x=kV (.inr i) from i1);exact lV hu I (bW.k h1) rx q
  ·cases e
 ·cases e
theorem gW(hu:X.A.units+20<cLine):FF X (compareOp .NotIn) vNotIn:=by
 intro pins s σ H x y v u Q I rx ry ⟨d1,d2,d,r1,r2,e,q⟩;unfold vNotIn at e;split at e
 ·obtain⟨b,e1,e2⟩:=map_eq_some_iff.mp e;cases e2;exact zV hu I rx ry r1.i r2 e1 fun s' I'=>⟨.bl<|!b,H,I',rfl,Out.i q rfl⟩
 ·cases e
end
mutual
def u_:Im->Im->Bool
 | .int i,.int j=>decide (i<j)
 | .tup a,.tup b=>ci a b
 | _,_=>false
def ci:List Im->List Im->Bool
 | [],[]=>false
 | [],_::_=>true
 | _::_,[]=>false
 | a::r,b::t=>if Im.beq a b=true then ci r t else u_ a b
end
mutual
def b7:Nat->Im->Im->Bool
 | _,.int _,.int _=>true
 | n+1,.tup a,.tup b=>bM n a b
 | _,_,_=>false
def bM:Nat->List Im->List Im->Bool
 | _,[],[]=>true
 | n,a::r,b::t=>b7 n a b && bM n r t
 | _,_,_=>false
end
theorem mU:∀ {n:Nat}{a b:List Im},bM n a b=true->a.length=b.length
 | _,[],[],_=>rfl
 | n,a::r,b::t,h=>by
  rw[bM,and_eq_true] at h;rw[length_cons,length_cons,mU h.2]
 | _,[],_::_,h=>by cases h
 | _,_::_,[],h=>by cases h
mutual
theorem ku:∀ {n:Nat}{a b:Im},b7 n a b=true->Im.pl n a=true/\Im.pl n b=true/\aA a b=Im.beq a b
 | n,.int i,.int j,_=>by
  refine⟨by cases n<;>rfl,by cases n<;>rfl,?_⟩;rw[aA,Im.beq];by_cases h:i=j<;>simp[h]
 | n+1,.tup a,.tup b,h=>by
  rw[b7] at h;obtain⟨h1,h2,h3⟩:=q8 h;exact⟨h1,h2,by rw[aA,Im.beq];exact h3⟩
theorem q8:∀ {n:Nat}{a b:List Im},bM n a b=true->Im.pls n a=true/\Im.pls n b=true/\bD a b=Im.FQ a b
 | n,[],[],_=>⟨by cases n<;>rfl,by cases n<;>rfl,rfl⟩
 | n,a::r,b::t,h=>by
  rw[bM,and_eq_true] at h;obtain⟨h1,h2,h3⟩:=ku h.1;obtain⟨g1,g2,g3⟩:=q8 h.2;exact⟨by rw[Im.pls,h1,g1];rfl,by rw[Im.pls,h2,g2];rfl,by rw[bD,Im.FQ,h3,g3]⟩
end
theorem fZ{a b:Im}(h:¬ a=b):Im.beq a b=false:=by
 cases e:Im.beq a b with
 | false=>rfl
 | true=>exact absurd ((Im.beq_iff a b).mp e) h
mutual
theorem mV:∀ a:Im,u_ a a=false
 | .int i=>by simp[u_]
 | .tup a=>by rw[u_];exact q9 a
 | .j_=>rfl
 | .bl _=>rfl
 | .str _=>rfl
 | .fn _=>rfl
 | .fl _=>rfl
 | .fd=>rfl
theorem q9:∀ a:List Im,ci a a=false
 | []=>rfl
 | a::r=>by rw[ci,if_pos<|(Im.beq_iff a a).mpr rfl];exact q9 r
end
mutual
theorem gX:∀ {n:Nat}{a b:Im},b7 n a b=true->a≠b->u_ a b=!(u_ b a)
 | n,.int i,.int j,_,h=>by
  have:i≠j:=fun e=>h (by rw[e]);rw[u_,u_];rcases Int.lt_or_gt_of_ne this with g | g
  ·simp[g];lia
  ·simp[g];lia
 | n+1,.tup a,.tup b,h,e=>by
  rw[b7] at h;rw[u_,u_];exact ra h fun z=>e (by rw[z])
theorem ra:∀ {n:Nat}{a b:List Im},bM n a b=true->a≠b->ci a b=!(ci b a)
 | n,[],[],_,h=>absurd rfl h
 | n,a::r,b::t,h,e=>by
  rw[bM,and_eq_true] at h;rw[ci,ci];by_cases z:a=b
  ·subst z;rw[if_pos ((Im.beq_iff a a).mpr rfl),if_pos<|(Im.beq_iff a a).mpr rfl];exact ra h.2 fun w=>e (by rw[w])
  ·rw[fZ z,fZ<|fun w=>z w.symm,if_neg Bool.false_ne_true,if_neg Bool.false_ne_true];exact gX h.1 z
end
mutual
theorem kw:∀ {n:Nat}{a b c:Im},b7 n a b=true->b7 n b c=true->u_ a b=true->u_ b c=true->u_ a c=true
 | n,.int i,.int j,.int k,_,_,h1,h2=>by
  rw[u_] at h1 h2 ⊢;have:=of_decide_eq_true h1;have:=of_decide_eq_true h2;exact decide_eq_true (by lia)
 | n+1,.tup a,.tup b,.tup c,l1,l2,h1,h2=>by
  rw[b7] at l1 l2;rw[u_] at h1 h2 ⊢;exact rb l1 l2 h1 h2
theorem rb:∀ {n:Nat}{a b c:List Im},bM n a b=true->bM n b c=true->ci a b=true->ci b c=true->ci a c=true
 | n,[],[],[],_,_,h,_=>h
 | n,a::r,b::t,c::u,l1,l2,h1,h2=>by
  rw[bM,and_eq_true] at l1 l2;rw[ci] at h1 h2 ⊢;by_cases z1:a=b
  ·subst z1;rw[if_pos ((Im.beq_iff a a).mpr rfl)] at h1;by_cases z2:a=c
   ·subst z2;rw[if_pos ((Im.beq_iff a a).mpr rfl)] at h2 ⊢;exact rb l1.2 l2.2 h1 h2
   ·rw[fZ z2,if_neg Bool.false_ne_true] at h2 ⊢;exact h2
  ·rw[fZ z1,if_neg Bool.false_ne_true] at h1;by_cases z2:b=c
   ·subst z2;rw[fZ z1,if_neg Bool.false_ne_true];exact h1
   ·rw[fZ z2,if_neg Bool.false_ne_true] at h2;have h3:=kw l1.1 l2.1 h1 h2;have z3:¬ a=c:=fun w=>by
     subst w;have:=gX l2.1 z2;rw[h1,h2] at this;cases this
    rw[fZ z3,if_neg Bool.false_ne_true];exact h3
end
def mW(A:Around)(s:Shared)(y x:Value)(k:Bool):Prop:=∀ (prog:Program) (w:World) (E:Value->Shared->Prop) (Q:Value->Shared->Prop),Q (.bool k) s->wpAny (model prog w) A (richCompare .Lt y x) Q E s
def fq(f:Bool):List (Bool×Bool)->Bool
 | []=>f
 | (e,k)::r=>if e=true then fq f r else k
section
open PySem.SeqAt
open PySem.AutoSeq1 (wpAny_loadPart')
open PySem.MeetsSeq PySem.MeetsSeq2 PySem.MeetsSeq3
theorem zW(l b:Addr)(items t_:Array Value)(n n2:Nat)(dd IY:Option Addr)(sl Km:Array (Option Value))(ps:List (Bool×Bool))(MB:ps.length=min items.size t_.size):
  Meets (Builtin.«tuple.__lt__» ⟨[.ref l,.ref b],[]⟩)
   (fun A R s=>s.heap.get? l=some { cls:=.type "tuple",dict:=dd,data:=.seq items n,slots:=sl }/\s.heap.get? b=some { cls:=.type "tuple",dict:=IY,data:=.seq t_ n2,slots:=Km }/\
    (∀ j (h1:j<items.size) (h2:j<t_.size) (h3:j<ps.length),EqAt A.in1 s items[j] t_[j] (ps[j]).1/\((ps[j]).1=false->mW A.in1 s items[j] t_[j] (ps[j]).2))/\
    R (.ok<|.ret<|.bool<|fq (decide (items.size<t_.size)) ps) s):=
 .of_wp fun prog w A R s h=>by
  obtain⟨hp,g,d,tk,os⟩:=s;obtain⟨hl,hb,he,h⟩:=h;have f2:=AutoSeq1.sub_tuple_tuple;have hZ:(items.toList.zip t_.toList).length=min items.size t_.size:=by simp
  wp_walk using wpAny_loadPart' hl,wpAny_loadPart' hb,wpAny_forIn_list _ (fun rest b s'=>b.1=none/\s'=⟨hp,g,d,tk,os⟩/\∃ i,rest=(items.toList.zip t_.toList).drop i/\
   R (.ok<|.ret<|.bool<|fq (decide (items.size<t_.size))<|ps.drop i) ⟨hp,g,d,tk,os⟩) _
  case turn=>
   rintro⟨y,x⟩ rest b s' ⟨Ik,rfl,i,hz,hR⟩;have Ff:i<(items.toList.zip t_.toList).length:=by
    rcases lt_or_ge i (items.toList.zip t_.toList).length with h' | h'
    ·exact h'
    ·rw[drop_of_length_le h'] at hz;cases hz
   have hm:i<min items.size t_.size:=hZ ▸ Ff;have h1:i<items.size:=by lia
   have h2:i<t_.size:=by lia
   have h3:i<ps.length:=by lia
   rw[drop_eq_getElem_cons Ff] at hz;injection hz with Pb Lw;have hy:y=items[i]:=by have:=congrArg Prod.fst Pb;simpa using this
   have hx:x=t_[i]:=by have:=congrArg Prod.snd Pb;simpa using this
   subst hy hx;rw[drop_eq_getElem_cons h3] at hR;obtain⟨NJ,Lx⟩:=he i h1 h2 h3;generalize ps[i]=pr at hR NJ Lx;obtain⟨e,k⟩:=pr;refine wpAny_bind (NJ prog w _ _ ?_);cases e with
   | true=>
    have Ly:R (.ok<|.ret<|.bool<|fq (decide (items.size<t_.size))<|ps.drop<|i+1) ⟨hp,g,d,tk,os⟩:=hR
    wp_walk
    exact⟨rfl,rfl,i+1,Lw,Ly⟩
   | false=>
    have Ly:R (.ok<|.ret<|.bool k) ⟨hp,g,d,tk,os⟩:=hR;have Q1:=Lx rfl prog w
    wp_walk using Q1
    exact⟨_,rfl,by simpa using Ly⟩
  case fin=>
   rintro⟨b1,b2⟩ s' ⟨Ik,rfl,i,hz,hR⟩;simp only at Ik;subst Ik;have Sj:min items.size t_.size<=i:=by
    rcases lt_or_ge i (items.toList.zip t_.toList).length with h' | h'
    ·rw[drop_eq_getElem_cons h'] at hz;cases hz
    ·exact hZ ▸ h'
   rw[drop_of_length_le (by lia)] at hR;have Ly:R (.ok<|.ret<|.bool<|decide (items.size<t_.size)) ⟨hp,g,d,tk,os⟩:=hR
   wp_walk
   exact⟨_,rfl,by simpa [Builtin.Tuple.tupleCompareSizes] using Ly⟩
  case h=>
   exact⟨rfl,rfl,0,rfl,by simpa using h⟩
end
def Il(ds es:List Im):List (Bool×Bool):=(ds.zip es).map fun p=>(aA p.1 p.2,u_ p.1 p.2)
theorem rc:∀ {n:Nat}{ds es:List Im},bM n ds es=true->fq false (Il ds es)=ci ds es
 | _,[],[],_=>rfl
 | n,a::r,b::t,h=>by
  rw[bM,and_eq_true] at h;show (if aA a b=true then fq false (Il r t) else u_ a b)=ci (a::r) (b::t);rw[ci,(ku h.1).2.2,rc h.2]
 | _,[],_::_,h=>by cases h
 | _,_::_,[],h=>by cases h
theorem re{n:Nat}:∀ {ds es:List Im}{j:Nat}{a b:Im},bM n ds es=true->ds[j]?=some a->es[j]?=some b->b7 n a b=true
 | [],es,j,a,b,_,h,_=>by simp at h
 | d::ds,[],j,a,b,h,_,_=>by cases h
 | d::ds,e::es,0,a,b,h,h1,h2=>by
  rw[bM,and_eq_true] at h;cases h1;cases h2;exact h.1
 | d::ds,e::es,j+1,a,b,h,h1,h2=>by
  rw[bM,and_eq_true] at h;exact re (j:=j) h.2 (by simpa using h1) (by simpa using h2)
theorem rf{A:Around}{i j:Int}(hx:EH s.heap (.int i) u)(hy:EH s.heap (.int j) v):mW A s u v (u_ (.int i)<|.int j):=by
 obtain⟨t,rfl⟩:=hx;obtain⟨t',rfl⟩:=hy;intro prog w E Q q;rw[u_] at q;exact HT.wS A s i t j t' prog w E Q q
theorem mX:∀ {n:Nat}{x y:Im},b7 n x y=true->(∃ i j,x=.int i/\y=.int j)\/∃ m a b,n=m+1/\x=.tup a/\y=.tup b/\bM m a b=true:=by
 intro n x y h;unfold b7 at h;split at h
 ·exact .inl ⟨_,_,rfl,rfl⟩
 ·exact .inr ⟨_,_,_,rfl,rfl,rfl,h⟩
 ·cases h
theorem rg(n:Nat):∀ {A:Around}{x y:Im}{u v:Value},b7 n x y=true->A.units+n+2<cLine->EH s.heap x u->EH s.heap y v->mW A s u v (u_ x y):=by
 induction n with
 | zero=>
  intro A x y u v h hu hx hy;rcases mX h with ⟨i,j,rfl,rfl⟩ | ⟨m,_,_,e,_⟩
  ·exact rf hx hy
  ·cases e
 | succ n ih=>
  intro A x y u v h hu hx hy;rcases mX h with ⟨i,j,rfl,rfl⟩ | ⟨m,ds,es,e,rfl,rfl,h⟩
  ·exact rf hx hy
  cases e;obtain⟨a,o,e_,m,rfl,h1,h2,h3,h4⟩:=hx;obtain⟨b,o',its',m',rfl,g1,g2,g3,g4⟩:=hy;obtain⟨cls,dd,data,sl⟩:=o;obtain⟨Q2,IZ,Pc,MY⟩:=o';simp only at h2 h3 g2 g3;subst h2 h3 g2 g3;have l0:=mU h;have l1:ds.length=e_.size:=by rw[h4.length,length_toList]
  have l2:es.length=its'.size:=by rw[g4.length,length_toList]
  intro prog w E Q q;rw[u_,<- rc h] at q;have lp:(Il ds es).length=min e_.size its'.size:=by rw[Il,length_map,List.length_zip,l1,l2]
  have hd:decide (e_.size<its'.size)=false:=decide_eq_false (by lia);refine richCompare_meets_room (op:=.Lt) ⟨_,h1,rfl⟩ ⟨_,g1,rfl⟩ PySem.F.slot_tuple_lt PySem.F.entry_tuple_lt (PySem.F.args_tuple_lt_2 _ _) (zW a b e_ its' m m' dd IZ sl MY (Il ds es) lp)
   ⟨h1,g1,fun j j1 j2 j3=>?_,show Value.bool (fq (decide (e_.size<its'.size))<|Il ds es)≠Value.notImplemented/\Q (.bool<|fq (decide (e_.size<its'.size))<|Il ds es) s from ⟨(fun x=>nomatch x),by rw[hd];exact q⟩⟩ (by lia);obtain⟨d1,e1,r1⟩:=h4.get (j:=j) (v:=e_[j]) (by rw[getElem?_toList];simp[j1]);obtain⟨d2,e2,r2⟩:=g4.get (j:=j) (v:=its'[j]) (by rw[getElem?_toList];simp[j2]);have lk:=re h e1 e2;have hp:=ku lk;have ez:(Il ds es)[j]=(aA d1 d2,u_ d1 d2):=by
   have:(Il ds es)[j]?=some (aA d1 d2,u_ d1 d2):=by
    rw[Il,List.getElem?_map,(List.getElem?_zip_eq_some (z:=(d1,d2))).mpr ⟨e1,e2⟩];rfl
   rw[List.getElem?_eq_getElem j3] at this;exact Option.some.inj this
  rw[ez];exact⟨dg n hp.1 hp.2.1 (by show A.units+1+n+1<cLine;lia) r1 r2,fun _=>ih lk (by show A.units+1+n+2<cLine;lia) r1 r2⟩
end L2
namespace L2
open PySem PySem.Spec PyProof.Rows PySem.W
variable{e_:List Value}{ds:List Im}
theorem rh{α:Type}{p q:α->Bool}:∀ {l:List α},(∀ x∈l,p x=true->q x=true)->(∃ x∈l,q x=true/\p x=false)->l.countP p<l.countP q
 | [],_,h=>by obtain⟨x,hx,_⟩:=h;cases hx
 | a::l,h,⟨x,hx,h1,h2⟩=>by
  rw[List.countP_cons,List.countP_cons];have le:l.countP p<=l.countP q:=List.countP_mono_left fun y hy=>h y (.tail _ hy);rcases mem_cons.mp hx with rfl | hx
  ·rw[h1,h2];simp;lia
  ·have:=rh (fun y hy=>h y<|.tail _ hy) ⟨x,hx,h1,h2⟩;have ha:=h a (.head _);cases e1:p a<;>cases e2:q a<;>rw[e1,e2] at ha<;>simp at ha ⊢<;>lia
structure Fd(ds:List Im):Prop where
 J0:ds.length<=1000
 FX:∀ a∈ds,∀ b∈ds,b7 6 a b=true
 nd:ds.Nodup
def Jk(ds:List Im)(x:Im):Nat:=ds.countP fun d=>u_ d x
theorem kz(o:Fd ds){x y:Im}(hx:x∈ds)(hy:y∈ds)(h:u_ x y=true):Jk ds x<Jk ds y:=
 rh (fun z hz e=>kw (o.FX z hz x hx) (o.FX x hx y hy) e h) ⟨x,hx,h,mV x⟩
theorem rj(o:Fd ds){x y:Im}(hx:x∈ds)(hy:y∈ds):decide ((Jk ds x:Int)<(Jk ds y:Int))=u_ x y:=by
 cases e:u_ x y with
 | true=>exact decide_eq_true (by have:=kz o hx hy e;lia)
 | false=>
  refine decide_eq_false fun z=>?_;by_cases h:x=y
  ·subst h;lia
  ·have t:=gX (o.FX x hx y hy) h;rw[e] at t;have t':u_ y x=true:=by cases q:u_ y x<;>rw[q] at t<;>simp at t ⊢
   have:=kz o hy hx t';lia
theorem zX(o:Fd ds){x y:Im}(hx:x∈ds)(hy:y∈ds)(h:Jk ds x=Jk ds y):x=y:=by
 by_cases e:x=y
 ·exact e
 ·have t:=gX (o.FX x hx y hy) e;cases q:u_ x y with
  | true=>have:=kz o hx hy q;lia
  | false=>
   rw[q] at t;have t':u_ y x=true:=by cases q:u_ y x<;>rw[q] at t<;>simp at t ⊢
   have:=kz o hy hx t';lia
def dS(ds:List Im)(i:Nat):Int:=Jk ds (ds.getD i .j_)
theorem gY{i:Nat}(h:i<ds.length):ds.getD i .j_∈ds:=by
 rw[getD_eq_getElem?_getD,List.getElem?_eq_getElem h];exact getElem_mem h
theorem kA(o:Fd ds):∀ i j,i<ds.length->j<ds.length->dS ds i=dS ds j->i=j:=fun i j hi hj e=>by
 have:=zX o (gY hi) (gY hj) (by unfold dS at e;lia);rw[getD_eq_getElem?_getD,List.getElem?_eq_getElem hi,getD_eq_getElem?_getD,List.getElem?_eq_getElem hj] at this;exact (List.getElem_inj o.nd).mp this
theorem NQ(o:Fd ds){p:Array Nat}(hp:Rg ds.length p)(up:Up (dS ds) p ds.length):(p.toList.map fun i=>ds.getD i .j_).Pairwise (fun a b=>u_ a b=true):=by
 rw[pairwise_iff_getElem];intro i j hi hj Fq;have hs:=hp.size;have Fg:i<ds.length:=by simpa [hs] using hi
 have Jg:j<ds.length:=by simpa [hs] using hj
 have ne:=hp.ne (kA o) Fq Jg;have le:=up i j (by lia) Jg;have g:∀ k (hk:k<(p.toList.map fun i=>ds.getD i .j_).length),(p.toList.map fun i=>ds.getD i .j_)[k]=ds.getD (p.getD k 0) .j_:=fun k hk=>by
  have E1:k<p.size:=by simpa using hk
  rw[List.getElem_map,Array.getElem_toList];simp[Array.getD,E1]
 rw[g i hi,g j hj];rw[<- rj o (gY<|hp.lt Fg) (gY<|hp.lt Jg)];refine decide_eq_true ?_;have e:∀ k,(Jk ds (ds.getD (p.getD k 0) .j_):Int)=y_ (dS ds) p k:=fun _=>rfl;rw[e i,e j];lia
theorem rk:∀ {l m:List Im},l.Perm m->l.Pairwise (fun a b=>u_ a b=true)->m.Pairwise (fun a b=>u_ a b=true)->(∀ a∈l,∀ b∈l,u_ a b=true->u_ b a=false)->l=m
 | [],m,p,_,_,_=>(List.nil_perm.mp p).symm
 | a::l,m,p,h1,h2,as=>by
  cases m with
  | nil=>exact absurd p.length_eq (by simp)
  | cons b m=>
   have e:a=b:=by
    by_cases e:a=b
    ·exact e
    ·have ha:a∈m:=by
      rcases mem_cons.mp (p.mem_iff.mp<|.head _) with z | z
      ·exact absurd z e
      ·exact z
     have hb:b∈l:=by
      rcases mem_cons.mp (p.mem_iff.mpr<|.head _) with z | z
      ·exact absurd z.symm e
      ·exact z
     have q1:=(pairwise_cons.mp h1).1 b hb;have q2:=(pairwise_cons.mp h2).1 a ha;rw[as a (.head _) b (.tail _ hb) q1] at q2;cases q2
   subst e;rw[rk (List.Perm.cons_inv p) (pairwise_cons.mp h1).2 (pairwise_cons.mp h2).2 fun x hx y hy=>as x (.tail _ hx) y<|.tail _ hy]
theorem mY(x:Im):∀ l:List Im,(fm u_ x l).Perm (x::l)
 | []=>List.Perm.refl _
 | y::r=>by
  rw[fm];split
  ·exact List.Perm.refl _
  ·exact (List.Perm.cons y<|mY x r).trans (List.Perm.swap x y r)
theorem gZ:∀ l:List Im,(bH u_ l).Perm l
 | []=>List.Perm.refl _
 | x::r=>(mY x _).trans (List.Perm.cons x<|gZ r)
theorem rl{x:Im}:∀ {l:List Im},l.Pairwise (fun a b=>u_ a b=true)->(∀ y∈l,x≠y)->(∀ a∈x::l,∀ b∈x::l,b7 6 a b=true)->(fm u_ x l).Pairwise (fun a b=>u_ a b=true)
 | [],_,_,_=>pairwise_singleton _ _
 | y::r,h,n,lk=>by
  have h':=pairwise_cons.mp h;rw[fm];split
  ·rename_i e;refine pairwise_cons.mpr ⟨fun z hz=>?_,h⟩;rcases mem_cons.mp hz with rfl | hz
   ·exact e
   ·exact kw (lk x (.head _) y<|.tail _<|.head _) (lk y (.tail _<|.head _) z<|.tail _<|.tail _ hz) e (h'.1 z hz)
  ·rename_i e;refine pairwise_cons.mpr ⟨fun z hz=>?_,rl h'.2 (fun z hz=>n z<|.tail _ hz) fun a ha b hb=>lk a ?_ b ?_⟩
   ·rcases mem_cons.mp ((mY x r).mem_iff.mp hz) with rfl | hz
    ·have t:=gX (lk z (.head _) y<|.tail _<|.head _) (n y<|.head _);cases q:u_ y z with
     | true=>rfl
     | false=>rw[q] at t;exact absurd t e
    ·exact h'.1 z hz
   ·rcases mem_cons.mp ha with rfl | ha
    ·exact .head _
    ·exact .tail _ (.tail _ ha)
   ·rcases mem_cons.mp hb with rfl | hb
    ·exact .head _
    ·exact .tail _ (.tail _ hb)
theorem mZ:∀ {l:List Im},l.Nodup->(∀ a∈l,∀ b∈l,b7 6 a b=true)->(bH u_ l).Pairwise (fun a b=>u_ a b=true)
 | [],_,_=>.nil
 | x::r,nd,lk=>by
  have HN:=nodup_cons.mp nd;refine rl (mZ HN.2 fun a ha b hb=>lk a (.tail _ ha) b<|.tail _ hb) (fun y hy e=>HN.1 (by rw[e];exact (gZ r).mem_iff.mp hy)) fun a ha b hb=>lk a ?_ b ?_
  ·rcases mem_cons.mp ha with rfl | ha
   ·exact .head _
   ·exact .tail _ ((gZ r).mem_iff.mp ha)
  ·rcases mem_cons.mp hb with rfl | hb
   ·exact .head _
   ·exact .tail _ ((gZ r).mem_iff.mp hb)
theorem kC{l:List Im}(o:Fd ds)(p:l.Perm ds)(h:l.Pairwise (fun a b=>u_ a b=true)):l=bH u_ ds:=by
 refine rk (p.trans (gZ ds).symm) h (mZ o.nd o.FX) fun a ha b hb e=>?_;have t:=gX (o.FX a (p.mem_iff.mp ha) b<|p.mem_iff.mp hb) (fun z=>by subst z;rw[mV] at e;cases e);rw[e] at t;cases q:u_ b a with
 | false=>rfl
 | true=>rw[q] at t;cases t
def cV:Im->Bool
 | .tup (.int _::_)=>true
 | _=>false
def f6:Im->Bool
 | .tup (.tup _::_)=>true
 | _=>false
section
variable{prog:Program}{w:World}{A:Around}{E:Value->Shared->Prop}{s:Shared}
theorem rm{b:Bool}(n:Nat)(hu:A.units+n+2<cLine){Q:Bool->Shared->Prop}:∀ {ds es:List Im}{vs ws:List Value}{i:Nat},bM n ds es=true->aO s.heap ds vs->aO s.heap es ws->(b=true->i=0->∃ k r,ds=.int k::r)->Q (ci ds es) s->KatLex prog w A b false Q (vs.zip ws) i s
 | [],[],vs,ws,i,_,h1,h2,_,q=>by
  rw[show vs=[] from h1];exact kat_nil q
 | d::ds,e::es,vs,ws,i,h,h1,h2,hb,q=>by
  rw[bM,and_eq_true] at h;obtain⟨v,vs,rfl,a1,a2⟩:=h1;obtain⟨u,ws,rfl,b1,b2⟩:=h2;rw[List.zip_cons_cons];obtain⟨p1,p2,p3⟩:=ku h.1;refine kat_cons (dg n p1 p2 (by lia) a1 b1 prog w _ _ ?_);rw[p3];rw[ci] at q;cases hq:Im.beq d e with
  | true=>
   rw[hq,if_pos rfl] at q;exact kat_yes (rm n hu h.2 a2 b2 (fun _ z=>by lia) q)
  | false=>
   rw[hq,if_neg Bool.false_ne_true] at q;refine kat_no ?_;by_cases hf:(b && i == 0)=true
   ·rw[hf];rw[and_eq_true] at hf;obtain⟨k,r,z⟩:=hb hf.1 (by simpa using hf.2);cases z;rcases mX h.1 with ⟨i',j,z1,z2⟩ | ⟨_,_,_,_,z1,_⟩
    ·cases z1;cases z2;obtain⟨t,rfl⟩:=a1;obtain⟨t',rfl⟩:=b1;rw[u_] at q;exact oneLt_int q
    ·cases z1
   ·rw[show (b && i == 0)=false by simpa using hf];exact kat_one _ _ (rg n h.1 hu a1 b1 prog w _ _ q)
 | [],_::_,_,_,_,h,_,_,_,_=>by cases h
 | _::_,[],_,_,_,h,_,_,_,_=>by cases h
theorem m5{b:Bool}(o:Fd ds)(iv:aO s.heap ds e_)(ht:∀ d∈ds,∃ r,d=.tup r)(hb:b=true->∀ d∈ds,cV d=true)(hu:A.units+9<cLine):
  cl e_.length (dS ds) (kas_cmp prog w A (tuples' b)<|e_.toArray.zip e_.toArray) s:=by
 intro i j C hi hj q;have hl:=iv.length;have mi:=gY (ds:=ds) (i:=i) (by lia);have mj:=gY (ds:=ds) (i:=j) (by lia);unfold dS at q;rw[rj o mi mj] at q;obtain⟨d1,e1,r1⟩:=iv.get (j:=i) (v:=e_[i]) (by simp);obtain⟨d2,e2,r2⟩:=iv.get (j:=j) (v:=e_[j]) (by simp);rw[getD_eq_getElem?_getD,e1,getD_eq_getElem?_getD,e2] at q;rw[getD_eq_getElem?_getD,e1] at mi;rw[getD_eq_getElem?_getD,e2] at mj;obtain⟨a,ea⟩:=ht d1 mi;obtain⟨b',eb⟩:=ht d2 mj;subst ea eb;have lk:bM 5 a b'=true:=o.FX _ mi _ mj;unfold kas_cmp;rw[kat_item rfl,kat_item rfl,getD_eq_getElem?_getD,getD_eq_getElem?_getD,List.getElem?_eq_getElem hi,List.getElem?_eq_getElem hj];show wpAny _ _ (keyLt' (tuples' b) e_[i] e_[j]) _ _ _;obtain⟨x,ox,xs,n1,z1,g1,g2,g3,g4⟩:=r1;obtain⟨y,oy,ys,n2,z2,k1,k2,k3,k4⟩:=r2;rw[z1,z2];refine kat_lt (b:=b) g1 g3 k1 k3 ?_;have l1:a.length=xs.size:=by rw[g4.length,length_toList]
 have l2:b'.length=ys.size:=by rw[k4.length,length_toList]
 rw[show decide (xs.size<ys.size)=false from decide_eq_false (by have:=mU lk;lia)];refine rm 5 (by lia) lk g4 k4 (fun FY _=>?_) (by have q':C (u_ (.tup a)<|.tup b') s:=q;rw[u_] at q';exact q');have:=hb FY _ mi;unfold cV at this;split at this
 ·rename_i h;cases h;exact⟨_,_,rfl⟩
 ·cases this
theorem rn:∀ {ds:List Im}{e_:List Value},aO s.heap ds e_->(∀ d∈ds,cV d=true)\/(∀ d∈ds,f6 d=true)->∃ fs,KatTups s.heap e_ fs/\fs.length=e_.length/\
  ((∀ d∈ds,cV d=true)->∀ v∈fs,∃ i t,v=Value.int i t)/\((∀ d∈ds,f6 d=true)->∀ v∈fs,∃ a ob,v=Value.ref a/\s.heap.get? a=some ob/\ob.cls=.type "tuple")
 | [],e_,h,_=>by
  rw[show e_=[] from h];exact⟨[],trivial,rfl,(fun _ _ h=>nomatch h),(fun _ _ h=>nomatch h)⟩
 | d::ds,e_,h,hf=>by
  obtain⟨v,r,rfl,h1,h2⟩:=h;obtain⟨fs,t1,t2,t3,t4⟩:=rn h2 (hf.imp (fun z x hx=>z x<|.tail _ hx) fun z x hx=>z x<|.tail _ hx);have sh:∃ f r',d=.tup (f::r'):=by
   rcases hf with z | z
   ·have:=z d (.head _);unfold cV at this;split at this
    ·exact⟨_,_,rfl⟩
    ·cases this
   ·have:=z d (.head _);unfold f6 at this;split at this
    ·exact⟨_,_,rfl⟩
    ·cases this
  obtain⟨f,r',rfl⟩:=sh;obtain⟨a,o,items,n,rfl,g1,g2,g3,g4⟩:=h1;obtain⟨fv,rv,e,g5,g6⟩:=g4;have Lv:items[0]?=some fv:=by
   rw[<- getElem?_toList,e];rfl
  refine⟨fv::fs,KatTups.cons g1 g2 g3 Lv t1,by simp[t2],fun z u hu=>?_,fun z u hu=>?_⟩
  ·rcases mem_cons.mp hu with rfl | hu
   ·have:=z _ (.head _);unfold cV at this;split at this
    ·rename_i q;cases q;exact⟨_,g5⟩
    ·cases this
   ·exact t3 (fun x hx=>z x<|.tail _ hx) u hu
  ·rcases mem_cons.mp hu with rfl | hu
   ·have:=z _ (.head _);unfold f6 at this;split at this
    ·rename_i q;cases q;obtain⟨a',o',_,_,e',k1,k2,_⟩:=g5;exact⟨a',o',e',k1,k2⟩
    ·cases this
   ·exact t4 (fun x hx=>z x<|.tail _ hx) u hu
end
section
variable{X:Cx}
theorem ak.pick{H:Hp}{ys:List V}(h:ak H ds ys):∀ {p:List Nat},(∀ k∈p,k<ds.length)->ak H (p.map fun i=>ds.getD i .j_) (p.map fun i=>ys.getD i .j_)
 | [],_=>rfl
 | k::p,hp=>by
  obtain⟨v,e1,e2⟩:=h.get (i:=k) (d:=ds.getD k .j_) (by
   have:=hp k (.head _);rw[getD_eq_getElem?_getD,List.getElem?_eq_getElem this];rfl)
  refine⟨v,_,?_,e2,h.pick fun j hj=>hp j<|.tail _ hj⟩;rw[map_cons,getD_eq_getElem?_getD,e1];rfl
structure Er(ds:List Im):Prop where
 ord:Fd ds
 fst:(∀ d∈ds,cV d=true)\/(∀ d∈ds,f6 d=true)
theorem Er.tup(o:Er ds):∀ d∈ds,∃ r,d=.tup r:=fun d hd=>by
 rcases o.fst with z | z
 ·have:=z d hd;unfold cV at this;split at this
  ·exact⟨_,rfl⟩
  ·cases this
 ·have:=z d hd;unfold f6 at this;split at this
  ·exact⟨_,rfl⟩
  ·cases this
theorem aO.EE{h h':Heap}(k:∀ b o,h.get? b=some o->h'.get? b=some o){ds:List Im}{vs:List Value}(x:aO h ds vs):aO h' ds vs:=x.keep fun a o _ _ e _ _=>k a o e
theorem m6{h:Heap}{s:Shared}(o:Er ds)(h2:2<=e_.length)(iv:aO s.heap ds e_)(A:Around)(E:Value->Shared->Prop)(Q:SortKind->Shared->Prop)(hq:Q (tuples'<|decide (∀ d∈ds,cV d=true)) s):
  wpAny (model X.prog X.w) A (keyKind' e_.toArray) Q E s:=by
 obtain⟨fs,t1,t2,t3,t4⟩:=rn iv o.fst;have hl:=iv.length;by_cases hf:∀ d∈ds,cV d=true
 ·rw[decide_eq_true hf] at hq;refine kat_kind (T:=Value.type "int") t1 (by lia) (fun v hv=>?_) rfl ?_
  ·obtain⟨i,t,rfl⟩:=t3 hf v hv;exact Looks.of_pure rfl
  ·rw[show (Value.type "int" != Value.type "tuple")=true by decide];exact hq
 ·rw[decide_eq_false hf] at hq;have Q3:=o.fst.resolve_left hf;refine kat_kind (T:=Value.type "tuple") t1 (by lia) (fun v hv=>?_) rfl ?_
  ·obtain⟨a,ob,rfl,g1,g2⟩:=t4 Q3 v hv;have:Looks (model X.prog X.w) s.heap (typeOf<|.ref a) ob.cls:=(Looks.ld g1).andThen .now;rw[g2] at this;exact this
  ·rw[show (Value.type "tuple" != Value.type "tuple")=false by decide];exact hq
theorem rp(hc:X.calm=true)(hu:X.A.units+20<cLine):bb X (.builtin "sorted") (fun xs H Q=>∃ (a:Addr) (ds:List Im) (ys:List V),xs=[.ref a]/\(En X.K H a ys\/A_ X.K H a ys)/\ak H ds ys/\Er ds/\
  ∀ l zs,H l=none->ak H (bH u_ ds) zs->Q (.ref l) (upd H l<|.lst zs)):=by
 intro pins s σ H xs us Q I r h;obtain⟨a,ds,ys,rfl,hs,hi,o,q⟩:=h;obtain⟨u,rfl,ru⟩:=b9 r;cases ru;have hz:ys.length<=1000:=by rw[<- hi.length];exact o.ord.J0
 have go:∀ {T:String}{e_:List Value}{n:Nat}{ob:Obj},(T = "list" \/ T = "tuple")->au ys e_->s.heap.get? a=some ob->ob.cls=.type T->ob.data=.seq e_.toArray n->wpAny (model X.prog X.w) X.A (call (.builtin "sorted") [.ref a]) (EP X pins σ Q) X.xe s:=by
  intro T e_ n ob hT rv e eC eD;have iv:=hi.FA I.l_ rv;have li:e_.length=ds.length:=iv.length.symm;refine qJ hc (dS ds) (tuples'<|decide (∀ d∈ds,cV d=true)) I rv hT e eC eD hz (fun h2 h6 tk k A E Q hq=>m6 (h:=h6) o h2 (iv.EE k) A E Q hq) (fun h6 tk k=>?_) (by rw[li];exact kA o.ord) (.inl (by have:=o.ord.J0;lia)) fun p l r1 r2 fl=>?_
  ·refine m5 (s:={ s with heap:=h6,toks:=tk }) o.ord (iv.EE k) o.tup (fun hb=>?_) (by show X.A.units+1+1+9<cLine;lia);exact of_decide_eq_true hb
  ·rw[li] at r1 r2;have e1:(p.toList.map fun i=>ds.getD i .j_)=bH u_ ds:=kC o.ord (kg r1) (NQ o.ord r1 r2);refine q l _ fl ?_;rw[<- e1];exact hi.pick fun k hk=>mem_range.mp (r1.mem_iff.mp hk)
 rcases hs with hs | hs
 ·obtain⟨e_,rv,p,_⟩:=I.list hs;obtain⟨ob,e,eC,n,eD⟩:=p.isList;exact go (.inl rfl) rv e eC eD
 ·obtain⟨e_,rv,p,_⟩:=I.tuple hs;obtain⟨ob,e,eC,n,eD⟩:=p;exact go (.inr rfl) rv e eC eD
end
section
variable{X:Cx}
theorem rq{H:Hp}:∀ {kvs:List (List Im×V)}{es:List (List Im×Addr×Value)},Paired (fun (p:List Im×V) (q:List Im×Addr×Value)=>p.1=q.1/\GN H p.1 q.2.1/\aw p.2 q.2.2) kvs es->
  ak H (kvs.map fun p=>.tup p.1) (es.map fun x=>V.ref x.2.1)/\au (es.map fun x=>V.ref x.2.1) (es.map fun x=>Value.ref x.2.1)
 | _,_,.nil=>⟨rfl,.nil⟩
 | _,_,.cons r t=>by
  obtain⟨h1,h2⟩:=rq t;exact⟨⟨_,_,rfl,r.2.1.2,h1⟩,.cons rfl h2⟩
theorem zY(hc:X.calm=true)(hu:X.A.units+20<cLine):bb X (.builtin "sorted") (fun xs H Q=>∃ (d:Addr) (kvs:List (List Im×V)),xs=[.ref d]/\H d=some (.dT kvs)/\Er (kvs.map fun p=>.tup p.1)/\
  ∀ l zs,H l=none->ak H (bH u_<|kvs.map fun p=>.tup p.1) zs->Q (.ref l) (upd H l<|.lst zs)):=by
 intro pins s σ H xs us Q I r h;obtain⟨d,kvs,rfl,hd,so,q⟩:=h;obtain⟨u,rfl,ru⟩:=b9 r;cases ru;obtain⟨z,lo,es,rel,o,Q4,ep,e1,e2,e3,e4,nd⟩:=I.l_ d _ hd;obtain⟨hi,rv⟩:=rq rel;have Pd:Hc s.heap d (es.map fun x=>Value.ref x.2.1) ep:=⟨o,Q4,e1,e2,e3,by rw[e4,List.map_map];rfl⟩;generalize (es.map fun x=>Value.ref x.2.1)=e_ at rv Pd;generalize (es.map fun x=>V.ref x.2.1)=ys at hi rv;generalize HB:(kvs.map fun p=>Im.tup p.1)=ds at hi so q;have iv:=hi.FA I.l_ rv;have li:e_.length=ds.length:=iv.length.symm;have J0:=so.ord.J0;have hl:ys.length=e_.length:=rv.length;have Lr:e_.length<=sizeLine:=Nat.le_trans (by lia) (show 1000<=sizeLine by decide);refine Calls.call_function_entry kind_sorted plain_sorted entry_sorted (args_sorted1 _) ?z
 case z=>
  unfold Builtin.«sorted»;refine wpAny_bind (m:=checkCount "sorted" 1 1 _) (wpAny_pure<|wpAny_bind<|kdu_collect (A:=X.A.in1) (yc lo) (I.ok.hd hc) Pd Lr fun h' tk acc IP Ft=>?_);have ea:acc.toList=e_:=by
   apply List.ext_getElem
   ·rw[length_toList];exact Ft.1
   ·intro i h1 h2;have:=Ft.2 i acc.toList[i] (by rw[<- getElem?_toList];exact List.getElem?_eq_getElem h1);have this:e_[i]?=some acc.toList[i]:=this;rw[List.getElem?_eq_getElem h2] at this;exact (Option.some.inj this).symm
  rw[ea];refine wpAny_bind (wpAny_newList ?_ Lr);have oB:(h'.push<|seqObj "list" e_.toArray 0).get? h'.objs.size=some (seqObj "list" e_.toArray 0):=Heap.get?_push_size _ rfl;have kB:∀ b o,s.heap.get? b=some o->(h'.push<|seqObj "list" e_.toArray 0).get? b=some o:=fun b o e=>Heap.get?_push_of_some _ (IP b o e);have I1:Inv X pins σ H { s with heap:=h',toks:=tk }:=I.kept IP;have nB:∀ b o,s.heap.get? b=some o->b≠h'.objs.size:=fun b o e=>ne_of_lt (Heap.lt_size<|IP b o e);refine wpAny_bind (wpAny_holding<|wpAny_call_entry slot_list_sort ⟨_,oB,rfl⟩ entry_list_sort ?y<|args_list_sort _)
  case y=>
   refine mM (s:={ s with heap:=h'.push (seqObj "list" e_.toArray 0),toks:=tk }) (dS ds) (tuples'<|decide (∀ d∈ds,cV d=true)) oB
    (fun h2 h6 k6 Q hq=>m6 (X:=X) (h:=h6) so h2 (iv.EE fun b o eb=>k6 b o (nB b o eb)<|kB b o eb) _ _ Q hq)
    (fun h6 k6=>m5 (s:={ s with heap:=h6,toks:=tk }) so.ord (iv.EE fun b o eb=>k6 b o (nB b o eb)<|kB b o eb) so.tup (fun hb=>of_decide_eq_true hb) (by show X.A.units+1+1+9<cLine;lia))
    (by rw[li];exact kA so.ord) (.inl (by lia)) (by lia) fun p h2 r1 r2 k2 ⟨e9,Ls⟩=>⟨_,rfl,wpAny_pure ⟨_,rfl,?_⟩⟩;have fB:H h'.objs.size=none:=I1.l_.fresh (Nat.le_refl _);have NK:∀ b o,h'.get? b=some o->b≠h'.objs.size:=fun b o e=>ne_of_lt (Heap.lt_size e);rw[li] at r1 r2;refine⟨.ref h'.objs.size,upd H h'.objs.size<|.lst<|p.toList.map fun i=>ys.getD i .j_,?_,rfl,q _ _ fB ?_⟩
   ·refine I1.laid (t':=tk) (fun b u e=>k2 b u (NK b u e)<|Heap.get?_push_of_some _ e) (Nat.le_refl _) ⟨?_,_,e9,?_,Ls⟩
    ·rw[length_map,length_toList,r1.size];lia
    ·refine kh (by simp) fun i v u h1 h2=>?_;rw[List.getElem?_map] at h1 h2;cases HS:p.toList[i]? with
     | none=>rw[HS] at h1;cases h1
     | some k=>
      rw[HS] at h1 h2;cases h1;cases h2;have hk:k<e_.length:=by rw[li];exact mem_range.mp (r1.mem_iff.mp<|mem_of_getElem? HS)
      obtain⟨u,h3,h4⟩:=rv.get (i:=k) (x:=ys[k]'(by lia)) (by simp[show k<ys.length by lia]);rw[List.getElem?_eq_getElem hk] at h3;have h3:=Option.some.inj h3;simp only[List.getD,List.getElem?_eq_getElem hk,List.getElem?_eq_getElem (show k<ys.length by lia),getD_some];rw[h3];exact h4
   ·rw[<- kC so.ord (kg r1) (NQ so.ord r1 r2)];exact hi.pick fun k hk=>mem_range.mp (r1.mem_iff.mp hk)
def i9(ds:List Im):Bool:=decide (ds.length<=1000) && ds.all (fun a=>ds.all fun b=>b7 6 a b) && decide ds.Nodup && (ds.all cV || ds.all f6)
theorem ja:i9 ds=true↔Er ds:=by
 unfold i9;rw[and_eq_true,and_eq_true,and_eq_true,or_eq_true,decide_eq_true_iff,decide_eq_true_iff,all_eq_true,all_eq_true,all_eq_true];constructor
 ·rintro⟨⟨⟨h1,h2⟩,h3⟩,h4⟩;exact⟨⟨h1,fun a ha b hb=>all_eq_true.mp (h2 a ha) b hb,h3⟩,h4⟩
 ·rintro⟨⟨h1,h2,h3⟩,h4⟩;exact⟨⟨⟨h1,fun a ha=>all_eq_true.mpr fun b hb=>h2 a ha b hb⟩,h3⟩,h4⟩
def d9(ds:List Im):Option Vl:=if i9 ds=true then some (.lst<|bH u_ ds) else none
def ER:OpN:=fun ds=>match ds with
 | [.lst x]=>match Fv x with
  | some ns=>vSorted [.lst x]
  | none=>d9 x
 | [.im (.tup x)]=>d9 x
 | [.dT kvs]=>d9 (kvs.map fun p=>.tup p.1)
 | _=>none
theorem m7{d:Vl}(h:d9 ds=some d):Er ds/\d=.lst (bH u_ ds):=by
 unfold d9 at h;split at h
 ·rename_i e;cases h;exact⟨ja.mp e,rfl⟩
 ·cases h
theorem rz{H:Hp}:∀ {kvs:List (List Im×Im)}{Ex:List (List Im×V)},E8 H kvs Ex->(kvs.map fun p=>Im.tup p.1)=Ex.map fun p=>Im.tup p.1
 | _,_,.nil=>rfl
 | _,_,.cons r t=>by rw[map_cons,map_cons,rz t,r.1]
theorem rA(hc:X.calm=true)(hu:X.A.units+20<cLine):cv X (.builtin "sorted") ER:=by
 intro pins s σ H xs us Q I r ⟨ds,d,rd,e,q⟩;unfold ER at e;split at e
 ·rename_i x;split at e
  ·exact zp hc hu pins s σ H xs us Q I r ⟨_,d,rd,e,q⟩
  ·obtain⟨so,rfl⟩:=m7 e;obtain⟨v,rfl,_,p,ys,rfl,h1,h2,_⟩:=bU rd;exact rp hc hu pins s σ H _ us Q I r ⟨p,x,ys,rfl,.inl<|En.of h1,h2,so,fun l zs fl hz=>Out.l q fl hz⟩
 ·rename_i x;obtain⟨so,rfl⟩:=m7 e;obtain⟨v,rfl,hv⟩:=bU rd;obtain⟨p,ys,rfl,h1,h2⟩:=hv.i;exact rp hc hu pins s σ H _ us Q I r ⟨p,x,ys,rfl,.inr<|A_.of h1,h2,so,fun l zs fl hz=>Out.l q fl hz⟩
 ·rename_i kvs;obtain⟨so,rfl⟩:=m7 e;obtain⟨v,rfl,_,p,Ex,rfl,h1,h2,_⟩:=bU rd;rw[rz h2] at so q;exact zY hc hu pins s σ H _ us Q I r ⟨p,Ex,rfl,h1,so,fun l zs fl hz=>Out.l q fl hz⟩
 ·cases e
end
end L2
namespace PySem
open Sem (wp)
theorem zZ:typeLookup (.type "list") "keys" = pure none:=by rw[typeLookup_type,builtinLookup_eq_fast];kernel_rfl
theorem z9{prog:Program}{w:World}{A:Around}{E:Value->Shared->Prop}{s:Shared}{a:Addr}{xs:Array Value}{k:Nat}{Q:Option Value->Shared->Prop}(hx:s.heap.get? a=some { cls:=.type "list",data:=.seq xs k })(hA:A.handled=none)(h:∀ h' tk,(∀ b o,s.heap.get? b=some o->h'.get? b=some o)->Q none { s with heap:=h',toks:=tk }):wpAny (model prog w) A (getAttr? (.ref a) "keys") Q E s:=by
 obtain⟨hp,g,d,tk,os⟩:=s;have hT:∀ Pe,(⟨hp,g,d,Pe,os⟩:Shared).TypeIs (.ref a) "list" := fun _=>⟨_,hx,rfl⟩;have f1:=sub_AttributeError;have f3:=F.slot_list_getattribute.lookup;have f4:=F.slot_list_getattribute.bind (.ref a);have f5:=am_list_getattr_none;unfold getAttr? getAttrBy? getAttrBy;repeat (any_goals (first | assumption | exact hT _ | ((with_reducible show wpAny _ _ (call (Value.builtin "list.__getattribute__") _ _) _ _ _);refine call_meets F.slot_list_getattribute (hT _) am_entry_list_getattribute (F.args_list_getattribute_2 _ _) (meets_getattribute_miss_list a xs k _ "keys" _ zZ (by decide +kernel) (by decide)) ⟨hx,hA,fun h' Pe e Gx=>?_⟩) | wp_step))
 obtain⟨t',u',he⟩:=Gx.there;show wpAny _ _ (getattributeRaised _ _ _ _ _ _ _) _ _ _;unfold getattributeRaised;have hE:∀ NR,(⟨h',g,d,NR,os⟩:Shared).TypeIs (.ref e) "AttributeError" := fun _=>⟨_,he,rfl⟩;repeat (any_goals (first | assumption | exact hE _ | wp_step))
 exact h h' _ Gx.keeps
end PySem
namespace PySem
namespace F
theorem FM:entryFor table "dict.update.loop" = some Builtin.«dict.update.loop»:=entryFor_of_tree (by kernel_rfl)
theorem EF:plainId "dict.update.loop" = true:=by decide +kernel
end F
end PySem
namespace L2
open PySem PySem.Spec PyProof.Rows PySem.W
theorem m8{α β:Type}{F:α->β->Prop}:∀ {l₁:List α}{l₂:List β},Paired F l₁ l₂->∀ (i:Nat),i<l₁.length->∃ a b,l₁[i]?=some a/\l₂[i]?=some b/\F a b
 | _,_,.nil,i,h=>by simp at h
 | _,_,.cons r t,0,h=>⟨_,_,rfl,rfl,r⟩
 | _,_,.cons r t,i+1,h=>by
  obtain⟨a,b,x,y,z⟩:=m8 t i (by simpa using h);exact⟨a,b,by simpa using x,by simpa using y,z⟩
def GH:List Im->Option (List<|List Im×Im)
 | []=>some []
 | .tup [.tup k,d]::r=>(GH r).map fun s=>(k,d)::s
 | _=>none
theorem Aa:∀ {x:List Im}{ps:List (List Im×Im)},GH x=some ps->x=ps.map fun p=>.tup [.tup p.1,p.2]:=by
 intro x;induction x with
 | nil=>intro ps h;cases h;rfl
 | cons a x ih=>
  intro ps h;unfold GH at h;split at h
  ·cases h;rename_i e;cases e
  ·rename_i k d r e;cases e;obtain⟨s,e1,e2⟩:=map_eq_some_iff.mp h;cases e2;rw[map_cons,<- ih e1]
  ·cases h
def g0(ps:List (List Im×Im)):List (List Im×Im):=ps.foldl (fun a p=>dz a p.1 p.2) []
def m9(H:Hp)(v:V)(p:List Im×Im):Prop:=∃ t a y,v=.ref t/\H t=some (.tup [.ref a,y])/\GN H p.1 a/\Ef H p.2 y
theorem rB{H:Hp}:∀ {ps:List (List Im×Im)}{ys:List V},(∀ p∈ps,Im.keys 7 p.1=true)->ak H (ps.map fun p=>.tup [.tup p.1,p.2]) ys->Paired (m9 H) ys ps
 | [],ys,_,h=>by rw[show ys=[] from h];exact .nil
 | p::ps,ys,hk,h=>by
  obtain⟨v,r,rfl,⟨t,zs,rfl,h1,v1,r1,rfl,h2,v2,r2,rfl,h3,h4⟩,h5⟩:=h;cases (show r2=[] from h4);obtain⟨a,ws,rfl,g1,g2⟩:=h2;exact .cons ⟨t,a,v2,rfl,h1,⟨hk p<|.head _,a,ws,rfl,g1,g2⟩,h3⟩ (rB (fun q hq=>hk q<|.tail _ hq) h5)
section
variable{X:Cx}{pins:List (Addr×Obj)}{σ:L2.St}{H:Hp}{s0:Shared}
theorem KT.is{kvs:List (List Im×V)}{xs:List (List Im×Addr×Value)}(r:KT H kvs xs):∀ x∈xs,GN H x.1 x.2.1:=by
 intro x hx;obtain⟨i,hi,rfl⟩:=mem_iff_getElem.mp hx;obtain⟨p,q,h1,h2,h3,h4,_⟩:=m8 r i (by rw[Paired.length r];exact hi);rw[List.getElem?_eq_getElem hi] at h2;have h2:=Option.some.inj h2;subst h2;rw[<- h3];exact h4
theorem ng(I0:Inv X pins σ H s0){D:Addr}{h h':Heap}{kvs:List (List Im×V)}{xs:List (List Im×Addr×Value)}(dd:h.DictOfH (be X.prog X.w) D xs)(kt:KT H kvs xs)(kp:∀ b o,s0.heap.get? b=some o->h'.get? b=some o)(kD:∀ o,h.get? D=some o->h'.get? D=some o):h'.DictOfH (be X.prog X.w) D xs:=by
 obtain⟨o,es,ep,h1,h2,h3,h4,_,h5⟩:=dd;have I1:Inv X pins σ H { s0 with heap:=h' }:=I0.kept (t':=s0.toks) kp;exact⟨o,es,ep,kD o h1,h2,h3,h4,fun x hx=>fK (h:=h') I1.l_<|kt.is x hx,h5⟩
theorem Ab(I0:Inv X pins σ H s0){A:Around}(hu:A.units+20<cLine){D It l:Addr}{vs:List Value}{ys:List V}{ps:List (List Im×Im)}{St:Nat->Heap->Prop}{R:Result->Shared->Prop}(rv:au ys vs)(hP:Paired (m9 H) ys ps)(hz:ps.length<=1000)(W:Walks X.prog X.w A.in1 It [It,l] [It] vs.length (fun i v=>vs[i]?=some v) St)(nD:s0.heap.get? D=none)(nI:s0.heap.get? It=none)(DI:D≠It)(Dl:D≠l)(fin:∀ (s:Shared) (xs:List (List Im×Addr×Value)) (kvs:List (List Im×V)),(∀ b o,s0.heap.get? b=some o->s.heap.get? b=some o)->s.heap.DictOfH (be X.prog X.w) D xs->KT H kvs xs->E8 H (g0 ps) kvs->kvs.length<=1000->
   s.gens=s0.gens->s.drawn=s0.drawn->s.os=s0.os->R (.ok<|.ret .none) s):
  ∀ (m i:Nat) (t:Tok) (s:Shared) (xs:List (List Im×Addr×Value)) (kvs:List (List Im×V)),vs.length - i=m->i<=vs.length->St i s.heap->(∀ b o,s0.heap.get? b=some o->s.heap.get? b=some o)->
   s.heap.DictOfH (be X.prog X.w) D xs->KT H kvs xs->E8 H (g0<|ps.take i) kvs->kvs.length<=i->s.gens=s0.gens->s.drawn=s0.drawn->s.os=s0.os->
   codeAny (model X.prog X.w) A (.builtin "dict.update.loop" ⟨[.ref D,.ref It,.int i t,.none],[]⟩) R s:=by
 have ly:vs.length=ps.length:=by rw[<- rv.length,Paired.length hP]
 intro m;induction m with
 | zero=>
  intro i t s xs kvs hm hi st kp dd kt hk hl g1 g2 g3;have ei:i=vs.length:=by lia
  refine codeAny_builtin F.FM ?_;rw[Around.under_plainId F.EF _];refine wpAny_bind (m:=pyNext (.ref It)) (W.done s _ _ (ei ▸ st) fun h' tk keep=>?_);refine wpAny_bind (m:=Builtin.Dict.addKeywords D []) (wpAny_pure<|wpAny_pure ?_);have kD:∀ b o,b≠It->s.heap.get? b=some o->h'.get? b=some o:=fun b o hb e=>keep b o (by simpa using hb) e;refine fin _ xs kvs (fun b o e=>kD b o (fun z=>by rw[z,nI] at e;cases e)<|kp b o e) ?_ kt (by rw[List.take_of_length_le (by lia)] at hk;exact hk) (by lia) g1 g2 g3;exact ng I0 dd kt (fun b o e=>kD b o (fun z=>by rw[z,nI] at e;cases e)<|kp b o e) fun o e=>kD D o DI e
 | succ m ih=>
  intro i t s xs kvs hm hi st kp dd kt hk hl g1 g2 g3;have lt:i<vs.length:=by lia
  refine codeAny_builtin F.FM ?_;rw[Around.under_plainId F.EF _];refine wpAny_bind (m:=pyNext (.ref It)) (W.item i s _ _ lt st fun v h' tk hv q_ keep=>?_);have kD:∀ b o,b≠It->s.heap.get? b=some o->h'.get? b=some o:=fun b o hb e=>keep b o (by simpa using hb) e;obtain⟨y,c,e1,e2,p,a,yv,rfl,hp,ha,hy⟩:=m8 hP i (by rw[rv.length];exact lt);obtain⟨u,e3,e4⟩:=rv.get e1;rw[hv] at e3;cases e3;cases e4;have NS:∀ b o,s0.heap.get? b=some o->h'.get? b=some o:=fun b o e=>kD b o (fun z=>by rw[z,nI] at e;cases e) (kp b o e);have I2:Inv X pins σ H { s0 with heap:=h' }:=I0.kept (t':=s0.toks) NS;have IY:=ng I0 dd kt NS fun o e=>kD D o DI e;obtain⟨_,e_,Q5,o,ho,Mh,n,Q6⟩:=I2.l_ _ _ hp;obtain⟨w1,w2,rfl,r1,r2⟩:=lP Q5;cases r1;show wpAny (model X.prog X.w) A.in1 (holding [.ref p] _ >>= fun _=>again _) _ _ _;refine wpAny_bind (wpAny_holding<|wpAny_bind<|wpAny_tryCatch ?_);unfold Builtin.Dict.pairItems;refine wpAny_bind (wpAny_typeOf (s:={ s with heap:=h',toks:=tk }) (⟨o,ho,Mh⟩:Shared.TypeIs { s with heap:=h',toks:=tk } (.ref p) "tuple") ?_);rw[if_pos (by decide)];refine wpAny_bind (wpAny_seqItems (s:={ s with heap:=h',toks:=tk }) ho Q6<|wpAny_pure ?_);show wpAny (model X.prog X.w) A.in1 (holding [.ref a,w2]<|dictSet D (.ref a) w2) _ _ _;refine wpAny_holding (wpAny_dictSet_heap (s:={ s with heap:=h',toks:=tk }) (k:=c.1) (knd:=be X.prog X.w) (iD hu) (fK (h:=h') I2.l_ ha) IY (fun h3 Q7 sb=>?_) (by
   have:=Paired.length kt;exact Nat.le_trans (show xs.length<=1000 by lia) (by decide)))
  have Pf:∀ b o,b≠D->h'.get? b=some o->h3.get? b=some o:=fun b o hb e=>(sb.2 b hb).trans e;have Q8:=kt.put c.1 (b:=a) (y:=yv) (u:=w2) ha r2;have Q9:ps.take (i+1)=ps.take i++[c]:=by
   have Fg:=(List.getElem?_eq_some_iff.mp e2);rw[List.take_succ_eq_append_getElem Fg.1,Fg.2]
  have GE:E8 H (g0<|ps.take<|i+1) (ck kvs c.1 yv):=by
   rw[Q9];unfold g0;rw[List.foldl_append];exact E8.put hy hk
  refine wpAny_pure ⟨plainId_quiet F.EF _,ih (i+1) 0 _ _ _ (by lia) lt (W.frame _ _ _ q_ fun b hb o e=>Pf b o (fun z=>by
    subst z;rcases mem_cons.mp hb with z | hb
    ·exact DI z
    ·exact Dl (mem_singleton.mp hb)) e) (fun b o e=>Pf b o (fun z=>by rw[z,nD] at e;cases e)<|NS b o e) Q7 Q8 GE ?_ g1 g2 g3⟩
  unfold ck;split
  ·rw[length_map];lia
  ·simp;lia
theorem Ac(hc:X.calm=true)(hu:X.A.units+30<cLine):bb X (.type "dict") (fun xs H Q=>∃ (l:Addr) (ys:List V) (ps:List (List Im×Im)),xs=[.ref l]/\H l=some (.lst ys)/\Paired (m9 H) ys ps/\ps.length<=1000/\
  ∀ (d:Addr) (kvs:List (List Im×V)),H d=none->E8 H (g0 ps) kvs->Q (.ref d) (upd H d<|.dT kvs)):=by
 intro pins s σ H xs us Q I r h;obtain⟨l,ys,ps,rfl,hl,hP,hz,q⟩:=h;obtain⟨u,rfl,ru⟩:=b9 r;cases ru;obtain⟨z,e_,n,rv,e⟩:=I.l_ l _ hl;have ll:l<s.heap.objs.size:=Heap.lt_size e;refine callType_codes (Q₁:=fun obj s₁=>obj=.ref s.heap.objs.size/\s₁={ s with heap:=s.heap.push { cls:=.type "dict",data:=.dict #[] } }) PySem.F.kt_called_dict (PySem.F.kt_typeCall_dict_1 _) PySem.F.entry_dict_init (kt_code_dict_new _ ⟨rfl,rfl⟩) ?_;rintro obj s₁ ⟨rfl,rfl⟩;have NT:(s.heap.push { cls:=.type "dict",data:=.dict #[] }).DictOfH (be X.prog X.w) s.heap.objs.size []:=Heap.DictOfH.new s.heap;have hT:Shared.TypeIs { s with heap:=s.heap.push { cls:=.type "dict",data:=.dict #[] } } (.ref s.heap.objs.size) "dict" := ⟨_,Heap.get?_push_size _ rfl,rfl⟩;have el:(s.heap.push { cls:=.type "dict",data:=.dict #[] }).get? l=some { cls:=.type "list",data:=.seq e_.toArray n }:=Heap.get?_push_of_some _ e;refine⟨hT,PySem.F.args_dict_init_2 _ _,?_⟩;unfold Builtin.«dict.__init__»;refine wpAny_bind ?_;unfold Builtin.Dict.selfAndRest;refine wpAny_bind (wpAny_notOrdered_dict hT ?_);show wpAny _ _ (pure (s.heap.objs.size,[Value.ref l])) _ _ _;refine wpAny_pure ?_;show wpAny _ _ (Builtin.Dict.updateFrom "dict.__init__" s.heap.objs.size (.ref l) [] .none) _ _ _;unfold Builtin.Dict.updateFrom;refine wpAny_bind (wpAny_typeOf (⟨_,el,rfl⟩:Shared.TypeIs { s with heap:=s.heap.push { cls:=.type "dict",data:=.dict #[] } } (.ref l) "list") ?_);rw[if_pos (by decide)];refine wpAny_bind (z9 (s:={ s with heap:=s.heap.push { cls:=.type "dict",data:=.dict #[] } }) el (I.ok.hd hc) fun h1 tk k1=>?_);rw[if_pos (show (none:Option Value).isNone=true from rfl)];refine wpAny_bind (m:=rule _) (wpAny_rule ?_);have Gu:h1.IsList l e_.toArray:=⟨_,k1 _ _ el,rfl,n,rfl⟩;refine wpAny_bind (wpAny_pyIter_list (s:={ s with heap:=h1,toks:=tk }) Gu ?_);have sD:s.heap.objs.size<h1.objs.size:=Heap.lt_size (k1 _ _<|Heap.get?_push_size _ rfl);have kp:∀ b o,s.heap.get? b=some o->(h1.push { cls:=.type "list_iterator",data:=.fields #[.ref l,.int 0 0] }).get? b=some o:=fun b o eb=>Heap.get?_push_of_some _ (k1 b o<|Heap.get?_push_of_some _ eb);refine wpAny_pure ⟨plainId_quiet PySem.F.EF _,?_⟩;have Q_:(h1.push { cls:=.type "list_iterator",data:=.fields #[.ref l,.int 0 0] }).DictOfH (be X.prog X.w) s.heap.objs.size []:=ng I (kvs:=[]) NT .nil kp fun o eo=>Heap.get?_push_of_some _ (k1 _ _ eo);have lI:l≠h1.objs.size:=ne_of_lt (lt_trans ll sD);refine Ab I (A:=X.A.in1) (by show X.A.units+1+20<cLine;lia) (D:=s.heap.objs.size) (It:=h1.objs.size) (l:=l) (St:=fun i h=>h.IsListIter h1.objs.size l i/\h.IsList l e_.toArray) rv hP hz ?_ (Heap.get?_none_of_le<|Nat.le_refl _) (Heap.get?_none_of_le<|le_of_lt sD) (ne_of_lt sD) (ne_of_gt ll)
  (fun s' xs kvs Ra IZ Rb hk hlen g1 g2 g3=>?_) e_.length 0 0 _ [] [] rfl (zero_le _) ?_ kp Q_ .nil .nil (Nat.le_refl _) rfl rfl rfl
 ·have W:=Walks.list (prog:=X.prog) (w:=X.w) (A:=X.A.in1.in1) (I.ok.hd hc) h1.objs.size l lI e_.toArray;have e1:(fun (i:Nat) (v:Value)=>e_.toArray[i]?=some v)=fun i v=>e_[i]?=some v:=by
   funext i v;rw[List.getElem?_toArray]
  rw[e1,size_toArray] at W;exact W
 ·obtain⟨h',g',d',t',M_⟩:=s';have g1:g'=s.gens:=g1;have g2:d'=s.drawn:=g2;have g3:M_=s.os:=g3;subst g1 g2 g3;have fD:H s.heap.objs.size=none:=I.l_.fresh (Nat.le_refl _);obtain⟨o,es,ep,Rc,Jh,Re,Rf,_,Rh⟩:=IZ;refine⟨rfl,.ref s.heap.objs.size,_,I.laid (o:=.dT kvs) (h':=h') (t':=t') Ra (Nat.le_refl _) ⟨Nat.le_trans (show kvs.length<=1000 by lia) (by decide),beq_eq_false_iff_ne.mpr<|Ne.symm<|ne_of_lt I.big,xs,Rb.keeps fun b ys eb=>qc eb fD,o,es,ep,Rc,Jh,Re,Rf,Rh⟩,rfl,q _ kvs fD hk⟩
 ·exact⟨⟨_,Heap.get?_push_size _ rfl,rfl,rfl⟩,Gu.push _⟩
@[simp] def vDict:OpN:=fun ds=>match ds with
 | [.lst x]=>(GH x).bind fun ps=>if (ps.all fun p=>Im.keys 7 p.1)=true/\ps.length<=1000 then some (.dT<|g0 ps) else none
 | _=>none
theorem Ad(hc:X.calm=true)(hu:X.A.units+30<cLine):cv X (.type "dict") vDict:=by
 refine (Ac hc hu).imp fun xs H Q ⟨ds,d,rd,e,q⟩=>?_;unfold vDict at e;split at e
 ·rename_i x;obtain⟨ps,e1,e2⟩:=bind_eq_some_iff.mp e;split at e2
  ·rename_i hp;cases e2;obtain⟨v,rfl,_,p,ys,rfl,h1,h2,_⟩:=bU rd;rw[Aa e1] at h2;refine⟨p,ys,ps,rfl,h1,rB (fun q hq=>all_eq_true.mp hp.1 q hq) h2,hp.2,fun d kvs hd hk=>?_⟩;have s:aC H (upd H d<|.dT kvs):=(aC.refl H).upd hd;exact q _ _ [d] s ⟨d,kvs,rfl,bp,hk.mono s.tupS.tup,rfl⟩ (pairwise_singleton _ _) fun a ha=>by rw[mem_singleton.mp ha];exact hd
  ·cases e2
 ·cases e
end
section
variable{X:Cx}
end
section
variable{prog:Program}{w:World}{A:Around}{E:Value->Shared->Prop}{s:Shared}
end
section
variable{prog:Program}{w:World}{A:Around}{E:Value->Shared->Prop}{s:Shared}
end
section
open PySem.SeqAt
open PySem.AutoSeq1 (wpAny_loadPart')
open PySem.MeetsSeq PySem.MeetsSeq2 PySem.MeetsSeq3
end
section
variable{X:Cx}
end
section
variable{prog:Program}{w:World}{A:Around}{E:Value->Shared->Prop}{s:Shared}
end
section
variable{prog:Program}{w:World}{A:Around}{E:Value->Shared->Prop}{s:Shared}
end
section
variable{X:Cx}
end
section
variable{X:Cx}
end
mutual
def MH:Im->PyData
 | .int i=>.int i
 | .bl b=>.bool b
 | .str x=>.str x
 | .tup ds=>.tuple (jb ds)
 | _=>.none
def jb:List Im->List PyData
 | []=>[]
 | d::r=>MH d::jb r
end
mutual
theorem Ae{h:Heap}:∀ {n:Nat}{d:Im}{u:Value},Im.pl n d=true->EH h d u->Reads h u (MH d) []
 | _,.j_,u,_,e=>by cases (show u=.none from e);exact .none
 | _,.bl b,u,_,e=>by cases (show u=.bool b from e);exact .bool b
 | _,.int i,u,_,e=>by obtain⟨t,rfl⟩:=e;exact .int i t
 | _,.str x,u,_,e=>by obtain⟨t,rfl⟩:=e;exact .str x t
 | n+1,.tup ds,u,k,e=>by
  obtain⟨a,o,items,m,rfl,h1,h2,h3,h4⟩:=e;exact .tuple h1 h2 h3 (rC (n:=n) k h4)
 | 0,.tup ds,u,k,e=>by cases k
 | n,.fn a,u,k,e=>by cases n<;>cases k
 | n,.fl a,u,k,e=>by cases n<;>cases k
 | n,.fd,u,k,e=>by cases n<;>cases k
theorem rC{h:Heap}:∀ {n:Nat}{ds:List Im}{us:List Value},Im.pls n ds=true->aO h ds us->ReadsAll h us (jb ds) []
 | _,[],us,_,e=>by rw[show us=[] from e];exact .nil
 | n,d::ds,us,k,e=>by
  obtain⟨v,r,rfl,h1,h2⟩:=e;rw[Im.pls,and_eq_true] at k;exact .cons (Ae k.1 h1) (rC k.2 h2)
end
mutual
theorem Af:∀ d:Im,PyData.hasDict (MH d)=false
 | .j_=>rfl
 | .bl _=>rfl
 | .int _=>rfl
 | .str _=>rfl
 | .fn _=>rfl
 | .fl _=>rfl
 | .fd=>rfl
 | .tup ds=>rD ds
theorem rD:∀ ds:List Im,PyData.hasDictAll (jb ds)=false
 | []=>rfl
 | d::r=>by
  show (PyData.hasDict (MH d) || PyData.hasDictAll (jb r))=false;rw[Af d,rD r];rfl
end
section
variable{X:Cx}
end
section
variable{prog:Program}{w:World}{A:Around}{E:Value->Shared->Prop}{s:Shared}
end
section
variable{X:Cx}
end
end L2
namespace G
open PySem L2
variable{h:Vl}{n:Nat}{m:Int}{ks:List (Int×Int)}{b a:Int×Int}
abbrev iI(i:Int):Vl:=.im (.int i)
def cM(p:Int×Int):Im:=.tup [.int p.1,.int p.2]
abbrev cT(ps:List (Int×Int)):Vl:=.im (.tup<|ps.map cM)
abbrev cL(ps:List (Int×Int)):Vl:=.lst (ps.map cM)
abbrev lf(d s t:Int):Vl:=.lst [.int d,.int s,.int t]
def kM(p:Int×Int):List Im:=[.int p.1,.int p.2]
theorem rE(p:Int×Int):cM p=.tup (kM p):=rfl
theorem nh(h:kM a=kM b):a=b:=by
 unfold kM at h;simp at h;exact Prod.ext h.1 h.2
theorem Ag(h:cM a=cM b):a=b:=by
 rw[rE,rE] at h;exact nh (by injection h)
theorem Ah(p:Int×Int):Im.keys 7 (kM p)=true:=rfl
def uC:Im->Int×Int
 | .tup [.int a,.int b]=>(a,b)
 | _=>(0,0)
theorem rF(p:Int×Int):uC (cM p)=p:=rfl
theorem jc(p:Int×Int):Im.pl 8 (cM p)=true:=rfl
theorem g9:∀ ps:List (Int×Int),Im.pls 8 (ps.map cM)=true
 | []=>rfl
 | p::r=>by rw[map_cons,Im.pls,jc,g9 r];rfl
theorem ni(a b:Int×Int):aA (cM a) (cM b)=decide (a=b):=by
 show ((a.1 == b.1) && ((a.2 == b.2) && true))=_;obtain⟨a1,a2⟩:=a;obtain⟨b1,b2⟩:=b;by_cases h1:a1=b1<;>by_cases h2:a2=b2<;>simp[h1,h2]
theorem rG(ps:List (Int×Int))(c:Int×Int):((ps.map cM).any fun x=>aA x<|cM c)=decide (c∈ps):=by
 rw[any_map,Bool.eq_iff_iff,any_eq_true,decide_eq_true_iff];constructor
 ·rintro⟨x,hx,e⟩;have:decide (x=c)=true:=by rw[<- ni];exact e
  rw[<- of_decide_eq_true this];exact hx
 ·intro h;refine⟨c,h,?_⟩;show aA (cM c) (cM c)=true;rw[ni];exact decide_eq_true rfl
theorem rH:∀ (l:List Im) (ks:List (Int×Int)),(∀ x∈l,x∈ks.map cM)->l=(l.map uC).map cM
 | [],_,_=>rfl
 | x::l,ks,h=>by
  obtain⟨p,_,e⟩:=mem_map.mp (h x<|.head _);rw[map_cons,map_cons,<- rH l ks fun y hy=>h y<|.tail _ hy,<- e,rF]
theorem Ai{l:List Im}(h:l.Perm (ks.map cM)):∃ ms:List (Int×Int),ms.Perm ks/\l=ms.map cM:=by
 refine⟨l.map uC,?_,rH l ks fun x hx=>h.mem_iff.mp hx⟩;have:=List.Perm.map uC h;rw[List.map_map] at this;have e:(uC ∘ cM:Int×Int->Int×Int)=id:=funext rF;rw[e,map_id] at this;exact this
theorem jd(nd:ks.Nodup)(hl:ks.length<=1000):Er (ks.map cM):=by
 refine⟨⟨by rw[length_map];exact hl,fun a ha b hb=>?_,?_⟩,.inl fun d hd=>?_⟩
 ·obtain⟨x,_,rfl⟩:=mem_map.mp ha;obtain⟨y,_,rfl⟩:=mem_map.mp hb;rfl
 ·exact List.Pairwise.map cM (fun a b n e=>n<|Ag e) nd
 ·obtain⟨x,_,rfl⟩:=mem_map.mp hd;rfl
theorem Aj{kvs:List (List Im×Im)}{k:List Im}:(bG kvs k).isSome=kvs.any fun p=>decide (p.1=k):=by
 unfold bG;rw[isSome_map,List.isSome_find?]
def mt(ks:List (Int×Int)):List (List Im×Im):=ks.map fun c=>(kM c,.bl true)
theorem nj(ks:List (Int×Int))(c:Int×Int):((mt ks).any fun p=>decide (p.1=kM c))=decide (c∈ks):=by
 unfold mt;rw[any_map,Bool.eq_iff_iff,any_eq_true,decide_eq_true_iff];constructor
 ·rintro⟨x,hx,e⟩;have:kM x=kM c:=of_decide_eq_true e;rw[<- nh this];exact hx
 ·intro h;exact⟨c,h,decide_eq_true rfl⟩
theorem Ak(ks:List (Int×Int))(c:Int×Int):(bG (mt ks)<|kM c).isSome=decide (c∈ks):=by rw[Aj,nj]
theorem Al{c:Int×Int}(h:c∉ks):dz (mt ks) (kM c) (.bl true)=mt (ks++[c]):=by
 unfold dz;rw[if_neg (by rw[nj];simpa using h)];unfold mt;rw[map_append];rfl
theorem Am(ks:List (Int×Int)):((mt ks).map fun p=>Im.tup p.1)=ks.map cM:=by
 unfold mt;rw[List.map_map];rfl
noncomputable def nk:MS:=(ai (ar 2<|eC<|.int 0)<|ai (sIf (kB<|ae vLt (oSl 1)<|oV<|av vLen<|aa (oSl 0) aNil) (ar 2<|ae vIx (oSl 0)<|oSl 1) sNil)<|ai (ar 3<|ae vMul (oV<|ae vMul (oV<|ae vPow (oV<|eC<|.int 10)<|oV<|eC<|.int 60)<|oV<|ae vPow (oV<|eC<|.int 10)<|oV<|eC<|.int 60)<|oV<|ae vPow (oV<|eC<|.int 10)<|oV<|eC<|.int 60)<|ai (ar 4<|ae vMul (oV<|ae vMod (oSl 2)<|oSl 3)<|oV<|av vInt<|aa (oV<|ae vGe (oSl 2)<|oV<|ae vPow (oV<|eC<|.int 10)<|oV<|eC<|.int 18) aNil)<|aG<|aZ<|aa (oSl 4)<|aa (oV<|ae vAdd (oV<|ae vAdd (oV<|ae vMod (oSl 2)<|oV<|eC<|.int 2305843009213693951)<|oV<|ae vMul (oV<|eC<|.int 7919)<|oSl 1)<|oV<|eC<|.int 3)<|aa (oV<|eC<|.int 0) aNil)
noncomputable def f7:Fn:=bd 2 5 [0,1] nk
noncomputable def nn:MS:=(ai (sIf (kB<|ae vGt (oV<|ae vIx (oSl 0)<|oV<|eC<|.int 0)<|oV<|eC<|.int 0) (ai (ar 2<|ae vMod (oV<|ae vIx (oSl 0)<|oV<|eC<|.int 0)<|oSl 1)<|ai (c7 (ae vDiv (oV<|ae vIx (oSl 0)<|oV<|eC<|.int 0)<|oSl 1)<|gIx 0 (eC<|.int 0) putV)<|aG<|bu 2) sNil)<|ai (c7 (ae vAdd (oV<|ae vIx (oSl 0)<|oV<|eC<|.int 2)<|oV<|eC<|.int 1)<|gIx 0 (eC<|.int 2) putV)<|ai (ar 3<|ae vIx (oSl 0)<|oV<|eC<|.int 2)<|ai (ar 4<|ae vMod (oV<|ae vMul (oV<|ae vIx (oSl 0)<|oV<|eC<|.int 1)<|oV<|ae vAdd (oV<|ae vAdd (oV<|eC<|.int 48271)<|oV<|ae vMul (oV<|ae vMul (oV<|eC<|.int 2)<|oSl 3)<|oSl 3)<|oV<|ae vMul (oV<|eC<|.int 65537)<|oSl 3)<|oV<|eC<|.int 2305843009213693921)<|ai (ar 5<|ae vAdd (oV<|ae vAdd (oV<|ae vMod (oSl 4)<|oV<|eC<|.int 1000003)<|oV<|ae vMul (oSl 3)<|oV<|eC<|.int 99991)<|oV<|eC<|.int 11)<|ai (ar 4<|ae vMod (oV<|ae vMul (oSl 4)<|oSl 5)<|oV<|eC<|.int 2305843009213693907)<|aG<|ae vMod (oV<|ae vAdd (oV<|ae vDiv (oSl 4)<|oV<|eC<|.int 97)<|oV<|ae vDiv (oSl 4)<|oV<|eC<|.int 1000033)<|oSl 1)
noncomputable def bo:Fn:=bd 2 6 [0,1] nn
noncomputable def no:MS:=(aG<|ae vIx (oSl 1)<|oV<|ao 2 G.bo<|aa (oSl 0)<|aa (oV<|av vLen<|aa (oSl 1) aNil) aNil)
noncomputable def bI:Fn:=bd 2 2 [0,1] no
def je(s u:Int):Int:=s * (48271+2 * u * u+65537 * u) % 2305843009213693921
def rJ(s u:Int):Int:=je s u * (je s u % 1000003+u * 99991+11) % 2305843009213693907 / 97+je s u * (je s u % 1000003+u * 99991+11) % 2305843009213693907 / 1000033
abbrev hd(d s t:Int):Vl:=.lst [.int d,.int s,.int t]
theorem An{d s t:Int}(Pg:0<=d)(Sk:0<=s)(NU:s<2 ^ 63)(Sl:0<=t)(Sm:t<2 ^ 60)(Ky:0<m)(MJ:m<1073741824):
  ∃ v d' t',bo [hd d s t,.im<|.int m]=some (.im<|.int v,[hd d' s t',.im<|.int m])/\0<=v/\v<m/\0<=d'/\t<=t'/\t'<=t+1:=by
 by_cases h:0<d
 ·refine⟨d % m,d / m,t,?_,emod_nonneg _ (by omega),emod_lt_of_pos _ Ky,Int.ediv_nonneg Pg (by omega),by omega,by omega⟩;simp -implicitDefEqProofs [bo,nn,FS,Ih,h,Ky,MJ]
 ·have e1:cf 2 (t+1)=true:=fW (by decide) (by decide);have e2:cf (2 * (t+1)) (t+1)=true:=mP (by omega) (by omega);have e3:cf 65537 (t+1)=true:=fW (by decide) (by decide);have e4:∀ x,cf s x=true:=fun x=>fW (by omega) (by omega);have e5:cf (t+1) 99991=true:=mP (by decide) (by decide);have e6:∀ x y,cf (x % 2305843009213693921) y=true:=fun x y=>fW (by have:=emod_nonneg x (show (2305843009213693921:Int)≠0 by decide);omega) (by have:=emod_lt_of_pos x (show (0:Int)<2305843009213693921 by decide);omega);refine⟨rJ s (t+1) % m,d,t+1,?_,emod_nonneg _ (by omega),emod_lt_of_pos _ Ky,Pg,by omega,by omega⟩;simp -implicitDefEqProofs [bo,nn,FS,Ih,h,Ky,MJ,e1,e2,e3,e4,e5,e6,rJ,je]
def aT(n:Nat)(h:Vl):Prop:=∃ d s t,h=hd d s t/\0<=d/\0<=s/\s<2 ^ 63/\0<=t/\t+n<2 ^ 60
theorem aT.mono{m:Nat}(x:aT n h)(e:m<=n):aT m h:=by
 obtain⟨d,s,t,rfl,h1,h2,h3,h4,h5⟩:=x;exact⟨d,s,t,rfl,h1,h2,h3,h4,by omega⟩
theorem ed(x:aT (n+1) h)(Ky:0<m)(MJ:m<1073741824):∃ v h',bo [h,.im<|.int m]=some (.im<|.int v,[h',.im<|.int m])/\0<=v/\v<m/\aT n h':=by
 obtain⟨d,s,t,rfl,h1,h2,h3,h4,h5⟩:=x;obtain⟨v,d',t',e,e1,e2,e3,e4,e5⟩:=An (m:=m) h1 h2 h3 h4 (by omega) Ky MJ;exact⟨v,hd d' s t',e,e1,e2,d',s,t',rfl,e3,h2,h3,by omega,by omega⟩
theorem aW(x:aT n h):∃ ds,h=.lst ds:=by
 obtain⟨d,s,t,rfl,_⟩:=x;exact⟨_,rfl⟩
theorem Ao{ns:List Int}{k:Int}(hk:0<=k)(Gc:k<1000):∃ h,f7 [.fz (ns.map .int),.im<|.int k]=some (h,[.fz (ns.map .int),.im<|.int k])/\aT 1000000 h:=by
 have key:∀ c:Int,aT 1000000 (hd (c % (10 ^ 60 * 10 ^ 60 * 10 ^ 60) * (if 10 ^ 18<=c then 1 else 0)) (c % 2305843009213693951+7919 * k+3) 0):=fun c=>by
  have h1:=emod_nonneg c (show (10 ^ 60 * 10 ^ 60 * 10 ^ 60:Int)≠0 by decide);have h2:=emod_nonneg c (show (2305843009213693951:Int)≠0 by decide);have h3:=emod_lt_of_pos c (show (0:Int)<2305843009213693951 by decide);refine⟨_,_,_,rfl,?_,by omega,by omega,Int.le_refl 0,by decide⟩;split
  ·rw[Int.mul_one];exact h1
  ·rw[Int.mul_zero];exact Int.le_refl 0
 have p1:cf (10 ^ 60) (10 ^ 60)=true:=by decide +kernel
 have p2:cf (10 ^ 60 * 10 ^ 60) (10 ^ 60)=true:=by decide +kernel
 have p3:∀ x c:Int,cf x (if 10 ^ 18<=c then 1 else 0)=true:=fun x c=>mP (by split<;>decide) (by split<;>decide);have p4:cf 7919 k=true:=fW (by decide) (by decide);have q0:(10:Nat)<2 ^ 64:=by decide
 have q1:(0:Int)<10 ^ 60 * 10 ^ 60 * 10 ^ 60:=by decide
 by_cases hl:k<(ns.length:Int)
 ·obtain⟨c,hc⟩:∃ c,ns[k.toNat]?=some c:=⟨ns[k.toNat]'(by omega),by simp⟩;have Lz:FS (ns.map Im.int) k=some (.int c):=mQ hk (by rw[List.getElem?_map,hc];rfl);refine⟨_,?_,key c⟩;simp -implicitDefEqProofs [f7,nk,hl,Lz,p1,p2,p3,p4,q0,q1,-Int.reducePow,-Nat.reducePow]
 ·refine⟨_,?_,key 0⟩;simp -implicitDefEqProofs [f7,nk,hl,p1,p2,p3,p4,q0,q1,-Int.reducePow,-Nat.reducePow]
theorem hU{xs:List Im}(x:aT (n+1) h)(h0:xs≠[])(h1:xs.length<1073741824):∃ d h',bI [h,.lst xs]=some (.im d,[h',.lst xs])/\d∈xs/\aT n h':=by
 have hl:0<xs.length:=List.length_pos_iff.mpr h0;obtain⟨v,h',e,e1,e2,e3⟩:=ed (m:=xs.length) x (by omega) (by omega);obtain⟨d,hd⟩:∃ d,xs[v.toNat]?=some d:=⟨xs[v.toNat]'(by omega),by simp⟩;have Lz:FS xs v=some d:=mQ e1 hd;obtain⟨q,rfl⟩:=aW x;obtain⟨q',rfl⟩:=aW e3;refine⟨d,.lst q',?_,mem_of_getElem? hd,e3⟩;simp -implicitDefEqProofs [bI,no,e,Lz]
end G
namespace L2
open PySem PySem.Spec PyProof.Rows
variable{g nl n2 slot ep n i m:Nat}{items pl:Array Value}{l a2 S I a:Addr}{P:List Im->Addr->Prop}{w:World}{o2 o:Obj}{f0 x:Value}{h' h:Heap}{ks:List (List Im)}{Q:Option Value->Shared->Prop}{s:Shared}{es:Array (Int×Value)}{ps:List Nat}{ow:Array (Option Nat)}{β α:Type}{hs:List Int}{k:List Im}{led:Bool}{t:SetTable}{xs:Array Nat}
abbrev cE(xs:Array Nat):Prop:=xs.toList.Pairwise (· < ·)
theorem jf(r:cE xs){i k:Nat}{d:Nat}(h:i<k)(hk:k<xs.size):xs.getD i d<xs.getD k d:=by
 have hi:i<xs.size:=lt_trans h hk;have e:∀ m (hm:m<xs.size),xs.getD m d=xs.toList[m]'(by simpa using hm):=fun m hm=>by simp[Array.getD,hm]
 rw[e i hi,e k hk];exact pairwise_iff_getElem.mp r i k _ _ h
theorem np(xs:Array Nat)(r:cE xs)(j:Nat):∀ (fuel lo hi:Nat),hi - lo<=fuel->lo<=hi->hi<=xs.size->(∀ i,i<lo->xs.getD i j<j)->(∀ i,hi<=i->i<xs.size->j<=xs.getD i j)->
  (SetTable.below.go xs j fuel lo hi<=xs.size/\(∀ i,i<SetTable.below.go xs j fuel lo hi->xs.getD i j<j)/\∀ i,SetTable.below.go xs j fuel lo hi<=i->i<xs.size->j<=xs.getD i j)
 | 0,lo,hi,h1,h2,h3,a,b=>by
  have e:lo=hi:=by lia
  subst e;exact⟨h3,a,b⟩
 | fuel+1,lo,hi,h1,h2,h3,a,b=>by
  unfold SetTable.below.go;by_cases h:lo<hi
  ·rw[if_pos h];dsimp only;by_cases hm:xs.getD ((lo+hi) / 2) j<j
   ·rw[if_pos hm];refine np xs r j fuel _ _ (by lia) (by lia) h3 (fun i Fg=>?_) b;rcases lt_or_ge i ((lo+hi) / 2) with h' | h'
    ·exact lt_trans (jf r h' (by lia)) hm
    ·have:i=(lo+hi) / 2:=by lia
     rw[this];exact hm
   ·rw[if_neg hm];refine np xs r j fuel _ _ (by lia) (by lia) (by lia) a (fun i Fg ET=>?_);rcases lt_or_ge ((lo+hi) / 2) i with h' | h'
    ·exact le_of_lt (lt_of_le_of_lt (Nat.not_lt.mp hm)<|jf r h' ET)
    ·have:i=(lo+hi) / 2:=by lia
     rw[this];exact Nat.not_lt.mp hm
  ·rw[if_neg h];have e:lo=hi:=by lia
   subst e;exact⟨h3,a,b⟩
theorem kF(r:cE xs)(j:Nat):SetTable.below xs j<=xs.size/\(∀ i,i<SetTable.below xs j->xs.getD i j<j)/\∀ i,SetTable.below xs j<=i->i<xs.size->j<=xs.getD i j:=
 np xs r j xs.size 0 xs.size (by lia) (by lia) (by lia) (fun i h=>absurd h<|not_lt_zero _) fun i h h'=>absurd h' (by lia)
theorem nq(r:cE xs){i j:Nat}(h:xs[i]?=some j):SetTable.below xs j=i:=by
 obtain⟨a,b,c⟩:=kF r j;obtain⟨hi,e⟩:=Array.getElem?_eq_some_iff.mp h;have ei:xs.getD i j=j:=by simp[Array.getD,hi,e]
 rcases Nat.lt_trichotomy (SetTable.below xs j) i with h1 | h1 | h1
 ·have h2:=c _ (Nat.le_refl _) (lt_trans h1 hi);have h3:=jf r (d:=j) h1 hi;lia
 ·exact h1
 ·have:=b i h1;lia
theorem Ap(r:cE xs){i j:Nat}(h:xs[i]?=some j):SetTable.below xs (j+1)=i+1:=by
 obtain⟨a,b,c⟩:=kF r (j+1);obtain⟨hi,e⟩:=Array.getElem?_eq_some_iff.mp h;have ei:xs.getD i (j+1)=j:=by simp[Array.getD,hi,e]
 rcases Nat.lt_trichotomy (SetTable.below xs<|j+1) (i+1) with h1 | h1 | h1
 ·have:=c i (by lia) hi;lia
 ·exact h1
 ·have h2:=b (i+1) h1;have h3:=jf r (d:=j+1) (lt_succ_self i) (by lia);lia
theorem Aq(r:cE xs):SetTable.below xs 0=0:=by
 obtain⟨a,b,c⟩:=kF r 0;rcases Nat.eq_zero_or_pos (SetTable.below xs 0) with h | h
 ·exact h
 ·exact absurd (b 0 h) (not_lt_zero _)
theorem Ar(r:cE xs){j:Nat}(h:¬ (xs[SetTable.below xs j]?=some j)):cE (SetTable.insertAt xs (SetTable.below xs j) j):=by
 obtain⟨a,b,c⟩:=kF r j;unfold cE;rw[SetTable.toList_insertAt];refine List.pairwise_append.mpr ⟨List.Pairwise.sublist (take_sublist _ _) r,pairwise_cons.mpr ⟨fun y hy=>?_,List.Pairwise.sublist (drop_sublist _ _) r⟩,fun x hx y hy=>?_⟩
 ·obtain⟨k,hk,rfl⟩:=mem_iff_getElem.mp hy;rw[getElem_drop];have hs:SetTable.below xs j+k<xs.size:=by simp at hk;lia
  have h1:=c (SetTable.below xs j+k) (le_add_right _ _) hs;have e:xs.getD (SetTable.below xs j+k) j=xs.toList[SetTable.below xs j+k]:=by simp[Array.getD,hs]
  rw[e] at h1;refine Nat.lt_of_le_of_ne h1 fun he=>?_;rcases Nat.eq_zero_or_pos k with h0 | h0
  ·subst h0;apply h;rw[Array.getElem?_eq_some_iff];exact⟨by lia,by simpa using he.symm⟩
  ·have h2:=jf r (d:=j) (Nat.lt_add_of_pos_right (n:=SetTable.below xs j) h0) hs;have h3:=c (SetTable.below xs j) (Nat.le_refl _) (by lia);rw[e] at h2;exact absurd he (ne_of_lt<|lt_of_le_of_lt h3 h2)
 ·obtain⟨k,hk,rfl⟩:=mem_iff_getElem.mp hx;rw[getElem_take];have E1:k<SetTable.below xs j:=by simp at hk;lia
  have hs:k<xs.size:=by lia
  have h1:=b k E1;have e:xs.getD k j=xs.toList[k]:=by simp[Array.getD,hs]
  rw[e] at h1;rcases mem_cons.mp hy with rfl | hy
  ·exact h1
  ·obtain⟨m,hm,rfl⟩:=mem_iff_getElem.mp hy;rw[getElem_drop];have IL:SetTable.below xs j+m<xs.size:=by simp at hm;lia
   have h2:=c (SetTable.below xs j+m) (le_add_right _ _) IL;have e2:xs.getD (SetTable.below xs j+m) j=xs.toList[SetTable.below xs j+m]:=by simp[Array.getD,IL]
   rw[e2] at h2;exact lt_of_lt_of_le h1 h2
structure EL(t:SetTable)(led:Bool):Prop where
 rise:cE t.place
 Kz:t.dummies=#[]
 led:t.led=led
theorem EL.HV(h:EL t led)(b:Bool):EL { t with plain:=b } led:=⟨h.rise,h.Kz,h.led⟩
theorem rK(j:Nat):SetTable.has #[] j=false:=rfl
theorem As(hd:t.dummies=#[])(j:Nat):(∃ i,t.slot j=.live i)\/(t.slot j=.empty/\¬ (t.place[SetTable.below t.place j]?=some j)):=by
 unfold SetTable.slot;dsimp only;by_cases h:(t.place[SetTable.below t.place j]? == some j)=true
 ·rw[if_pos h];exact .inl ⟨_,rfl⟩
 ·rw[if_neg h,hd,rK];exact .inr ⟨rfl,fun e=>h (by rw[e];exact beq_self_eq_true _)⟩
theorem EL.put(h:EL t led){j:Nat}(hj:¬ (t.place[SetTable.below t.place j]?=some j)):EL (t.put j).1 led:=by
 refine⟨Ar h.rise hj,?_,h.led⟩;show (if SetTable.has t.dummies j=true then _ else t.dummies)=#[];rw[h.Kz,rK];rfl
theorem At{mask finger moves:Nat}{plain:Bool}{hs:Array Int}{o:Array Nat}(e:SetTable.laid mask finger moves led plain hs=some (t,o)):EL t led:=by
 unfold SetTable.laid at e;cases h:SetTable.layClean mask hs with
 | none=>rw[h] at e;cases e
 | some ow=>
  rw[h] at e;cases e;refine⟨?_,rfl,rfl⟩;show (List.map (fun x:Nat×Nat=>x.1)<|List.filterMap (fun j=>Option.map (fun x=>(j,x))<|ow.getD j none)<|range<|mask+1).Pairwise (· < ·);rw[List.map_filterMap];refine List.Pairwise.filterMap _ (R:=(· < ·)) (fun a b LC x hx y hy=>?_) List.pairwise_lt_range;cases ha:ow.getD a none with
  | none=>rw[ha] at hx;cases hx
  | some u=>
   cases hb:ow.getD b none with
   | none=>rw[hb] at hy;cases hy
   | some v=>
    rw[ha] at hx;rw[hb] at hy;cases hx;cases hy;exact LC
def hV(m:Nat)(p:SetTable.Probe):SetTable.Probe:=
 if p.more > 0 then { p with j:=p.j+1,more:=p.more - 1 } else
 { p with j:=(SetTable.leap m p.i p.perturb).1,more:=SetTable.runEnd m (SetTable.leap m p.i p.perturb).1 - (SetTable.leap m p.i p.perturb).1,i:=(SetTable.leap m p.i p.perturb).1,perturb:=(SetTable.leap m p.i p.perturb).2 }
def KA(m i pt:Nat):SetTable.Probe:={ j:=i,more:=SetTable.runEnd m i - i,i:=i,perturb:=pt,dummy:=none }
def Eb(m:Nat)(h:Int):Nat->SetTable.Probe
 | 0=>KA m (SetTable.bits h % (m+1)) (SetTable.bits h)
 | k+1=>hV m (Eb m h k)
def El(m:Nat)(h:Int):Nat->Nat×Nat
 | 0=>(SetTable.bits h % (m+1),SetTable.bits h)
 | q+1=>SetTable.leap m (El m h q).1 (El m h q).2
theorem nr(m:Nat)(h:Int):∀ k,(Eb m h k).dummy=none
 | 0=>rfl
 | k+1=>by
  rw[Eb,hV];split
  ·exact nr m h k
  ·exact nr m h k
theorem Au(m i:Nat):SetTable.runEnd m i - i<=9:=by
 unfold SetTable.runEnd;split<;>lia
theorem hX{m:Nat}{h:Int}{k i pt:Nat}(e:Eb m h k=KA m i pt):∀ r,r<=SetTable.runEnd m i - i->Eb m h (k+r)={ KA m i pt with j:=i+r,more:=SetTable.runEnd m i - i - r }
 | 0,_=>e
 | r+1,hr=>by
  show hV m (Eb m h<|k+r)=_;rw[hX e r (by lia),hV,if_pos (show SetTable.runEnd m i - i - r > 0 by lia)];rfl
theorem Av{h:Int}{k pt:Nat}(e:Eb m h k=KA m i pt):Eb m h (k+(SetTable.runEnd m i - i)+1)=KA m (SetTable.leap m i pt).1 (SetTable.leap m i pt).2:=by
 show hV m (Eb m h<|k+(SetTable.runEnd m i - i))=_;rw[hX e _ (Nat.le_refl _),hV,if_neg (show ¬ (SetTable.runEnd m i - i - (SetTable.runEnd m i - i) > 0) by lia)];rfl
def kq(m:Nat)(h:Int):Nat->Nat
 | 0=>0
 | q+1=>kq m h q+(SetTable.runEnd m (El m h q).1 - (El m h q).1)+1
theorem ic(m:Nat)(h:Int):∀ q,Eb m h (kq m h q)=KA m (El m h q).1 (El m h q).2
 | 0=>rfl
 | q+1=>Av (ic m h q)
theorem rL(m:Nat)(h:Int):∀ q,kq m h q<=10 * q
 | 0=>Nat.le_refl _
 | q+1=>by
  have:=rL m h q;have:=Au m (El m h q).1;show kq m h q+_+1<=_;lia
theorem rM(m:Nat)(h:Int):∀ k,∃ q r,k=kq m h q+r/\r<=SetTable.runEnd m (El m h q).1 - (El m h q).1
 | 0=>⟨0,0,rfl,zero_le _⟩
 | k+1=>by
  obtain⟨q,r,e,hr⟩:=rM m h k;by_cases z:r+1<=SetTable.runEnd m (El m h q).1 - (El m h q).1
  ·exact⟨q,r+1,by lia,z⟩
  ·exact⟨q+1,0,by show _=kq m h q+_+1+0;lia,zero_le _⟩
def He(m:Nat):Nat->Nat->Nat
 | 0,x=>x
 | k+1,x=>(He m k x * 5+1) % (m+1)
theorem jg(m:Nat)(a x:Nat):∀ b,He m (a+b) x=He m b (He m a x)
 | 0=>rfl
 | b+1=>by
  show (He m (a+b) x * 5+1) % (m+1)=_;rw[jg m a x b];rfl
def MK(m:Nat):Nat->Nat->Nat->Nat
 | 0,_,acc=>acc
 | k+1,x,acc=>MK m k ((x * 5+1) % (m+1)) (acc ||| 2 ^ x)
theorem Aw(m k x:Nat):He m k ((x * 5+1) % (m+1))=He m (k+1) x:=by
 rw[Nat.add_comm k 1,jg];rfl
theorem rN{m:Nat}:∀ {n x y acc:Nat},(MK m n x acc).testBit y=true->acc.testBit y=true\/∃ k,k<n/\He m k x=y
 | 0,_,_,_,h=>.inl h
 | n+1,x,y,acc,h=>by
  rcases rN (n:=n) h with h | ⟨k,h1,h2⟩
  ·rw[Nat.testBit_or,or_eq_true] at h;rcases h with h | h
   ·exact .inl h
   ·rw[Nat.testBit_two_pow,decide_eq_true_iff] at h;exact .inr ⟨0,succ_pos _,h⟩
  ·exact .inr ⟨k+1,Nat.succ_lt_succ h1,by rw[<- Aw];exact h2⟩
def nt(m:Nat):Bool:=beq (MK m (m+1) 0 0) (2 ^ (m+1) - 1) && beq (He m (m+1) 0) 0
theorem Ax(c:nt m=true){a x:Nat}(ha:a<=m)(hx:x<=m):∃ k,k<=m/\He m k a=x:=by
 rw[nt,and_eq_true] at c;have z:=Nat.eq_of_beq_eq_true c.2;have all:∀ y,y<=m->∃ k,k<m+1/\He m k 0=y:=fun y hy=>by
  have q:(MK m (m+1) 0 0).testBit y=true:=by
   rw[Nat.eq_of_beq_eq_true c.1,Nat.testBit_two_pow_sub_one];exact decide_eq_true (Nat.lt_succ_of_le hy)
  rcases rN q with h | h
  ·rw[Nat.zero_testBit] at h;cases h
  ·exact h
 obtain⟨ka,h1,rfl⟩:=all a ha;obtain⟨kx,h2,rfl⟩:=all x hx;rcases lt_or_ge kx ka with h | h
 ·refine⟨kx+(m+1 - ka),by lia,?_⟩;rw[<- jg,show ka+(kx+(m+1 - ka))=(m+1)+kx by lia,jg,z]
 ·refine⟨kx - ka,by lia,?_⟩;rw[<- jg,show ka+(kx - ka)=kx by lia]
def GM(m:Nat):Prop:=m=7\/m=31\/m=127\/m=511
theorem GM.Ri(g:GM m):nt m=true:=by
 rcases g with rfl | rfl | rfl | rfl<;>decide +kernel
theorem Ay(h:Int):SetTable.bits h<2 ^ 64:=by
 unfold SetTable.bits;have h1:=emod_nonneg h (show (2 ^ 64:Int)≠0 by decide);have h2:=emod_lt_of_pos h (show (0:Int)<2 ^ 64 by decide);lia
theorem rO(m:Nat)(h:Int):∀ q,(El m h q).2=SetTable.bits h / 32 ^ q
 | 0=>by rw[Nat.pow_zero,Nat.div_one];rfl
 | q+1=>by
  show (El m h q).2 / 32=_;rw[rO m h q,Nat.div_div_eq_div_mul];rfl
theorem nu(m:Nat)(h:Int):∀ q,(El m h q).1<=m
 | 0=>le_of_lt_succ (mod_lt _<|succ_pos _)
 | q+1=>le_of_lt_succ (mod_lt _<|succ_pos _)
theorem rP(m:Nat)(h:Int):∀ k,El m h (13+k)=(He m k (El m h 13).1,0)
 | 0=>by
  have e:(El m h 13).2=0:=by
   rw[rO];exact Nat.div_eq_of_lt (lt_trans (Ay h) (by decide))
  show El m h 13=((El m h 13).1,0);rw[<- e]
 | k+1=>by
  show SetTable.leap m (El m h<|13+k).1 (El m h<|13+k).2=_;rw[rP m h k];show ((He m k (El m h 13).1 * 5+1+0 / 32) % (m+1),0 / 32)=_;rw[Nat.zero_div,Nat.add_zero];rfl
theorem rQ(g:GM m)(h:Int){x:Nat}(hx:x<=m):∃ q,q+1<SetTable.turns m/\(El m h q).1=x:=by
 obtain⟨k,h1,h2⟩:=Ax g.Ri (nu m h 13) hx;exact⟨13+k,by unfold SetTable.turns;lia,by rw[rP];exact h2⟩
theorem Az(g:GM m)(h:Int){x:Nat}(hx:x<=m):∃ k,k<10 * SetTable.turns m/\(Eb m h k).j=x:=by
 obtain⟨q,h1,h2⟩:=rQ g h hx;refine⟨kq m h q,by have:=rL m h q;lia,?_⟩;rw[ic];exact h2
theorem rR(h:i<=m):SetTable.runEnd m i<=m:=by unfold SetTable.runEnd;split<;>lia
theorem rS(m:Nat)(h:Int)(k:Nat):(Eb m h k).j<=m:=by
 obtain⟨q,r,rfl,hr⟩:=rM m h k;rw[hX (ic m h q) r hr];have:=rR (nu m h q);have e:SetTable.runEnd m (El m h q).1 >= (El m h q).1:=by unfold SetTable.runEnd;split<;>lia
 show (El m h q).1+r<=m;lia
theorem f8{α:Type}[DecidableEq α]:∀ {l m:List α},l.Nodup->(∀ x∈l,x∈m)->l.length<=m.length
 | [],m,_,_=>zero_le _
 | a::l,m,nd,h=>by
  have HN:=nodup_cons.mp nd;have q:=f8 (l:=l) (m:=m.erase a) HN.2 fun x hx=>(List.mem_erase_of_ne (fun e:x=a=>HN.1<|e ▸ hx)).mpr (h x<|.tail _ hx);have ha:=h a (.head _);rw[List.length_erase_of_mem ha] at q;have:=List.length_pos_of_mem ha;rw[length_cons];lia
def IQ(m:Nat)(GV:Nat->Prop)(h:Int)(j:Nat):Prop:=∃ k,(Eb m h k).j=j/\∀ k',k'<k->GV (Eb m h k').j
theorem IQ.mono{GV LD:Nat->Prop}{h:Int}{j:Nat}(r:IQ m GV h j)(i:∀ x,GV x->LD x):IQ m LD h j:=let ⟨k,e,a⟩:=r;⟨k,e,fun k' z=>i _<|a k' z⟩
structure Hf(t:SetTable)(hs:List Int):Prop where
 gm:GM t.mask
 len:t.place.size=hs.length
 loose:t.place.size * 5<t.mask * 3
 le:∀ j∈t.place.toList,j<=t.mask
 J1:∀ p∈t.place.toList.zip hs,IQ t.mask (·∈t.place.toList) p.2 p.1
theorem GM.pos(g:GM m):7<=m/\m<=511/\m % 2=1:=by rcases g with rfl | rfl | rfl | rfl<;>decide
theorem AA(r:cE t.place){j:Nat}(h:j∈t.place.toList):∃ i,t.slot j=.live i/\t.place[i]?=some j:=by
 obtain⟨i,hi,e⟩:=mem_iff_getElem.mp h;have e':t.place[i]?=some j:=by
  rw[<- getElem?_toList,List.getElem?_eq_getElem hi,e]
 refine⟨i,?_,e'⟩;unfold SetTable.slot;dsimp only;rw[nq r e',e',if_pos<|beq_self_eq_true _]
theorem AB(hd:t.dummies=#[]){j:Nat}(h:j∉t.place.toList):t.slot j=.empty:=by
 rcases As hd j with ⟨i,e⟩ | ⟨e,_⟩
 ·unfold SetTable.slot at e;dsimp only at e;split at e
  ·next q=>
   have q':=eq_of_beq q;refine absurd ?_ h;rw[<- getElem?_toList] at q';exact mem_of_getElem? q'
  ·split at e<;>cases e
 ·exact e
theorem Hf.some(H:Hf t hs)(h:Int):∃ k,k<10 * SetTable.turns t.mask/\(Eb t.mask h k).j∉t.place.toList:=by
 have:∃ x,x<=t.mask/\x∉t.place.toList:=by
  refine Classical.byContradiction fun c=>?_;have q:=f8 (l:=range (t.mask+1)) (m:=t.place.toList) nodup_range fun x hx=>Classical.byContradiction fun z=>c ⟨x,le_of_lt_succ<|mem_range.mp hx,z⟩;rw[length_range,length_toList] at q;have:=H.loose;lia
 obtain⟨x,h1,h2⟩:=this;obtain⟨k,k1,k2⟩:=Az H.gm h h1;exact⟨k,k1,by rw[k2];exact h2⟩
theorem rT{t : SetTable}(r : cE t.place)(hd : t.dummies = #[])(hA : Nat -> Int)(h : Int): ∀ (fuel k0 : Nat), (∃ k, k0 <= k /\ k < k0 + fuel /\ (Eb t.mask h k).j ∉ t.place.toList) ->
    ∃ k1, k0 <= k1 /\ (∀ k, k0 <= k -> k < k1 -> ∃ i, t.place[i]? = some (Eb t.mask h k).j /\ hA i ≠ h) /\
      ((SetTable.probe.go t hA h fuel (Eb t.mask h k0) = some (.empty (Eb t.mask h k1).j none) /\ (Eb t.mask h k1).j ∉ t.place.toList) \/
        ∃ i, SetTable.probe.go t hA h fuel (Eb t.mask h k0) = some (.candidate (Eb t.mask h k1).j i<|Eb t.mask h<|k1 + 1) /\ t.slot (Eb t.mask h k1).j = .live i /\ t.place[i]? = some (Eb t.mask h k1).j /\ hA i = h)
  | 0, k0, ⟨k, a, b, _⟩ => absurd a (by lia)
  | fuel + 1, k0, ⟨k, a, b, c⟩ => by
    by_cases z : (Eb t.mask h k0).j ∈ t.place.toList
    · obtain ⟨i, e1, e2⟩ := AA r z
      by_cases q : hA i = h
      · refine ⟨k0, Nat.le_refl _, fun k h1 h2 => absurd h1 (by lia), .inr ⟨i, ?_, e1, e2, q⟩⟩
        unfold SetTable.probe.go;rw [e1];dsimp only;rw [if_pos (by rw [q]; exact beq_self_eq_true _)];rfl
      · have ne : k ≠ k0 := fun e => c (e ▸ z)
        obtain ⟨k1, h1, h2, h3⟩ := rT r hd hA h fuel (k0 + 1) ⟨k, by lia, by lia, c⟩;have e : SetTable.probe.go t hA h (fuel + 1) (Eb t.mask h k0) = SetTable.probe.go t hA h fuel (Eb t.mask h<|k0 + 1) := by
          rw [SetTable.probe.go, e1];dsimp only;rw [if_neg (by rw [beq_iff_eq]; exact q)];rfl
        refine ⟨k1, by lia, fun k g1 g2 => ?_, by rw [e]; exact h3⟩;rcases lt_or_ge k0 k with g | g
        · exact h2 k g g2
        · rw [show k = k0 by lia]; exact ⟨i, e2, q⟩
    · refine ⟨k0, Nat.le_refl _, fun k h1 h2 => absurd h1 (by lia), .inl ⟨?_, z⟩⟩
      unfold SetTable.probe.go;rw [AB hd z];dsimp only;rw [nr]
theorem nv(xs:Array α)(p:Nat)(x:α):(SetTable.insertAt xs p x).toList=xs.toList.take p++x::xs.toList.drop p:=SetTable.toList_insertAt xs p x
theorem jh{l:List α}{p:Nat}{x y:α}:y∈l.take p++x::l.drop p↔y=x\/y∈l:=by
 constructor
 ·intro h;rcases mem_append.mp h with h | h
  ·exact .inr (mem_of_mem_take h)
  ·rcases mem_cons.mp h with h | h
   ·exact .inl h
   ·exact .inr (mem_of_mem_drop h)
 ·rintro (rfl | h)
  ·exact mem_append_right _ (.head _)
  ·rw[<- take_append_drop p l] at h;rcases mem_append.mp h with h | h
   ·exact mem_append_left _ h
   ·exact mem_append_right _ (.tail _ h)
theorem AC{a:List α}{b:List β}(hl:a.length=b.length)(p:Nat)(x:α)(y:β):(a.take p++x::a.drop p).zip (b.take p++y::b.drop p)=(a.zip b).take p++(x,y)::(a.zip b).drop p:=by
 rw[List.zip_append (by rw[length_take,length_take,hl]),List.zip_cons_cons];have e1:∀ (p:Nat) (a:List α) (b:List β),(a.take p).zip (b.take p)=(a.zip b).take p:=fun p=>by
  induction p with
  | zero=>intro a b;rfl
  | succ p ih=>intro a b;cases a with
   | nil=>rfl
   | cons x a=>cases b with
    | nil=>rfl
    | cons y b=>exact congrArg ((x,y)::·) (ih a b)
 have e2:∀ (p:Nat) (a:List α) (b:List β),(a.drop p).zip (b.drop p)=(a.zip b).drop p:=fun p=>by
  induction p with
  | zero=>intro a b;rfl
  | succ p ih=>intro a b;cases a with
   | nil=>rfl
   | cons x a=>cases b with
    | nil=>show (a.drop p).zip []=_;rw[List.zip_nil_right];rfl
    | cons y b=>exact ih a b
 rw[e1,e2]
theorem Hf.put(H:Hf t hs){h:Int}{k:Nat}(hk:(Eb t.mask h k).j∉t.place.toList)(ha:∀ k',k'<k->(Eb t.mask h k').j∈t.place.toList):
  (∀ j∈(t.put (Eb t.mask h k).j).1.place.toList,j<=t.mask)/\∀ p∈(t.put (Eb t.mask h k).j).1.place.toList.zip (hs.take (t.put (Eb t.mask h k).j).2++h::hs.drop (t.put (Eb t.mask h k).j).2),IQ t.mask (·∈(t.put (Eb t.mask h k).j).1.place.toList) p.2 p.1:=by
 have e:(t.put (Eb t.mask h k).j).1.place.toList=t.place.toList.take (t.put (Eb t.mask h k).j).2++(Eb t.mask h k).j::t.place.toList.drop (t.put (Eb t.mask h k).j).2:=nv _ _ _;rw[e];refine⟨fun j hj=>?_,fun p hp=>?_⟩
 ·rcases jh.mp hj with rfl | hj
  ·exact rS _ _ _
  ·exact H.le j hj
 ·rw[AC (by rw[length_toList];exact H.len)] at hp;rcases jh.mp hp with rfl | hp
  ·exact⟨k,rfl,fun k' z=>jh.mpr<|.inr<|ha k' z⟩
  ·exact (H.J1 p hp).mono fun x hx=>jh.mpr (.inr hx)
def eg(ow:Array (Option Nat))(j:Nat):Prop:=(ow.getD j<|some 0).isSome=true
theorem rV{m:Nat}(ow:Array (Option Nat))(h:Int):∀ (fuel q:Nat),(∀ k',k'<kq m h q->eg ow (Eb m h k').j)->(∃ q',q<=q'/\q'<q+fuel/\¬ eg ow (El m h q').1)->
  ∃ j,SetTable.layClean.free m ow fuel (El m h q).1 (El m h q).2=some j/\j<=m/\¬ eg ow j/\IQ m (eg ow) h j
 | 0,q,_,⟨q',a,b,_⟩=>absurd a (by lia)
 | fuel+1,q,hk,⟨q',a,b,c⟩=>by
  unfold SetTable.layClean.free;have le:SetTable.runEnd m (El m h q).1<=m:=rR (nu m h q);have ge:(El m h q).1<=SetTable.runEnd m (El m h q).1:=by unfold SetTable.runEnd;split<;>lia
  cases hf:(range<|SetTable.runEnd m (El m h q).1+1 - (El m h q).1).find? (fun k=>(ow.getD ((El m h q).1+k)<|some 0).isNone) with
  | some k=>
   dsimp only;rw[List.find?_range_eq_some] at hf;obtain⟨h1,h2,h3⟩:=hf;have Jh:k<SetTable.runEnd m (El m h q).1+1 - (El m h q).1:=mem_range.mp h2;refine⟨_,rfl,by lia,?_,kq m h q+k,?_,fun k' E1=>?_⟩
   ·unfold eg;intro z;rw[Option.isNone_iff_eq_none] at h1;rw[h1] at z;cases z
   ·rw[hX (ic m h q) k (by lia)]
   ·rcases lt_or_ge k' (kq m h q) with z | z
    ·exact hk k' z
    ·have e:k'=kq m h q+(k' - kq m h q):=by lia
     rw[e,hX (ic m h q) (k' - kq m h q) (by lia)];have:=h3 (k' - kq m h q) (by lia);show (ow.getD ((El m h q).1+(k' - kq m h q))<|some 0).isSome=true;cases w:ow.getD ((El m h q).1+(k' - kq m h q)) (some 0) with
     | none=>rw[w] at this;cases this
     | some _=>rfl
  | none=>
   dsimp only;rw[List.find?_range_eq_none] at hf;have GV:∀ k,k<SetTable.runEnd m (El m h q).1+1 - (El m h q).1->eg ow ((El m h q).1+k):=fun k hk=>by
    have:=hf k hk;unfold eg;cases w:ow.getD ((El m h q).1+k) (some 0) with
    | none=>rw[w] at this;cases this
    | some _=>rfl
   have ne:q'≠q:=fun e=>c (by rw[e];exact GV 0 (by lia));refine rV ow h fuel (q+1) (fun k' E1=>?_) ⟨q',by lia,by lia,c⟩;rcases lt_or_ge k' (kq m h q) with z | z
   ·exact hk k' z
   ·have Gc:k'<kq m h q+(SetTable.runEnd m (El m h q).1 - (El m h q).1)+1:=E1;have e:k'=kq m h q+(k' - kq m h q):=by lia
    rw[e,hX (ic m h q) (k' - kq m h q) (by lia)];exact GV _ (by lia)
structure FZ(m:Nat)(ow:Array (Option Nat))(ps:List Nat)(hs:List Int):Prop where
 size:ow.size=m+1
 len:ps.length=hs.length
 nd:ps.Nodup
 le:∀ j∈ps,j<=m
 own:∀ (j k:Nat),ow[j]?=some (some k)↔ps[k]?=some j
 J1:∀ p∈ps.zip hs,IQ m (·∈ps) p.2 p.1
theorem FZ.GV(I:FZ m ow ps hs){j:Nat}(hj:j<=m):eg ow j↔j∈ps:=by
 have hl:j<ow.size:=by rw[I.size];lia
 unfold eg;rw[show ow.getD j (some 0)=ow[j] by simp[Array.getD,hl]];have e:ow[j]?=some ow[j]:=Array.getElem?_eq_getElem hl;constructor
 ·intro z;obtain⟨k,hk⟩:=Option.isSome_iff_exists.mp z;rw[hk] at e;exact mem_of_getElem? ((I.own j k).mp e)
 ·intro z;obtain⟨k,hk⟩:=getElem?_of_mem z;have:=(I.own j k).mpr hk;rw[e] at this;rw[Option.some.inj this];rfl
theorem FZ.step(g:GM m){ow:Array (Option Nat)}{ps:List Nat}{hs:List Int}(I:FZ m ow ps hs)(hl:hs.length<=m)(h:Int):
  ∃ j,SetTable.layClean.free m ow (SetTable.turns m) (SetTable.bits h % (m+1)) (SetTable.bits h)=some j/\FZ m (ow.setIfInBounds j<|some hs.length) (ps++[j]) (hs++[h]):=by
 have room:∃ x,x<=m/\x∉ps:=by
  refine Classical.byContradiction fun c=>?_;have q:=f8 (l:=range (m+1)) (m:=ps) nodup_range fun x hx=>Classical.byContradiction fun z=>c ⟨x,le_of_lt_succ<|mem_range.mp hx,z⟩;rw[length_range,I.len] at q;lia
 obtain⟨x,Ph,Rj⟩:=room;obtain⟨q,Sn,Rl⟩:=rQ g h Ph;obtain⟨j,f1,f2,f3,f4⟩:=rV (m:=m) ow h (SetTable.turns m) 0 (fun k' E1=>absurd E1<|not_lt_zero _) ⟨q,zero_le _,by lia,by rw[Rl];exact fun z=>Rj<|(I.GV Ph).mp z⟩;have hj:j∉ps:=fun z=>f3 ((I.GV f2).mpr z);have Rm:j<ow.size:=by rw[I.size];lia
 refine⟨j,f1,by rw[Array.size_setIfInBounds,I.size],by rw[length_append,length_append,I.len];rfl,?_,?_,fun j' k=>?_,?_⟩
 ·exact nodup_append.mpr ⟨I.nd,pairwise_singleton _ _,fun a ha b hb e=>hj (by rw[<- mem_singleton.mp hb,<- e];exact ha)⟩
 ·intro a ha;rcases mem_append.mp ha with ha | ha
  ·exact I.le a ha
  ·rw[mem_singleton.mp ha];exact f2
 ·rw[Array.getElem?_setIfInBounds];by_cases e:j=j'
  ·subst e;rw[if_pos rfl,if_pos Rm];constructor
   ·intro z;cases z;rw[<- I.len,getElem?_append_right<|Nat.le_refl _,Nat.sub_self];rfl
   ·intro z;rcases lt_or_ge k ps.length with w | w
    ·rw[getElem?_append_left w] at z;exact absurd (mem_of_getElem? z) hj
    ·rw[getElem?_append_right w] at z;have:k - ps.length=0:=by
      have:=(List.getElem?_eq_some_iff.mp z).1;rw[length_singleton] at this;lia
     rw[show k=hs.length by rw[<- I.len];lia]
  ·rw[if_neg e,I.own j' k];rcases lt_or_ge k ps.length with w | w
   ·rw[getElem?_append_left w]
   ·rw[getElem?_append_right w,List.getElem?_eq_none w];constructor
    ·intro z;cases z
    ·intro z;have:=mem_of_getElem? z;exact absurd (mem_singleton.mp this) (fun z=>e z.symm)
 ·intro p hp;rw[List.zip_append I.len] at hp;rcases mem_append.mp hp with hp | hp
  ·exact (I.J1 p hp).mono fun x hx=>mem_append_left _ hx
  ·rw[List.zip_cons_cons,List.zip_nil_left] at hp;rw[mem_singleton.mp hp];obtain⟨k,e,a⟩:=f4;exact⟨k,e,fun k' E1=>mem_append_left _<|(I.GV<|rS _ _ _).mp<|a k' E1⟩
theorem rW{m:Nat}(g:GM m):∀ (rest hs:List Int) (ow:Array (Option Nat)) (ps:List Nat),FZ m ow ps hs->(hs++rest).length<=m->
  ∃ ML NV,rest.foldl (fun (acc:Option (Array (Option Nat)×Nat)) h=>do
   let (owner,k) <- acc
   let j <- SetTable.layClean.free m owner (SetTable.turns m) (SetTable.bits h % (m+1)) (SetTable.bits h)
   pure (owner.setIfInBounds j<|some k,k+1)) (some (ow,hs.length))=some (ML,(hs++rest).length)/\FZ m ML NV (hs++rest)
 | [],hs,ow,ps,I,_=>⟨ow,ps,by rw[append_nil];rfl,by rw[append_nil];exact I⟩
 | h::rest,hs,ow,ps,I,hl=>by
  obtain⟨j,e,I'⟩:=I.step g (by rw[length_append] at hl;lia) h;obtain⟨ML,NV,e2,I2⟩:=rW g rest (hs++[h]) _ _ I' (by rw[List.append_assoc];exact hl);rw[List.append_assoc] at e2 I2;refine⟨ML,NV,?_,I2⟩;rw[foldl_cons];rw[show (hs++[h]).length=hs.length+1 from length_append] at e2;refine Eq.trans (congrArg (fun z=>List.foldl _ z rest) ?_) e2;show (SetTable.layClean.free m ow (SetTable.turns m) (SetTable.bits h % (m+1))<|SetTable.bits h).bind _=_;rw[e];rfl
theorem AD(g:GM m)(hs:Array Int)(hl:hs.size<=m):∃ ow ps,SetTable.layClean m hs=some ow/\FZ m ow ps hs.toList:=by
 have I0:FZ m (Array.replicate (m+1) none) [] []:=by
  refine⟨Array.size_replicate,rfl,nodup_nil,fun _ h=>(not_mem_nil h).elim,fun j k=>⟨fun z=>?_,fun z=>?_⟩,fun _ h=>(not_mem_nil h).elim⟩
  ·have:=(Array.getElem?_eq_some_iff.mp z).2;rw[Array.getElem_replicate] at this;cases this
  ·simp at z
 obtain⟨ow,ps,e,I⟩:=rW g hs.toList [] _ _ I0 (by rw[nil_append,length_toList];exact hl);refine⟨ow,ps,?_,I⟩;unfold SetTable.layClean;rw[<- Array.foldl_toList];exact congrArg (Option.map (·.1)) e
theorem AE{p:Nat×Nat}:p∈(range<|m+1).filterMap (fun j=>(ow.getD j none).map (j,·))↔p.1<=m/\ow[p.1]?=some (some p.2):=by
 rw[mem_filterMap];constructor
 ·rintro⟨j,h1,h2⟩;obtain⟨k,e1,rfl⟩:=map_eq_some_iff.mp h2;refine⟨le_of_lt_succ<|mem_range.mp h1,?_⟩;show ow[j]?=some (some k);by_cases z:j<ow.size
  ·rw[show ow.getD j none=ow[j] by simp[Array.getD,z]] at e1;rw[Array.getElem?_eq_getElem z,e1]
  ·rw[show ow.getD j none=none by simp[Array.getD,z]] at e1;cases e1
 ·rintro⟨h1,h2⟩;refine⟨p.1,mem_range.mpr<|Nat.lt_succ_of_le h1,?_⟩;obtain⟨z,e⟩:=Array.getElem?_eq_some_iff.mp h2;rw[show ow.getD p.1 none=ow[p.1] by simp[Array.getD,z],e];rfl
theorem rX{α β:Type}:∀ {l:List (α×β)},(l.map (·.1)).Nodup->(∀ a∈l,∀ b∈l,a.2=b.2->a.1=b.1)->(l.map (·.2)).Nodup
 | [],_,_=>nodup_nil
 | x::l,h,i=>by
  rw[map_cons] at h ⊢;have h':=nodup_cons.mp h;refine nodup_cons.mpr ⟨fun z=>?_,rX h'.2 fun a ha b hb=>i a (.tail _ ha) b<|.tail _ hb⟩;obtain⟨y,hy,e⟩:=mem_map.mp z;have:=i y (.tail _ hy) x (.head _) e;exact h'.1 (by rw[<- this];exact List.mem_map_of_mem hy)
theorem rY{α β γ:Type}(f:α->β)(g:α->γ):∀ l:List α,(l.map f).zip (l.map g)=l.map fun x=>(f x,g x)
 | []=>rfl
 | x::l=>congrArg (_::·) (rY f g l)
theorem AF{wanted:Nat}(g:GM (SetTable.sizeAbove wanted - 1))(hl:es.size * 5<(SetTable.sizeAbove wanted - 1) * 3){led:Bool}(k:t.led=led):
  ∃ t' order,t.relaid (es.map (·.1)) wanted=some (t',order)/\order.toList.Perm (range es.size)/\EL t' led/\Hf t' ((order.filterMap (es[·]?)).toList.map (·.1)):=by
 obtain⟨ow,ps,e,I⟩:=AD g (es.map (·.1)) (by rw[size_map];lia);generalize hm:SetTable.sizeAbove wanted - 1=m at *;have hL:t.relaid (es.map (·.1)) wanted=some ({ mask:=m,place:=(((range<|m+1).filterMap fun j=>(ow.getD j none).map (j,·)).map (·.1)).toArray,dummies:=#[],finger:=t.finger,led:=t.led,moves:=t.movedTo m,plain:=t.plain },(((range<|m+1).filterMap fun j=>(ow.getD j none).map (j,·)).map (·.2)).toArray):=by
  unfold SetTable.relaid SetTable.laid;rw[hm,e];rfl
 have FG:=fun (p:Nat×Nat)=>AE (m:=m) (ow:=ow) (p:=p);have rise:(((range<|m+1).filterMap fun j=>(ow.getD j none).map (j,·)).map (·.1)).Pairwise (· < ·):=by
  have:=(At (t:=_) (o:=_) hL);exact this.rise
 generalize Rn:(range<|m+1).filterMap (fun j=>(ow.getD j none).map (j,·))=L at hL FG rise;have pos:∀ p∈L,ps[p.2]?=some p.1:=fun p hp=>(I.own _ _).mp ((FG p).mp hp).2;have lt:∀ p∈L,p.2<es.size:=fun p hp=>by
  have:=(List.getElem?_eq_some_iff.mp<|pos p hp).1;rw[I.len,length_toList,size_map] at this;exact this
 have Lo:(L.map (·.1)).Nodup:=rise.imp fun h=>ne_of_lt h;have Gv:(L.map (·.2)).Nodup:=rX Lo fun a ha b hb e=>by
  have h1:=pos a ha;have h2:=pos b hb;rw[e] at h1;exact Option.some.inj (h1.symm.trans h2)
 have perm:(L.map (·.2)).Perm (range es.size):=by
  refine (List.perm_ext_iff_of_nodup Gv nodup_range).mpr fun x=>?_;rw[mem_range];constructor
  ·intro h;obtain⟨p,hp,rfl⟩:=mem_map.mp h;exact lt p hp
  ·intro h;have hx:x<ps.length:=by rw[I.len,length_toList,size_map];exact h
   have h1:ps[x]?=some ps[x]:=List.getElem?_eq_getElem hx;exact mem_map.mpr ⟨(ps[x],x),(FG _).mpr ⟨I.le _<|getElem_mem hx,(I.own _ _).mpr h1⟩,rfl⟩
 have hlen:L.length=es.size:=by
  have:=perm.length_eq
  rwa [length_map,length_range] at this
 have Pj:((L.map (·.2)).filterMap (es[·]?)).map (·.1)=L.map fun p=>(es.getD p.2 (0,.none)).1:=by
  clear FG rise pos Lo Gv perm hlen hL Rn;induction L with
  | nil=>rfl
  | cons p L ih=>
   have hp:=lt p (.head _);rw[map_cons,List.filterMap_cons_some<|Array.getElem?_eq_getElem hp,map_cons,map_cons,ih fun q hq=>lt q<|.tail _ hq];congr 1;simp[Array.getD,hp]
 refine⟨_,_,hL,?_,⟨?_,rfl,k⟩,⟨g,?_,?_,?_,?_⟩⟩
 ·exact perm
 ·exact rise
 ·rw[Array.toList_filterMap];show (L.map (·.1)).toArray.size=(((L.map (·.2)).filterMap (es[·]?)).map (·.1)).length;rw[Pj,size_toArray,length_map,length_map]
 ·show (L.map (·.1)).toArray.size * 5<m * 3;rw[size_toArray,length_map,hlen];exact hl
 ·intro j hj;obtain⟨p,hp,rfl⟩:=mem_map.mp hj;exact ((FG p).mp hp).1
 ·rw[Array.toList_filterMap];show ∀ p∈(L.map (·.1)).zip (((L.map (·.2)).filterMap (es[·]?)).map (·.1)),IQ m (·∈L.map (·.1)) p.2 p.1;rw[Pj,rY];intro p hp;obtain⟨q,hq,rfl⟩:=mem_map.mp hp;have h1:=pos q hq;have h2:((es.map (·.1)).toList)[q.2]?=some (es.getD q.2 (0,.none)).1:=by
   have:=lt q hq;rw[getElem?_toList,Array.getElem?_map,Array.getElem?_eq_getElem this];simp[Array.getD,this]
  have hz:(q.1,(es.getD q.2 (0,.none)).1)∈ps.zip (es.map (·.1)).toList:=by
   refine mem_of_getElem? (i:=q.2) ?_;rw[List.getElem?_zip_eq_some];exact⟨h1,h2⟩
  refine (I.J1 _ hz).mono fun x hx=>?_;obtain⟨k,hk⟩:=getElem?_of_mem hx;exact mem_map.mpr ⟨(x,k),(FG _).mpr ⟨I.le x hx,(I.own _ _).mpr hk⟩,rfl⟩
theorem AG(g:GM m)(h1:n * 5<m * 3)(h2:(n+1) * 5 >= m * 3)(h3:n+1<=300):GM (SetTable.sizeAbove (SetTable.grown<|n+1) - 1)/\(n+1) * 5<(SetTable.sizeAbove (SetTable.grown<|n+1) - 1) * 3/\SetTable.sizeAbove (SetTable.grown<|n+1)<=512:=by
 rcases g with rfl | rfl | rfl | rfl
 ·rw[show n=4 by lia];exact⟨.inr (.inl (by decide)),by decide,by decide⟩
 ·rw[show n=18 by lia];exact⟨.inr (.inr (.inl (by decide))),by decide,by decide⟩
 ·rw[show n=76 by lia];exact⟨.inr (.inr (.inr (by decide))),by decide,by decide⟩
 ·lia
section
variable{prog:Program}{w:World}{A:Around}{E:Value->Shared->Prop}{s:Shared}
end
section
variable{prog:Program}{w:World}
theorem rZ:∀ (n:Nat) {A:Around}{E:Value->Shared->Prop}{s:Shared}{d:Im}{v:Value}{Q:Bool->Shared->Prop},Im.key n d=true->EH s.heap d v->(∀ b,Q b s)->wpAny (model prog w) A (hashByValue n v) Q E s
 | n,A,E,s,.int i,v,Q,_,hv,h=>by
  obtain⟨t,rfl⟩:=hv;rw[show hashByValue n (.int i t)=pure true from by cases n<;>rfl];exact wpAny_pure (h _)
 | n,A,E,s,.str i,v,Q,_,hv,h=>by
  obtain⟨t,rfl⟩:=hv;rw[show hashByValue n (.str i t)=pure false from by cases n<;>rfl];exact wpAny_pure (h _)
 | n+1,A,E,s,.tup ds,v,Q,k,hv,h=>by
  obtain⟨a,o,items,m,rfl,ho,hc,hd,hi⟩:=hv;have hT:s.TypeIs (.ref a) "tuple" := ⟨o,ho,hc⟩;unfold hashByValue;refine wpAny_bind (wpAny_specialOf hT F.slot_tuple_hash.lookup ?_);show wpAny _ _ (seqItems? (.ref a) >>= _) _ _ s;refine wpAny_bind (wpAny_seqItems ho hd ?_);refine wpAny_bind ?_;show wpAny _ _ (forIn items _ _) _ _ s;rw[<- forIn_toList];rw[Im.key] at k;refine wpAny_forIn_list _ (fun rest r s'=>s'=s/\∃ left,Im.keys n left=true/\aO s.heap left rest) _ ?_ ?_ _ _ ⟨rfl,ds,k,hi⟩
  ·rintro v rest r s' ⟨rfl,left,hk,hl⟩;cases left with
   | nil=>cases (show v::rest=[] from hl)
   | cons d left=>
    obtain⟨v',r',e,h1,Fm⟩:=hl;cases e;rw[Im.keys,and_eq_true] at hk;refine wpAny_bind (rZ n hk.1 h1 fun b=>?_);cases b
    ·show wpAny _ _ (pure<|ForInStep.done _) _ _ _;exact wpAny_pure (wpAny_pure<|h _)
    ·show wpAny _ _ (pure<|ForInStep.yield _) _ _ _;exact wpAny_pure ⟨rfl,left,hk.2,Fm⟩
  ·rintro⟨r1,r2⟩ s' ⟨rfl,_⟩;cases r1 with
   | none=>exact wpAny_pure (h _)
   | some b=>exact wpAny_pure (h _)
 | _,_,_,_,.j_,_,_,k,_,_=>by cases ‹Nat›<;>cases k
 | _,_,_,_,.bl _,_,_,k,_,_=>by cases ‹Nat›<;>cases k
 | _,_,_,_,.fn _,_,_,k,_,_=>by cases ‹Nat›<;>cases k
 | _,_,_,_,.fl _,_,_,k,_,_=>by cases ‹Nat›<;>cases k
 | _,_,_,_,.fd,_,_,k,_,_=>by cases ‹Nat›<;>cases k
 | 0,_,_,_,.tup _,_,_,k,_,_=>by cases k
theorem nw:∀ (n:Nat) {A:Around}{E:Value->Shared->Prop}{s:Shared}{d:Im}{v:Value}{Q:Bool->Shared->Prop},Im.key n d=true->EH s.heap d v->Q false s->wpAny (model prog w) A (ofAClassStatement n v) Q E s
 | n,A,E,s,.int i,v,Q,_,hv,h=>by
  obtain⟨t,rfl⟩:=hv;rw[show ofAClassStatement n (.int i t)=pure false from by cases n<;>rfl];exact wpAny_pure h
 | n,A,E,s,.str i,v,Q,_,hv,h=>by
  obtain⟨t,rfl⟩:=hv;rw[show ofAClassStatement n (.str i t)=pure false from by cases n<;>rfl];exact wpAny_pure h
 | n+1,A,E,s,.tup ds,v,Q,k,hv,h=>by
  obtain⟨a,o,items,m,rfl,ho,hc,hd,hi⟩:=hv;have hT:s.TypeIs (.ref a) "tuple" := ⟨o,ho,hc⟩;unfold ofAClassStatement;refine wpAny_bind (wpAny_typeOf hT ?_);dsimp only;rw[if_pos (show ("tuple" == "tuple")=true by decide)];refine wpAny_bind (wpAny_pure ?_);simp only[Bool.not_true,false_eq_true,if_false];refine wpAny_bind (wpAny_seqItems ho hd ?_);dsimp only;refine wpAny_bind ?_;show wpAny _ _ (forIn items _ _) _ _ s;rw[<- forIn_toList];rw[Im.key] at k;refine wpAny_forIn_list _ (fun rest r s'=>r.1=none/\s'=s/\∃ left,Im.keys n left=true/\aO s.heap left rest) _ ?_ ?_ _ _ ⟨rfl,rfl,ds,k,hi⟩
  ·rintro v rest r s' ⟨hr,rfl,left,hk,hl⟩;cases left with
   | nil=>cases (show v::rest=[] from hl)
   | cons d left=>
    obtain⟨v',r',e,h1,Fm⟩:=hl;cases e;rw[Im.keys,and_eq_true] at hk;refine wpAny_bind (nw n hk.1 h1 ?_);simp only[false_eq_true,if_false];exact wpAny_pure ⟨rfl,rfl,left,hk.2,Fm⟩
  ·rintro⟨r1,r2⟩ s' ⟨hr,rfl,_⟩;simp only at hr;subst hr;exact wpAny_pure h
 | _,_,_,_,.j_,_,_,k,_,_=>by cases ‹Nat›<;>cases k
 | _,_,_,_,.bl _,_,_,k,_,_=>by cases ‹Nat›<;>cases k
 | _,_,_,_,.fn _,_,_,k,_,_=>by cases ‹Nat›<;>cases k
 | _,_,_,_,.fl _,_,_,k,_,_=>by cases ‹Nat›<;>cases k
 | _,_,_,_,.fd,_,_,k,_,_=>by cases ‹Nat›<;>cases k
 | 0,_,_,_,.tup _,_,_,k,_,_=>by cases k
theorem AH{A:Around}{E:Value->Shared->Prop}{x:Addr}{Q:Bool->Shared->Prop}(hx:(be prog w).is s.heap k x){vs:List Value}(hv:∀ v∈vs,∃ b k',v=.ref b/\(be prog w).is s.heap k' b)(h:Q false s):
  wpAny (model prog w) A (searchCouldBeSeen (.ref x) vs) Q E s:=by
 unfold searchCouldBeSeen;refine wpAny_bind ?_;refine wpAny_forIn_list _ (fun rest r s'=>r.1=none/\s'=s/\∀ v∈rest,∃ b k',v=.ref b/\(be prog w).is s.heap k' b) _ ?_ ?_ _ _ ⟨rfl,rfl,hv⟩
 ·rintro v rest r s' ⟨hr,rfl,hl⟩;obtain⟨b,k',rfl,hb⟩:=hl v (.head _);have Fm:∀ v∈rest,∃ b k',v=.ref b/\(be prog w).is s'.heap k' b:=fun v hv=>hl v (.tail _ hv);dsimp only;cases So:(x == b) with
  | true=>
   simp only[Bool.true_or,if_true];exact wpAny_pure ⟨rfl,rfl,Fm⟩
  | false=>
   simp only[Bool.false_or];rw[if_neg (show ¬ ((carriedByValue (Value.ref x) && carriedByValue (Value.ref b))=true) from fun z=>Bool.false_ne_true z)];refine wpAny_bind (jH 8 (d:=.tup _) hx.1 hx.2 ?_);simp only[Bool.not_true,false_eq_true,if_false];refine wpAny_bind (jH 8 (d:=.tup _) hb.1 hb.2 ?_);simp only[Bool.not_true,false_eq_true,if_false];refine wpAny_bind (nw 8 (d:=.tup _) hx.1 hx.2 ?_);simp only[false_eq_true,if_false];refine wpAny_bind (nw 8 (d:=.tup _) hb.1 hb.2 ?_);simp only[false_eq_true,if_false];exact wpAny_pure ⟨rfl,rfl,Fm⟩
 ·rintro⟨r1,r2⟩ s' ⟨hr,rfl,_⟩;simp only at hr;subst hr;exact wpAny_pure h
end
section
variable(w:World)(P:List Im->Addr->Prop)
def kG(z:List Im×Int×Value):Prop:=∃ b,z.2.2=.ref b/\z.2.1=Es w (.tup z.1)/\P z.1 b
structure EZ(es:Array (Int×Value))(t:SetTable)(led:Bool)(ks:List (List Im)):Prop where
 KB:∃ zs:List (List Im×Int×Value),zs.map (·.2)=es.toList/\(zs.map (·.1)).Perm ks/\∀ z∈zs,kG w P z
 tab:EL t led
 ht:Hf t (es.toList.map (·.1))
 nd:ks.Nodup
def bB(h:Heap)(a:Addr)(led:Bool)(ks:List (List Im)):Prop:=∃ o es ep t,h.get? a=some o/\o.ExactSet/\o.data=.set es ep t/\EZ w P es t led ks
end
section
variable{prog:Program}{w:World}{P:List Im->Addr->Prop}{A:Around}{E:Value->Shared->Prop}
theorem EZ.size(D:EZ w P es t led ks):t.place.size=es.size:=by
 rw[D.ht.len,length_map,length_toList]
theorem EZ.fit(D:EZ w P es t led ks):t.fits es.size=true:=by
 have:=D.ht.loose;unfold SetTable.fits SetTable.fill;rw[D.tab.Kz,D.size,and_eq_true,beq_iff_eq,decide_eq_true_iff];rw[D.size] at this;exact⟨rfl,by show es.size+0<=_;lia⟩
theorem EZ.num(D:EZ w P es t led ks):es.size=ks.length:=by
 obtain⟨zs,h1,h2,_⟩:=D.KB;rw[<- h2.length_eq,length_map,<- length_toList,<- h1,length_map]
theorem r6(r:cE xs){i i' j:Nat}(a:xs[i]?=some j)(b:xs[i']?=some j):i=i':=by
 rw[<- nq r a,<- nq r b]
theorem AI{M:Model}{c:Bool}{m:Sem Bool}{u r:Sem α}{Q:α->Shared->Prop}(h1:∀ Q':Bool->Shared->Prop,Q' false s->wpAny M A m Q' E s)(h2:wpAny M A r Q E s):
  wpAny M A (if c=true then (do let b <- m;if b=true then u else r) else r) Q E s:=by
 cases c
 ·rw[if_neg Bool.false_ne_true];exact h2
 ·rw[if_pos rfl];refine wpAny_bind (h1 _ ?_);rw[if_neg Bool.false_ne_true];exact h2
theorem se{a x:Addr}{k:List Im}{led:Bool}{ks:List (List Im)}{o:Obj}{es:Array (Int×Value)}{ep:Nat}{t:SetTable}{s:Shared}{Q:SetFound->Shared->Prop}{zs:List (List Im×Int×Value)}(hu:A.units+20<cLine)(ho:s.heap.get? a=some o)(hd:o.data=.set es ep t)(D:EZ w P es t led ks)(hx:(be prog w).is s.heap k x)(Hg:∀ q b,P q b->(be prog w).is s.heap q b)(z1:zs.map (·.2)=es.toList)(z2:(zs.map (·.1)).Perm ks)(z3:∀ z∈zs,kG w P z)(HW:k∈ks->Q (.there none) s)(Ge:k∉ks->∀ kk,(Eb t.mask (Es w<|.tup k) kk).j∉t.place.toList->(∀ k',k'<kk->(Eb t.mask (Es w<|.tup k) k').j∈t.place.toList)->Q (.free (Eb t.mask (Es w<|.tup k) kk).j false) s){kE:Nat}(hE:(Eb t.mask (Es w<|.tup k) kE).j∉t.place.toList)(MM:kE<10 * SetTable.turns t.mask):
  ∀ (fuel k0:Nat) (st:Option SetTable.Probe),st.getD (t.probeStart<|Es w<|.tup k)=Eb t.mask (Es w<|.tup k) k0->kE<k0+fuel->(∀ k',k'<k0->(Eb t.mask (Es w<|.tup k) k').j∈t.place.toList)->
   (∀ (i k':Nat),k'<k0->t.place[i]?=some (Eb t.mask (Es w<|.tup k) k').j->(zs.map (·.1))[i]?≠some k)->
   wpAny (model prog w) A (setSearchFrom a (.ref x) (Es w<|.tup k) true fuel st) Q E s
 | 0,k0,st,_,hf,hk,_=>by
  refine absurd (hk kE (by lia)) hE
 | fuel+1,k0,st,Iu,hf,hk,hs=>by
  have Ro:k0<=kE:=by
   rcases lt_or_ge kE k0 with z | z
   ·exact absurd (hk kE z) hE
   ·exact z
  have hz:zs.length=es.size:=by rw[<- length_toList,<- z1,length_map]
  have hash:∀ (i:Nat) (q:List Im),(zs.map (·.1))[i]?=some q->∃ e b,es[i]?=some e/\e.2=.ref b/\e.1=Es w (.tup q)/\(be prog w).is s.heap q b:=fun i q hq=>by
   obtain⟨z,e1,e2⟩:=map_eq_some_iff.mp (by rw[List.getElem?_map] at hq;exact hq);obtain⟨b,c1,c3,c2⟩:=z3 z (mem_of_getElem? e1);subst e2;refine⟨z.2,b,?_,c1,c3,Hg _ _ c2⟩;rw[<- getElem?_toList,<- z1,List.getElem?_map,e1];rfl
  unfold setSearchFrom;refine wpAny_bind (wpAny_setState_of ho hd D.fit ?_);dsimp only;rw[if_neg (by unfold SetTable.gaveWay;rw[beq_iff_eq];have:=D.ht.gm.pos;lia)];rw[Iu];unfold SetTable.probe;obtain⟨k1,g1,g2,g3⟩:=rT D.tab.rise D.tab.Kz (fun i=>(es[i]?.map (·.1)).getD 0) (Es w<|.tup k) (10 * SetTable.turns t.mask) k0 ⟨kE,Ro,by lia,hE⟩;have GV:∀ k',k'<k1->(Eb t.mask (Es w<|.tup k) k').j∈t.place.toList:=fun k' E1=>by
   rcases lt_or_ge k' k0 with z | z
   ·exact hk k' z
   ·obtain⟨i,h1,_⟩:=g2 k' z E1;rw[<- getElem?_toList] at h1;exact mem_of_getElem? h1
  have Jl:∀ (i k':Nat),k'<k1->t.place[i]?=some (Eb t.mask (Es w<|.tup k) k').j->(zs.map (·.1))[i]?≠some k:=fun i k' E1 hp hq=>by
   rcases lt_or_ge k' k0 with z | z
   ·exact hs i k' z hp hq
   ·obtain⟨i',h1,h2⟩:=g2 k' z E1;have:=r6 D.tab.rise hp h1;subst this;obtain⟨e,b,c1,c2,c3,c4⟩:=hash i k hq;rw[c1] at h2;exact h2 c3
  generalize hg:SetTable.probe.go t _ (Es w<|.tup k) _ (Eb t.mask (Es w<|.tup k) k0)=g;rcases g3 with ⟨e,hn⟩ | ⟨i,e,e2,e3,e4⟩
  ·cases hg.symm.trans e;refine wpAny_pure (Ge (fun Rp=>?_) k1 hn GV);have NW:=z2.mem_iff.mpr Rp;obtain⟨i,hi⟩:=getElem?_of_mem NW;obtain⟨e,b,c1,c2,c3,c4⟩:=hash i k hi;have Fg:i<es.size:=(Array.getElem?_eq_some_iff.mp c1).1;have hp:t.place[i]?=some (t.place[i]'(by rw[D.size];exact Fg)):=Array.getElem?_eq_getElem (by rw[D.size];exact Fg);have hm:(t.place[i]'(by rw[D.size];exact Fg),Es w<|.tup k)∈t.place.toList.zip (es.toList.map (·.1)):=by
    refine mem_of_getElem? (i:=i) ?_;rw[List.getElem?_zip_eq_some];refine⟨by rw[getElem?_toList];exact hp,?_⟩;rw[List.getElem?_map,getElem?_toList,c1,<- c3];rfl
   obtain⟨ki,r1,r2⟩:=D.ht.J1 _ hm;have Ff:ki<k1:=by
    rcases Nat.lt_trichotomy ki k1 with z | z | z
    ·exact z
    ·refine absurd ?_ hn;rw[<- z,r1];exact Array.getElem_mem_toList ..
    ·exact absurd (r2 k1 z) hn
   exact Jl i ki Ff (by rw[hp,r1]) hi
  ·cases hg.symm.trans e;have Fg:i<zs.length:=by rw[hz,<- D.size];exact (Array.getElem?_eq_some_iff.mp e3).1
   have Pk:(zs.map (·.1))[i]?=some zs[i].1:=by rw[List.getElem?_map,List.getElem?_eq_getElem Fg];rfl
   obtain⟨en,b,c1,c2,c3,c4⟩:=hash i _ Pk;dsimp only;refine AI (fun Q' q=>AH hx (fun v hv=>?_) q) ?_
   ·obtain⟨e',Rq,rfl⟩:=mem_map.mp hv;have Lx:e'∈es.toList:=Array.mem_toList_iff.mpr (Array.mem_filter.mp<|Array.mem_toList_iff.mp Rq).1;rw[<- z1] at Lx;obtain⟨z,Rr,rfl⟩:=mem_map.mp Lx;obtain⟨b',d1,_,d2⟩:=z3 z Rr;exact⟨b',z.1,d1,Hg _ _ d2⟩
   ·obtain⟨eh,ev⟩:=en;cases c2;rw[c1];dsimp only;refine wpAny_bind (wpAny_holding ((be prog w).eqBool (show A.units+10<cLine by lia) c4 hx ?_));refine wpAny_bind (wpAny_setState_of ho hd D.fit ?_);by_cases hq:zs[i].1=k
    ·rw[decide_eq_true hq,if_pos<|show (true && true)=true from rfl];exact wpAny_pure (HW (z2.mem_iff.mp (by rw[<- hq];exact List.mem_map_of_mem (getElem_mem Fg))))
    ·rw[decide_eq_false hq,if_neg (by decide)];dsimp only;rw[show t.sameMemory t.moves t.mask=some true by unfold SetTable.sameMemory;rw[if_pos (beq_self_eq_true _)]];dsimp only;rw[if_pos rfl,e2];dsimp only;rw[c1];dsimp only;refine wpAny_bind (wpAny_isSame_ref_self<|wpAny_bind<|wpAny_pure ?_);rw[if_pos rfl];dsimp only;rw[if_neg Bool.false_ne_true];refine se hu ho hd D hx Hg z1 z2 z3 HW Ge hE MM fuel (k1+1) _ rfl (by lia) (fun k' E1=>?_) fun i' k' E1 hp=>?_
     ·rcases lt_or_ge k' k1 with z | z
      ·exact GV k' z
      ·rw[show k'=k1 by lia];rw[<- getElem?_toList] at e3;exact mem_of_getElem? e3
     ·rcases lt_or_ge k' k1 with z | z
      ·exact Jl i' k' z hp
      ·rw[show k'=k1 by lia] at hp;have:=r6 D.tab.rise hp e3;subst this;rw[Pk];exact fun e=>hq (Option.some.inj e)
end
def cx(ks:List (List Im))(k:List Im):List (List Im):=if k∈ks then ks else ks++[k]
section
variable{prog:Program}{w:World}{P:List Im->Addr->Prop}{A:Around}{E:Value->Shared->Prop}{s:Shared}
structure Hh(w:World)(P:List Im->Addr->Prop)(es:Array (Int×Value))(t:SetTable)(led:Bool)(ks:List (List Im))(n:Nat):Prop where
 KB:∃ zs:List (List Im×Int×Value),zs.map (·.2)=es.toList/\(zs.map (·.1)).Perm ks/\∀ z∈zs,kG w P z
 tab:EL t led
 gm:GM t.mask
 len:t.place.size=es.size
 le:∀ j∈t.place.toList,j<=t.mask
 J1:∀ p∈t.place.toList.zip (es.toList.map (·.1)),IQ t.mask (·∈t.place.toList) p.2 p.1
 nd:ks.Nodup
 sz:es.size=n+1
 Pl:n * 5<t.mask * 3
theorem Hh.J0(D:Hh w P es t led ks n):t.fits es.size=true:=by
 have:=D.Pl;have:=D.gm.pos;unfold SetTable.fits SetTable.fill;rw[D.tab.Kz,D.len,D.sz,and_eq_true,beq_iff_eq,decide_eq_true_iff];exact⟨rfl,by show n+1+0<=_;lia⟩
theorem Hh.done(D:Hh w P es t led ks n)(hf:¬ ((n+1) * 5 >= t.mask * 3)):EZ w P es t led ks:=
 ⟨D.KB,D.tab,⟨D.gm,by rw[D.len,length_map,length_toList],by rw[D.len,D.sz];lia,D.le,D.J1⟩,D.nd⟩
theorem sf{es':Array (Int×Value)}{t':SetTable}(ho:h.get? a=some o)(hd:o.data=.set es ep t):
  (h.update a<|Obj.putSet es' t').get? a=some { o with data:=.set es' (ep+1) t' }:=by
 have:=Heap.get?_update_self (Obj.putSet es' t') ho (by rw[putSet_of es' t' hd];rfl);rw[putSet_of es' t' hd] at this;exact this
theorem ny{α β:Type}(f:α->β)(l:List α)(m:List β)(hm:l.map f=m):∀ is:List Nat,(is.filterMap (l[·]?)).map f=is.filterMap (m[·]?)
 | []=>rfl
 | i::is=>by
  subst hm;rw[filterMap_cons,filterMap_cons,List.getElem?_map];cases l[i]? with
  | none=>exact ny f l _ rfl is
  | some x=>exact congrArg (f x::·) (ny f l _ rfl is)
theorem si(l:List α):(range l.length).filterMap (l[·]?)=l:=by
 have:=filterMap_getElem?_range l.toArray;simpa using this
theorem nz{es GW : Array (Int × Value)}{t1:SetTable}{R : Bool -> Shared -> Prop}(ho : s.heap.get? a = some o)(hex : o.ExactSet)(hd : o.data = .set es ep t)(hn : es.size = n)(hl : n + 1 <= 300)(D : Hh w P GW t1 led ks n)(h : ∀ h', Heap.SameBut a s.heap h' -> bB w P h' a led ks -> R true { s with heap := h' }):
    wpAny (model prog w) A (do
        storeSet a GW t1
        if (!false && t1.tooFull) = true then do
            setRelay a (SetTable.grown<|es.size + 1)
            pure true
          else pure true) R E s := by
  refine wpAny_bind (wpAny_storeSet_of ho hd ?_ (by rw [D.sz]; exact Nat.le_trans hl (by decide)));have Jj := sf (es' := GW) (t' := t1) ho hd;have NU := Heap.SameBut.update s.heap a (Obj.putSet GW t1);have ef : t1.tooFull = decide ((n + 1) * 5 >= t1.mask * 3) := by
    unfold SetTable.tooFull SetTable.fill;rw [D.tab.Kz, D.len, D.sz];rfl
  by_cases hf : (n + 1) * 5 >= t1.mask * 3
  · rw [ef, decide_eq_true hf, if_pos<|show (!false && true) = true from rfl]
    obtain ⟨g1, g2, g3⟩ := AG D.gm D.Pl hf hl;unfold setRelay;refine wpAny_bind (wpAny_bind<|wpAny_setState_of Jj rfl D.J0 ?_);dsimp only;rw [hn, if_neg (fun z => absurd (lt_of_lt_of_le z g3) (by decide))];obtain ⟨t', order, r1, r2, r3, r4⟩ := AF (t := t1) (es := GW) (wanted := SetTable.grown (n + 1)) g1 (by rw [D.sz]; exact g2) D.tab.led;rw [r1];have eo : (order.filterMap (GW[·]?)).toList = order.toList.filterMap (GW.toList[·]?) := by
      rw [Array.toList_filterMap];simp
    have hp : (order.filterMap (GW[·]?)).toList.Perm GW.toList := by
      rw [eo];refine (r2.filterMap _).trans ?_;rw [<- length_toList, si]
    have hsz : (order.filterMap (GW[·]?)).size = GW.size := by rw [<- length_toList, hp.length_eq, length_toList]
    refine wpAny_bind (m := if ((order.filterMap (GW[·]?)).size != GW.size) = true then _ else _) ?_;rw [hsz, if_neg (by simp)];refine wpAny_pure ?_;dsimp only;refine wpAny_storeSet_of Jj rfl ?_ (by rw [hsz, D.sz]; exact Nat.le_trans hl (by decide));refine wpAny_pure (h _ (NU.trans<|Heap.SameBut.update _ a _) ⟨_, _, _, _, sf Jj rfl, hex, rfl, ?_, r3, r4, D.nd⟩);obtain ⟨zs, z1, z2, z3⟩ := D.KB;refine ⟨order.toList.filterMap (zs[·]?), ?_, ?_, fun z hz => ?_⟩
    · rw [eo]
      exact ny (·.2) zs _ z1 _
    · refine (List.Perm.map _ ?_).trans z2
      refine (r2.filterMap _).trans ?_;rw [show GW.size = zs.length by rw [<- length_toList, <- z1, length_map], si]
    · obtain ⟨i, _, e⟩ := mem_filterMap.mp hz
      exact z3 z (mem_of_getElem? e)
  · rw [ef, decide_eq_false hf, if_neg (show ¬ ((!false && false) = true) from by decide)]
    refine wpAny_pure (h _ NU ⟨_, _, _, _, Jj, hex, rfl, D.done hf⟩)
theorem AJ{x:Addr}{Q:Bool->Shared->Prop}(hu:A.units+20<cLine)(S:bB w P s.heap a led ks)(hx:(be prog w).is s.heap k x)(hP:P k x)(Hg:∀ q b,P q b->(be prog w).is s.heap q b)(hl:ks.length+1<=300)(h:∀ b h',Heap.SameBut a s.heap h'->bB w P h' a led (cx ks k)->Q b { s with heap:=h' }):
  wpAny (model prog w) A (setAddHashed a (.ref x)<|Es w<|.tup k) Q E s:=by
 obtain⟨o,es,ep,t,ho,hex,hd,D⟩:=S;have D0:=D;obtain⟨zs,z1,z2,z3⟩:=D.KB;obtain⟨kE,MM,hE⟩:=D.ht.some (Es w<|.tup k);have Pm:=D.ht.gm.pos;unfold setAddHashed setAddHashedIn;refine wpAny_holding (wpAny_bind<|wpAny_setState_of ho hd D.fit ?_);dsimp only;rw[if_neg (show ¬ (byScan (Value.ref x) es=true) from fun z=>Bool.false_ne_true z)];unfold setSearch;refine wpAny_bind (se hu ho hd D hx Hg z1 z2 z3 (fun hk=>?_) (fun hk kk hn ha=>?_) hE MM 100000 0 none rfl (by unfold SetTable.turns at MM;lia) (fun k' z=>absurd z<|not_lt_zero _) fun i k' z=>absurd z<|not_lt_zero _)
 ·refine wpAny_pure ?_;have e:s={ s with heap:=s.heap }:=by cases s;rfl
  rw[e];refine h _ _ (Heap.SameBut.refl a s.heap) ?_;rw[cx,if_pos hk];exact⟨o,es,ep,t,ho,hex,hd,D⟩
 ·dsimp only;refine wpAny_bind (wpAny_setState_of ho hd D.fit ?_);dsimp only;obtain⟨p1,p2⟩:=D.ht.put (h:=Es w (.tup k)) hn ha;have Rs:¬ (t.place[SetTable.below t.place (Eb t.mask (Es w<|.tup k) kk).j]?=some (Eb t.mask (Es w<|.tup k) kk).j):=fun z=>hn (by rw[<- getElem?_toList] at z;exact mem_of_getElem? z);have NX:=D.tab.put Rs;have hD:∀ b:Bool,Hh w P (SetTable.insertAt es (t.put (Eb t.mask (Es w<|.tup k) kk).j).2 (Es w<|.tup k,.ref x)) { (t.put (Eb t.mask (Es w<|.tup k) kk).j).1 with plain:=b } led (ks++[k]) es.size:=fun b=>by
   have e1:(SetTable.insertAt es (t.put (Eb t.mask (Es w<|.tup k) kk).j).2 (Es w<|.tup k,Value.ref x)).toList=_:=nv _ _ _;have e2:(t.put (Eb t.mask (Es w<|.tup k) kk).j).1.place.toList=_:=nv _ _ _;have hsz:(SetTable.insertAt es (t.put (Eb t.mask (Es w<|.tup k) kk).j).2 (Es w<|.tup k,Value.ref x)).size=es.size+1:=by
    rw[<- length_toList,e1,length_append,length_cons,length_take,length_drop,length_toList];lia
   refine⟨⟨zs.take (t.put (Eb t.mask (Es w<|.tup k) kk).j).2++(k,Es w<|.tup k,.ref x)::zs.drop (t.put (Eb t.mask (Es w<|.tup k) kk).j).2,?_,?_,fun z hz=>?_⟩,NX.HV b,D.ht.gm,?_,p1,?_,?_,hsz,?_⟩
   ·rw[e1,<- z1,map_append,map_cons,map_take,map_drop]
   ·rw[map_append,map_cons,map_take,map_drop];refine List.perm_middle.trans ?_;rw[take_append_drop];exact (z2.cons k).trans (perm_append_comm (l₁:=[k]))
   ·rcases jh.mp hz with rfl | hz
    ·exact⟨x,rfl,rfl,hP⟩
    ·exact z3 z hz
   ·show (t.put (Eb t.mask (Es w<|.tup k) kk).j).1.place.size=_;rw[hsz,<- length_toList,e2,length_append,length_cons,length_take,length_drop,length_toList,D.size];lia
   ·rw[e1,map_append,map_cons,map_take,map_drop];exact p2
   ·exact nodup_append.mpr ⟨D.nd,pairwise_singleton _ k,fun y hy z hz=>by cases mem_singleton.mp hz;exact fun e=>hk<|e ▸ hy⟩
   ·have:=D.ht.loose;rw[D.size] at this;exact this
  have FU:∀ h',Heap.SameBut a s.heap h'->bB w P h' a led (ks++[k])->Q true { s with heap:=h' }:=fun h' LE hS=>h true h' LE (by rw[cx,if_neg hk];exact hS);have KL:es.size+1<=300:=by rw[D.num];exact hl
  split
  ·refine wpAny_bind (rZ 8 (d:=.tup k) hx.1 hx.2 fun b=>?_);cases b
   ·exact nz ho hex hd rfl KL (hD false) FU
   ·exact nz ho hex hd rfl KL (hD _) FU
  ·refine wpAny_bind (wpAny_pure ?_);exact nz ho hex hd rfl KL (hD _) FU
end
def cF(w:World):Bool:=!w.params.followText "set-order"
def ej(led:Bool):Obj:={ cls:=.type "set",dict:=none,data:=.set #[] 0 (.fresh 0 0 led) }
theorem AK:isSubtype (.type "tuple") (.type "set")=pure false:=by rw[isSubtype_type];kernel_rfl
theorem AL:isSubtype (.type "tuple") (.type "frozenset")=pure false:=by rw[isSubtype_type];kernel_rfl
section
variable{prog:Program}{w:World}{A:Around}{E:Value->Shared->Prop}{s:Shared}
theorem AM(a:Value){Q₁:Value->Shared->Prop}(h:Q₁ (.ref s.heap.objs.size) { s with heap:=s.heap.push (ej<|cF w) }):
  codeAny (model prog w) A (.call (.builtin "set.__new__") ⟨[.type "set",a],[]⟩) (wants Q₁ E) s:=by
 refine codeAny_of_tree ?_;show wpAny _ A.in1 (do checkBuiltinCall "set.__new__" ⟨[.type "set",a],[]⟩;again (.builtin "set.__new__" ⟨[.type "set",a],[]⟩)) _ _ s;refine wpAny_bind (wpAny_of_eq (PySem.F.newCall_set_1 a)<|wpAny_pure ⟨plainId_quiet PySem.F.plain_set_new _,codeAny_builtin PySem.F.entry_set_new ?_⟩);rw[Around.under_plainId PySem.F.plain_set_new _];unfold Builtin.«set.__new__» Builtin.Frozenset.newClass;have Li:=sub_set_self;obtain⟨hp,g,d,tk,os⟩:=s;dsimp only
 wp_walk
 refine wpAny_askSetting (wpAny_pure ?_);dsimp only;simp only[newObj];refine wpAny_bind (wpAny_alloc<|wpAny_pure ?_);exact wpAny_pure h
end
section
variable{prog:Program}{w:World}{A:Around}{E:Value->Shared->Prop}{s:Shared}
end
theorem ji:Slot "set_iterator" "__next__" "set_iterator.__next__" :=
 .of (owner := "set_iterator") (n := "__next__") (by rw[typeLookup_type,builtinLookup_eq_fast];kernel_rfl) (by decide +kernel) (by decide +kernel) (by decide +kernel)
  (by first | exact .inl (by decide +kernel) | exact .inr (by decide +kernel)) (by rw[isSubtype_type];kernel_rfl)
theorem AN:entryFor table "set_iterator.__next__" = some Builtin.«set_iterator.__next__»:=entryFor_of_tree (by kernel_rfl)
theorem sj:Manifest.owners.lookup (String.ofList ['r','o','t','a','r','e','t','i','_','t','e','s'].reverse)=some Manifest.sig_set_iterator:=by kernel_rfl
theorem AO(a:Value):argsOk "set_iterator.__next__" ⟨[a],[]⟩:=by
 unfold argsOk;rw[signature?_of (id := "set_iterator.__next__") (n:=['_','_','t','x','e','n','_','_']) (o:=['r','o','t','a','r','e','t','i','_','t','e','s']) (by kernel_rfl) sj];kernel_rfl
theorem AQ:entryFor table "set.__iter__" = some Builtin.«frozenset.__iter__»:=
 entryFor_alias (id' := "frozenset.__iter__") (by kernel_rfl) rfl (by decide +kernel) (by kernel_rfl)
theorem sk:Slot "set_iterator" "__iter__" "set_iterator.__iter__" :=
 .of (owner := "set_iterator") (n := "__iter__") (by rw[typeLookup_type,builtinLookup_eq_fast];kernel_rfl) (by decide +kernel) (by decide +kernel) (by decide +kernel)
  (by first | exact .inl (by decide +kernel) | exact .inr (by decide +kernel)) (by rw[isSubtype_type];kernel_rfl)
theorem AR(a:Value):argsOk "set_iterator.__iter__" ⟨[a],[]⟩:=by
 unfold argsOk;rw[signature?_of (id := "set_iterator.__iter__") (n:=['_','_','r','e','t','i','_','_']) (o:=['r','o','t','a','r','e','t','i','_','t','e','s']) (by kernel_rfl) sj];kernel_rfl
theorem AS:entryFor table "set_iterator.__iter__" = some Builtin.«dict_keyiterator.__iter__»:=
 entryFor_alias (id' := "dict_keyiterator.__iter__") (by kernel_rfl) (by first | rfl | decide +kernel | (unfold String.splitOn;simp +decide [String.splitOnAux])) (by decide +kernel) (by kernel_rfl)
def F7(h:Heap)(I:Addr)(f0:Value)(i:Nat)(S:Addr)(n ep:Nat):Prop:=∃ o,h.get? I=some o/\o.cls=.type "set_iterator" /\ o.data=.fields #[f0,.int i 0,.ref S,.int n 0,.int ep 0]
def Hi(h:Heap)(S:Addr)(es:Array (Int×Value))(ep:Nat)(t:SetTable):Prop:=∃ o,h.get? S=some o/\o.ExactSet/\o.data=.set es ep t
theorem F7.go(x:F7 h I f0 i S n ep)(k:∀ o,h.get? I=some o->h'.get? I=some o):F7 h' I f0 i S n ep:=let ⟨o,e,r⟩:=x;⟨o,k o e,r⟩
theorem Hi.go(x:Hi h S es ep t)(k:∀ o,h.get? S=some o->h'.get? S=some o):Hi h' S es ep t:=let ⟨o,e,r⟩:=x;⟨o,k o e,r⟩
section
variable{prog:Program}{w:World}{A:Around}{E:Value->Shared->Prop}{s:Shared}
theorem F7.ty(x:F7 s.heap I f0 i S n ep):s.TypeIs (.ref I) "set_iterator" := let ⟨o,e,c,_⟩:=x;⟨o,e,c⟩
theorem AT{M:Model}{src:Source}{Q:Nat->Shared->Prop}(hn:0<n)(h:∀ i,i<n->Q i { s with drawn:=s.drawn.bump src }):wpAny M A (choose src n) Q E s:=
 fun _ _ _=>⟨ne_of_gt hn,h _<|mod_lt _ hn⟩
theorem nA{α:Type}:∀ (l:List α) (i:Nat) (h:i<l.length),(l[i]::l.eraseIdx i).Perm l
 | x::xs,0,_=>.refl _
 | x::xs,i+1,h=>(List.Perm.swap x _ _).trans (List.Perm.cons x<|nA xs i<|Nat.lt_of_succ_lt_succ h)
theorem sn{α:Type}{M:Model}:∀ (n:Nat) (xs:List α) (s:Shared) (Q:List α->Shared->Prop),xs.length=n->(∀ d ys,List.Perm ys xs->Q ys { s with drawn:=d })->wpAny M A (drawOrder n xs) Q E s
 | 0,xs,s,Q,hl,h=>by
  have e:xs=[]:=eq_nil_of_length_eq_zero hl;subst e;unfold drawOrder;exact wpAny_pure (h s.drawn [] .nil)
 | n+1,[],s,Q,hl,h=>by cases hl
 | n+1,x::xs,s,Q,hl,h=>by
  unfold drawOrder;refine wpAny_bind (AT (by rw[hl];exact succ_pos _) fun i hi=>?_);have e:(x::xs)[i]?=some (x::xs)[i]:=List.getElem?_eq_getElem hi;rw[e];dsimp only;refine wpAny_bind (sn n _ _ _ (by rw[List.length_eraseIdx_of_lt hi,hl];rfl) fun d ys hp=>?_);refine wpAny_pure (h d _ ?_);refine (List.Perm.cons _ hp).trans ?_;exact nA _ i hi
theorem kJ(hit:F7 s.heap I f0 i S n ep)(h:wpAny (model prog w) A.in1 (Builtin.«set_iterator.__next__» ⟨[.ref I],[]⟩) (fun fin s'=>∃ v,fin=.done (.ret v)/\Q (some v) s') (fun e s'=>wpAny (model prog w) A (do let b <- isInstance e (.type "StopIteration");if b=true then pure none else throw e) Q E s') s):
  wpAny (model prog w) A (pyNext<|.ref I) Q E s:=by
 unfold pyNext;refine wpAny_bind (wpAny_attempt<|wpAny_callSpecial?_slot (name:=Str.ofString "__next__") hit.ty ji<|wpAny_call_entry ji hit.ty AN ?z<|AO _)
 case z=>
  refine wpAny_mono h (fun fin s' ⟨v,e,q⟩=>⟨v,e,wpAny_pure q⟩) fun e s' q=>q
theorem kK{f0':Value}{i':Nat}{Q:Unit->Shared->Prop}{k:Nat}(hit:F7 s.heap I f0 i S n ep)(hk:k<5)(he:(#[f0,.int i 0,.ref S,.int n 0,.int ep 0]:Array Value).setIfInBounds k x=#[f0',.int i' 0,.ref S,.int n 0,.int ep 0])(q:∀ h',F7 h' I f0' i' S n ep->Heap.SameBut I s.heap h'->Q () { s with heap:=h' }):wpAny (model prog w) A (setField (.ref I) k x) Q E s:=by
 obtain⟨o,f1,f2,f3⟩:=hit;refine wpAny_setField f1 f3 hk (q _ ⟨_,Heap.get?_update_self _ f1<|Obj.isFreed_of_fields<|Obj.data_mapFields f3 _,(Obj.cls_mapFields ..).trans f2,?_⟩<|Heap.SameBut.update ..);rw[Obj.data_mapFields f3,he]
theorem sr(hh:A.handled=none)(q:∀ h',Heap.ExtBut I s.heap h'->Q none { s with heap:=h' }):
  wpAny (model prog w) A.in1 (newExc (.type "StopIteration") [] >>= fun x=>(raiseNew x:Sem PySem.Fin)) (fun fin s'=>∃ v,fin=.done (.ret v)/\Q (some v) s') (fun e s'=>wpAny (model prog w) A (do let b <- isInstance e (.type "StopIteration");if b=true then pure none else throw e) Q E s') s:=by
 apply wpAny_bind;simp only[newExc,newTuple];refine wpAny_bind (wpAny_newObj_type (wpAny_bind (m:=firstArgMember _ _) (wpAny_of_eq (a:=Value.none) (by first | rfl | (simp only[firstArgMember];rfl)) (wpAny_newObj_type ?_ (by size_fits)))) (by size_fits));simp only[raiseNew];apply wpAny_bind;apply wpAny_handled;rw[show A.in1.handled=none from hh];refine wpAny_bind (m:=pure _) (wpAny_pure<|wpAny_throw ?_);apply wpAny_bind;refine wpAny_isInstance (T := "StopIteration") (b:=true) ⟨_,Heap.get?_push_size _ rfl,rfl⟩ isSubtype_stop ?_;exact wpAny_pure (q _<|fun b o _ e=>Heap.get?_push_of_some _<|Heap.get?_push_of_some _ e)
theorem ss{next:Nat}(hit:F7 s.heap I (.int slot 0) i S n ep)(hS:Hi s.heap S es ep t)(hf:t.fits es.size=true)(hn:es.size=n)(hx:∀ (Q':Option (Value×Nat)->Shared->Prop) (E':Value->Shared->Prop),Q' (some (x,next)) s->wpAny (model prog w) A.in1 (setNext S slot i ep) Q' E' s)(q:∀ h',F7 h' I (.int next 0) (i+1) S n ep->Heap.SameBut I s.heap h'->Q (some x) { s with heap:=h' }):wpAny (model prog w) A (pyNext<|.ref I) Q E s:=by
 refine kJ hit ?_;obtain⟨o,f1,f2,f3⟩:=id hit;obtain⟨oS,e1,e2,e3⟩:=hS;unfold Builtin.«set_iterator.__next__»;refine wpAny_bind (wpAny_pure<|wpAny_bind<|wpAny_fieldsOf f1 f3 ?_);show wpAny _ _ (setEntries S >>= _) _ _ _;refine wpAny_bind (wpAny_setEntries_of e1 e3 hf ?_);dsimp only;rw[if_neg (by rw[hn];simp)];refine wpAny_bind (m:=setNext S _ _ _) (hx _ _ ?_);dsimp only;refine wpAny_bind (kK (f0':=.int next 0) (i':=i) hit (by decide) rfl fun h1 HX LF=>?_);refine wpAny_bind (kK (s:={ s with heap:=h1 }) (f0':=.int next 0) (i':=i+1) HX (by decide) rfl fun h2 NY Rt=>?_);exact wpAny_pure ⟨_,rfl,q h2 NY<|LF.trans Rt⟩
theorem su(hh:A.handled=none)(hit:F7 s.heap I (.int slot 0) i S n ep)(hS:Hi s.heap S es ep t)(hf:t.fits es.size=true)(hn:es.size=n)(hx:∀ (Q':Option (Value×Nat)->Shared->Prop) (E':Value->Shared->Prop),Q' none s->wpAny (model prog w) A.in1 (setNext S slot i ep) Q' E' s)(q:∀ h',Heap.ExtBut I s.heap h'->Q none { s with heap:=h' }):wpAny (model prog w) A (pyNext<|.ref I) Q E s:=by
 refine kJ hit ?_;obtain⟨o,f1,f2,f3⟩:=id hit;obtain⟨oS,e1,e2,e3⟩:=hS;unfold Builtin.«set_iterator.__next__»;refine wpAny_bind (wpAny_pure<|wpAny_bind<|wpAny_fieldsOf f1 f3 ?_);show wpAny _ _ (setEntries S >>= _) _ _ _;refine wpAny_bind (wpAny_setEntries_of e1 e3 hf ?_);dsimp only;rw[if_neg (by rw[hn];simp)];refine wpAny_bind (m:=setNext S _ _ _) (hx _ _ ?_);dsimp only;refine wpAny_bind (wpAny_setField f1 f3 (show 2<5 by decide) ?_);exact sr (I:=I) hh fun h' hb=>q h' fun b o Ik e=>hb b o Ik ((Heap.SameBut.update ..).extBut b o Ik e)
theorem AU{place:Nat}{tk:Tok}{x:Int×Value}(hit:F7 s.heap I (.ref a2) i S n ep)(hS:Hi s.heap S es ep t)(hf:t.fits es.size=true)(hn:es.size=n)(h2:s.heap.get? a2=some o2)(d2:o2.data=.seq pl n2)(hp:pl[i]?=some (.int place tk))(hx:es[place]?=some x)(q:∀ h',F7 h' I (.ref a2) (i+1) S n ep->Heap.SameBut I s.heap h'->Q (some x.2) { s with heap:=h' }):wpAny (model prog w) A (pyNext<|.ref I) Q E s:=by
 refine kJ hit ?_;obtain⟨o,f1,f2,f3⟩:=id hit;obtain⟨oS,e1,e2,e3⟩:=hS;unfold Builtin.«set_iterator.__next__»;refine wpAny_bind (wpAny_pure<|wpAny_bind<|wpAny_fieldsOf f1 f3 ?_);show wpAny _ _ (setEntries S >>= _) _ _ _;refine wpAny_bind (wpAny_setEntries_of e1 e3 hf ?_);dsimp only;rw[if_neg (by rw[hn];simp)];show wpAny _ _ (seqItems? (.ref a2) >>= _) _ _ _;refine wpAny_bind (wpAny_seqItems h2 d2 ?_);dsimp only;rw[toNat_natCast,hp];dsimp only;show wpAny _ _ (setNextDrawn S _ _ >>= _) _ _ _;unfold setNextDrawn;refine wpAny_bind (wpAny_bind<|wpAny_setState_of e1 e3 hf ?_);dsimp only;rw[if_neg (by simp),toNat_natCast,hx];dsimp only;refine wpAny_pure ?_;refine wpAny_bind (kK (f0':=.ref a2) (i':=i+1) hit (by decide) rfl fun h1 HX LF=>?_);exact wpAny_pure ⟨_,rfl,q h1 HX LF⟩
theorem AV(hh:A.handled=none)(hit:F7 s.heap I (.ref a2) i S n ep)(hS:Hi s.heap S es ep t)(hf:t.fits es.size=true)(hn:es.size=n)(h2:s.heap.get? a2=some o2)(d2:o2.data=.seq pl n2)(hp:pl[i]?=none)(q:∀ h',Heap.ExtBut I s.heap h'->Q none { s with heap:=h' }):wpAny (model prog w) A (pyNext<|.ref I) Q E s:=by
 refine kJ hit ?_;obtain⟨o,f1,f2,f3⟩:=id hit;obtain⟨oS,e1,e2,e3⟩:=hS;unfold Builtin.«set_iterator.__next__»;refine wpAny_bind (wpAny_pure<|wpAny_bind<|wpAny_fieldsOf f1 f3 ?_);show wpAny _ _ (setEntries S >>= _) _ _ _;refine wpAny_bind (wpAny_setEntries_of e1 e3 hf ?_);dsimp only;rw[if_neg (by rw[hn];simp)];show wpAny _ _ (seqItems? (.ref a2) >>= _) _ _ _;refine wpAny_bind (wpAny_seqItems h2 d2 ?_);dsimp only;rw[toNat_natCast,hp];dsimp only;refine wpAny_bind (kK (f0':=.int 0 0) (i':=i) hit (by decide) rfl fun h1 HX LF=>?_);obtain⟨o',g1,g2,g3⟩:=HX;refine wpAny_bind (wpAny_setField (s:={ s with heap:=h1 }) g1 g3 (show 2<5 by decide) ?_);exact sr (I:=I) hh fun h' hb=>q h' fun b o Ik e=>hb b o Ik ((Heap.SameBut.update ..).extBut b o Ik<|LF.extBut b o Ik e)
end
def de(val:Nat->List Im):Nat->List (List Im)
 | 0=>[]
 | i+1=>cx (de val i) (val i)
theorem bB.fresh(led:Bool):bB w P (h.push<|ej led) h.objs.size led []:=
 ⟨_,#[],0,_,Heap.get?_push_size _ rfl,⟨rfl,rfl,rfl⟩,rfl,⟨[],rfl,.nil,fun z hz=>(not_mem_nil hz).elim⟩,⟨List.Pairwise.nil,rfl,rfl⟩,⟨.inl rfl,rfl,show 0 * 5<7 * 3 by decide,fun j hj=>(not_mem_nil hj).elim,fun p hp=>(not_mem_nil hp).elim⟩,nodup_nil⟩
theorem bB.at(S:bB w P h a led ks)(k:∀ o,h.get? a=some o->h'.get? a=some o):bB w P h' a led ks:=by
 obtain⟨o,es,ep,t,ho,r⟩:=S;exact⟨o,es,ep,t,k o ho,r⟩
section
variable{prog:Program}{w:World}{P:List Im->Addr->Prop}{A:Around}{E:Value->Shared->Prop}{s:Shared}
theorem AW{R:Result->Shared->Prop}{fp wr:List Addr}{Pi:Nat->Value->Prop}{St:Nat->Heap->Prop}{h0:Heap}(hu:A.units+25<cLine)(W:Walks prog w A.in1 I fp wr n Pi St)(Pn:S∉fp)(val:Nat->List Im)(NZ:∀ i v,Pi i v->∃ b,v=.ref b/\P (val i) b)(Hg:∀ q b,P q b->(be prog w).is h0 q b)(hw:∀ b o,h0.get? b=some o->b∉wr)(N0:∀ u items m,h0.get? S=some u->u.data=.seq items m->False)(hN:∀ i,i<n->(de val i).length+1<=300):
  ∀ (k i:Nat) (s:Shared),n - i=k->i<=n->jG h0 s.heap->St i s.heap->bB w P s.heap S led (de val i)->
   (∀ h' tk,(∀ b o,b≠S->b∉wr->s.heap.get? b=some o->h'.get? b=some o)->bB w P h' S led (de val n)->R (.ok<|.ret .none) { s with heap:=h',toks:=tk })->
   codeAny (model prog w) A (.builtin "set.update.loop" ⟨[.ref S,.ref I],[]⟩) R s:=by
 have Po:S∉wr:=fun h=>Pn (W.sub _ h);intro k;induction k with
 | zero=>
  intro i s hk hi T Iu hS hR;have Ru:i=n:=by lia
  subst Ru;refine codeAny_builtin PyProof.Rows.F.entry_set_update_loop ?_;rw[Around.under_plainId PyProof.Rows.F.plain_set_update_loop _];show wpAny _ A.in1 (pyNext (.ref I) >>= _) _ _ s;refine wpAny_bind (W.done s _ _ Iu fun h' tk hm=>?_);show wpAny _ A.in1 (ret Value.none) _ _ _;exact wpAny_pure (hR h' tk (fun b o _ hw e=>hm b o hw e)<|hS.at fun o e=>hm S o Po e)
 | succ k ih=>
  intro i s hk hi T Iu hS hR;have Ff:i<n:=by lia
  refine codeAny_builtin PyProof.Rows.F.entry_set_update_loop ?_;rw[Around.under_plainId PyProof.Rows.F.plain_set_update_loop _];show wpAny _ A.in1 (pyNext (.ref I) >>= _) _ _ s;refine wpAny_bind (W.item i s _ _ Ff Iu fun v h1 Sq hP N1 hm=>?_);obtain⟨x,rfl,N2⟩:=NZ i v hP;have T1:jG h0 h1:=fun b o items m e1 e2 e3=>hm b o (hw b o e1) (T b o items m e1 e2 e3);have J2:∀ q b,P q b->(be prog w).is h1 q b:=fun q b z=>⟨(Hg q b z).1,(Hg q b z).2.keep T1⟩;show wpAny _ A.in1 (holding [Value.ref x] (setAdd S<|.ref x) >>= _) _ _ _;refine wpAny_bind (wpAny_holding ?_);unfold setAdd;refine wpAny_holding ?_;refine wpAny_bind ((be prog w).pyHash (k:=val i) (show A.units+1+10<cLine by lia) (J2 _ _ N2) ?_);refine AJ (s:={ s with heap:=h1,toks:=_ }) (show A.units+1+20<cLine by lia) (hS.at fun o e=>hm S o Po e) (J2 _ _ N2) N2 J2 (hN i Ff) fun b h2 LE LG=>?_;refine wpAny_pure ⟨plainId_quiet PyProof.Rows.F.plain_set_update_loop _,ih (i+1) _ (by lia) Ff (fun b o items m e1 e2 e3=>?_) (W.frame _ h1 h2 N1 fun b hb o e=>?_) LG fun h3 Rv GE MN=>?_⟩
  ·show h2.get? b=some o;rw[LE.2 b (fun h:b=S=>N0 o items m (h ▸ e1) e3)];exact T1 b o items m e1 e2 e3
  ·rw[LE.2 b (fun h:b=S=>Pn (by rw[<- h];exact hb))];exact e
  ·refine hR h3 Rv (fun b o hb hw e=>GE b o hb hw ?_) MN;show h2.get? b=some o;rw[LE.2 b hb];exact hm b o hw e
end
section
variable{prog:Program}{w:World}{P:List Im->Addr->Prop}{A:Around}{E:Value->Shared->Prop}{s:Shared}
variable{Q:Value->Shared->Prop}
theorem AX(hh:A.handled=none)(LI:s.heap.get? l=some o)(Kv:o.cls=.type "tuple")(Kx:o.data=.seq items nl)(hu:A.units+28<cLine)(hi:∀ i v,items[i]?=some v->∃ b,v=.ref b/\P (ks.getD i []) b)(Hg:∀ q b,P q b->(be prog w).is s.heap q b)(hb:∀ i,i<items.size->(de (fun i=>ks.getD i []) i).length+1<=300)(Ip:l≠S)(hS:s.heap.get? S=some (ej led))(N0:bB w P s.heap S led [])(h:∀ h' tk,bB w P h' S led (de (fun i=>ks.getD i []) items.size)->(∀ b o,b≠S->s.heap.get? b=some o->h'.get? b=some o)->Q .none { s with heap:=h',toks:=tk }):
  wpAny (model prog w) A (Builtin.«set.__init__» ⟨[.ref S,.ref l],[]⟩) (fun fin s'=>∃ r,fin=.done (.ret r)/\Q r s') E s:=by
 obtain⟨Rw,Pp,Pq,N3⟩:=o;simp only at Kv Kx;subst Kv;subst Kx;have Rx:=AK;have Ry:=AL;have Rz:(Value.type "tuple" == Value.type "dict")=false:=by decide
 unfold ej at hS;have JW:s.heap.IsTuple l items:=⟨_,LI,rfl,nl,rfl⟩;unfold Builtin.«set.__init__» noKeywords Builtin.Frozenset.updateFrom;generalize RA:pyIter=PI
 wp_walk
 subst RA;refine wpAny_pyIter_tuple JW ?_;refine wpAny_bind (wpAny_runValue ?_);have RB:l<s.heap.objs.size:=Heap.lt_size LI;have RD:S<s.heap.objs.size:=Heap.lt_size hS;have RE:A.in1.handled=none:=by simp[hh]
 refine AW (led:=led) (P:=P) (h0:=s.heap) (show A.units+25<cLine by lia) (Walks.tuple RE _ l (ne_of_lt RB) items) ?_ (fun i=>ks.getD i []) hi Hg ?_ ?_ hb (items.size - 0) 0 _ (by lia) (zero_le _) ?_ ⟨⟨_,Heap.get?_push_size _ rfl,rfl,rfl⟩,?_⟩ ?_ fun h' tk hk LJ=>?_
 ·simp only[mem_cons,not_mem_nil,or_false,not_or];exact⟨ne_of_lt RD,fun e=>Ip e.symm⟩
 ·intro b o e;rw[mem_singleton];exact ne_of_lt (Heap.lt_size e)
 ·intro u items m e1 e2;rw[hS] at e1;cases e1;cases e2
 ·intro b o items m e1 e2 e3;exact Heap.get?_push_of_some _ e1
 ·obtain⟨o,ho,r⟩:=JW;exact⟨o,Heap.get?_push_of_some _ ho,r⟩
 ·exact N0.at fun o e=>Heap.get?_push_of_some _ e
 ·show wpAny _ _ _ _ _ _;refine wpAny_pure ?_;show wpAny _ _ (ret Value.none) _ _ _;refine wpAny_pure ⟨_,rfl,h h' tk LJ fun b o hb e=>hk b o hb ?_<|Heap.get?_push_of_some _ e⟩;rw[mem_singleton];exact ne_of_lt (Heap.lt_size e)
theorem AY(hh:A.handled=none)(LI:s.heap.get? l=some o)(Kv:o.cls=.type "tuple")(Kx:o.data=.seq items nl)(hu:A.units+30<cLine)(hi:∀ i v,items[i]?=some v->∃ b,v=.ref b/\P (ks.getD i []) b)(Hg:∀ q b,P q b->(be prog w).is s.heap q b)(hb:∀ i,i<items.size->(de (fun i=>ks.getD i []) i).length+1<=300)(h:∀ h' tk,bB w P h' s.heap.objs.size (cF w) (de (fun i=>ks.getD i []) items.size)->(∀ b o,s.heap.get? b=some o->h'.get? b=some o)->Q (.ref s.heap.objs.size) { s with heap:=h',toks:=tk }):
  wpAny (model prog w) A (call (.type "set") [.ref l]) Q E s:=by
 obtain⟨c,tl,RF⟩:=PySem.F.called_set.mro;have Pr:=PySem.F.called_set.made;have Li:=PySem.F.called_set.sub;refine wpAny_call (codeAny_of_tree ?_);show wpAny _ _ (callAny (.type "set") _) _ _ _;refine wpAny_pure ⟨Code.quiet_builtin _ (by decide +kernel),codeAny_builtin F.entry_type_call ?_⟩;rw[Around.under_plain (weight_type_call_type "set" [.ref l] []) rfl];have h1:=PySem.F.called_set.notType;have h2:=PySem.F.called_set.canCreate;have Sr:=PySem.F.typeCall_set_1 (.ref l);repeat (any_goals (first | assumption | wp_step))
 refine codeAny_mono (AM (.ref l) (E:=E) (Q₁:=fun obj s₁=>obj=.ref s.heap.objs.size/\s₁={ s with heap:=s.heap.push (ej<|cF w) }) ⟨rfl,rfl⟩) fun r s₁ hr=>?_;cases r with
 | error e=>exact hr
 | ok fl=>
  cases fl with
  | ret obj=>
   obtain⟨rfl,rfl⟩:=hr;have hS:(s.heap.push<|ej<|cF w).get? s.heap.objs.size=some (ej<|cF w):=Heap.get?_push_size _ rfl;have hT:Shared.TypeIs { s with heap:=s.heap.push (ej<|cF w) } (.ref s.heap.objs.size) "set" := ⟨_,hS,rfl⟩;have Ss:=PySem.F.called_set.init.lookup;have Su:=PySem.F.called_set.init.bind (.ref s.heap.objs.size);repeat (any_goals (first | assumption | wp_step))
   refine codeAny_mono (codeAny_call_builtin (R:=wants (fun r s₂=>r=.none/\∃ h' tk,s₂={ s with heap:=h',toks:=tk }/\
     bB w P h' s.heap.objs.size (cF w) (de (fun i=>ks.getD i []) items.size)/\(∀ b o,s.heap.get? b=some o->h'.get? b=some o)) E) PySem.F.called_set.init.plain PySem.F.entry_set_init<|check_set_init_1 hT ?_) fun r₂ s₂ HY=>?_
   ·refine wpAny_mono (AX (s:={ s with heap:=s.heap.push (ej<|cF w) }) (by simp[hh]) (Heap.get?_push_of_some _ LI) Kv Kx (by show A.in1.in1.units+28<cLine;show A.units+1+1+28<cLine;lia) hi (fun q b z=>⟨(Hg q b z).1,(Hg q b z).2.keep fun b o _ _ e _ _=>Heap.get?_push_of_some _ e⟩) hb (ne_of_lt<|Heap.lt_size LI) hS (bB.fresh _) (Q:=fun r s₂=>r=.none/\∃ h' tk,s₂={ s with heap:=h',toks:=tk }/\
     bB w P h' s.heap.objs.size (cF w) (de (fun i=>ks.getD i []) items.size)/\(∀ b o,s.heap.get? b=some o->h'.get? b=some o)) fun h' tk LJ hk=>⟨rfl,h',tk,rfl,LJ,fun b o e=>hk b o (ne_of_lt<|Heap.lt_size e)<|Heap.get?_push_of_some _ e⟩) (fun fin s' hq=>?_) fun _ _ e=>e;obtain⟨r,rfl,hq⟩:=hq;exact hq
   ·cases r₂ with
    | error e=>exact HY
    | ok LK=>
     cases LK with
     | ret r=>
      obtain⟨rfl,h',tk,rfl,LJ,E1⟩:=HY;repeat (any_goals (first | assumption | wp_step))
      exact h _ _ LJ E1
     | _=>exact HY.elim
  | _=>exact hr.elim
end
section
variable{prog:Program}{w:World}{A:Around}{E:Value->Shared->Prop}{s:Shared}
theorem sv{α:Type}(next:Nat->Nat):∀ (fuel k:Nat) (left:List α) (out:Array α),left.length=fuel->(pickOrder.go next fuel k left out).toList.Perm (out.toList++left)
 | 0,k,left,out,h=>by
  have e:left=[]:=eq_nil_of_length_eq_zero h;subst e;unfold pickOrder.go;rw[append_nil]
 | fuel+1,k,left,out,h=>by
  unfold pickOrder.go;have hi:next k % left.length<left.length:=mod_lt _ (by rw[h];exact succ_pos _)
  rw[List.getElem?_eq_getElem hi];dsimp only;refine (sv next fuel (k+1) _ _ (by rw[List.length_eraseIdx_of_lt hi,h];rfl)).trans ?_;rw[toList_push,List.append_assoc];exact List.Perm.append_left _ (nA _ _ hi)
theorem AZ(next:Nat->Nat)(xs:Array α):(pickOrder next xs).toList.Perm xs.toList:=sv next xs.size 0 xs.toList #[] (by rw[length_toList])
theorem kL{Q:Bool->Shared->Prop}(h:Q (w.params.followText "set-order") s):wpAny (model prog w) A setsByText Q E s:=by
 unfold setsByText;exact wpAny_bind (wpAny_askSetting<|wpAny_pure h)
variable{Q:Option (Value×Nat)->Shared->Prop}
theorem sw(hS:Hi s.heap S es ep t)(hf:t.fits es.size=true)(FY:w.params.followText "set-order" = false)(KC:(!t.plain && decide (es.size > 1))=false)(hl:t.led=true)(hb:SetTable.below t.place slot=i)(q:Q (match es[i]?,t.place[i]? with | some (_,x),some j=>some (x,j+1) | _,_=>none) s):wpAny (model prog w) A (setNext S slot g ep) Q E s:=by
 obtain⟨o,e1,e2,e3⟩:=hS;unfold setNext;refine wpAny_bind (wpAny_setState_of e1 e3 hf ?_);dsimp only;refine wpAny_bind (kL ?_);rw[FY,if_neg Bool.false_ne_true];show wpAny _ _ (if (!t.plain && decide (es.size > 1))=true then _ else _) _ _ _;rw[KC,if_neg Bool.false_ne_true];show wpAny _ _ ((if (!t.led && !es.isEmpty)=true then (unsupported "set:maker-not-led" : Sem Unit) else pure ()) >>= _) _ _ _;rw[hl];refine wpAny_bind (m:=pure ()) (wpAny_pure ?_);rw[hb];exact wpAny_pure q
theorem sx(hS:Hi s.heap S es ep t)(hf:t.fits es.size=true)(FY:w.params.followText "set-order" = true)(q:Q (((pickOrder (w.params.setOrder S ep) es)[g]?).map fun e=>(e.2,slot)) s):wpAny (model prog w) A (setNext S slot g ep) Q E s:=by
 obtain⟨o,e1,e2,e3⟩:=hS;unfold setNext;refine wpAny_bind (wpAny_setState_of e1 e3 hf ?_);dsimp only;refine wpAny_bind (kL ?_);rw[FY,if_pos rfl,if_neg (by simp)];unfold setWalk;refine wpAny_bind (wpAny_bind<|wpAny_setState_of e1 e3 hf ?_);dsimp only;refine wpAny_bind (kL ?_);rw[FY,if_pos rfl];exact wpAny_bind (wpAny_askSetting<|wpAny_pure<|wpAny_pure q)
theorem nE{Q:Value->Shared->Prop}(hit:F7 s.heap I f0 i S n ep)(q:Q (.ref I) s):wpAny (model prog w) A (pyIter<|.ref I) Q E s:=by
 refine wpAny_pyIter_slot hit.ty sk (wpAny_call_entry sk hit.ty AS ?_<|AR _);show wpAny _ _ (ret<|.ref I) _ _ s;exact wpAny_pure ⟨_,rfl,"set_iterator",_,hit.ty,ji.lookup,q⟩
def nF(place:Array Nat):Nat->Nat
 | 0=>0
 | i+1=>place.getD i 0+1
theorem sy{place:Array Nat}(r:cE place):∀ {i:Nat},i<=place.size->SetTable.below place (nF place i)=i
 | 0,_=>Aq r
 | i+1,h=>by
  have e:place[i]?=some (place.getD i 0):=by simp[Array.getD,show i<place.size from h]
  exact Ap r e
def dU(es:Array (Int×Value)):List Value:=es.toList.map (·.2)
theorem kN(es:Array (Int×Value)):(dU es).length=es.size:=by rw[dU,length_map,length_toList]
theorem A3(hh:A.handled=none)(ne:S≠I)(hf:t.fits es.size=true)(FY:w.params.followText "set-order" = false)(KC:(!t.plain && decide (es.size > 1))=false)(hl:t.led=true)(r:cE t.place):
  Walks prog w A I [I,S] [I] (dU es).length (fun i v=>(dU es)[i]?=some v) (fun i h=>F7 h I (.int (nF t.place i) 0) i S es.size ep/\Hi h S es ep t) where
 sub:=fun b hb=>by
  have:b=I:=by simpa using hb
  simp[this]
 frame:=fun i h h' st k=>⟨st.1.go (k I (by simp)),st.2.go (k S (by simp))⟩
 item:=fun i s Q E hi st hQ=>by
  rw[kN] at hi;have hp:t.place.size=es.size:=by
   simp only[SetTable.fits,and_eq_true,beq_iff_eq] at hf;exact hf.1
  have e1:es[i]?=some es[i]:=Array.getElem?_eq_getElem hi;have e2:t.place[i]?=some (t.place.getD i 0):=by simp[Array.getD,show i<t.place.size by lia]
  have hv:(dU es)[i]?=some es[i].2:=by rw[dU,List.getElem?_map,getElem?_toList,e1];rfl
  refine ss (next:=nF t.place (i+1)) (x:=es[i].2) st.1 st.2 hf rfl (fun Q' E' q=>sw st.2 hf FY KC hl (sy r (by lia)) ?_) fun h' a b=>hQ _ h' s.toks hv ⟨a,st.2.go fun o e=>b.extBut S o ne e⟩ fun c o hc e=>b.extBut c o (by simpa using hc) e;rw[e1,e2];exact q
 done:=fun s Q E st hQ=>by
  rw[kN] at st;have hp:t.place.size=es.size:=by
   simp only[SetTable.fits,and_eq_true,beq_iff_eq] at hf;exact hf.1
  refine su hh st.1 st.2 hf rfl (fun Q' E' q=>sw st.2 hf FY KC hl (sy r (by lia)) ?_) fun h' b=>hQ h' s.toks fun c o hc e=>b c o (by simpa using hc) e;rw[Array.getElem?_eq_none (Nat.le_refl _)];exact q
 self:=fun i s Q E st hQ=>nE st.1 hQ
theorem A4(hh:A.handled=none)(ne:S≠I)(hf:t.fits es.size=true)(FY:w.params.followText "set-order" = true):
  Walks prog w A I [I,S] [I] (dU<|pickOrder (w.params.setOrder S ep) es).length (fun i v=>(dU<|pickOrder (w.params.setOrder S ep) es)[i]?=some v) (fun i h=>F7 h I (.int (0:Nat) 0) i S es.size ep/\Hi h S es ep t) where
 sub:=fun b hb=>by
  have:b=I:=by simpa using hb
  simp[this]
 frame:=fun i h h' st k=>⟨st.1.go (k I (by simp)),st.2.go (k S (by simp))⟩
 item:=fun i s Q E hi st hQ=>by
  rw[kN] at hi;have e1:(pickOrder (w.params.setOrder S ep) es)[i]?=some (pickOrder (w.params.setOrder S ep) es)[i]:=Array.getElem?_eq_getElem hi;have hv:(dU<|pickOrder (w.params.setOrder S ep) es)[i]?=some (pickOrder (w.params.setOrder S ep) es)[i].2:=by rw[dU,List.getElem?_map,getElem?_toList,e1];rfl
  refine ss (next:=0) (x:=(pickOrder (w.params.setOrder S ep) es)[i].2) st.1 st.2 hf rfl (fun Q' E' q=>sx st.2 hf FY ?_) fun h' a b=>hQ _ h' s.toks hv ⟨a,st.2.go fun o e=>b.extBut S o ne e⟩ fun c o hc e=>b.extBut c o (by simpa using hc) e;rw[e1];exact q
 done:=fun s Q E st hQ=>by
  rw[kN] at st;refine su hh st.1 st.2 hf rfl (fun Q' E' q=>sx st.2 hf FY ?_) fun h' b=>hQ h' s.toks fun c o hc e=>b c o (by simpa using hc) e;rw[Array.getElem?_eq_none (Nat.le_refl _)];exact q
 self:=fun i s Q E st hQ=>nE st.1 hQ
def f9(ps:List Nat):List Value:=ps.map fun (i:Nat)=>rawInt i
def dW(es:Array (Int×Value))(ps:List Nat):List Value:=ps.filterMap fun i=>es[i]?.map (·.2)
theorem sE{es:Array (Int×Value)}:∀ {ps:List Nat},(∀ p∈ps,p<es.size)->∀ (i:Nat) (h:i<ps.length),∃ x,es[ps[i]]?=some x/\(dW es ps)[i]?=some x.2
 | [],_,i,h=>by cases h
 | p::ps,hp,i,h=>by
  have Ku:p<es.size:=hp p (.head _);have e:es[p]?=some es[p]:=Array.getElem?_eq_getElem Ku;have e2:dW es (p::ps)=es[p].2::dW es ps:=by rw[dW,List.filterMap_cons_some (b:=es[p].2) (by rw[e];rfl)];rfl
  rw[e2];cases i with
  | zero=>exact⟨es[p],e,rfl⟩
  | succ i=>
   obtain⟨x,h1,h2⟩:=sE (fun p h=>hp p<|.tail _ h) i (Nat.lt_of_succ_lt_succ h);exact⟨x,h1,h2⟩
theorem nG{es:Array (Int×Value)}:∀ {ps:List Nat},(∀ p∈ps,p<es.size)->(dW es ps).length=ps.length
 | [],_=>rfl
 | p::ps,hp=>by
  have Ku:p<es.size:=hp p (.head _);have e:es[p]?=some es[p]:=Array.getElem?_eq_getElem Ku;rw[dW,List.filterMap_cons_some (b:=es[p].2) (by rw[e];rfl),length_cons,length_cons];exact congrArg (·+1) (nG fun p h=>hp p<|.tail _ h)
theorem A5(hh:A.handled=none)(ne:S≠I)(ne2:a2≠I)(hf:t.fits es.size=true)(hp:∀ p∈ps,p<es.size):
  Walks prog w A I [I,S,a2] [I] (dW es ps).length (fun i v=>(dW es ps)[i]?=some v) (fun i h=>F7 h I (.ref a2) i S es.size ep/\Hi h S es ep t/\∃ o,h.get? a2=some o/\o.data=.seq (f9 ps).toArray n2) where
 sub:=fun b hb=>by
  have:b=I:=by simpa using hb
  simp[this]
 frame:=fun i h h' st k=>⟨st.1.go (k I (by simp)),st.2.1.go (k S (by simp)),let ⟨o,e,r⟩:=st.2.2;⟨o,k a2 (by simp) o e,r⟩⟩
 item:=fun i s Q E hi st hQ=>by
  obtain⟨s_,q_,o,e,r⟩:=st;rw[nG hp] at hi;obtain⟨x,h1,h2⟩:=sE hp i hi;refine AU (x:=x) (place:=ps[i]) (tk:=0) s_ q_ hf rfl e r ?_ h1 fun h' a b=>hQ _ h' s.toks h2 ⟨a,q_.go fun o e=>b.extBut S o ne e,o,b.extBut a2 o ne2 e,r⟩ fun c o hc e=>b.extBut c o (by simpa using hc) e;rw[List.getElem?_toArray,f9,List.getElem?_map,List.getElem?_eq_getElem hi];rfl
 done:=fun s Q E st hQ=>by
  obtain⟨s_,q_,o,e,r⟩:=st;refine AV hh s_ q_ hf rfl e r ?_ fun h' b=>hQ h' s.toks fun c o hc e=>b c o (by simpa using hc) e;rw[List.getElem?_toArray,f9,List.getElem?_map,List.getElem?_eq_none (by rw[nG hp];exact Nat.le_refl _)];rfl
 self:=fun i s Q E st hQ=>nE st.1 hQ
end
section
variable{prog:Program}{w:World}{A:Around}{E:Value->Shared->Prop}{s:Shared}
theorem A6{r:Addr}{Q:Bool->Shared->Prop}(hT:s.TypeIs (.ref r) "set")(h:Q false s):wpAny (model prog w) A (Builtin.List.listLengthHint<|.ref r) Q E s:=by
 unfold Builtin.List.listLengthHint;refine wpAny_bind (wpAny_specialOf hT PySem.F.slot_set_len.lookup ?_);generalize Ps:("set.__len__" : String)=RG
 wp_delta
 rw[show splitId RG=some ("set","__len__") from by subst Ps;decide +kernel];subst Ps;refine wpAny_bind (wpAny_isInstance (T := "set") (b:=true) hT (by rw[isSubtype_type];kernel_rfl) ?_);refine wpAny_ite_split (fun LC=>absurd LC (by decide)) (fun _=>?_);refine wpAny_ite_split (fun _=>?_) (fun LC=>absurd (by decide +kernel) LC);refine wpAny_bind (wpAny_typeOf hT ?_);exact wpAny_pure h
theorem A7(hp:ps.Perm (range es.size)):dW es ps=(ps.filterMap fun i=>es[i]?).map (·.2)/\(ps.filterMap fun i=>es[i]?).Perm es.toList:=by
 refine⟨?_,(hp.filterMap _).trans (by rw[filterMap_getElem?_range])⟩;rw[List.map_filterMap];rfl
end
section
variable{prog:Program}{w:World}{A:Around}{E:Value->Shared->Prop}{s:Shared}
end
theorem A8{f:α->β}:∀ {l' l:List β},l'.Perm l->∀ zs:List α,zs.map f=l->∃ KD:List α,KD.Perm zs/\KD.map f=l':=by
 intro l' l p;induction p with
 | nil=>intro zs e;cases List.map_eq_nil_iff.mp e;exact⟨[],.nil,rfl⟩
 | cons x p ih=>
  intro zs e;obtain⟨a,r,rfl,rfl,e2⟩:=List.map_eq_cons_iff.mp e;obtain⟨KD,p1,p2⟩:=ih r e2;exact⟨a::KD,p1.cons a,by rw[map_cons,p2]⟩
 | swap x y l=>
  intro zs e;obtain⟨a,r,rfl,rfl,e2⟩:=List.map_eq_cons_iff.mp e;obtain⟨b,r2,rfl,rfl,e3⟩:=List.map_eq_cons_iff.mp e2;exact⟨b::a::r2,.swap a b r2,by rw[map_cons,map_cons,e3]⟩
 | trans p1 p2 RH RI=>
  intro zs e;obtain⟨z2,q1,q2⟩:=RI zs e;obtain⟨z1,q3,q4⟩:=RH z2 q2;exact⟨z1,q3.trans q1,q4⟩
theorem sF{w:World}{P:List Im->Addr->Prop}:∀ zs:List (List Im×Int×Value),(∀ z∈zs,kG w P z)->∃ ws:List (List Im×Addr),zs.map (fun z=>z.2.2)=ws.map (fun z=>Value.ref z.2)/\ws.map (·.1)=zs.map (·.1)/\∀ z∈ws,P z.1 z.2
 | [],_=>⟨[],rfl,rfl,fun _ h=>(not_mem_nil h).elim⟩
 | z::zs,h=>by
  obtain⟨b,e1,e2,e3⟩:=h z (.head _);obtain⟨ws,w1,w2,w3⟩:=sF zs fun z hz=>h z (.tail _ hz);refine⟨(z.1,b)::ws,by rw[map_cons,map_cons,w1,e1],by rw[map_cons,map_cons,w2],fun y hy=>?_⟩;rcases mem_cons.mp hy with rfl | hy
  ·exact e3
  ·exact w3 y hy
section
variable{prog:Program}{w:World}{P:List Im->Addr->Prop}{A:Around}{E:Value->Shared->Prop}{s:Shared}
theorem A9{Q:Value->Shared->Prop}(hh:A.handled=none)(hS:bB w P s.heap S (cF w) ks)(hz:ks.length<=300)(h:∀ (h1:Heap) (d:_) (I:Addr) (fp:List Addr) (vs:List Value) (ws:List (List Im×Addr)) (St:Nat->Heap->Prop),(∀ b o,s.heap.get? b=some o->h1.get? b=some o)->s.heap.objs.size<=I->(∀ b∈fp,b=S\/s.heap.objs.size<=b)->
   Walks prog w A I fp [I] vs.length (fun i v=>vs[i]?=some v) St->St 0 h1->vs=ws.map (fun z=>Value.ref z.2)->(ws.map (·.1)).Perm ks->(∀ z∈ws,P z.1 z.2)->Q (.ref I) { s with heap:=h1,drawn:=d }):
  wpAny (model prog w) A (pyIter<|.ref S) Q E s:=by
 obtain⟨o,es,ep,t,e1,e2,e3,D⟩:=hS;have ty:s.TypeIs (.ref S) "set" := ⟨o,e1,e2.1⟩;have KE:S<s.heap.objs.size:=Heap.lt_size e1;have hsz:es.size<=sizeLine:=by rw[D.num];exact Nat.le_trans hz (by decide)
 have give:∀ l:List (Int×Value),l.Perm es.toList->∃ ws:List (List Im×Addr),l.map (·.2)=ws.map (fun z=>Value.ref z.2)/\(ws.map (·.1)).Perm ks/\∀ z∈ws,P z.1 z.2:=fun l pl=>by
  obtain⟨zs,z1,z2,z3⟩:=D.KB;obtain⟨KD,p1,p2⟩:=A8 pl zs z1;obtain⟨ws,w1,w2,w3⟩:=sF (w:=w) (P:=P) KD fun z hz=>z3 z (p1.mem_iff.mp hz);refine⟨ws,?_,?_,w3⟩
  ·rw[<- p2,List.map_map];exact w1
  ·rw[w2];exact (p1.map _).trans z2
 refine wpAny_pyIter_slot ty PySem.F.slot_set_iter (wpAny_call_entry PySem.F.slot_set_iter ty AQ ?z<|PySem.F.args_set_iter_1 _)
 case z=>
  unfold Builtin.«frozenset.__iter__» Builtin.Frozenset.slot0 Builtin.Frozenset.addrOf Builtin.Frozenset.sizeOf;refine wpAny_bind (wpAny_bind<|wpAny_pure<|wpAny_pure ?_);refine wpAny_bind (wpAny_bind<|wpAny_setEntries_of e1 e3 D.fit<|wpAny_pure ?_);refine wpAny_bind ?_;unfold setDrawn;refine wpAny_bind (wpAny_setState_of e1 e3 D.fit ?_);dsimp only;refine wpAny_bind (kL<|wpAny_pure ?_);have N4:w.params.followText "set-order" = true\/(!t.plain && decide (es.size > 1))=false->
    wpAny (model prog w) A.in1 (do let ep <- setEpoch S;let r <- newFields "set_iterator" [rawInt 0,rawInt 0,.ref S,rawInt es.size,rawInt ep];ret r) (fun fin s'=>∃ r,fin=PySem.Fin.done (.ret r)/\∃ T' q,s'.TypeIs r T'/\typeLookup (.type T') "__next__" = pure (some q)/\Q r s') E s:=by
   intro hc;refine wpAny_bind (wpAny_setEpoch_of e1 e3 D.fit<|wpAny_bind<|wpAny_newObj_type<|wpAny_pure ⟨_,rfl,"set_iterator",_,⟨_,Heap.get?_push_size _ rfl,rfl⟩,ji.lookup,?_⟩);have kp:∀ b o,s.heap.get? b=some o->(s.heap.push { cls:=.type "set_iterator",dict:=none,data:=.fields [rawInt 0,rawInt 0,.ref S,rawInt es.size,rawInt ep].toArray }).get? b=some o:=fun b o e=>Heap.get?_push_of_some _ e;have Pt:F7 (s.heap.push { cls:=.type "set_iterator",dict:=none,data:=.fields [rawInt 0,rawInt 0,.ref S,rawInt es.size,rawInt ep].toArray }) s.heap.objs.size (.int (0:Nat) 0) 0 S es.size ep:=⟨_,Heap.get?_push_size _ rfl,rfl,rfl⟩;have sat:Hi (s.heap.push { cls:=.type "set_iterator",dict:=none,data:=.fields [rawInt 0,rawInt 0,.ref S,rawInt es.size,rawInt ep].toArray }) S es ep t:=⟨o,kp _ _ e1,e2,e3⟩;have fp:∀ b∈[s.heap.objs.size,S],b=S\/s.heap.objs.size<=b:=fun b hb=>by
    rcases mem_cons.mp hb with rfl | hb
    ·exact .inr (Nat.le_refl _)
    ·exact .inl (mem_singleton.mp hb)
   cases FY:w.params.followText "set-order" with
   | true=>
    have hp:=AZ (w.params.setOrder S ep) es;obtain⟨ws,w1,w2,w3⟩:=give _ hp;exact h _ s.drawn _ _ _ _ _ kp (Nat.le_refl _) fp (A4 hh (ne_of_lt KE) D.fit FY) ⟨Pt,sat⟩ w1 w2 w3
   | false=>
    have KC:=hc.resolve_left (by rw[FY];exact Bool.false_ne_true);obtain⟨ws,w1,w2,w3⟩:=give _ (.refl _);exact h _ s.drawn _ _ _ _ _ kp (Nat.le_refl _) fp (A3 hh (ne_of_lt KE) D.fit FY KC (by rw[D.tab.led,cF,FY];rfl) D.tab.rise) ⟨Pt,sat⟩ w1 w2 w3
  show wpAny _ _ (if (!w.params.followText "set-order" && (!t.plain && decide (es.size > 1)))=true then _ else _) _ _ _;cases hd:(!w.params.followText "set-order" && (!t.plain && decide (es.size > 1))) with
  | false=>
   rw[if_neg Bool.false_ne_true];refine wpAny_bind (m:=pure (rawInt 0)) (wpAny_pure<|N4 ?_);cases FY:w.params.followText "set-order" with
   | true=>exact .inl rfl
   | false=>rw[FY] at hd;exact .inr hd
  | true=>
   rw[if_pos rfl];refine wpAny_bind (sn es.size (range es.size) s _ length_range fun d ps hp=>?_);have MB:∀ p∈ps,p<es.size:=fun p h=>mem_range.mp (hp.mem_iff.mp h);have Jd:ps.length=es.size:=by rw[hp.length_eq,length_range]
   refine wpAny_bind (m:=newObj (.type "tuple") (.seq (f9 ps).toArray)) (wpAny_newObj_type ?_ (show (f9 ps).toArray.size<=sizeLine by rw[size_toArray,f9,length_map,Jd];exact hsz));refine wpAny_bind (wpAny_setEpoch_of (Heap.get?_push_of_some _ e1) e3 D.fit<|wpAny_bind<|wpAny_newObj_type<|wpAny_pure ⟨_,rfl,"set_iterator",_,⟨_,Heap.get?_push_size _ rfl,rfl⟩,ji.lookup,?_⟩);obtain⟨q1,q2⟩:=A7 hp;obtain⟨ws,w1,w2,w3⟩:=give _ q2;have hI:({ s with heap:=s.heap.push { cls:=.type "tuple",dict:=none,data:=.seq (f9 ps).toArray },drawn:=d }:Shared).heap.objs.size=s.heap.objs.size+1:=Heap.size_push ..;refine h _ d _ [_,S,s.heap.objs.size] (dW es ps) ws _ (fun b o e=>Heap.get?_push_of_some _<|Heap.get?_push_of_some _ e) ?_ ?_ (A5 (ep:=ep) (t:=t) (n2:=0) hh ?_ ?_ D.fit MB) ⟨⟨_,Heap.get?_push_size _ rfl,rfl,rfl⟩,⟨o,Heap.get?_push_of_some _<|Heap.get?_push_of_some _ e1,e2,e3⟩,⟨_,Heap.get?_push_of_some _<|Heap.get?_push_size _ rfl,rfl⟩⟩ (q1.trans w1) w2 w3
   ·exact le_of_lt (by rw[Heap.size_push];exact lt_succ_self _)
   ·intro b hb;rcases mem_cons.mp hb with rfl | hb
    ·exact .inr (by rw[Heap.size_push];exact Nat.le_succ _)
    ·rcases mem_cons.mp hb with rfl | hb
     ·exact .inl rfl
     ·exact .inr (by rw[mem_singleton.mp hb];exact Nat.le_refl _)
   ·rw[Heap.size_push];exact ne_of_lt (Nat.lt_succ_of_lt KE)
   ·rw[Heap.size_push];exact ne_of_lt (lt_succ_self _)
theorem Ba{Q:List Value->Shared->Prop}(hh:A.handled=none)(hS:bB w P s.heap S (cF w) ks)(hl:ks.length<=300)(h:∀ (h':Heap) (tk:Nat) (d:_) (ws:List (List Im×Addr)),(∀ b o,s.heap.get? b=some o->h'.get? b=some o)->(ws.map (·.1)).Perm ks->(∀ z∈ws,P z.1 z.2)->Q (ws.map fun z=>Value.ref z.2) { s with heap:=h',toks:=tk,drawn:=d }):
  wpAny (model prog w) A (collect<|.ref S) Q E s:=by
 have KE:S<s.heap.objs.size:=let ⟨_,_,_,_,e,_⟩:=hS;Heap.lt_size e
 unfold collect;refine wpAny_bind (wpAny_runValue<|codeAny_builtin entry_proto_collect' ?_);rw[Around.under_plainId PySem.F.plain_proto_collect _];show wpAny _ A.in1 (newList [] >>= fun l=>again<|.builtin "list.__iadd__" ⟨[l,.ref S],[]⟩) _ _ s;refine wpAny_bind (wpAny_newObj_type ?_);refine wpAny_pure ⟨plainId_quiet PySem.F.plain_list_iadd _,codeAny_builtin entry_list_iadd' ?_⟩;rw[Around.under_plainId PySem.F.plain_list_iadd _];generalize hH:s.heap.push { cls:=.type "list",dict:=none,data:=.seq ([]:List Value).toArray }=H1;have kH:∀ b o,s.heap.get? b=some o->H1.get? b=some o:=fun b o e=>by rw[<- hH];exact Heap.get?_push_of_some _ e
 have hB:H1.get? s.heap.objs.size=some { cls:=.type "list",dict:=none,data:=.seq #[] }:=by rw[<- hH];exact Heap.get?_push_size _ rfl
 have Pu:s.heap.objs.size<H1.objs.size:=Heap.lt_size hB;have Pv:bB w P H1 S (cF w) ks:=hS.at fun o e=>kH S o e;have ty:Shared.TypeIs { s with heap:=H1 } (.ref S) "set" := let ⟨o,_,_,_,e,x,_⟩:=Pv;⟨o,e,x.1⟩
 show wpAny _ A.in1 (Builtin.List.listExtendWith (.ref s.heap.objs.size) (.ref S)<|.ref s.heap.objs.size) _ _ _;unfold Builtin.List.listExtendWith;refine wpAny_bind (wpAny_typeOf (T := "set") ty ?_);have h1:Builtin.List.listSameRef (.ref s.heap.objs.size) (.ref S)=false:=by simp[Builtin.List.listSameRef,ne_of_gt KE]
 have h2:(Value.type "set" == Value.type "list")=false:=by decide
 have h3:(Value.type "set" == Value.type "tuple")=false:=by decide
 simp only[h1,h2,h3,Bool.or_false,false_eq_true,if_false];refine wpAny_bind (A9 (s:={ s with heap:=H1 }) hh Pv hl fun h2 d I fp vs ws St k2 hI RJ W st ev pm iv=>?_);have hn:vs.length<=sizeLine:=by rw[ev,length_map,<- length_map (f:=(·.1)),pm.length_eq];exact Nat.le_trans hl (by decide)
 have Pw:s.heap.objs.size∉fp:=fun hm=>by
  rcases RJ _ hm with e | e
  ·exact absurd e (ne_of_gt KE)
  ·exact absurd Pu (Nat.not_lt.mpr e)
 have LG:h2.get? s.heap.objs.size=some { cls:=.type "list",dict:=none,data:=.seq #[] }:=k2 _ _ hB;have RL:Shared.TypeIs { s with heap:=h2,drawn:=d } (.ref S) "set" := let ⟨o,e,c⟩:=ty;⟨o,k2 _ _ e,c⟩
 have key:∀ (hp:Heap) (c:Nat) (R:Result->Shared->Prop),St 0 hp->(∀ b o,b≠s.heap.objs.size->h2.get? b=some o->hp.get? b=some o)->hp.get? s.heap.objs.size=some { cls:=.type "list",dict:=none,data:=.seq #[] c }->
   (∀ (h':Heap) (tk:Nat) (c':Nat),(∀ b o,s.heap.get? b=some o->h'.get? b=some o)->h'.get? s.heap.objs.size=some { cls:=.type "list",dict:=none,data:=.seq vs.toArray c' }->R (.ok<|.ret<|.ref s.heap.objs.size) { s with heap:=h',toks:=tk,drawn:=d })->
   codeAny (model prog w) A (.builtin "list.extend.loop" ⟨[.ref s.heap.objs.size,.ref I,.ref s.heap.objs.size],[]⟩) R { s with heap:=hp,drawn:=d }:=fun hp c R st kp RM hR=>
  codeAny_extend_loopS W.toS hn s.heap.objs.size Pw (.ref s.heap.objs.size) vs.length 0 _ #[] c rfl (zero_le _) st RM (ItemsOf.nil _) fun s' acc c' hm Px Ft=>by
   rw[show s'={ s with heap:=s'.heap,toks:=s'.toks,drawn:=d } from by obtain⟨_,hg,hd2,ho,_⟩:=hm;cases s';cases hg;cases hd2;cases ho;rfl];have ea:acc=vs.toArray:=by
    apply Array.toList_inj.mp;apply List.ext_getElem
    ·rw[length_toList];exact Ft.1
    ·intro i g1 g2;have:=Ft.2 i acc.toList[i] (by rw[<- getElem?_toList];exact List.getElem?_eq_getElem g1);have this:vs[i]?=some acc.toList[i]:=this;rw[List.getElem?_eq_getElem g2] at this;exact (Option.some.inj this).symm
   rw[ea] at Px;refine hR s'.heap s'.toks c' (fun b o e=>hm.heap b o (fun FG=>?_)<|kp b o (ne_of_lt<|Heap.lt_size e)<|k2 b o<|kH b o e) Px;rcases mem_cons.mp FG with e' | FG
   ·exact absurd (Heap.lt_size e) (by rw[e'];exact lt_irrefl _)
   ·have e3:=Heap.lt_size e;rw[mem_singleton.mp FG] at e3;have:s.heap.objs.size<=I:=Nat.le_trans (le_of_lt Pu) hI;exact absurd e3 (Nat.not_lt.mpr this)
 refine wpAny_bind (wpAny_holding<|A6 (s:={ s with heap:=h2,drawn:=d }) RL ?_);refine wpAny_ite_split (fun _=>?_) (fun _=>wpAny_pure ⟨plainId_quiet PySem.F.plain_extend_loop _,key _ 0 _ st (fun b o _ e=>e) LG fun h' tk c' k3 N5=>wpAny_bind (wpAny_load N5 (wpAny_pure (by rw[ev];exact h h' tk d ws k3 pm iv)))⟩);refine wpAny_bind (wpAny_rule ?_);refine wpAny_bind ?_;show wpAny _ _ (updateSeq s.heap.objs.size (·.push .none) >>= fun _=>updateSeq s.heap.objs.size (·.pop)) _ _ _;refine wpAny_bind (wpAny_updateSeq (s:={ s with heap:=h2,drawn:=d }) LG rfl ?_);have MN:=Heap.get?_update_self (Obj.mapSeq (·.push Value.none)) LG rfl;refine wpAny_updateSeq (hz:=by seq_fits) MN rfl ?_;have RN:=Heap.get?_update_self (Obj.mapSeq (·.pop)) MN rfl;refine wpAny_pure ⟨plainId_quiet PySem.F.plain_extend_loop _,key _ _ _ ?_ (fun b o hb e=>?_) RN fun h' tk c' k3 N5=>wpAny_bind (wpAny_load N5 (wpAny_pure (by rw[ev];exact h h' tk d ws k3 pm iv)))⟩
 ·refine W.frame 0 _ _ st fun b hb o e=>?_;have Py:b≠s.heap.objs.size:=fun h=>Pw (h ▸ hb);exact (Heap.get?_update_other _ _<|Ne.symm Py).trans ((Heap.get?_update_other _ _<|Ne.symm Py).trans e)
 ·exact (Heap.get?_update_other _ _<|Ne.symm hb).trans ((Heap.get?_update_other _ _<|Ne.symm hb).trans e)
end
end L2
namespace L2
open PySem PySem.Spec PyProof.Rows PySem.W
section
variable{X:Cx}{pins:List (Addr×Obj)}{σ:St}{H:Hp}{s:Shared}
theorem Inv.HZ(I:Inv X pins σ H s)(d:Drawn):Inv X pins σ H { s with drawn:=d }:=⟨I.ok,I.os,I.bare,I.base,I.loc,I.cell,I.free,I.Eo,I.pin,I.l_,I.len⟩
end
section
variable{X:Cx}
end
variable{LL pos p2 p:Pos}{a:Expr}{ks:List (List Im)}
theorem Er.perm{ds es:List Im}(o:Er ds)(p:es.Perm ds):Er es:=
 ⟨⟨by rw[p.length_eq];exact o.ord.J0,fun a ha b hb=>o.ord.FX a (p.mem_iff.mp ha) b<|p.mem_iff.mp hb,p.nodup_iff.mpr o.ord.nd⟩,o.fst.imp (fun h d hd=>h d<|p.mem_iff.mp hd) fun h d hd=>h d<|p.mem_iff.mp hd⟩
theorem sG{H:Hp}:∀ {ws:List (List Im×Addr)},(∀ z∈ws,Ef H (.tup z.1)<|.ref z.2)->ak H ((ws.map (·.1)).map .tup) (ws.map fun z=>V.ref z.2)
 | [],_=>rfl
 | z::ws,h=>⟨_,_,rfl,h z<|.head _,sG fun y hy=>h y<|.tail _ hy⟩
theorem nH:∀ ws:List (List Im×Addr),au (ws.map fun z=>V.ref z.2) (ws.map fun z=>Value.ref z.2)
 | []=>.nil
 | z::ws=>.cons rfl (nH ws)
section
variable{X:Cx}{pins:List (Addr×Obj)}{σ:St}{H:Hp}{s:Shared}{P:List Im->Addr->Prop}
theorem Bb(hc:X.calm=true)(hu:X.A.units+20<cLine){S:Addr}{ks:List (List Im)}{Q:VK}(I:Inv X pins σ H s)(hS:bB X.w P s.heap S (cF X.w) ks)(hP:∀ k b,P k b->Ef H (.tup k) (.ref b))(o:Er (ks.map .tup))(hz:ks.length<=300)(q:∀ l zs,H l=none->ak H (bH u_<|ks.map .tup) zs->Q (.ref l) (upd H l<|.lst zs)):
  wpAny (model X.prog X.w) X.A (call (.builtin "sorted") [.ref S]) (EP X pins σ Q) X.xe s:=by
 refine Calls.call_function_entry kind_sorted plain_sorted entry_sorted (args_sorted1 _) ?z
 case z=>
  unfold Builtin.«sorted»;refine wpAny_bind (m:=checkCount "sorted" 1 1 _) (wpAny_pure<|wpAny_bind<|Ba (A:=X.A.in1) (I.ok.hd hc) hS hz fun h' tk d ws IP pm hw=>?_);have I1:Inv X pins σ H { s with heap:=h',toks:=tk,drawn:=d }:=(I.HZ d).kept (t':=tk) IP;have hi:ak H ((ws.map (·.1)).map .tup) (ws.map fun z=>V.ref z.2):=sG fun z hz=>hP _ _ (hw z hz);have iv:aO h' ((ws.map (·.1)).map .tup) (ws.map fun z=>Value.ref z.2):=hi.FA I1.l_ (nH ws);have N6:((ws.map (·.1)).map Im.tup).Perm (ks.map .tup):=pm.map _;have o2:=o.perm N6;have lw:ws.length<=300:=by rw[<- length_map (f:=(·.1)),pm.length_eq];exact hz
  generalize HB:(ws.map (·.1)).map Im.tup=ds at hi iv N6 o2;generalize ME:ws.map (fun z=>V.ref z.2)=ys at hi;have rv:au ys (ws.map fun z=>Value.ref z.2):=ME ▸ nH ws;generalize hits:ws.map (fun z=>Value.ref z.2)=e_ at iv rv ⊢;have li:e_.length=ds.length:=iv.length.symm;have lz:e_.length<=300:=by rw[<- hits,length_map];exact lw
  show wpAny _ _ (newList e_ >>= _) _ _ _;refine wpAny_bind (wpAny_newList ?_ (Nat.le_trans lz (by decide)));have oB:(h'.push<|seqObj "list" e_.toArray 0).get? h'.objs.size=some (seqObj "list" e_.toArray 0):=Heap.get?_push_size _ rfl;refine wpAny_bind (wpAny_holding<|wpAny_call_entry slot_list_sort ⟨_,oB,rfl⟩ entry_list_sort ?y<|args_list_sort _)
  case y=>
   have J3:∀ h6:Heap,(∀ b ob,b≠h'.objs.size->(h'.push<|seqObj "list" e_.toArray 0).get? b=some ob->h6.get? b=some ob)->∀ b ob,h'.get? b=some ob->h6.get? b=some ob:=fun h6 k6 b ob e=>k6 b ob (ne_of_lt<|Heap.lt_size e) (Heap.get?_push_of_some _ e);refine mM (s:={ s with heap:=h'.push (seqObj "list" e_.toArray 0),toks:=tk,drawn:=d }) (dS ds) (tuples'<|decide (∀ d∈ds,cV d=true)) oB (fun h2 h6 k6 Q hq=>m6 (h:=h6) (s:={ s with heap:=h6,toks:=tk,drawn:=d }) o2 h2 (iv.EE<|J3 h6 k6) _ _ Q hq) (fun h6 k6=>?_) (by rw[li];exact kA o2.ord) (.inl (by lia)) (by lia) fun p h2 r1 r2 k2 ⟨e9,Ls⟩=>⟨_,rfl,wpAny_pure ⟨_,rfl,?_⟩⟩
   ·refine m5 (s:={ s with heap:=h6,toks:=tk,drawn:=d }) o2.ord (iv.EE<|J3 h6 k6) o2.tup (fun hb=>of_decide_eq_true hb) (by show X.A.units+1+1+9<cLine;lia)
   ·have fB:H h'.objs.size=none:=I1.l_.fresh (Nat.le_refl _);rw[li] at r1 r2;have e1:(p.toList.map fun i=>ds.getD i .j_)=bH u_ (ks.map .tup):=kC o.ord ((kg r1).trans N6) (NQ o2.ord r1 r2);have hp:=hi.pick (p:=p.toList) fun k hk=>mem_range.mp (r1.mem_iff.mp hk);rw[e1] at hp;refine⟨.ref h'.objs.size,upd H h'.objs.size<|.lst<|p.toList.map fun i=>ys.getD i .j_,?_,rfl,q _ _ fB hp⟩;refine I1.laid (t':=tk) (fun b u e=>J3 h2 k2 b u e) (Nat.le_refl _) ⟨?_,_,e9,?_,Ls⟩
    ·rw[length_map,length_toList,r1.size];exact Nat.le_trans (by lia:ds.length<=300) (by decide)
    ·refine kh (by simp) fun i v u h1 h2=>?_;rw[List.getElem?_map] at h1 h2;cases HS:p.toList[i]? with
     | none=>rw[HS] at h1;cases h1
     | some k=>
      rw[HS] at h1 h2;cases h1;cases h2;have hk:k<ds.length:=mem_range.mp (r1.mem_iff.mp<|mem_of_getElem? HS);have Gc:k<ys.length:=by rw[rv.length,li];exact hk
      obtain⟨u,h3,h4⟩:=rv.get (i:=k) (x:=ys[k]) (List.getElem?_eq_getElem Gc);show aw (ys.getD k .j_) (e_.getD k .none);rw[getD_eq_getElem?_getD,List.getElem?_eq_getElem Gc,getD_eq_getElem?_getD,h3];exact h4
def bw(ks:List (List Im)):List (List Im):=ks.foldl cx []
theorem nJ(ks:List (List Im)):∀ i,i<=ks.length->de (fun i=>ks.getD i []) i=(ks.take i).foldl cx []
 | 0,_=>by rw[take_zero];rfl
 | i+1,h=>by
  rw[List.take_succ_eq_append_getElem (show i<ks.length from h),List.foldl_append,<- nJ ks i (Nat.le_of_succ_le h)];show cx _ (ks.getD i [])=cx _ ks[i];rw[getD_eq_getElem?_getD,List.getElem?_eq_getElem<|show i<ks.length from h];rfl
theorem Bc(l:List (List Im)):∀ (acc:List (List Im)) (x:List Im),x∈l.foldl cx acc↔x∈acc\/x∈l:=by
 induction l with
 | nil=>intro acc x;simp
 | cons k r ih=>
  intro acc x;rw[foldl_cons,ih];unfold cx;by_cases hk:k∈acc
  ·rw[if_pos hk,mem_cons];constructor
   ·rintro (h | h)
    ·exact .inl h
    ·exact .inr (.inr h)
   ·rintro (h | h | h)
    ·exact .inl h
    ·exact .inl (h ▸ hk)
    ·exact .inr h
  ·rw[if_neg hk,mem_append,mem_singleton,mem_cons,or_assoc]
theorem Bd{x:List Im}:x∈bw ks↔x∈ks:=by
 rw[bw,Bc];simp
theorem Be(l:List (List Im)):∀ acc:List (List Im),acc.Nodup->(l.foldl cx acc).Nodup:=by
 induction l with
 | nil=>intro acc h;exact h
 | cons k r ih=>
  intro acc h;refine ih _ ?_;unfold cx;split
  ·exact h
  ·next hn=>exact nodup_append.mpr ⟨h,pairwise_singleton _ k,fun x hx y hy=>by cases mem_singleton.mp hy;exact fun e=>hn<|e ▸ hx⟩
theorem Bf(ks:List (List Im)):(bw ks).Nodup:=Be ks [] nodup_nil
theorem Bg(l:List (List Im)):∀ acc:List (List Im),acc.length<=(l.foldl cx acc).length:=by
 induction l with
 | nil=>intro acc;exact Nat.le_refl _
 | cons k r ih=>
  intro acc;refine Nat.le_trans ?_ (ih _);unfold cx;split
  ·exact Nat.le_refl _
  ·rw[length_append];exact le_add_right _ _
theorem Bh{i:Nat}(h:i<=ks.length):(de (fun i=>ks.getD i []) i).length<=(bw ks).length:=by
 rw[nJ ks i h];have e:bw ks=(ks.drop i).foldl cx ((ks.take i).foldl cx []):=by
  rw[bw,<- List.foldl_append,take_append_drop]
 rw[e];exact Bg _ _
theorem Bi(ks:List (List Im)):de (fun i=>ks.getD i []) ks.length=bw ks:=by
 rw[nJ ks _ (Nat.le_refl _),take_length];rfl
def Bj(ta:TA):TE:=fun σ H Q=>ta σ H fun vs H1=>∃ (a:Addr) (ks:List (List Im)) (ys:List V),vs=[.ref a]/\H1 a=some (.tup ys)/\ak H1 (ks.map .tup) ys/\(∀ k∈ks,Im.keys 7 k=true)/\Er ((bw ks).map .tup)/\(bw ks).length<300/\
 ∀ l zs,H1 l=none->ak H1 (bH u_<|(bw ks).map .tup) zs->Q (.ref l) (upd H1 l<|.lst zs)
theorem ak.at{H:Hp}:∀ {ds:List Im}{vs:List V}{i:Nat}{v:V},ak H ds vs->vs[i]?=some v->∃ d,ds[i]?=some d/\Ef H d v
 | [],vs,i,v,h,e=>by rw[show vs=[] from h] at e;simp at e
 | d::ds,vs,0,v,h,e=>by
  obtain⟨u,r,rfl,h1,h2⟩:=h;cases e;exact⟨d,rfl,h1⟩
 | d::ds,vs,i+1,v,h,e=>by
  obtain⟨u,r,rfl,h1,h2⟩:=h;obtain⟨d',e1,e2⟩:=ak.at (i:=i) h2 (by simpa using e);exact⟨d',by simpa using e1,e2⟩
theorem Bk(hc:X.calm=true)(hu:X.A.units+30<cLine){l:Addr}{ks:List (List Im)}{ys:List V}{Q:Value->Shared->Prop}(I:Inv X pins σ H s)(hl:H l=some (.tup ys))(hi:ak H (ks.map .tup) ys)(hk:∀ k∈ks,Im.keys 7 k=true)(hz:(bw ks).length<300)(h:∀ h' tk S,Inv X pins σ H { s with heap:=h',toks:=tk }->bB X.w (fun k b=>Im.keys 7 k=true/\Ef H (.tup k) (.ref b)) h' S (cF X.w) (bw ks)->Q (.ref S) { s with heap:=h',toks:=tk }):
  wpAny (model X.prog X.w) X.A (call (.type "set") [.ref l]) Q X.xe s:=by
 obtain⟨z,e_,rv,o,e1,e2,n,e3⟩:=I.l_ l _ hl;have li:e_.length=ks.length:=by rw[<- rv.length,<- hi.length,length_map]
 have hb:e_.toArray.size=ks.length:=by rw[size_toArray,li]
 refine AY (P:=fun k b=>Im.keys 7 k=true/\Ef H (.tup k) (.ref b)) (items:=e_.toArray) (ks:=ks) (I.ok.hd hc) e1 e2 e3 hu (fun i v hv=>?_) (fun q b z=>⟨z.1,z.2.FA I.l_ rfl⟩) (fun i hi=>?_) fun h' tk hS kp=>?_
 ·rw[List.getElem?_toArray] at hv;have Fg:i<ys.length:=by rw[rv.length];exact (List.getElem?_eq_some_iff.mp hv).1
  obtain⟨u,g1,g2⟩:=rv.get (i:=i) (x:=ys[i]) (List.getElem?_eq_getElem Fg);rw[hv] at g1;cases g1;obtain⟨d,g3,g4⟩:=hi.at (i:=i) (v:=ys[i]) (List.getElem?_eq_getElem Fg);rw[List.getElem?_map] at g3;obtain⟨k,g5,rfl⟩:=map_eq_some_iff.mp g3;obtain⟨b,xs,g6,g7,g8⟩:=id g4;rw[g6] at g2 g4;refine⟨b,g2,?_⟩;rw[getD_eq_getElem?_getD,g5];exact⟨hk k<|mem_of_getElem? g5,g4⟩
 ·rw[hb] at hi;have:=Bh (ks:=ks) (le_of_lt hi);lia
 ·rw[hb,Bi] at hS;exact h h' tk _ (I.kept (t':=tk) kp) hS
theorem Bl{ta:TA}(hc:X.calm=true)(hu:X.A.units+30<cLine)(hl:Gl X "sorted")(N7:X.mg "sorted" = none)(hg:Gl X "set")(hm:X.mg "set" = none)(ha:PA X [a] ta)(hs:starEach [a] X.env=[(false,eval a X.env)]:=by rfl):
  PE X (.Call (.Name "sorted" p2) [.Call (.Name "set" p) [a] [] pos] [] LL) (Bj ta):=by
 intro pins s σ H Q I h;refine wpAny_Call_Name_kw (fJ I hl N7 (show bootBuiltins "sorted" = some (.builtin "sorted") by decide +kernel) (PyProof.Rows.callWith_builtin1 ?_ rfl rfl) (by decide) (by decide));refine Calls.spliced_cons ?_;refine Call_ (fJ I hg hm (show bootBuiltins "set" = some (.type "set") by decide +kernel)<|PyProof.Rows.callWith_type1 (z_ (ha pos pins s σ H _ I h) fun us s1 ⟨vs,H1,I1,r1,q1⟩=>?_) hs rfl);obtain⟨l,ks,ys,rfl,IB,hi,hk,ho,hz,q⟩:=q1;obtain⟨u,rfl,ru⟩:=b9 r1;cases ru;exact Bk hc hu I1 IB hi hk hz fun h' tk S I2 hS=>Calls.spliced_nil (Bb hc (by lia) I2 hS (fun k b z=>z.2) ho (by lia) q)
end
def Fw:List Im->Option (List<|List Im)
 | []=>some []
 | .tup a::r=>(Fw r).map (a::·)
 | _=>none
theorem sH:∀ {x:List Im}{ks:List (List Im)},Fw x=some ks->x=ks.map .tup
 | [],ks,h=>by cases h;rfl
 | .tup a::r,ks,h=>by
  obtain⟨k,h1,rfl⟩:=map_eq_some_iff.mp h;rw[sH h1];rfl
 | .j_::_,_,h=>by cases h
 | .bl _::_,_,h=>by cases h
 | .int _::_,_,h=>by cases h
 | .str _::_,_,h=>by cases h
 | .fn _::_,_,h=>by cases h
 | .fl _::_,_,h=>by cases h
 | .fd::_,_,h=>by cases h
theorem nK:∀ ks:List (List Im),Fw (ks.map .tup)=some ks
 | []=>rfl
 | k::ks=>by
  show (Fw<|ks.map .tup).map (k::·)=_;rw[nK ks];rfl
def kO(ks:List (List Im)):Bool:=ks.all (Im.keys 7) && decide ((bw ks).length<300)
def dA(g:M (List Opd)):M Vl:=fun D=>(g D).bind fun p=>(ce p.2 p.1).bind fun ds=>match ds with
 | [.im (.tup x)]=>(Fw x).bind fun ks=>if kO ks=true/\i9 ((bw ks).map .tup)=true then some (.lst<|bH u_<|(bw ks).map .tup,p.2) else none
 | _=>none
theorem sI:kO ks=true↔(∀ k∈ks,Im.keys 7 k=true)/\(bw ks).length<300:=by
 unfold kO;rw[and_eq_true,all_eq_true,decide_eq_true_iff]
section
variable{X:Cx}
theorem nL{g:M (List Opd)}(hu:X.A.units+30<cLine)(hl:Gl X "sorted")(N7:X.mg "sorted" = none)(hg:Gl X "set")(hm:X.mg "set" = none)(ha:VA X [a] g)(hs:starEach [a] X.env=[(false,eval a X.env)]:=by rfl)(hc:X.calm=true:=by rfl):
  VE X (.Call (.Name "sorted" p2) [.Call (.Name "set" p) [a] [] pos] [] LL) (dA g):=by
 refine bg (Bl hc hu hl N7 hg hm ha hs) fun σ H Q ⟨D,F,r,D',st,nd,FW,q⟩=>?_;obtain⟨⟨os,D1⟩,h1,h2⟩:=bind_eq_some_iff.mp FW;obtain⟨ds,h3,h4⟩:=bind_eq_some_iff.mp h2;refine⟨D,F,os,D1,st,nd,h1,fun vs H1 F1 R1 s_ o1 s1=>?_⟩;have rd:=o1.read s_ h3;split at h4
 ·rename_i x;obtain⟨ks,e1,e2⟩:=bind_eq_some_iff.mp h4;split at e2
  ·rename_i hn;cases e2;obtain⟨v,rfl,e⟩:=iQ rd;obtain⟨b,xs,rfl,hb,hi⟩:=(show ∃ a xs,v=V.ref a/\H1 a=some (.tup xs)/\ak H1 x xs from e);cases sH e1;obtain⟨k1,k2⟩:=sI.mp hn.1;refine⟨b,ks,xs,rfl,hb,hi,k1,ja.mp hn.2,k2,fun l zs fl hz=>?_⟩;have s2:aC H1 (upd H1 l<|.lst zs):=(aC.refl H1).upd fl;exact q _ _ F1 [l] (s_.mono s2.tupS fun a _ o e=>s2 a o e) ⟨l,_,rfl,bp,hz.mono s2.tupS.tup,rfl⟩ (s1.new s2 (pairwise_singleton _ _) (fun a ha=>by rw[mem_singleton.mp ha];exact fl) s_.chg)
  ·cases e2
 ·cases h4
end
end L2
namespace L2
open PySem PySem.Spec PyProof.Rows
def J4:Op2:=fun a b=>match a,b with
 | .im x,.im y=>if b7 6 x y=true then some (.im<|.bl<|u_ x y) else none
 | _,_=>none
section
variable{X:Cx}
theorem Bm(hu:X.A.units+20<cLine):FF X (compareOp .Lt) J4:=by
 intro pins s σ H x y v u Q I rx ry ⟨d1,d2,d,r1,r2,e,q⟩;unfold J4 at e;split at e
 ·split at e
  ·rename_i hp;cases e;exact rg 6 hp (by lia) (r1.i.FA I.l_ rx) (r2.i.FA I.l_ ry) X.prog X.w _ _ ⟨.bl _,H,I,rfl,Out.i q rfl⟩
  ·cases e
 ·cases e
end
end L2
namespace G
open PySem L2
noncomputable def Bn:MS:=(aG<|eB<|cP (kB<|cQ "int"<|oSl 0)<|kB<|eB<|bh<|kB<|cQ "bool"<|oSl 0)
noncomputable def gf:Fn:=bd 1 1 [0] Bn
noncomputable def sJ:MS:=(aG<|eB<|cP (kB<|cQ "tuple"<|oSl 0)<|cP (kB<|ae vEq (oV<|av vLen<|aa (oSl 0) aNil)<|oV<|eC<|.int 2)<|cP (kB<|ao 1 G.gf<|aa (oV<|ae vIx (oSl 0)<|oV<|eC<|.int 0) aNil)<|kB<|ao 1 G.gf<|aa (oV<|ae vIx (oSl 0)<|oV<|eC<|.int 1) aNil)
noncomputable def gg:Fn:=bd 1 1 [0] sJ
noncomputable def kP:MS:=(ai (ar 10<|aZ<|aa (oV<|ae vEq (oV<|ao 2 G.bo<|aa (oSl 0)<|aa (oV<|eC<|.int 2) aNil)<|oV<|eC<|.int 0)<|aa (oV<|ae vGt (oV<|ao 2 G.bo<|aa (oSl 0)<|aa (oV<|eC<|.int 6) aNil)<|oV<|eC<|.int 0)<|aa (oV<|eC<|.bl true) aNil)<|ai (fV<|d8 iX 10 mAppend<|aa (oV<|eB<|kOr (kB<|ae vEq (oV<|ae vMod (oSl 8)<|oV<|eC<|.int 2)<|oV<|eC<|.int 0)<|kB<|ae vEq (oSl 9)<|oV<|ae vMod (oV<|ae vDiv (oSl 8)<|oV<|eC<|.int 2)<|oSl 3) aNil)<|ai (ar 10<|ae vAdd (oSl 10)<|oV<|aZ<|aa (oV<|eB<|kOr (kB<|ae vIn (oSl 8)<|oV<|ax<|aa (oV<|eC<|.int 0)<|aa (oV<|ae vSub (oSl 2)<|oV<|eC<|.int 1) aNil)<|kB<|ae vIn (oSl 9)<|oV<|ax<|aa (oV<|eC<|.int 0)<|aa (oV<|ae vSub (oSl 3)<|oV<|eC<|.int 1) aNil)<|aa (oV<|eC<|.bl false) aNil)<|sIf (aU<|oV<|ae vIx (oSl 10)<|oSl 6) (c7 (eC<|.bl true)<|gIx 7 (ax<|aa (oV<|ae vAdd (oSl 8)<|oSl 4)<|aa (oV<|ae vAdd (oSl 9)<|oSl 5) aNil) putA) sNil)
noncomputable def kQ:MS:=(bZ (iR1<|aa (oSl 3) aNil) (gN 9) G.kP)
noncomputable def jj:MS:=(ai (c7 (eC<|.bl true)<|gIx 7 (ax<|aa (oV<|ae vAdd (oSl 8)<|oSl 4)<|aa (oV<|ae vAdd (oSl 9)<|oSl 5) aNil) putA)<|ai (c7 (ao 2 G.bI<|aa (oSl 0)<|aa (oV<|aZ<|aa (oV<|ax<|aa (oV<|eC<|.int 1)<|aa (oV<|eC<|.int 0) aNil)<|aa (oV<|ax<|aa (oV<|eC<|.int 0)<|aa (oV<|eC<|.int 1) aNil)<|aa (oV<|ax<|aa (oV<|eC<|.int 0)<|aa (oV<|eC<|.int 1) aNil)<|aa (oV<|ax<|aa (oV<|iU<|eC<|.int 1)<|aa (oV<|eC<|.int 0) aNil)<|aa (oV<|ax<|aa (oV<|eC<|.int 0)<|aa (oV<|iU<|eC<|.int 1) aNil)<|aa (oV<|ax<|aa (oV<|eC<|.int 1)<|aa (oV<|eC<|.int 0) aNil) aNil) aNil)<|gT 2<|c6 (gN 12)<|c6 (gN 13) gNil')<|ai (ar 8<|av vMin2<|aa (oV<|ae vSub (oSl 2)<|oV<|eC<|.int 1)<|aa (oV<|av vMax2<|aa (oV<|eC<|.int 0)<|aa (oV<|ae vAdd (oSl 8)<|oSl 12) aNil) aNil)<|ar 9<|av vMin2<|aa (oV<|ae vSub (oSl 3)<|oV<|eC<|.int 1)<|aa (oV<|av vMax2<|aa (oV<|eC<|.int 0)<|aa (oV<|ae vAdd (oSl 9)<|oSl 13) aNil) aNil)
noncomputable def sK:MS:=(ai (ar 1<|eC<|.int 8)<|ai (sIf (kB<|ae vEq (oV<|ao 2 G.bo<|aa (oSl 0)<|aa (oV<|eC<|.int 8) aNil)<|oV<|eC<|.int 0) (ar 1<|eC<|.int 12) sNil)<|ai (fe 2 3<|aa (oV<|ae vAdd (oV<|eC<|.int 1)<|oV<|ao 2 G.bo<|aa (oSl 0)<|aa (oSl 1) aNil)<|aa (oV<|ae vAdd (oV<|eC<|.int 1)<|oV<|ao 2 G.bo<|aa (oSl 0)<|aa (oSl 1) aNil) aNil)<|ai (fe 4 5<|aa (oV<|ao 2 G.bI<|aa (oSl 0)<|aa (oV<|aZ<|aa (oV<|eC<|.int 0)<|aa (oV<|eC<|.int 0)<|aa (oV<|eC<|.int 1)<|aa (oV<|ae vSub (oV<|eC<|.int 31)<|oSl 2) aNil) aNil)<|aa (oV<|ao 2 G.bI<|aa (oSl 0)<|aa (oV<|aZ<|aa (oV<|eC<|.int 0)<|aa (oV<|eC<|.int 0)<|aa (oV<|eC<|.int 2)<|aa (oV<|ae vSub (oV<|eC<|.int 31)<|oSl 3) aNil) aNil) aNil)<|ai (ar 6<|ao 2 G.bo<|aa (oSl 0)<|aa (oV<|eC<|.int 6) aNil)<|ai (ar 7 eDict0T)<|ai (bZ (iR1<|aa (oSl 2) aNil) (gN 8) G.kQ)<|ai (c7 (ax<|aa (oV<|eC<|.int 0)<|aa (oV<|eC<|.int 0) aNil)<|gT 2<|c6 (gN 8)<|c6 (gN 9) gNil')<|ai (bZ (iR1<|aa (oV<|ae vMul (oV<|eC<|.int 40)<|oV<|av vInt<|aa (oV<|ae vEq (oSl 6)<|oV<|eC<|.int 5) aNil) aNil) (gN 11) G.jj)<|aG<|av vTuple<|aa (oV<|av ER<|aa (oSl 7) aNil) aNil)
noncomputable def ie:Fn:=bd 1 14 [0] sK
end G
namespace L2
open PySem PySem.Spec PyProof.Rows PySem.W
section
variable{X:Cx}
end
section
variable{X:Cx}{kt:List (Addr×List Im)}{kd:List (Addr×List (List Im×Addr))}
end
variable{K:PySem.W.Frag}{P:Program}{w:World}
end L2
namespace L2
open PySem PySem.Spec PyProof.Rows PySem.W
def N8(D:SD)(i:Nat)(ds:List Im):Bool:=match D[i]? with
 | some (some<|.lst y)=>decide (y=ds)
 | _=>false
section
variable{X:Cx}
end
def uzV:Vl->Vl
 | .im (.fl x)=>.fz x
 | d=>d
@[simp] theorem D9(x:List Im):uzV (.im<|.fl x)=.fz x:=rfl
@[simp] theorem Ea(x:List Im):uzV (.im<|.tup x)=.im (.tup x):=rfl
section
variable{X:Cx}
end
end L2
namespace L2
open PySem
section
variable{D D1 D2:SD}
variable{d:Vl}
theorem v_{g:M Vl}(h:g D=some (d,D1)):oV g D=some (.vl d,D1):=by unfold oV;rw[h];rfl
variable{x:Opd}
theorem a_{g:M Opd}{h:M (List Opd)}{xs:List Opd}(e1:g D=some (x,D1))(e2:h D1=some (xs,D2)):aa g h D=some (x::xs,D2):=by unfold aa;rw[e1];show (h D1).map _=_;rw[e2];rfl
variable{d1 d2:Vl}
theorem b_{op:Vl->Vl->Option Vl}{ga gb:M Opd}{y:Opd}(e1:ga D=some (x,D1))(e2:gb D1=some (y,D2))(e3:rsl D2 x=some d1)(e4:rsl D2 y=some d2)(e5:op d1 d2=some d):ae op ga gb D=some (d,D2):=by
 unfold ae;rw[e1];show (gb D1).bind _=_;rw[e2];show (rsl D2 x).bind _=_;rw[e3];show (rsl D2 y).bind _=_;rw[e4];show (op d1 d2).map _=_;rw[e5];rfl
variable{g:M (List Opd)}{n:Nat}{os:List Opd}{ds outs:List Vl}
theorem c_{G:Fn}{r:Vl}(e1:g D=some (os,D1))(e0:os.length=n)(e2:bi os D1=some (ds,D2))(e3:G ds=some (r,outs)):ao n G g D=some (r,wb os outs D2):=by
 unfold ao;rw[e1];show (if os.length=n then _ else _)=_;rw[if_pos e0];show (bi os D1).bind _=_;rw[e2];show (G ds).map _=_;rw[e3];rfl
theorem Ew{op:List Vl->Option Vl}(e1:g D=some (os,D1))(e2:ce D1 os=some ds)(e3:op ds=some d):av op g D=some (d,D1):=by
 unfold av;rw[e1];show (ce D1 os).bind _=_;rw[e2];show (op ds).map _=_;rw[e3];rfl
variable{b:Bool}
theorem EM{g:M Vl}(e:g D=some (.im<|.bl b,D1)):kB g D=some (b,D1):=by unfold kB;rw[e];rfl
theorem J5{g:M Bool}(e:g D=some (b,D1)):bh g D=some (!b,D1):=by unfold bh;rw[e];rfl
theorem Gm{g:M Opd}(e:g D=some (x,D1))(e2:rsl D1 x=some d)(e3:iW d=some b):aU g D=some (b,D1):=by
 unfold aU;rw[e];show (rsl D1 x).bind _=_;rw[e2];show (iW d).map _=_;rw[e3];rfl
theorem MO{g:M Vl}{h:MG}(e:g D=some (d,D1))(e2:h d D1=some D2):c7 g h D=some (.nx,D2):=by unfold c7;rw[e];show (h d D1).map _=_;rw[e2];rfl
theorem N9{g:M Vl}(e:g D=some (d,D1)):fV g D=some (.nx,D1):=by unfold fV;rw[e];rfl
variable{D3:SD}
theorem N_{ty:Vl->Bool}{i:Nat}{mt:Vl->List Vl->Option (Vl×Vl)}{c0 c r c':Vl}(e0:D[i]?=some (some c0))(e1:ty c0=true)(e2:g D=some (os,D1))(e3:bi os D1=some (ds,D2))(e4:D2[i]?=some (some c))(e5:mt c ds=some (r,c'))(k:D2.set i (some c')=D3):d8 ty i mt g D=some (r,D3):=by
 subst k;unfold d8;rw[e0];show (if ty c0=true then _ else _)=_;rw[if_pos e1,e2];show (bi os D1).bind _=_;rw[e3];show (match D2[i]? with | some (some c)=>_ | _=>none)=_;rw[e4];show (mt c ds).map _=_;rw[e5];rfl
theorem Io(e1:g D=some (os,D1))(e2:bi os D1=some (ds,D2))(e3:ds.length<=100000)(k:mkT ds=d):ax g D=some (d,D2):=by
 unfold ax;rw[e1];show (bi os D1).bind _=_;rw[e2];show (if _ then _ else _)=_;rw[if_pos e3,k]
theorem J6(e1:g D=some (os,D1))(e2:bi os D1=some (ds,D2))(e3:ds.length<=100000)(k:mkL ds=d):aZ g D=some (d,D2):=by
 unfold aZ;rw[e1];show (bi os D1).bind _=_;rw[e2];show (if _ then _ else _)=_;rw[if_pos e3,k]
theorem Pz{x:List Im}{d:Im}(h:x.length<100000):mAppend (.lst x) [.im d]=some (.im .j_,.lst<|x++[d]):=if_pos h
theorem gj(i j:Int):vEq (.im<|.int i) (.im<|.int j)=some (.im<|.bl<|decide (i=j)):=by
 show some (Vl.im<|.bl<|i == j)=_;by_cases h:i=j<;>simp[h]
theorem Bo(i j:Int):vNe (.im<|.int i) (.im<|.int j)=some (.im<|.bl<|!decide (i=j)):=by
 show some (Vl.im<|.bl<|!(i == j))=_;by_cases h:i=j<;>simp[h]
variable{i j:Int}
theorem sL(h:cf i j=true):vMul (.im<|.int i) (.im<|.int j)=some (.im<|.int<|i * j):=if_pos h
theorem nM(h:0<j):vMod (.im<|.int i) (.im<|.int j)=some (.im<|.int<|i % j):=if_pos (decide_eq_true h)
theorem sM(h:0<j)(h2:j<1073741824):vDiv (.im<|.int i) (.im<|.int j)=some (.im<|.int<|i / j):=if_pos (decide_eq_true (⟨h,h2⟩:0<j/\j<1073741824))
variable{r:Option (Fl×SD)}{b:MS}{c:M Bool}
theorem bN{a:MS}(e:c D=some (true,D1))(h:a D1=r):sIf c a b D=r:=(zB e).trans h
theorem bJ{a:MS}(e:c D=some (false,D1))(h:b D1=r):sIf c a b D=r:=(zC e).trans h
theorem w_{g h:MS}(e:g D=some (.nx,D1))(k:h D1=r):ai g h D=r:=(zw e).trans k
variable{i:Nat}
theorem a9{g:M Vl}(e:g D=some (d,D1))(h:i<D1.length)(k:D1.set i (some d)=D2):ar i g D=some (.nx,D2):=(zA e h).trans (by rw[k])
variable{xs:List Im}{tg:MG}{o:Option (Nat×Vl)}
theorem cW{g:MI}{fl:Fl}(e:g D=some ((xs,o),D1))(h:bj tg b xs D1=some (fl,D2))(k:rst o D2=D3):bZ g tg b D=some (fl,D3):=(zx e h).trans (by rw[k])
theorem Gn{own:Nat}{caps:List Nat}{gi:MI}{e:M Vl}{C':SD}{ds:List Im}(h1:gi D=some ((xs,o),D1))(h2:cw own tg c e xs [] (dM caps D1)=some (ds,C'))(k:rst o (c9 caps C' D1)=D3):aD own caps gi tg c e D=some (.lst ds,D3):=(zz h1 h2).trans (by rw[k])
variable{b a:M Bool}
theorem kR(e:a D=some (true,D1)):kOr a b D=some (true,D1):=by unfold kOr;rw[e];rfl
variable{r:Option (Bool×SD)}
theorem df(e:a D=some (false,D1))(h:b D1=r):kOr a b D=r:=by unfold kOr;rw[e];exact h
theorem ft(e:a D=some (true,D1))(h:b D1=r):cP a b D=r:=by unfold cP;rw[e];exact h
theorem jl(e:a D=some (false,D1)):cP a b D=some (false,D1):=by unfold cP;rw[e];rfl
theorem sN{j:Nat}(e1:g D=some (os,D1))(e2:bi os D1=some ([d1,d2],D2))(hi:i<D2.length)(hj:j<D2.length)(k:(D2.set i<|some d1).set j (some d2)=D3):fe i j g D=some (.nx,D3):=by
 unfold fe;rw[e1];show (bi os D1).bind _=_;rw[e2];show (if i<D2.length/\j<D2.length then _ else _)=_;rw[if_pos ⟨hi,hj⟩,k]
theorem IR{g:M Bool}{b:Bool}(e:g D=some (b,D1)):eB g D=some (.im<|.bl b,D1):=by unfold eB;rw[e];rfl
variable{r:Vl}
theorem d_{G:Fn}(e1:g D=some (os,D1))(e0:os.length=n)(e2:bi os D1=some (ds,D2))(e3:G ds=some (r,outs))(k:wb os outs D2=D3):ao n G g D=some (r,D3):=by rw[<- k];exact c_ e1 e0 e2 e3
theorem LM{g:M Bool}(e:g D=some (true,D1)):bh g D=some (false,D1):=J5 e
theorem RO{g:M Bool}(e:g D=some (false,D1)):bh g D=some (true,D1):=J5 e
theorem RP{x y:List Im}(e1:g D=some (os,D1))(e2:ce D1 os=some [.im (.tup x),.im<|.tup y]):iZ g D=some ((cS x y,none),D1):=by
 unfold iZ;rw[e1];show (ce D1 os).bind _=_;rw[e2];rfl
theorem Jm{g:M Opd}{l h:M (Option Int)}{lo hi:Option Int}{d':Vl}(e1:g D=some (x,D1))(e2:l D1=some (lo,D2))(e3:h D2=some (hi,D3))(e4:rsl D3 x=some d)(e5:vSl d lo hi=some d'):eSl g l h D=some (d',D3):=by
 unfold eSl;rw[e1];show (l D1).bind _=_;rw[e2];show (h D2).bind _=_;rw[e3];show (rsl D3 x).bind _=_;rw[e4];show (vSl d lo hi).map _=_;rw[e5];rfl
theorem RQ{g:M Vl}(e:g D=some (d,D1)):eFz g D=some (kn d,D1):=by unfold eFz;rw[e];rfl
theorem Jn(e1:g D=some (os,D1))(e2:ce D1 os=some [.im (.int j)])(h:jW j):iR1 g D=some ((bF 0 j.toNat,none),D1):=by
 unfold iR1;rw[e1];show (ce D1 os).bind _=_;rw[e2];show (if jW j then _ else _)=_;rw[if_pos h]
theorem ba{m:Nat}{fix:List Nat}{g:MS}(hl:ds.length=n)(e:g (ds.map some++List.replicate (m - n) none)=some (.rt r,D))(ho:di fix ds D 0=outs):bd n m fix g ds=some (r,outs):=zD D hl e ho
end
end L2
namespace G
open PySem L2
variable{o9 o13 o12 o11 o10 o1:Option Vl}{way c r sd tp wd hg:Int}{h:Vl}{ks:List (Int×Int)}{n:Nat}
theorem EG{m:Nat}(h:Nat.ble (n+1) m=true):n<m:=le_of_ble_eq_true h
abbrev bV(b:Bool):Vl:=.im (.bl b)
def bO(ks:List (Int×Int))(c:Int×Int):List (Int×Int):=if c∈ks then ks else ks++[c]
theorem nN(ks:List (Int×Int))(c:Int×Int):dz (mt ks) (kM c) (.bl true)=mt (bO ks c):=by
 unfold bO;by_cases h:c∈ks
 ·rw[if_pos h];unfold dz;rw[if_pos (by rw[nj];simpa using h)];unfold mt;rw[List.map_map];refine map_congr_left fun x _=>?_;show (if kM x=kM c then (kM x,Im.bl true) else (kM x,Im.bl true))=_;split<;>rfl
 ·rw[if_neg h];exact Al h
structure GI(hg wd tp sd:Int)(ks:List (Int×Int)):Prop where
 nd:ks.Nodup
 J7:∀ c∈ks,tp<=c.1/\c.1<tp+hg/\sd<=c.2/\c.2<sd+wd
theorem GI.add(R:GI hg wd tp sd ks){r c:Int}(r0:0<=r)(r1:r<hg)(c0:0<=c)(c1:c<wd):GI hg wd tp sd (bO ks (r+tp,c+sd)):=by
 unfold bO;split
 ·exact R
 ·next h=>
  refine⟨nodup_append.mpr ⟨R.nd,pairwise_singleton _ _,fun a ha b hb e=>h (by rw[<- mem_singleton.mp hb,<- e];exact ha)⟩,fun x hx=>?_⟩;rcases mem_append.mp hx with hx | hx
  ·exact R.J7 x hx
  ·rw[mem_singleton.mp hx];dsimp only;lia
theorem GI.len(R:GI hg wd tp sd ks)(h1:hg<=12)(h2:wd<=12):ks.length<=144:=by
 have n1:(ks.map fun c=>((c.1 - tp) * 12+(c.2 - sd)).toNat).Nodup:=by
  refine pairwise_map.mpr (List.Pairwise.imp_of_mem (fun {a b} ha hb ne e=>ne ?_) R.nd);have i1:=R.J7 a ha;have i2:=R.J7 b hb;have:a.1=b.1/\a.2=b.2:=by lia
  exact Prod.ext this.1 this.2
 have q:=f8 (m:=range 144) n1 fun x hx=>by
  obtain⟨c,hc,rfl⟩:=mem_map.mp hx;have i1:=R.J7 c hc;rw[mem_range];lia
 rwa [length_map,length_range] at q
theorem sO{D:SD}(h4:D[4]?=some (some<|iI tp))(h5:D[5]?=some (some<|iI sd))(h7:D[7]?=some (some<|.dT<|mt ks))(h8:D[8]?=some (some<|iI r))(h9:D[9]?=some (some<|iI c))(hl:ks.length<100000):
  c7 (eC<|.bl true) (gIx 7 (ax<|aa (oV<|ae vAdd (oSl 8)<|oSl 4)<|aa (oV<|ae vAdd (oSl 9)<|oSl 5) aNil) putA) D=some (.nx,D.set 7<|some<|.dT<|mt<|bO ks (r+tp,c+sd)):=by
 have hp:putA (.dT<|mt ks) (.im<|.tup<|kM (r+tp,c+sd)) (bV true)=some (.dT<|mt<|bO ks (r+tp,c+sd)):=by
  rw[<- nN];exact if_pos ⟨rfl,by unfold mt;rw[length_map];exact hl⟩
 have s4:oSl 4 D=some (.sl 4,D):=by unfold oSl;rw[h4]
 have s5:oSl 5 D=some (.sl 5,D):=by unfold oSl;rw[h5]
 have s8:oSl 8 D=some (.sl 8,D):=by unfold oSl;rw[h8]
 have s9:oSl 9 D=some (.sl 9,D):=by unfold oSl;rw[h9]
 have r4:rsl D (.sl 4)=some (iI tp):=by show (D[4]?).getD none=_;rw[h4];rfl
 have r5:rsl D (.sl 5)=some (iI sd):=by show (D[5]?).getD none=_;rw[h5];rfl
 have r8:rsl D (.sl 8)=some (iI r):=by show (D[8]?).getD none=_;rw[h8];rfl
 have r9:rsl D (.sl 9)=some (iI c):=by show (D[9]?).getD none=_;rw[h9];rfl
 have t:ax (aa (oV<|ae vAdd (oSl 8)<|oSl 4)<|aa (oV<|ae vAdd (oSl 9)<|oSl 5) aNil) D=some (.im<|.tup<|kM (r+tp,c+sd),D):=
  Io (a_ (v_<|b_ s8 s4 r8 r4 rfl)<|a_ (v_<|b_ s9 s5 r9 r5 rfl) rfl) rfl (le_of_ble_eq_true rfl) rfl;refine MO rfl ?_;unfold gIx;rw[h7];show (ax _ D).bind _=_;rw[t];show (match D[7]? with | some (some c)=>_ | _=>none)=_;rw[h7];show (putA _ _ _).map _=_;rw[hp];rfl
theorem Bp(H:aT (n+2) h)(w0:0<=way)(w1:way<6)(hw:0<wd)(hl:ks.length<100000):
  ∃ h' Ez E9,kP [some h,o1,some<|iI hg,some<|iI wd,some<|iI tp,some<|iI sd,some<|iI way,some<|.dT<|mt ks,some<|iI r,some<|iI c,o10,o11,o12,o13]=some (.nx,[some h',o1,some<|iI hg,some<|iI wd,some<|iI tp,some<|iI sd,some<|iI way,some<|.dT<|mt E9,some<|iI r,some<|iI c,Ez,o11,o12,o13])/\aT n h'/\(E9=ks\/E9=bO ks (r+tp,c+sd)):=by
 obtain⟨v1,h1,e1,_,_,H1⟩:=ed (n:=n+1) (m:=2) H (by decide) (by decide);obtain⟨v2,h2,e2,_,_,H2⟩:=ed (n:=n) (m:=6) H1 (by decide) (by decide);obtain⟨q,rfl⟩:=aW H;obtain⟨q1,rfl⟩:=aW H1;obtain⟨q2,rfl⟩:=aW H2;obtain⟨b3,RR⟩:∃ b3:Bool,eB (kOr (kB<|ae vEq (oV<|ae vMod (oSl 8)<|oV<|eC<|.int 2)<|oV<|eC<|.int 0)<|kB<|ae vEq (oSl 9)<|oV<|ae vMod (oV<|ae vDiv (oSl 8)<|oV<|eC<|.int 2)<|oSl 3) [some (.lst q2),o1,some<|iI hg,some<|iI wd,some<|iI tp,some<|iI sd,some<|iI way,some<|.dT<|mt ks,some<|iI r,some<|iI c,some<|.lst [.bl (decide (v1=0)),.bl<|decide (0<v2),.bl true],o11,o12,o13]=some (bV b3,[some (.lst q2),o1,some<|iI hg,some<|iI wd,some<|iI tp,some<|iI sd,some<|iI way,some<|.dT<|mt ks,some<|iI r,some<|iI c,some<|.lst [.bl (decide (v1=0)),.bl<|decide (0<v2),.bl true],o11,o12,o13]):=by
  have z1:kB (ae vEq (oV<|ae vMod (oSl 8)<|oV<|eC<|.int 2)<|oV<|eC<|.int 0) [some (.lst q2),o1,some<|iI hg,some<|iI wd,some<|iI tp,some<|iI sd,some<|iI way,some<|.dT<|mt ks,some<|iI r,some<|iI c,some<|.lst [.bl (decide (v1=0)),.bl<|decide (0<v2),.bl true],o11,o12,o13]=some (decide (r % 2=0),_):=EM (b_ (v_ (b_ rfl rfl rfl rfl (nM (by decide)))) rfl rfl rfl<|gj _ _);cases hb:decide (r % 2=0) with
  | true=>rw[hb] at z1;exact⟨true,IR<|kR z1⟩
  | false=>rw[hb] at z1;exact⟨_,IR (df z1 (EM (b_ rfl (v_ (b_ (v_ (b_ rfl rfl rfl rfl (sM (by decide) (by decide)))) rfl rfl rfl<|nM hw)) rfl rfl<|gj _ _)))⟩
 obtain⟨b4,RS⟩:∃ b4:Bool,eB (kOr (kB<|ae vIn (oSl 8)<|oV<|ax<|aa (oV<|eC<|.int 0)<|aa (oV<|ae vSub (oSl 2)<|oV<|eC<|.int 1) aNil)<|kB<|ae vIn (oSl 9)<|oV<|ax<|aa (oV<|eC<|.int 0)<|aa (oV<|ae vSub (oSl 3)<|oV<|eC<|.int 1) aNil) [some (.lst q2),o1,some<|iI hg,some<|iI wd,some<|iI tp,some<|iI sd,some<|iI way,some<|.dT<|mt ks,some<|iI r,some<|iI c,some<|.lst [.bl (decide (v1=0)),.bl<|decide (0<v2),.bl true,.bl b3],o11,o12,o13]=some (bV b4,[some (.lst q2),o1,some<|iI hg,some<|iI wd,some<|iI tp,some<|iI sd,some<|iI way,some<|.dT<|mt ks,some<|iI r,some<|iI c,some<|.lst [.bl (decide (v1=0)),.bl<|decide (0<v2),.bl true,.bl b3],o11,o12,o13]):=by
  obtain⟨x,hx⟩:∃ x:Bool,vIn (iI r) (.im<|.tup [.int 0,.int<|hg - 1])=some (bV x):=⟨_,rfl⟩;obtain⟨y,hy⟩:∃ y:Bool,vIn (iI c) (.im<|.tup [.int 0,.int<|wd - 1])=some (bV y):=⟨_,rfl⟩;cases x with
  | true=>exact⟨true,IR<|kR<|EM<|b_ rfl (v_<|Io (a_ rfl<|a_ (v_<|b_ rfl rfl rfl rfl rfl) rfl) rfl (le_of_ble_eq_true rfl) rfl) rfl rfl hx⟩
  | false=>exact⟨y,IR<|df (EM<|b_ rfl (v_<|Io (a_ rfl<|a_ (v_<|b_ rfl rfl rfl rfl rfl) rfl) rfl (le_of_ble_eq_true rfl) rfl) rfl rfl hx)<|EM<|b_ rfl (v_<|Io (a_ rfl<|a_ (v_<|b_ rfl rfl rfl rfl rfl) rfl) rfl (le_of_ble_eq_true rfl) rfl) rfl rfl hy⟩
 obtain⟨b,hb⟩:∃ b:Bool,FS [Im.bl (decide (v1=0)),.bl<|decide (0<v2),.bl true,.bl b3,.bl b4,.bl false] way=some (.bl b):=by
  have:way=0\/way=1\/way=2\/way=3\/way=4\/way=5:=by lia
  rcases this with rfl | rfl | rfl | rfl | rfl | rfl<;>exact⟨_,rfl⟩
 have g2:vGt (iI v2) (iI 0)=some (bV<|decide (0<v2)):=rfl;have vi:vIx (.lst [.bl (decide (v1=0)),.bl<|decide (0<v2),.bl true,.bl b3,.bl b4,.bl false]) (iI way)=some (bV b):=congrArg (Option.map Vl.im) hb;unfold kP;have s1:ar 10 (aZ<|aa (oV<|ae vEq (oV<|ao 2 G.bo<|aa (oSl 0)<|aa (oV<|eC<|.int 2) aNil)<|oV<|eC<|.int 0)<|aa (oV<|ae vGt (oV<|ao 2 G.bo<|aa (oSl 0)<|aa (oV<|eC<|.int 6) aNil)<|oV<|eC<|.int 0)<|aa (oV<|eC<|.bl true) aNil) [some (.lst q),o1,some<|iI hg,some<|iI wd,some<|iI tp,some<|iI sd,some<|iI way,some<|.dT<|mt ks,some<|iI r,some<|iI c,o10,o11,o12,o13]=some (.nx,[some (.lst q2),o1,some<|iI hg,some<|iI wd,some<|iI tp,some<|iI sd,some<|iI way,some<|.dT<|mt ks,some<|iI r,some<|iI c,some<|.lst [.bl (decide (v1=0)),.bl<|decide (0<v2),.bl true],o11,o12,o13]):=
  a9 (J6 (a_ (v_<|b_ (v_<|d_ (a_ rfl<|a_ rfl rfl) rfl rfl e1 rfl) rfl rfl rfl<|gj _ _)<|a_ (v_<|b_ (v_<|d_ (a_ rfl<|a_ rfl rfl) rfl rfl e2 rfl) rfl rfl rfl g2) rfl) rfl (le_of_ble_eq_true rfl) rfl) (EG rfl) rfl;have s2:fV (d8 iX 10 mAppend<|aa (oV<|eB<|kOr (kB<|ae vEq (oV<|ae vMod (oSl 8)<|oV<|eC<|.int 2)<|oV<|eC<|.int 0)<|kB<|ae vEq (oSl 9)<|oV<|ae vMod (oV<|ae vDiv (oSl 8)<|oV<|eC<|.int 2)<|oSl 3) aNil) [some (.lst q2),o1,some<|iI hg,some<|iI wd,some<|iI tp,some<|iI sd,some<|iI way,some<|.dT<|mt ks,some<|iI r,some<|iI c,some<|.lst [.bl (decide (v1=0)),.bl<|decide (0<v2),.bl true],o11,o12,o13]=some (.nx,[some (.lst q2),o1,some<|iI hg,some<|iI wd,some<|iI tp,some<|iI sd,some<|iI way,some<|.dT<|mt ks,some<|iI r,some<|iI c,some<|.lst [.bl (decide (v1=0)),.bl<|decide (0<v2),.bl true,.bl b3],o11,o12,o13]):=
  N9 (N_ rfl rfl (a_ (v_ RR) rfl) rfl rfl (Pz (by show 3<100000;decide)) rfl);have s3:ar 10 (ae vAdd (oSl 10)<|oV<|aZ<|aa (oV<|eB<|kOr (kB<|ae vIn (oSl 8)<|oV<|ax<|aa (oV<|eC<|.int 0)<|aa (oV<|ae vSub (oSl 2)<|oV<|eC<|.int 1) aNil)<|kB<|ae vIn (oSl 9)<|oV<|ax<|aa (oV<|eC<|.int 0)<|aa (oV<|ae vSub (oSl 3)<|oV<|eC<|.int 1) aNil)<|aa (oV<|eC<|.bl false) aNil) [some (.lst q2),o1,some<|iI hg,some<|iI wd,some<|iI tp,some<|iI sd,some<|iI way,some<|.dT<|mt ks,some<|iI r,some<|iI c,some<|.lst [.bl (decide (v1=0)),.bl<|decide (0<v2),.bl true,.bl b3],o11,o12,o13]=some (.nx,[some (.lst q2),o1,some<|iI hg,some<|iI wd,some<|iI tp,some<|iI sd,some<|iI way,some<|.dT<|mt ks,some<|iI r,some<|iI c,some<|.lst [.bl (decide (v1=0)),.bl<|decide (0<v2),.bl true,.bl b3,.bl b4,.bl false],o11,o12,o13]):=
  a9 (b_ rfl (v_<|J6 (a_ (v_ RS) rfl) rfl (le_of_ble_eq_true rfl) rfl) rfl rfl rfl) (EG rfl) rfl;cases b with
 | true=>exact⟨.lst q2,_,bO ks (r+tp,c+sd),w_ s1<|w_ s2<|w_ s3<|bN (Gm (v_<|b_ rfl rfl rfl rfl vi) rfl rfl)<|(sO rfl rfl rfl rfl rfl hl).trans rfl,H2,.inr rfl⟩
 | false=>exact⟨.lst q2,_,ks,w_ s1<|w_ s2<|w_ s3<|bJ (Gm (v_<|b_ rfl rfl rfl rfl vi) rfl rfl) rfl,H2,.inl rfl⟩
theorem ig{i:Nat}{x:Im}(h:(bF 0 n)[i]?=some x):i<n/\x=.int (0+(i:Int)):=by
 have hi:i<n:=by
  have:=(List.getElem?_eq_some_iff.mp h).1
  rwa [bF,length_map,length_range] at this
 rw[bF,List.getElem?_map,List.getElem?_range hi] at h;exact⟨hi,(Option.some.inj h).symm⟩
theorem kS(lo:Int)(n:Nat):(bF lo n).length=n:=by rw[bF,length_map,length_range]
theorem sP(n:Nat):bF 0 n=((range n).map fun (k:Nat)=>(k:Int)).map Im.int:=by
 rw[bF,List.map_map];refine map_congr_left fun k _=>?_;show Im.int (0+(k:Int))=Im.int (k:Int);rw[Int.zero_add]
abbrev fD(h:Vl)(o1:Option Vl)(hg wd tp sd way:Int)(ks:List (Int×Int))(o8 o9 o10 o11 o12 o13:Option Vl):SD:=[some h,o1,some<|iI hg,some<|iI wd,some<|iI tp,some<|iI sd,some<|iI way,some<|.dT<|mt ks,o8,o9,o10,o11,o12,o13]
structure LN(hg wd way:Int):Prop where
 h0:0<hg
 h1:hg<=12
 w0:0<wd
 w1:wd<=12
 y0:0<=way
 y1:way<6
theorem Bq{M:Nat}(H:aT (M+24) h)(d:LN hg wd way)(R:GI hg wd tp sd ks)(r0:0<=r)(r1:r<hg):
  ∃ h' E9 Go Ez,kQ (fD h o1 hg wd tp sd way ks (some<|iI r) o9 o10 o11 o12 o13)=some (.nx,fD h' o1 hg wd tp sd way E9 (some<|iI r) Go Ez o11 o12 o13)/\aT M h'/\GI hg wd tp sd E9:=by
 have:=d.w0;have:=d.w1;obtain⟨D',l1,h',E9,Go,Ez,rfl,l2,l3⟩:=gS (tg:=gN 9) (b:=kP) (xs:=bF 0 wd.toNat) (fun i D=>∃ h ks o9 o10,D=fD h o1 hg wd tp sd way ks (some<|iI r) o9 o10 o11 o12 o13/\aT (M+24 - 2 * i) h/\GI hg wd tp sd ks) (D:=fD h o1 hg wd tp sd way ks (some<|iI r) o9 o10 o11 o12 o13)
  ⟨h,ks,o9,o10,rfl,H,R⟩ (fun i x D hx hI=>by
   obtain⟨h,ks,o9,o10,rfl,H,R⟩:=hI;obtain⟨hi,rfl⟩:=ig hx;have hl:=R.len d.h1 d.w1;obtain⟨h',Ez,E9,e,H',k⟩:=Bp (n:=M+24 - 2 * (i+1)) (hg:=hg) (tp:=tp) (sd:=sd) (r:=r) (c:=0+(i:Int)) (ks:=ks) (o1:=o1) (o10:=o10) (o11:=o11) (o12:=o12) (o13:=o13) (H.mono (by lia)) d.y0 d.y1 d.w0 (by lia);refine⟨_,_,_,rfl,e,.inl rfl,h',E9,_,Ez,rfl,H',?_⟩;rcases k with rfl | rfl
   ·exact R
   ·exact R.add r0 r1 (by lia) (by lia))
 rw[kS] at l2;refine⟨h',E9,Go,Ez,cW (o:=none) (Jn (a_ rfl rfl) rfl ⟨by lia,by lia⟩) l1 rfl,l2.mono (by lia),l3⟩
theorem Br{M:Nat}{o8:Option Vl}(H:aT (M+300) h)(d:LN hg wd way):
  ∃ h' E9 IS Go Ez,bZ (iR1<|aa (oSl 2) aNil) (gN 8) G.kQ (fD h o1 hg wd tp sd way [] o8 o9 o10 o11 o12 o13)=some (.nx,fD h' o1 hg wd tp sd way E9 IS Go Ez o11 o12 o13)/\aT M h'/\GI hg wd tp sd E9:=by
 have:=d.h0;have:=d.h1;obtain⟨D',l1,h',E9,IS,Go,Ez,rfl,l2,l3⟩:=gS (tg:=gN 8) (b:=kQ) (xs:=bF 0 hg.toNat) (fun i D=>∃ h ks o8 o9 o10,D=fD h o1 hg wd tp sd way ks o8 o9 o10 o11 o12 o13/\aT (M+300 - 24 * i) h/\GI hg wd tp sd ks) (D:=fD h o1 hg wd tp sd way [] o8 o9 o10 o11 o12 o13)
  ⟨h,[],o8,o9,o10,rfl,H,nodup_nil,fun _ h=>(not_mem_nil h).elim⟩ (fun i x D hx hI=>by
   obtain⟨h,ks,o8,o9,o10,rfl,H,R⟩:=hI;obtain⟨hi,rfl⟩:=ig hx;obtain⟨h',E9,Go,Ez,e,H',R'⟩:=Bq (M:=M+300 - 24 * (i+1)) (r:=0+(i:Int)) (o1:=o1) (o9:=o9) (o10:=o10) (o11:=o11) (o12:=o12) (o13:=o13) (H.mono (by lia)) d R (by lia) (by lia);exact⟨_,_,_,rfl,e,.inl rfl,h',E9,_,Go,Ez,rfl,H',R'⟩)
 rw[kS] at l2;exact⟨h',E9,IS,Go,Ez,cW (o:=none) (Jn (a_ rfl rfl) rfl ⟨by lia,by lia⟩) l1 rfl,l2.mono (by lia),l3⟩
theorem PB{x m:Int}(h:0<m):0<=(if (if x > 0 then x else 0)<m - 1 then (if x > 0 then x else 0) else m - 1)/\(if (if x > 0 then x else 0)<m - 1 then (if x > 0 then x else 0) else m - 1)<m:=by
 split<;>split<;>lia
theorem Bs{M:Nat}(H:aT (M+1) h)(d:LN hg wd way)(R:GI hg wd tp sd ks)(r0:0<=r)(r1:r<hg)(c0:0<=c)(c1:c<wd):
  ∃ h' E9 r' c' EA Fx,jj (fD h o1 hg wd tp sd way ks (some<|iI r) (some<|iI c) o10 o11 o12 o13)=some (.nx,fD h' o1 hg wd tp sd way E9 (some<|iI r') (some<|iI c') o10 o11 EA Fx)/\aT M h'/\GI hg wd tp sd E9/\0<=r'/\r'<hg/\0<=c'/\c'<wd:=by
 obtain⟨x,h',e,hx,H'⟩:=hU (n:=M) (xs:=[cM (1,0),cM (0,1),cM (0,1),cM (-1,0),cM (0,-1),cM (1,0)]) H (by simp) (by decide);obtain⟨dn,rt,rfl⟩:∃ dn rt:Int,x=cM (dn,rt):=by
  simp at hx;rcases hx with rfl | rfl | rfl | rfl | rfl<;>exact⟨_,_,rfl⟩
 obtain⟨q,rfl⟩:=aW H;obtain⟨q1,rfl⟩:=aW H';have hl:=R.len d.h1 d.w1;obtain⟨a1,a2⟩:=PB (x:=r+dn) d.h0;obtain⟨b1,b2⟩:=PB (x:=c+rt) d.w0;refine⟨.lst q1,bO ks (r+tp,c+sd),_,_,some<|iI dn,some<|iI rt,?_,H',R.add r0 r1 c0 c1,a1,a2,b1,b2⟩;unfold jj;refine w_ ((sO rfl rfl rfl rfl rfl (by lia)).trans rfl) (w_ (D1:=fD (.lst q1) o1 hg wd tp sd way (bO ks (r+tp,c+sd)) (some<|iI r) (some<|iI c) o10 o11 (some<|iI dn) (some<|iI rt)) (MO (d:=.im (cM (dn,rt))) (d_ (os:=[.sl 0,.vl<|.lst [cM (1,0),cM (0,1),cM (0,1),cM (-1,0),cM (0,-1),cM (1,0)]]) (D1:=fD (.lst q) o1 hg wd tp sd way (bO ks (r+tp,c+sd)) (some<|iI r) (some<|iI c) o10 o11 o12 o13) rfl rfl rfl e rfl) rfl)<|w_ (a9 (Ew (a_ (v_<|b_ rfl rfl rfl rfl rfl)<|a_ (v_<|Ew (a_ rfl<|a_ (v_<|b_ rfl rfl rfl rfl rfl) rfl) rfl rfl) rfl) rfl rfl) (EG rfl) rfl)<|a9 (Ew (a_ (v_<|b_ rfl rfl rfl rfl rfl)<|a_ (v_<|Ew (a_ rfl<|a_ (v_<|b_ rfl rfl rfl rfl rfl) rfl) rfl rfl) rfl) rfl rfl) (EG rfl) rfl)
theorem Bt{M:Nat}(H:aT (M+40) h)(d:LN hg wd way)(R:GI hg wd tp sd ks):
  ∃ h' E9 IS Go E_ EA Fx,bZ (iR1<|aa (oV<|ae vMul (oV<|eC<|.int 40)<|oV<|av vInt<|aa (oV<|ae vEq (oSl 6)<|oV<|eC<|.int 5) aNil) aNil) (gN 11) G.jj (fD h o1 hg wd tp sd way ks (some<|iI 0) (some<|iI 0) o10 o11 o12 o13)=some (.nx,fD h' o1 hg wd tp sd way E9 IS Go o10 E_ EA Fx)/\aT M h'/\GI hg wd tp sd E9:=by
 obtain⟨k,hk,Gc⟩:∃ k:Int,ae vMul (oV<|eC<|.int 40) (oV<|av vInt<|aa (oV<|ae vEq (oSl 6)<|oV<|eC<|.int 5) aNil) (fD h o1 hg wd tp sd way ks (some<|iI 0) (some<|iI 0) o10 o11 o12 o13)=some (iI k,fD h o1 hg wd tp sd way ks (some<|iI 0) (some<|iI 0) o10 o11 o12 o13)/\0<=k/\k<=40:=by
  have z:av vInt (aa (oV<|ae vEq (oSl 6)<|oV<|eC<|.int 5) aNil) (fD h o1 hg wd tp sd way ks (some<|iI 0) (some<|iI 0) o10 o11 o12 o13)=some (iI<|if decide (way=5) then 1 else 0,fD h o1 hg wd tp sd way ks (some<|iI 0) (some<|iI 0) o10 o11 o12 o13):=Ew (a_ (v_<|b_ rfl rfl rfl rfl<|gj _ _) rfl) rfl rfl;refine⟨_,b_ rfl (v_ z) rfl rfl (sL (fW (by decide) (by decide))),?_⟩;cases decide (way=5)<;>decide
 obtain⟨D',l1,h',E9,r',c',E_,EA,Fx,rfl,l2,l3,_⟩:=gS (tg:=gN 11) (b:=jj) (xs:=bF 0 k.toNat) (fun i D=>∃ h ks r c o11 o12 o13,D=fD h o1 hg wd tp sd way ks (some<|iI r) (some<|iI c) o10 o11 o12 o13/\aT (M+40 - i) h/\GI hg wd tp sd ks/\0<=r/\r<hg/\0<=c/\c<wd) (D:=fD h o1 hg wd tp sd way ks (some<|iI 0) (some<|iI 0) o10 o11 o12 o13)
  ⟨h,ks,0,0,o11,o12,o13,rfl,H,R,Int.le_refl _,d.h0,Int.le_refl _,d.w0⟩ (fun i x D hx hI=>by
   obtain⟨h,ks,r,c,o11,o12,o13,rfl,H,R,q1,q2,q3,q4⟩:=hI;obtain⟨hi,rfl⟩:=ig hx;obtain⟨h',E9,r',c',EA,Fx,e,H',R',z⟩:=Bs (M:=M+40 - (i+1)) (o1:=o1) (o10:=o10) (o11:=some (iI<|0+(i:Int))) (o12:=o12) (o13:=o13) (H.mono (by lia)) d R q1 q2 q3 q4;exact⟨_,_,_,rfl,e,.inl rfl,h',E9,r',c',_,EA,Fx,rfl,H',R',z⟩)
 rw[kS] at l2;exact⟨h',E9,_,_,E_,EA,Fx,cW (o:=none) (Jn (a_ (v_ hk) rfl) rfl ⟨by lia,by lia⟩) l1 rfl,l2.mono (by lia),l3⟩
def Up(cs:List (Int×Int)):Prop:=cs.Pairwise fun a b=>u_ (cM a) (cM b)=true
theorem kT(nd:ks.Nodup)(hl:ks.length<=1000):∃ cs:List (Int×Int),bH u_ (ks.map cM)=cs.map cM/\cs.Perm ks/\Up cs:=by
 have o:=jd nd hl;obtain⟨cs,h1,h2⟩:=Ai (gZ<|ks.map cM);refine⟨cs,h2,h1,?_⟩;have:=mZ o.ord.nd o.ord.FX;rw[h2] at this;exact pairwise_map.mp this
structure Hj(cs:List (Int×Int)):Prop where
 up:Up cs
 J7:∀ c∈cs,0<=c.1/\c.1<=30/\0<=c.2/\c.2<=30
 len:cs.length<=144
theorem Bu{M:Nat}(H:aT (M+400) h):∃ cs h',ie [h]=some (cT cs,[h'])/\Hj cs/\aT M h':=by
 obtain⟨v0,h0,e0,_,_,H0⟩:=ed (n:=M+399) (m:=8) H (by decide) (by decide);obtain⟨ms,RT,PC,Sv⟩:∃ ms:Int,(if decide (v0=0) then 12 else 8)=ms/\0<ms/\ms<=12:=by
  cases decide (v0=0)
  ·exact⟨8,rfl,by decide,by decide⟩
  ·exact⟨12,rfl,by decide,by decide⟩
 obtain⟨v1,h1,e1,a1,b1,H1⟩:=ed (n:=M+398) (m:=ms) H0 PC (by lia);obtain⟨v2,h2,e2,a2,b2,H2⟩:=ed (n:=M+397) (m:=ms) H1 PC (by lia);obtain⟨x3,h3,e3,i3,H3⟩:=hU (n:=M+396) (xs:=[.int 0,.int 0,.int 1,.int<|31 - (1+v1)]) H2 (by simp) (by simp);obtain⟨x4,h4,e4,i4,H4⟩:=hU (n:=M+395) (xs:=[.int 0,.int 0,.int 2,.int<|31 - (1+v2)]) H3 (by simp) (by simp);obtain⟨v5,h5,e5,a5,b5,H5⟩:=ed (n:=M+340) (m:=6) (H4.mono (by lia)) (by decide) (by decide);obtain⟨tp,rfl,t0,t1⟩:∃ tp:Int,x3=.int tp/\0<=tp/\tp+(1+v1)<=31:=by
  simp at i3;rcases i3 with rfl | rfl | rfl<;>exact⟨_,rfl,by lia,by lia⟩
 obtain⟨sd,rfl,s0,s1⟩:∃ sd:Int,x4=.int sd/\0<=sd/\sd+(1+v2)<=31:=by
  simp at i4;rcases i4 with rfl | rfl | rfl<;>exact⟨_,rfl,by lia,by lia⟩
 obtain⟨q,rfl⟩:=aW H;obtain⟨q0,rfl⟩:=aW H0;obtain⟨q1,rfl⟩:=aW H1;obtain⟨q2,rfl⟩:=aW H2;obtain⟨q3,rfl⟩:=aW H3;obtain⟨q4,rfl⟩:=aW H4;obtain⟨q5,rfl⟩:=aW H5;have d:LN (1+v1) (1+v2) v5:=⟨by lia,by lia,by lia,by lia,a5,b5⟩;obtain⟨h6,PD,o8,o9,o10,e6,H6,R6⟩:=Br (M:=M+40) (tp:=tp) (sd:=sd) (o1:=some (iI ms)) (o8:=none) (o9:=none) (o10:=none) (o11:=none) (o12:=none) (o13:=none) (H5.mono (by lia)) d;obtain⟨h7,LO,IS,Go,E_,EA,Fx,e7,H7,R7⟩:=Bt (M:=M) (o1:=some (iI ms)) (o10:=o10) (o11:=none) (o12:=none) (o13:=none) H6 d R6;have hl:=R7.len d.h1 d.w1;obtain⟨cs,c1,c2,c3⟩:=kT R7.nd (by lia);obtain⟨q6,rfl⟩:=aW H6;obtain⟨q7,rfl⟩:=aW H7;refine⟨cs,.lst q7,?_,⟨c3,fun c hc=>?_,by rw[c2.length_eq];exact hl⟩,H7⟩
 ·have hs:ER [.dT (mt LO)]=some (cL cs):=by
   show d9 ((mt LO).map fun p=>Im.tup p.1)=_;rw[Am];unfold d9;rw[if_pos (ja.mpr (jd R7.nd (by lia))),c1]
  unfold ie sK;have z0:kB (ae vEq (oV<|ao 2 G.bo<|aa (oSl 0)<|aa (oV<|eC<|.int 8) aNil)<|oV<|eC<|.int 0) [some (.lst q),some<|iI 8,none,none,none,none,none,none,none,none,none,none,none,none]=some (decide (v0=0),[some (.lst q0),some<|iI 8,none,none,none,none,none,none,none,none,none,none,none,none]):=EM (b_ (v_<|d_ (a_ rfl<|a_ rfl rfl) rfl rfl e0 rfl) rfl rfl rfl<|gj _ _);have z1:sIf (kB<|ae vEq (oV<|ao 2 G.bo<|aa (oSl 0)<|aa (oV<|eC<|.int 8) aNil)<|oV<|eC<|.int 0) (ar 1<|eC<|.int 12) sNil [some (.lst q),some<|iI 8,none,none,none,none,none,none,none,none,none,none,none,none]=some (.nx,[some (.lst q0),some<|iI ms,none,none,none,none,none,none,none,none,none,none,none,none]):=by
   rw[<- RT];cases hb:decide (v0=0) with
   | true=>rw[hb] at z0;exact bN z0 rfl
   | false=>rw[hb] at z0;exact bJ z0 rfl
  have z2:fe 2 3 (aa (oV<|ae vAdd (oV<|eC<|.int 1)<|oV<|ao 2 G.bo<|aa (oSl 0)<|aa (oSl 1) aNil)<|aa (oV<|ae vAdd (oV<|eC<|.int 1)<|oV<|ao 2 G.bo<|aa (oSl 0)<|aa (oSl 1) aNil) aNil) [some (.lst q0),some<|iI ms,none,none,none,none,none,none,none,none,none,none,none,none]=some (.nx,[some (.lst q2),some<|iI ms,some<|iI<|1+v1,some<|iI<|1+v2,none,none,none,none,none,none,none,none,none,none]):=
   sN (a_ (v_<|b_ rfl (v_<|d_ (os:=[.sl 0,.sl 1]) rfl rfl rfl e1 rfl) rfl rfl rfl)<|a_ (v_<|b_ rfl (v_<|d_ (os:=[.sl 0,.sl 1]) rfl rfl rfl e2 rfl) rfl rfl rfl) rfl) rfl (EG rfl) (EG rfl) rfl;have z3:fe 4 5 (aa (oV<|ao 2 G.bI<|aa (oSl 0)<|aa (oV<|aZ<|aa (oV<|eC<|.int 0)<|aa (oV<|eC<|.int 0)<|aa (oV<|eC<|.int 1)<|aa (oV<|ae vSub (oV<|eC<|.int 31)<|oSl 2) aNil) aNil)<|aa (oV<|ao 2 G.bI<|aa (oSl 0)<|aa (oV<|aZ<|aa (oV<|eC<|.int 0)<|aa (oV<|eC<|.int 0)<|aa (oV<|eC<|.int 2)<|aa (oV<|ae vSub (oV<|eC<|.int 31)<|oSl 3) aNil) aNil) aNil) [some (.lst q2),some<|iI ms,some<|iI<|1+v1,some<|iI<|1+v2,none,none,none,none,none,none,none,none,none,none]=some (.nx,[some (.lst q4),some<|iI ms,some<|iI<|1+v1,some<|iI<|1+v2,some<|iI tp,some<|iI sd,none,none,none,none,none,none,none,none]):=
   sN (a_ (v_<|d_ (os:=[.sl 0,.vl<|.lst [.int 0,.int 0,.int 1,.int<|31 - (1+v1)]]) (D1:=[some (.lst q2),some<|iI ms,some<|iI<|1+v1,some<|iI<|1+v2,none,none,none,none,none,none,none,none,none,none]) rfl rfl rfl e3 rfl)<|a_ (v_<|d_ (os:=[.sl 0,.vl<|.lst [.int 0,.int 0,.int 2,.int<|31 - (1+v2)]]) (D1:=[some (.lst q3),some<|iI ms,some<|iI<|1+v1,some<|iI<|1+v2,none,none,none,none,none,none,none,none,none,none]) rfl rfl rfl e4 rfl) rfl) rfl (EG rfl) (EG rfl) rfl;have z4:ar 6 (ao 2 G.bo<|aa (oSl 0)<|aa (oV<|eC<|.int 6) aNil) [some (.lst q4),some<|iI ms,some<|iI<|1+v1,some<|iI<|1+v2,some<|iI tp,some<|iI sd,none,none,none,none,none,none,none,none]=some (.nx,[some (.lst q5),some<|iI ms,some<|iI<|1+v1,some<|iI<|1+v2,some<|iI tp,some<|iI sd,some<|iI v5,none,none,none,none,none,none,none]):=
   a9 (d_ (os:=[.sl 0,.vl<|iI 6]) rfl rfl rfl e5 rfl) (EG rfl) rfl;have z5:ar 7 eDict0T [some (.lst q5),some<|iI ms,some<|iI<|1+v1,some<|iI<|1+v2,some<|iI tp,some<|iI sd,some<|iI v5,none,none,none,none,none,none,none]=some (.nx,fD (.lst q5) (some<|iI ms) (1+v1) (1+v2) tp sd v5 [] none none none none none none):=rfl;have z6:c7 (ax<|aa (oV<|eC<|.int 0)<|aa (oV<|eC<|.int 0) aNil) (gT 2<|c6 (gN 8)<|c6 (gN 9) gNil') (fD (.lst q6) (some<|iI ms) (1+v1) (1+v2) tp sd v5 PD o8 o9 o10 none none none)=some (.nx,fD (.lst q6) (some<|iI ms) (1+v1) (1+v2) tp sd v5 PD (some<|iI 0) (some<|iI 0) o10 none none none):=rfl;have z7:aG (av vTuple<|aa (oV<|av ER<|aa (oSl 7) aNil) aNil) (fD (.lst q7) (some<|iI ms) (1+v1) (1+v2) tp sd v5 LO IS Go o10 E_ EA Fx)=some (.rt<|cT cs,fD (.lst q7) (some<|iI ms) (1+v1) (1+v2) tp sd v5 LO IS Go o10 E_ EA Fx):=cg (Ew (a_ (v_<|Ew (a_ rfl rfl) rfl hs) rfl) rfl rfl);refine ba (D:=fD (.lst q7) (some<|iI ms) (1+v1) (1+v2) tp sd v5 LO IS Go o10 E_ EA Fx) rfl ?_ rfl;refine w_ (D1:=[some (.lst q),some<|iI 8,none,none,none,none,none,none,none,none,none,none,none,none]) rfl ?_;exact w_ z1 (w_ z2<|w_ z3<|w_ z4<|w_ z5<|w_ e6<|w_ z6<|w_ e7 z7)
 ·have:=R7.J7 c (c2.mem_iff.mp hc);lia
end G
namespace L2
open PySem PySem.Spec PyProof.Rows
section
variable{X:Cx}
theorem Bv(hc:X.calm=true):bb X (.builtin "max") (fun xs H Q=>∃ a i j,xs=[.ref a]/\H a=some (.tup [V.int i,V.int j])/\Q (.int<|if j > i then j else i) H):=by
 intro pins s σ H xs us Q I r h;obtain⟨l,i,j,rfl,hl,q⟩:=h;obtain⟨u,rfl,ru⟩:=b9 r;cases ru;obtain⟨e_,rv,p,hz⟩:=I.tuple (A_.of hl);have Gu:s.heap.IsTuple l e_.toArray:=p;have hlen:e_.length=2:=rv.length.symm;have ll:l<s.heap.objs.size:=Heap.lt_size Gu.choose_spec.1;refine call_max_walk (wpAny_pyIter_tuple Gu ⟨s.heap.objs.size,[s.heap.objs.size,l],[s.heap.objs.size],e_.toArray.size,_,_,_,rfl,Walks.tuple (A:=X.A.in1) (I.ok.hd hc) _ l (ne_of_lt ll) e_.toArray,
  ⟨⟨_,Heap.get?_push_size _ rfl,rfl,rfl⟩,Gu.push _⟩,?_,by rw[size_toArray];lia,CmpOf.ints_gt (fun k=>(([i,j]:List Int)[k]?).getD 0) (fun k v hv=>km (ns:=[i,j]) rv k v (by simpa using hv)),fun v h' tk hP hk=>?_⟩)
 ·intro b hb;show b<(s.heap.push _).objs.size;rw[Heap.size_push];rcases mem_cons.mp hb with rfl | hb
  ·exact lt_succ_self _
  ·rw[mem_singleton.mp hb];exact Nat.lt_succ_of_lt ll
 ·obtain⟨t,rfl⟩:=km (ns:=[i,j]) rv _ v (by simpa using hP);refine⟨.int _,H,I.kept<|LSm.kept_iter hk,⟨t,rfl⟩,?_⟩;rw[hlen];by_cases h:j > i
  ·have e:argBest (fun a b=>decide ((([i,j]:List Int)[b]?).getD 0<(([i,j]:List Int)[a]?).getD 0)) (2 - 1)=1:=if_pos (decide_eq_true h);rw[e];rw[if_pos h] at q;exact q
  ·have e:argBest (fun a b=>decide ((([i,j]:List Int)[b]?).getD 0<(([i,j]:List Int)[a]?).getD 0)) (2 - 1)=0:=if_neg (fun z=>h<|of_decide_eq_true z);rw[e];rw[if_neg h] at q;exact q
theorem Bw(hc:X.calm=true):bb X (.builtin "min") (fun xs H Q=>∃ a i j,xs=[.ref a]/\H a=some (.tup [V.int i,V.int j])/\Q (.int<|if j<i then j else i) H):=by
 intro pins s σ H xs us Q I r h;obtain⟨l,i,j,rfl,hl,q⟩:=h;obtain⟨u,rfl,ru⟩:=b9 r;cases ru;obtain⟨e_,rv,p,hz⟩:=I.tuple (A_.of hl);have Gu:s.heap.IsTuple l e_.toArray:=p;have hlen:e_.length=2:=rv.length.symm;have ll:l<s.heap.objs.size:=Heap.lt_size Gu.choose_spec.1;refine call_min_walk (wpAny_pyIter_tuple Gu ⟨s.heap.objs.size,[s.heap.objs.size,l],[s.heap.objs.size],e_.toArray.size,_,_,_,rfl,Walks.tuple (A:=X.A.in1) (I.ok.hd hc) _ l (ne_of_lt ll) e_.toArray,
  ⟨⟨_,Heap.get?_push_size _ rfl,rfl,rfl⟩,Gu.push _⟩,?_,by rw[size_toArray];lia,CmpOf.ints_lt (fun k=>(([i,j]:List Int)[k]?).getD 0) (fun k v hv=>km (ns:=[i,j]) rv k v (by simpa using hv)),fun v h' tk hP hk=>?_⟩)
 ·intro b hb;show b<(s.heap.push _).objs.size;rw[Heap.size_push];rcases mem_cons.mp hb with rfl | hb
  ·exact lt_succ_self _
  ·rw[mem_singleton.mp hb];exact Nat.lt_succ_of_lt ll
 ·obtain⟨t,rfl⟩:=km (ns:=[i,j]) rv _ v (by simpa using hP);refine⟨.int _,H,I.kept<|LSm.kept_iter hk,⟨t,rfl⟩,?_⟩;rw[hlen];by_cases h:j<i
  ·have e:argBest (fun a b=>decide ((([i,j]:List Int)[a]?).getD 0<(([i,j]:List Int)[b]?).getD 0)) (2 - 1)=1:=if_pos (decide_eq_true h);rw[e];rw[if_pos h] at q;exact q
  ·have e:argBest (fun a b=>decide ((([i,j]:List Int)[a]?).getD 0<(([i,j]:List Int)[b]?).getD 0)) (2 - 1)=0:=if_neg (fun z=>h<|of_decide_eq_true z);rw[e];rw[if_neg h] at q;exact q
@[simp] def vMaxP:OpN:=fun ds=>match ds with
 | [.im (.tup [.int i,.int j])]=>some (.im<|.int<|if j > i then j else i)
 | _=>none
@[simp] def vMinP:OpN:=fun ds=>match ds with
 | [.im (.tup [.int i,.int j])]=>some (.im<|.int<|if j<i then j else i)
 | _=>none
theorem Bx(hc:X.calm=true):cv X (.builtin "max") vMaxP:=by
 refine (Bv hc).imp fun xs H Q ⟨ds,d,rd,e,q⟩=>?_;unfold vMaxP at e;split at e
 ·rename_i i j;cases e;obtain⟨v,rfl,a,ys,rfl,k1,k2⟩:=iQ rd;cases kl (ns:=[i,j]) k2;exact⟨a,i,j,rfl,k1,Out.i q rfl⟩
 ·cases e
theorem By(hc:X.calm=true):cv X (.builtin "min") vMinP:=by
 refine (Bw hc).imp fun xs H Q ⟨ds,d,rd,e,q⟩=>?_;unfold vMinP at e;split at e
 ·rename_i i j;cases e;obtain⟨v,rfl,a,ys,rfl,k1,k2⟩:=iQ rd;cases kl (ns:=[i,j]) k2;exact⟨a,i,j,rfl,k1,Out.i q rfl⟩
 ·cases e
theorem Bz{scope:Scope}{own:List Str}{caps:List Nat}(h:l6 X.env.scope X.N scope caps=true):n_ X scope own caps:=cb _ _ h rfl rfl
end
end L2
namespace G
open PySem L2
variable{o10 o9 o12 o11 o8 o7 o2 o6 o5 o4 o1 o0:Option Vl}{k w:Int}{h:Vl}{P:Im->Prop}{y x ds xs:List Im}{f:Addr}{D1 D:SD}{α:Type}{d:Im}
noncomputable def kU(f':Addr):M Vl:=(ko 1 f' 1 G.gg<|aa (oSl 0) aNil)
noncomputable def sQ(f':Addr):M Vl:=(ae J4 (oSl 0)<|oSl 1)
noncomputable def sR(f':Addr):MS:=(ai (sIf (kOr (bh<|aU<|oV<|cQ "tuple"<|oSl 0)<|bh<|aU<|oV<|av vAll<|aa (oV<|aD 1 [1] (aF<|oSl 0) (gN 0) kYes<|G.kU f') aNil) (aG<|eC<|.bl false) sNil)<|aG<|av vAll<|aa (oV<|aD 2 [] (iZ<|aa (oSl 0)<|aa (oV<|eSl (oSl 0) (dQ<|eC<|.int 1) pNone) aNil) (gT 2<|c6 (gN 0)<|c6 (gN 1) gNil') kYes<|G.sQ f') aNil)
noncomputable def fu(f':Addr):Fn:=bd 2 2 [0,1] (sR f')
noncomputable def jm:MS:=(c7 (eC<|.bl true)<|gIx 1 (bu 2) putA)
noncomputable def nO:MS:=(ai (ar 1 eDict0T)<|ai (bZ (aF<|oSl 0) (gN 2) G.jm)<|aG<|bu 1)
noncomputable def dB:Fn:=bd 1 3 [0] nO
noncomputable def BA:MS:=(ai (ar 1<|ae vIx (oSl 0)<|oV<|eC<|.int 0)<|ai (ar 2<|ae vIx (oSl 0)<|oV<|eC<|.int 1)<|aG<|aZ<|aa (oV<|ax<|aa (oV<|ae vSub (oSl 1)<|oV<|eC<|.int 1)<|aa (oSl 2) aNil)<|aa (oV<|ax<|aa (oSl 1)<|aa (oV<|ae vSub (oSl 2)<|oV<|eC<|.int 1) aNil)<|aa (oV<|ax<|aa (oSl 1)<|aa (oV<|ae vAdd (oSl 2)<|oV<|eC<|.int 1) aNil)<|aa (oV<|ax<|aa (oV<|ae vAdd (oSl 1)<|oV<|eC<|.int 1)<|aa (oSl 2) aNil) aNil)
noncomputable def ii:Fn:=bd 1 3 [0] BA
noncomputable def BB:M Vl:=(ax<|aa (oV<|ae vAdd (oV<|ae vIx (oSl 1)<|oV<|eC<|.int 0)<|oV<|ae vDiv (oSl 0)<|oSl 2)<|aa (oV<|ae vAdd (oV<|ae vIx (oSl 1)<|oV<|eC<|.int 1)<|oV<|ae vMod (oSl 0)<|oSl 2) aNil)
noncomputable def sS:MS:=(aG<|aD 1 [0,1] (iR1<|aa (oV<|ae vMul (oSl 1)<|oSl 1) aNil) (gN 0) kYes G.BB)
noncomputable def er:Fn:=bd 2 2 [0,1] sS
noncomputable def sT:M Vl:=(ae vIn (oSl 0)<|oSl 1)
noncomputable def sU:M Vl:=(bu 0)
noncomputable def nP:M Bool:=(aU<|oV<|av vAll<|aa (oV<|aD 1 [2] (aF<|oV<|ao 2 G.er<|aa (oSl 0)<|aa (oSl 1) aNil) (gN 0) kYes G.sT) aNil)
noncomputable def sV:MS:=(ai (ar 2<|ao 1 G.dB<|aa (oSl 0) aNil)<|aG<|ao 1 G.dB<|aa (oV<|aD 1 [1,2] (aF<|oSl 0) (gN 0) G.nP G.sU) aNil)
noncomputable def ij:Fn:=bd 2 3 [0,1] sV
noncomputable def nQ(f':Addr):M Vl:=(eB<|cP (kB<|ae vIn (oSl 0)<|oSl 1)<|kB<|ae vNotIn (oSl 0)<|oSl 2)
noncomputable def ik(f':Addr):MS:=(ai (sIf (kOr (kB<|ae vNotIn (oSl 7)<|oSl 5)<|kB<|ae vIn (oSl 3)<|oV<|ao 2 G.er<|aa (oSl 7)<|aa (oSl 1) aNil) (aG<|eC<|.bl false) sNil)<|sIf (aU<|oV<|av vAny<|aa (oV<|aD 1 [5,6] (aF<|oV<|ao 1 G.ii<|aa (oSl 7) aNil) (gN 0) kYes<|G.nQ f') aNil) (aG<|eC<|.bl false) sNil)
noncomputable def nR(f':Addr):MS:=(ai (sIf (bh<|aU<|oV<|ao 2 (G.fu f')<|aa (oSl 4)<|aa (oV<|eC<|.fn f') aNil) (aG<|eC<|.bl false) sNil)<|ai (ar 5<|ao 2 G.ij<|aa (oSl 0)<|aa (oSl 1) aNil)<|ai (ar 6<|ao 1 G.dB<|aa (oSl 4) aNil)<|ai (sIf (kB<|ae vNotIn (oSl 2)<|oSl 6) (aG<|eC<|.bl false) sNil)<|ai (bZ (aF<|oSl 4) (gN 7)<|G.ik f')<|aG<|eC<|.bl true)
noncomputable def et(f':Addr):Fn:=bd 5 8 [0,1,2,3,4] (nR f')
noncomputable def sW:MS:=(aG<|ae vEq (oV<|ae vAdd (oV<|av vAbs<|aa (oV<|ae vSub (oV<|ae vIx (oSl 0)<|oV<|eC<|.int 0)<|oV<|ae vIx (oSl 1)<|oV<|eC<|.int 0) aNil)<|oV<|av vAbs<|aa (oV<|ae vSub (oV<|ae vIx (oSl 0)<|oV<|eC<|.int 1)<|oV<|ae vIx (oSl 1)<|oV<|eC<|.int 1) aNil)<|oV<|eC<|.int 1)
noncomputable def gn:Fn:=bd 2 2 [0,1] sW
noncomputable def sX:M Vl:=(bu 0)
noncomputable def sY:M Bool:=(kB<|ae vNe (oSl 0)<|oSl 1)
noncomputable def nS:M Vl:=(ao 2 G.gn<|aa (oSl 1)<|aa (oSl 0) aNil)
noncomputable def jn:MS:=(sIf (aU<|oV<|av vAny<|aa (oV<|aD 1 [6] (aF<|oSl 3) (gN 0) kYes G.nS) aNil) (fV<|d8 iX 5 mAppend<|aa (oSl 6) aNil) sNil)
noncomputable def sZ:M Vl:=(bu 0)
noncomputable def tj:M Bool:=(kB<|ae vNotIn (oSl 0)<|oSl 1)
noncomputable def nU:M Bool:=(kB<|ae vNe (oSl 3)<|oV<|aZ aNil)
noncomputable def kW:MS:=(ai (ar 5<|aZ aNil)<|ai (bZ (aF<|oSl 4) (gN 6) G.jn)<|ai (ar 2<|ae vAdd (oSl 2)<|oSl 5)<|ai (ar 4<|aD 1 [5] (aF<|oSl 4) (gN 0) G.tj G.sZ)<|ar 3<|bu 5)
noncomputable def tm:MS:=(ai (fe 2 3<|aa (oV<|aZ<|aa (oSl 1) aNil)<|aa (oV<|aZ<|aa (oSl 1) aNil) aNil)<|ai (ar 4<|aD 1 [1] (aF<|oSl 0) (gN 0) G.sY G.sX)<|ai (d7 G.nU G.kW 1000000)<|aG<|av vTuple<|aa (oV<|av ER<|aa (oSl 2) aNil) aNil)
noncomputable def dk:Fn:=bd 2 7 [0,1] tm
noncomputable def tq:M Vl:=(ax<|aa (oV<|ae vAdd (oV<|ae vIx (oSl 1)<|oV<|eC<|.int 0)<|oSl 2)<|aa (oV<|ae vAdd (oV<|ae vIx (oSl 1)<|oV<|eC<|.int 1)<|oSl 0) aNil)
noncomputable def nV:MS:=(fV<|d8 iX 2 mExtend<|aa (oV<|aD 1 [0,3] (iR1<|aa (oSl 1) aNil) (gN 0) kYes G.tq) aNil)
noncomputable def tu:MS:=(ai (ar 2<|aZ aNil)<|ai (bZ (iR1<|aa (oSl 1) aNil) (gN 3) G.nV)<|aG<|bu 2)
noncomputable def fw:Fn:=bd 2 4 [0,1] tu
noncomputable def tw:M Vl:=(ae vIn (oSl 0)<|oSl 1)
noncomputable def tB:MS:=(aG<|av vAll<|aa (oV<|aD 1 [0] (aF<|oV<|ao 2 G.fw<|aa (oSl 2)<|aa (oSl 1) aNil) (gN 0) kYes G.tw) aNil)
noncomputable def jo:Fn:=bd 3 3 [0,1,2] tB
noncomputable def tD:M Vl:=(ax<|aa (oSl 0)<|aa (oV<|eC<|.bl true) aNil)
noncomputable def tE:M Vl:=(bu 0)
noncomputable def tF:M Bool:=(aU<|oV<|ao 3 G.jo<|aa (oSl 1)<|aa (oSl 2)<|aa (oSl 0) aNil)
noncomputable def tH:MS:=(ai (ar 2<|av vDict<|aa (oV<|aD 1 [] (aF<|oSl 0) (gN 0) kYes G.tD) aNil)<|aG<|av vTuple<|aa (oV<|aD 1 [2,1] (aF<|oSl 0) (gN 0) G.tF G.tE) aNil)
noncomputable def fy:Fn:=bd 2 3 [0,1] tH
noncomputable def tJ:MS:=(ai (ar 2<|ao 2 G.bI<|aa (oSl 0)<|aa (oV<|aZ<|aa (oV<|eC<|.int 1)<|aa (oV<|eC<|.int 2)<|aa (oV<|eC<|.int 1)<|aa (oV<|eC<|.int 2)<|aa (oV<|eC<|.int 3)<|aa (oV<|eC<|.int 4)<|aa (oV<|eC<|.int 5)<|aa (oV<|eC<|.int 6) aNil) aNil)<|ai (ar 3<|ao 2 G.fy<|aa (oSl 1)<|aa (oSl 2) aNil)<|ai (sIf (kB<|ae vEq (oSl 3)<|oV<|ax aNil) (aG<|ax<|aa (oSl 2)<|aa (oV<|ao 2 G.bI<|aa (oSl 0)<|aa (oV<|ae vAdd (oV<|av vList<|aa (oSl 1) aNil)<|oV<|aZ<|aa (oV<|ax<|aa (oV<|eC<|.int 0)<|aa (oV<|eC<|.int 0) aNil)<|aa (oV<|ax<|aa (oV<|eC<|.int 30)<|aa (oV<|eC<|.int 30) aNil)<|aa (oV<|ax<|aa (oV<|eC<|.int 15)<|aa (oV<|eC<|.int 2) aNil) aNil) aNil) aNil) sNil)<|aG<|ax<|aa (oSl 2)<|aa (oV<|ao 2 G.bI<|aa (oSl 0)<|aa (oSl 3) aNil) aNil)
noncomputable def jp:Fn:=bd 2 4 [0,1] tJ
noncomputable def tK:MS:=(ai (sIf (kOr (bh<|aU<|oV<|cQ "tuple"<|oSl 0)<|kB<|ae vNe (oV<|av vLen<|aa (oSl 0) aNil)<|oV<|eC<|.int 2) (aG<|eC<|.bl false) sNil)<|ai (sIf (kOr (aU<|oV<|cQ "bool"<|oV<|ae vIx (oSl 0)<|oV<|eC<|.int 0)<|aU<|oV<|cQ "bool"<|oV<|ae vIx (oSl 0)<|oV<|eC<|.int 1) (aG<|eC<|.bl false) sNil)<|ai (sIf (kOr (bh<|aU<|oV<|cQ "int"<|oV<|ae vIx (oSl 0)<|oV<|eC<|.int 0)<|bh<|aU<|oV<|cQ "int"<|oV<|ae vIx (oSl 0)<|oV<|eC<|.int 1) (aG<|eC<|.bl false) sNil)<|aG<|eB<|cP (kB<|ae vLe (oV<|eC<|.int 0)<|oV<|av vMinP<|aa (oSl 0) aNil)<|kB<|ae vLt (oV<|av vMaxP<|aa (oSl 0) aNil)<|oV<|eC<|.int 31)
noncomputable def jq:Fn:=bd 1 1 [0] tK
noncomputable def kX:M Vl:=(ao 1 G.jq<|aa (oSl 0) aNil)
noncomputable def nW:M Vl:=(ae vIn (oSl 0)<|oSl 1)
noncomputable def nX:M Vl:=(ao 2 G.gn<|aa (oSl 1)<|aa (oSl 0) aNil)
noncomputable def il:MS:=(sIf (cP (kB<|ae vNotIn (oSl 5)<|oSl 4)<|aU<|oV<|av vAny<|aa (oV<|aD 1 [5] (aF<|oSl 4) (gN 0) kYes G.nX) aNil) (aG<|eC<|.bl false) sNil)
noncomputable def tL:M Vl:=(ae vIn (oSl 1)<|oV<|ao 2 G.fw<|aa (oSl 0)<|aa (oSl 2) aNil)
noncomputable def nY:MS:=(ai (sIf (kOr (bh<|aU<|oV<|cQ "tuple"<|oSl 4)<|bh<|aU<|oV<|av vAll<|aa (oV<|aD 1 [] (aF<|oSl 4) (gN 0) kYes G.kX) aNil) (aG<|eC<|.bl false) sNil)<|ai (sIf (kOr (kB<|ae vNe (oV<|av vList<|aa (oSl 4) aNil)<|oV<|dA<|aa (oSl 4) aNil)<|kB<|ae vNotIn (oSl 2)<|oSl 4) (aG<|eC<|.bl false) sNil)<|ai (sIf (bh<|aU<|oV<|av vAll<|aa (oV<|aD 1 [0] (aF<|oSl 4) (gN 0) kYes G.nW) aNil) (aG<|eC<|.bl false) sNil)<|ai (bZ (aF<|oSl 0) (gN 5) G.il)<|aG<|eB<|bh<|kB<|av vAny<|aa (oV<|aD 1 [3,1] (aF<|oSl 4) (gN 0) kYes G.tL) aNil)
noncomputable def fA:Fn:=bd 5 6 [0,1,2,3,4] nY
noncomputable def tM:MS:=(ai (ar 3<|ax aNil)<|ai (sIf (kB<|ae vIn (oSl 2)<|oSl 1) (ar 3<|ao 2 G.dk<|aa (oSl 1)<|aa (oSl 2) aNil) sNil)<|ai (ar 4<|ao 2 G.bo<|aa (oSl 0)<|aa (oV<|ae vAdd (oV<|av vLen<|aa (oSl 3) aNil)<|oV<|eC<|.int 1) aNil)<|ai (ar 5<|ao 2 G.bI<|aa (oSl 0)<|aa (oV<|ae vAdd (oV<|av vList<|aa (oSl 1) aNil)<|oV<|aZ<|aa (oV<|ax<|aa (oV<|eC<|.int 0)<|aa (oV<|eC<|.int 0) aNil)<|aa (oV<|ax<|aa (oV<|eC<|.int 30)<|aa (oV<|eC<|.int 30) aNil) aNil) aNil)<|ai (ar 6<|av vTuple<|aa (oV<|dA<|aa (oV<|ae vAdd (oSl 3)<|oV<|ax<|aa (oSl 5) aNil) aNil) aNil)<|ai (ar 7<|bu 3)<|ai (sIf (kB<|ae vIn (oSl 5)<|oSl 1) (ar 7<|av vTuple<|aa (oV<|dA<|aa (oV<|ae vAdd (oSl 3)<|oV<|ao 2 G.dk<|aa (oSl 1)<|aa (oSl 5) aNil) aNil) aNil) sNil)<|ai (ar 8<|aZ<|aa (oSl 3)<|aa (oSl 1)<|aa (oSl 7)<|aa (oSl 6)<|aa (oV<|ae vAdd (oV<|eSl (oSl 3) pNone<|dQ<|bu 4)<|oV<|eSl (oSl 3) (dQ<|ae vAdd (oSl 4)<|oV<|eC<|.int 1) pNone) aNil)<|ai (ar 8<|ae vAdd (oSl 8)<|oV<|aZ<|aa (oV<|qY<|oSl 3)<|aa (oV<|eFz<|av vList<|aa (oSl 3) aNil)<|aa (oV<|ae vAdd (oSl 3)<|oV<|eSl (oSl 3) (dQ<|iU<|eC<|.int 1) pNone) aNil)<|ai (ar 8<|ae vAdd (oSl 8)<|oV<|aZ<|aa (oV<|ax aNil)<|aa (oV<|eC .j_)<|aa (oV<|eC<|.bl true)<|aa (oV<|ax<|aa (oSl 3) aNil)<|aa (oV<|ae vAdd (oSl 3)<|oV<|ax<|aa (oV<|eC .j_) aNil) aNil)<|ai (ar 8<|ae vAdd (oSl 8)<|oV<|aZ<|aa (oV<|ae vAdd (oV<|ae vAdd (oV<|eSl (oSl 3) pNone<|dQ<|bu 4)<|oV<|ax<|aa (oV<|ax<|aa (oV<|eC<|.bl true)<|aa (oV<|eC<|.int 0) aNil) aNil)<|oV<|eSl (oSl 3) (dQ<|bu 4) pNone)<|aa (oV<|eC<|.str "ab")<|aa (oV<|ax<|aa (oSl 2) aNil) aNil)<|aG<|ae vAdd (oSl 8)<|oV<|aZ<|aa (oV<|ae vAdd (oV<|ae vAdd (oV<|eSl (oSl 3) pNone<|dQ<|bu 4)<|oV<|ax<|aa (oV<|eFz<|aZ<|aa (oV<|eC<|.int 0)<|aa (oV<|eC<|.int 0) aNil) aNil)<|oV<|eSl (oSl 3) (dQ<|bu 4) pNone)<|aa (oV<|ae vAdd (oSl 3)<|oV<|ax<|aa (oV<|ax<|aa (oV<|eC<|.int 31)<|aa (oV<|eC<|.int 0) aNil) aNil)<|aa (oV<|eFz eDict0T) aNil)
noncomputable def jr:Fn:=bd 3 9 [0,1,2] tM
noncomputable def js(f':Addr):MS:=(ai (ar 11<|ao 5 (G.et f')<|aa (oSl 3)<|aa (oSl 4)<|aa (oSl 5)<|aa (oSl 9)<|aa (oSl 10) aNil)<|ai (ar 12<|ao 5 G.fA<|aa (oSl 6)<|aa (oSl 4)<|aa (oSl 5)<|aa (oSl 9)<|aa (oSl 10) aNil)<|sIf (kOr (bh<|aU<|oV<|cQ "bool"<|oSl 11)<|kB<|ae vNe (oSl 11)<|oSl 12) (aG<|eC<|.bl false) sNil)
noncomputable def kY(f':Addr):MS:=(ai (ar 9<|ao 2 G.bI<|aa (oSl 2)<|aa (oSl 3) aNil)<|bZ (aF<|oSl 7) (gN 10)<|G.js f')
noncomputable def kZ(f':Addr):MS:=(ai (ar 2<|ao 2 G.f7<|aa (oSl 0)<|aa (oSl 1) aNil)<|ai (ar 3<|ao 1 G.ie<|aa (oSl 2) aNil)<|sIf (kB<|ae vNe (oSl 3)<|oV<|ax aNil) (ai (c7 (ao 2 G.jp<|aa (oSl 2)<|aa (oSl 3) aNil)<|gT 2<|c6 (gN 4)<|c6 (gN 5) gNil')<|ai (ar 6<|ao 2 G.fy<|aa (oSl 3)<|aa (oSl 4) aNil)<|ai (ar 7<|ao 3 G.jr<|aa (oSl 2)<|aa (oSl 6)<|aa (oSl 5) aNil)<|bZ (iR1<|aa (oV<|eC<|.int 3) aNil) (gN 8)<|G.kY f') sNil)
noncomputable def nZ(f':Addr):MS:=(ai (bZ (iR1<|aa (oV<|av vMax2<|aa (oV<|eC<|.int 1)<|aa (oV<|av vMin2<|aa (oV<|eC<|.int 8)<|aa (oV<|av vLen<|aa (oSl 0) aNil) aNil) aNil) aNil) (gN 1)<|G.kZ f')<|aG<|ae (oIs false) (oV<|ao 5 (G.et f')<|aa (oV<|ax<|aa (oV<|ax<|aa (oV<|eC<|.int 0)<|aa (oV<|eC<|.int 0) aNil)<|aa (oV<|ax<|aa (oV<|eC<|.int 0)<|aa (oV<|eC<|.int 2) aNil) aNil)<|aa (oV<|eC<|.int 1)<|aa (oV<|ax<|aa (oV<|eC<|.int 0)<|aa (oV<|eC<|.int 0) aNil)<|aa (oV<|ax<|aa (oV<|eC<|.int 0)<|aa (oV<|eC<|.int 2) aNil)<|aa (oV<|ax<|aa (oV<|ax<|aa (oV<|eC<|.int 0)<|aa (oV<|eC<|.int 0) aNil) aNil) aNil)<|oV<|eC<|.bl true)
noncomputable def jt(f':Addr):Fn:=bd 1 13 [0] (nZ f')
abbrev p_:=Int×Int
variable{u s c:p_}{ps fs left g_ part cs:List p_}
theorem n4(o0:Option Vl):∀ (cs ks:List p_) (o2:Option Vl),ks.length+cs.length<100000->∃ Oa,bj (gN 2) jm (cs.map cM) [o0,some<|.dT<|mt ks,o2]=some (.nx,[o0,some<|.dT<|mt<|cs.foldl bO ks,Oa])
 | [],ks,o2,_=>⟨o2,rfl⟩
 | c::cs,ks,o2,hl=>by
  have hp:putA (.dT<|mt ks) (.im<|.tup<|kM c) (bV true)=some (.dT<|mt<|bO ks c):=by
   rw[<- nN];exact if_pos ⟨rfl,by unfold mt;rw[length_map];rw[length_cons] at hl;lia⟩
  have la:(bO ks c).length<=ks.length+1:=by
   unfold bO;split
   ·lia
   ·rw[length_append];exact Nat.le_refl _
  obtain⟨Oa,ih⟩:=n4 o0 cs (bO ks c) (some<|.im<|cM c) (by rw[length_cons] at hl;lia);refine⟨Oa,?_⟩;have e:jm [o0,some<|.dT<|mt ks,some<|.im<|cM c]=some (.nx,[o0,some<|.dT<|mt<|bO ks c,some<|.im<|cM c]):=by
   unfold jm;refine MO rfl ?_;show (putA (.dT<|mt ks) (.im<|.tup<|kM c)<|bV true).map _=_;rw[hp];rfl
  rw[map_cons,bj];show (jm [o0,some<|.dT<|mt ks,some<|.im<|cM c]).bind _=_;rw[e];exact ih
theorem k7:∀ (cs ks:List p_),(ks++cs).Nodup->cs.foldl bO ks=ks++cs
 | [],ks,_=>by rw[append_nil];rfl
 | c::cs,ks,nd=>by
  have hc:c∉ks:=fun h=>by
   have:=(nodup_append.mp nd).2.2 c h c (.head _);exact this rfl
  rw[foldl_cons,bO,if_neg hc,k7 cs (ks++[c]) (by rw[List.append_assoc];exact nd),List.append_assoc];rfl
theorem tN(nd:cs.Nodup)(hl:cs.length<10000):dB [cT cs]=some (.dT<|mt cs,[cT cs]):=by
 obtain⟨o,lp⟩:=n4 (some<|cT cs) cs [] none (by show 0+_ < _;lia);rw[k7 cs [] nd] at lp;unfold dB nO;refine ba (D:=[some (cT cs),some .jk,o]) rfl (w_ (D1:=[some (cT cs),some<|.dT [],none]) rfl<|w_ (cW (o:=none) rfl lp rfl) rfl) rfl
theorem BC(nd:cs.Nodup)(hl:cs.length<10000):dB [cL cs]=some (.dT<|mt cs,[cL cs]):=by
 obtain⟨o,lp⟩:=n4 (some .jk) cs [] none (by show 0+_ < _;lia);rw[k7 cs [] nd] at lp;unfold dB nO;refine ba (D:=[some (cL cs),some .jk,o]) rfl (w_ (D1:=[some (cL cs),some<|.dT [],none]) rfl<|w_ (cW (o:=some (0,cL cs)) (D1:=[some .jk,some<|.dT [],none]) rfl lp rfl) rfl) rfl
def IT(c:p_):List p_:=[(c.1 - 1,c.2),(c.1,c.2 - 1),(c.1,c.2+1),(c.1+1,c.2)]
theorem BD(c:p_):ii [.im (cM c)]=some (cL<|IT c,[.im (cM c)]):=rfl
def GX(c:p_)(w:Int):List p_:=(range (w * w).toNat).map fun (k:Nat)=>(c.1+(k:Int) / w,c.2+(k:Int) % w)
def FN(w:Int):Prop:=1<=w/\w<=6
theorem tQ(c:p_){w:Int}(h:FN w):er [.im (cM c),iI w]=some (cL<|GX c w,[.im (cM c),iI w]):=by
 have w1:=h.1;have w2:=h.2;have sq:w * w<=36:=by
  have:w=1\/w=2\/w=3\/w=4\/w=5\/w=6:=by lia
  rcases this with rfl | rfl | rfl | rfl | rfl | rfl<;>decide
 have Sw:0<=w * w:=Int.mul_nonneg (by lia) (by lia);have e:bF 0 (w * w).toNat=(range (w * w).toNat).map fun (k:Nat)=>.int (k:Int):=by rw[sP,List.map_map];rfl
 unfold er sS;refine ba (D:=[some (.im<|cM c),some<|iI w]) rfl (cg ?_) rfl;refine (Gn (xs:=(range (w * w).toNat).map fun (k:Nat)=>.int (k:Int)) (o:=none) (D1:=[some (.im<|cM c),some<|iI w]) ?_ (db (fun (k:Nat)=>.int (k:Int)) (fun (k:Nat)=>cM (c.1+(k:Int) / w,c.2+(k:Int) % w)) _ (fun k hk=>?_) ?_) rfl).trans ?_
 ·rw[<- e];exact Jn (a_ (v_ (b_ rfl rfl rfl rfl (sL (fW (by lia) (by lia))))) rfl) rfl ⟨by lia,by lia⟩
 ·refine⟨[some (iI k),some<|.im<|cM c,some<|iI w],_,[some (iI k),some<|.im<|cM c,some<|iI w],rfl,rfl,?_,rfl⟩;exact Io (a_ (v_ (b_ (v_<|b_ (d:=iI c.1) rfl rfl rfl rfl rfl) (v_ (b_ rfl rfl rfl rfl (sM (by lia) (by lia)))) rfl rfl rfl)) (a_ (v_ (b_ (v_<|b_ (d:=iI c.2) rfl rfl rfl rfl rfl) (v_ (b_ rfl rfl rfl rfl (nM (by lia)))) rfl rfl rfl)) rfl)) rfl (le_of_ble_eq_true rfl) rfl
 ·rw[length_range];lia
 ·unfold GX cL;rw[List.map_map];rfl
def Fe(c:p_)(w:Int)(n:Nat):List p_:=(range n).flatMap fun (d:Nat)=>(range w.toNat).map fun (r:Nat)=>(c.1+(d:Int),c.2+(r:Int))
theorem n5(c:p_)(w:Int):∀ n,(Fe c w n).length=n * w.toNat
 | 0=>by rw[Nat.zero_mul];rfl
 | n+1=>by
  unfold Fe;rw[List.range_succ,List.flatMap_append,length_append];show (Fe c w n).length+_=_;rw[n5 c w n,List.flatMap_cons,List.flatMap_nil,append_nil,length_map,length_range,Nat.add_mul,Nat.one_mul]
theorem tR(c:p_){w:Int}(h:FN w):fw [.im (cM c),iI w]=some (cL<|Fe c w w.toNat,[.im (cM c),iI w]):=by
 have w1:=h.1;have w2:=h.2;obtain⟨D',l1,o3,rfl⟩:=gS (tg:=gN 3) (b:=nV) (xs:=bF 0 w.toNat) (fun i D=>∃ o3,D=[some (.im<|cM c),some<|iI w,some<|cL<|Fe c w i,o3]) (D:=[some (.im<|cM c),some<|iI w,some<|.lst [],none]) ⟨none,rfl⟩ (fun i x D hx hI=>by
  obtain⟨o3,rfl⟩:=hI;obtain⟨hi,rfl⟩:=ig hx;refine⟨[some (.im<|cM c),some<|iI w,some<|cL<|Fe c w i,some<|iI<|0+(i:Int)],_,_,rfl,?_,.inl rfl,some<|iI<|0+(i:Int),rfl⟩;have e:bF 0 w.toNat=(range w.toNat).map fun (k:Nat)=>.int (k:Int):=by rw[sP,List.map_map];rfl
  have ec:aD 1 [0,3] (iR1<|aa (oSl 1) aNil) (gN 0) kYes G.tq [some (.im<|cM c),some<|iI w,some<|cL<|Fe c w i,some<|iI<|0+(i:Int)]=some (cL<|(range w.toNat).map fun (r:Nat)=>(c.1+(i:Int),c.2+(r:Int)),[some (.im<|cM c),some<|iI w,some<|cL<|Fe c w i,some<|iI<|0+(i:Int)]):=by
   refine (Gn (xs:=(range w.toNat).map fun (k:Nat)=>.int (k:Int)) (o:=none) (D1:=[some (.im<|cM c),some<|iI w,some<|cL<|Fe c w i,some<|iI<|0+(i:Int)]) ?_ (db (fun (k:Nat)=>.int (k:Int)) (fun (k:Nat)=>cM (c.1+(i:Int),c.2+(k:Int))) _ (fun k hk=>?_) ?_) rfl).trans ?_
   ·rw[<- e];exact Jn (a_ rfl rfl) rfl ⟨by lia,by lia⟩
   ·refine⟨[some (iI k),some<|.im<|cM c,some<|iI<|0+(i:Int)],_,[some (iI k),some<|.im<|cM c,some<|iI<|0+(i:Int)],rfl,rfl,?_,rfl⟩;rw[show (0:Int)+(i:Int)=(i:Int) from Int.zero_add _];exact Io (a_ (v_<|b_ (v_<|b_ (d:=iI c.1) rfl rfl rfl rfl rfl) rfl rfl rfl rfl)<|a_ (v_<|b_ (v_<|b_ (d:=iI c.2) rfl rfl rfl rfl rfl) rfl rfl rfl rfl) rfl) rfl (le_of_ble_eq_true rfl) rfl
   ·rw[length_range];lia
   ·unfold cL;rw[List.map_map];rfl
  have hx:mExtend (cL<|Fe c w i) [cL ((range w.toNat).map fun (r:Nat)=>(c.1+(i:Int),c.2+(r:Int)))]=some (.im .j_,cL<|Fe c w<|i+1):=by
   have hl:=n5 c w i;have Sx:i * w.toNat<=36:=Nat.le_trans (Nat.mul_le_mul (show i<=6 by lia) (show w.toNat<=6 by lia)) (by decide);have e2:Fe c w (i+1)=Fe c w i++(range w.toNat).map fun (r:Nat)=>(c.1+(i:Int),c.2+(r:Int)):=by
    unfold Fe;rw[List.range_succ,List.flatMap_append,List.flatMap_cons,List.flatMap_nil,append_nil]
   show (if ((Fe c w i).map cM).length+(((range w.toNat).map fun (r:Nat)=>(c.1+(i:Int),c.2+(r:Int))).map cM).length<=100000 then some (Vl.im .j_,Vl.lst<|_++_) else none)=_;rw[if_pos (by rw[length_map,length_map,hl,length_map,length_range];lia),e2,<- map_append]
  unfold nV;exact N9 (N_ rfl rfl (a_ (v_ ec) rfl) rfl rfl hx rfl))
 rw[kS] at *;unfold fw tu;exact ba (D:=[some (.im<|cM c),some<|iI w,some .jk,o3]) rfl (w_ (D1:=[some (.im<|cM c),some<|iI w,some<|.lst [],none]) rfl (w_ (cW (o:=none) (Jn (a_ rfl rfl) rfl ⟨by lia,by lia⟩) l1 rfl) rfl)) rfl
def MP(c:p_)(w:Int)(x:p_):Prop:=c.1<=x.1/\x.1<c.1+w/\c.2<=x.2/\x.2<c.2+w
theorem n6(h:FN w){x:p_}:x∈GX c w↔MP c w x:=by
 have w1:=h.1;unfold GX MP;rw[mem_map];constructor
 ·rintro⟨k,hk,rfl⟩;have E1:(k:Int)<w * w:=by have:=mem_range.mp hk;lia
  have d1:=Int.emod_add_mul_ediv (k:Int) w;have d2:=emod_nonneg (k:Int) (show w≠0 by lia);have d3:=emod_lt_of_pos (k:Int) (show 0<w by lia);have d4:(k:Int) / w<w:=Int.ediv_lt_of_lt_mul (by lia) E1;have d5:0<=(k:Int) / w:=Int.ediv_nonneg (by lia) (by lia);dsimp only;lia
 ·rintro⟨a,b,d,e⟩;refine⟨((x.1 - c.1) * w+(x.2 - c.2)).toNat,?_,?_⟩
  ·rw[mem_range];have:(x.1 - c.1) * w+(x.2 - c.2)<w * w:=by
    have:(x.1 - c.1+1) * w<=w * w:=Int.mul_le_mul_of_nonneg_right (by lia) (by lia);rw[Int.add_mul,Int.one_mul] at this;lia
   have:0<=(x.1 - c.1) * w:=Int.mul_nonneg (by lia) (by lia);lia
  ·have p0:0<=(x.1 - c.1) * w:=Int.mul_nonneg (by lia) (by lia);have e0:((((x.1 - c.1) * w+(x.2 - c.2)).toNat:Nat):Int)=(x.2 - c.2)+(x.1 - c.1) * w:=by lia
   rw[e0,Int.add_mul_ediv_right _ _ (by lia),Int.add_mul_emod_self_right,Int.ediv_eq_zero_of_lt (by lia) (by lia),Int.emod_eq_of_lt (by lia) (by lia)];refine Prod.ext ?_ ?_
   ·show c.1+(0+(x.1 - c.1))=x.1;lia
   ·show c.2+(x.2 - c.2)=x.2;lia
theorem n9(h:FN w){x:p_}:x∈Fe c w w.toNat↔MP c w x:=by
 have w1:=h.1;unfold Fe MP;rw[List.mem_flatMap];constructor
 ·rintro⟨d,hd,hx⟩;obtain⟨r,hr,rfl⟩:=mem_map.mp hx;have:=mem_range.mp hd;have:=mem_range.mp hr;dsimp only;lia
 ·rintro⟨a,b,d,e⟩;refine⟨(x.1 - c.1).toNat,mem_range.mpr (by lia),mem_map.mpr ⟨(x.2 - c.2).toNat,mem_range.mpr (by lia),Prod.ext ?_ ?_⟩⟩
  ·show c.1+(((x.1 - c.1).toNat:Nat):Int)=x.1;lia
  ·show c.2+(((x.2 - c.2).toNat:Nat):Int)=x.2;lia
def aJ(cs:List p_)(w:Int)(c:p_):Bool:=(GX c w).all fun x=>decide (x∈cs)
theorem BE(h:FN w)(c:p_):((Fe c w w.toNat).all fun x=>decide (x∈cs))=aJ cs w c:=by
 unfold aJ;rw[Bool.eq_iff_iff,all_eq_true,all_eq_true];constructor
 ·intro z x hx;exact z x ((n9 h).mpr<|(n6 h).mp hx)
 ·intro z x hx;exact z x ((n6 h).mpr<|(n9 h).mp hx)
theorem k8(ks:List p_)(c:p_):vIn (.im<|cM c) (.dT<|mt ks)=some (bV<|decide (c∈ks)):=by
 rw[<- Ak];rfl
def Ht(d:Im):Prop:=∀ a,d≠.fn a
def E3(d:Im):Prop:=Ht d/\∀ es,d=.tup es->∀ y∈es,Ht y
def H9(d:Im):Prop:=Ht d/\∀ ds,d=.tup ds->ds.length<=290/\∀ x∈ds,E3 x
def IU:Im->Bool
 | .int _=>true
 | _=>false
theorem tT(h:Ht d):gf [.im d]=some (bV<|IU d,[.im d]):=by
 cases d with
 | fn a=>exact absurd rfl (h a)
 | _=>rfl
def Gw:Im->Bool
 | .tup [a,b]=>IU a && IU b
 | _=>false
theorem tU(h:IU d=true):∃ i,d=.int i:=by
 cases d with
 | int i=>exact⟨i,rfl⟩
 | _=>cases h
theorem BF(h:E3 d):gg [.im d]=some (bV<|Gw d,[.im d]):=by
 cases d with
 | fn a=>exact absurd rfl (h.1 a)
 | tup ds=>
  unfold gg sJ
  match ds,h with
  | [],_=>rfl
  | [a],_=>rfl
  | [a,b],h=>
   have ha:=tT (h.2 _ rfl a<|.head _);have hb:=tT (h.2 _ rfl b<|.tail _<|.head _);refine ba (D:=[some (.im<|.tup [a,b])]) rfl (cg<|IR<|ft (EM rfl)<|ft (EM rfl) ?_) rfl;show _=some (IU a && IU b,_);have ka:kB (ao 1 G.gf<|aa (oV<|ae vIx (oSl 0)<|oV<|eC<|.int 0) aNil) [some (.im<|.tup [a,b])]=some (IU a,[some (.im<|.tup [a,b])]):=EM (d_ (a_ (v_<|b_ (d:=.im a) rfl rfl rfl rfl rfl) rfl) rfl rfl ha rfl);have kb:kB (ao 1 G.gf<|aa (oV<|ae vIx (oSl 0)<|oV<|eC<|.int 1) aNil) [some (.im<|.tup [a,b])]=some (IU b,[some (.im<|.tup [a,b])]):=EM (d_ (a_ (v_<|b_ (d:=.im b) rfl rfl rfl rfl rfl) rfl) rfl rfl hb rfl);cases hz:IU a with
   | false=>rw[hz] at ka;exact jl ka
   | true=>rw[hz] at ka;exact ft ka kb
  | a::b::c::r,_=>
   have e:vEq (iI ((a::b::c::r).length:Int)) (iI 2)=some (bV false):=(gj _ _).trans (congrArg (fun b=>some<|bV b) (decide_eq_false (by rw[length_cons,length_cons,length_cons];lia)));exact ba (D:=[some (.im<|.tup (a::b::c::r))]) rfl (cg<|IR<|ft (EM rfl)<|jl<|EM<|b_ (v_<|Ew (a_ rfl rfl) rfl rfl) rfl rfl rfl e) rfl
 | _=>rfl
def Gp:Im->Bool
 | .tup [.int i,.int j]=>(decide (0<=i) && decide (i<=30)) && (decide (0<=j) && decide (j<=30))
 | _=>false
theorem tW(h:Gp d=true):∃ c:Int×Int,d=cM c/\0<=c.1/\c.1<=30/\0<=c.2/\c.2<=30:=by
 unfold Gp at h;split at h
 ·next i j=>
  rw[and_eq_true,and_eq_true,and_eq_true] at h;exact⟨(i,j),rfl,of_decide_eq_true h.1.1,of_decide_eq_true h.1.2,of_decide_eq_true h.2.1,of_decide_eq_true h.2.2⟩
 ·cases h
theorem BG{c:Int×Int}(h:0<=c.1/\c.1<=30/\0<=c.2/\c.2<=30):Gp (cM c)=true:=by
 show ((decide (0<=c.1) && decide (c.1<=30)) && (decide (0<=c.2) && decide (c.2<=30)))=true;rw[decide_eq_true h.1,decide_eq_true h.2.1,decide_eq_true h.2.2.1,decide_eq_true h.2.2.2];rfl
theorem tX(h:Gw d=false):Gp d=false:=by
 cases hc:Gp d with
 | false=>rfl
 | true=>
  obtain⟨c,rfl,_⟩:=tW hc;cases h
def b8(ds:List Im):Bool:=(ds.zip<|ds.drop 1).all fun p=>u_ p.1 p.2
theorem Ob{α:Type}(f:α->Bool):∀ xs:List α,bls (xs.map fun r=>.bl<|f r)=some (xs.map f)
 | []=>rfl
 | x::r=>by rw[map_cons,bls,Ob f r];rfl
theorem io(f:α->Bool)(xs:List α):vAll [.lst (xs.map fun r=>.bl<|f r)]=some (bV<|xs.all f):=by
 show (bls _).map _=_;rw[Ob,map_some,all_map];rfl
theorem k9(f:α->Bool)(xs:List α):vAny [.lst (xs.map fun r=>.bl<|f r)]=some (bV<|xs.any f):=by
 show (bls _).map _=_;rw[Ob,map_some,any_map];rfl
theorem tY:∀ ds es:List Im,cS ds es=(ds.zip es).map fun p=>.tup [p.1,p.2]
 | [],_=>rfl
 | _::_,[]=>rfl
 | d::ds,e::es=>congrArg (_::·) (tY ds es)
theorem tZ(a b:Int×Int):b7 6 (cM a) (cM b)=true:=rfl
def N8:Im->Bool
 | .int i=>decide (0<=i) && decide (i<31)
 | _=>false
theorem BH(a b:Im):Gp (.tup [a,b])=(N8 a && N8 b):=by
 cases a with
 | int i=>
  cases b with
  | int j=>
   show ((decide (0<=i) && decide (i<=30)) && (decide (0<=j) && decide (j<=30)))=((decide (0<=i) && decide (i<31)) && (decide (0<=j) && decide (j<31)));rw[show decide (i<=30)=decide (i<31) from by simp;lia,show decide (j<=30)=decide (j<31) from by simp;lia]
  | _=>show false=((decide (0<=i) && decide (i<31)) && false);rw[Bool.and_false]
 | _=>rfl
theorem t5:∀ {ds:List Im},ds.all Gp=true->∃ cs:List (Int×Int),ds=cs.map cM
 | [],_=>⟨[],rfl⟩
 | d::ds,h=>by
  rw[List.all_cons,and_eq_true] at h;obtain⟨c,rfl,_⟩:=tW h.1;obtain⟨cs,rfl⟩:=t5 h.2;exact⟨c::cs,rfl⟩
theorem BI{a b c:Int×Int}(h1:u_ (cM a) (cM b)=true)(h2:u_ (cM b) (cM c)=true):u_ (cM a) (cM c)=true:=kw (tZ a b) (tZ b c) h1 h2
theorem oa:∀ {cs:List (Int×Int)},b8 (cs.map cM)=true->Up cs
 | [],_=>List.Pairwise.nil
 | [a],_=>pairwise_singleton _ _
 | a::b::r,h=>by
  have h':(u_ (cM a) (cM b) && b8 ((b::r).map cM))=true:=h;rw[and_eq_true] at h';have ih:=oa h'.2;refine pairwise_cons.mpr ⟨fun c hc=>?_,ih⟩;rcases mem_cons.mp hc with rfl | hc
  ·exact h'.1
  ·exact BI h'.1 ((pairwise_cons.mp ih).1 c hc)
theorem t6:∀ {cs:List (Int×Int)},Up cs->b8 (cs.map cM)=true
 | [],_=>rfl
 | [a],_=>rfl
 | a::b::r,h=>by
  have h':=pairwise_cons.mp h;show (u_ (cM a) (cM b) && b8 ((b::r).map cM))=true;rw[h'.1 b (.head _),t6 h'.2];rfl
theorem ip{cs:List (Int×Int)}(h:Up cs):cs.Nodup:=h.imp fun {a b} e z=>by rw[z,mV] at e;cases e
theorem t7(cs:List (Int×Int)):∃ dc:List (Int×Int),bw (cs.map kM)=dc.map kM/\dc.Nodup/\∀ c,c∈dc↔c∈cs:=by
 have hm:=fun x=>Bd (ks:=cs.map kM) (x:=x);have nd:=Bf (cs.map kM);have key:∀ l:List (List Im),(∀ x∈l,x∈cs.map kM)->l=(l.map fun x=>uC<|.tup x).map kM:=fun l=>by
  induction l with
  | nil=>intro _;rfl
  | cons x l ih=>
   intro h;obtain⟨c,_,rfl⟩:=mem_map.mp (h x<|.head _);rw[map_cons,map_cons,<- ih fun y hy=>h y<|.tail _ hy];rfl
 have e:=key _ fun x hx=>(hm x).mp hx;refine⟨_,e,?_,fun c=>?_⟩
 ·rw[e] at nd;exact (pairwise_map.mp nd).imp fun {a b} h z=>h (by rw[z])
 ·have h1:kM c∈bw (cs.map kM)↔kM c∈cs.map kM:=hm (kM c);rw[e] at h1;have h2:∀ l:List (Int×Int),kM c∈l.map kM↔c∈l:=fun l=>by
   constructor
   ·intro h;obtain⟨d,hd,hh⟩:=mem_map.mp h;rw[<- nh hh];exact hd
   ·exact fun h=>List.mem_map_of_mem h
  rw[h2,h2] at h1;exact h1
theorem og:∀ cs:List (Int×Int),Im.keys 8 (cs.map cM)=true
 | []=>rfl
 | c::r=>by rw[map_cons,Im.keys,og r];rfl
theorem t9{cs:List (Int×Int)}(hl:cs.length<=290):kO (cs.map kM)=true/\i9 ((bw<|cs.map kM).map .tup)=true/\bD (cs.map cM) (bH u_<|(bw<|cs.map kM).map .tup)=b8 (cs.map cM)/\Im.pls 8 (bH u_<|(bw<|cs.map kM).map .tup)=true:=by
 obtain⟨dc,e,nd,hm⟩:=t7 cs;have hlen:dc.length<=cs.length:=f8 nd fun x hx=>(hm x).mp hx;have e2:(dc.map kM).map Im.tup=dc.map cM:=by rw[List.map_map];rfl
 obtain⟨es,s1,s2,s3⟩:=kT nd (by lia);rw[e,e2,s1];refine⟨sI.mpr ⟨fun k hk=>?_,by rw[e,length_map];lia⟩,ja.mpr (jd nd (by lia)),?_,g9 es⟩
 ·obtain⟨c,_,rfl⟩:=mem_map.mp hk;exact Ah c
 ·rw[lG (og cs) (og es)];cases ha:b8 (cs.map cM) with
  | true=>
   have up:=oa ha;have pm:cs.Perm dc:=(List.perm_ext_iff_of_nodup (ip up) nd).mpr fun c=>(hm c).symm;have o:=jd nd (by lia);have:=kC o.ord (pm.map cM) (pairwise_map.mpr up);rw[s1] at this;exact decide_eq_true this
  | false=>
   refine decide_eq_false fun z=>?_;have:=t6 s3;rw[<- z,ha] at this;cases this
theorem Oc{g:M Vl}{d:Vl}(e:g D=some (d,D1))(k:dL d=some xs):aF (oV g) D=some ((xs,none),D1):=by
 unfold aF;rw[v_ e];show (dL d).map _=_;rw[k];rfl
theorem BJ{o:Option Vl}(h:FN w)(e:D=[some (.im<|cM c),some<|iI w,some<|.dT<|mt cs]):nP D=some (aJ cs w c,D):=by
 subst e;have RU:(GX c w).length<=100:=by
  unfold GX;rw[length_map,length_range];have:w=1\/w=2\/w=3\/w=4\/w=5\/w=6:=by have:=h.1;have:=h.2;lia
  rcases this with rfl | rfl | rfl | rfl | rfl | rfl<;>decide
 have c1:aD 1 [2] (aF<|oV<|ao 2 G.er<|aa (oSl 0)<|aa (oSl 1) aNil) (gN 0) kYes G.sT [some (.im<|cM c),some<|iI w,some<|.dT<|mt cs]=some (.lst<|(GX c w).map fun x=>.bl<|decide (x∈cs),[some (.im<|cM c),some<|iI w,some<|.dT<|mt cs]):=by
  refine Gn (xs:=(GX c w).map cM) (o:=none) (D1:=[some (.im<|cM c),some<|iI w,some<|.dT<|mt cs]) ?_ (db cM (fun x=>.bl<|decide (x∈cs)) _ (fun x hx=>?_) (by lia)) rfl
  ·exact Oc (d_ (a_ rfl<|a_ rfl rfl) rfl rfl (tQ c h) rfl) rfl
  ·exact⟨[some (.im<|cM x),some<|.dT<|mt cs],_,[some (.im<|cM x),some<|.dT<|mt cs],rfl,rfl,b_ rfl rfl rfl rfl<|k8 cs x,rfl⟩
 exact Gm (v_<|Ew (a_ (v_ c1) rfl) rfl<|io (fun x=>decide (x∈cs))<|GX c w) rfl rfl
theorem BK(nd:cs.Nodup)(hl:cs.length<10000)(h:FN w):ij [cT cs,iI w]=some (.dT<|mt<|cs.filter<|aJ cs w,[cT cs,iI w]):=by
 have c1:aD 1 [1,2] (aF<|oSl 0) (gN 0) G.nP G.sU [some (cT cs),some<|iI w,some<|.dT<|mt cs]=some (cL<|cs.filter<|aJ cs w,[some (cT cs),some<|iI w,some<|.dT<|mt cs]):=by
  refine Gn (xs:=cs.map cM) (o:=none) (D1:=[some (cT cs),some<|iI w,some<|.dT<|mt cs]) rfl (fX cM (aJ cs w) cM _ [] (fun x hx=>?_) (by rw[length_nil];lia)) rfl;refine⟨[some (.im<|cM x),some<|iI w,some<|.dT<|mt cs],_,rfl,BJ (o:=none) h rfl,fun _=>rfl,fun _=>⟨_,rfl,rfl⟩⟩
 have Gv:=nd.filter (aJ cs w);have IB:(cs.filter<|aJ cs w).length<10000:=lt_of_le_of_lt (length_filter_le _ _) hl;unfold ij sV;refine ba (D:=[some (cT cs),some<|iI w,some<|.dT<|mt cs]) rfl (w_ (D1:=[some (cT cs),some<|iI w,some<|.dT<|mt cs]) (a9 (d_ (a_ rfl rfl) rfl rfl (tN nd hl) rfl) (EG rfl) rfl) ?_) rfl;exact cg (d_ (a_ (v_ c1) rfl) rfl rfl (BC Gv IB) rfl)
theorem BL(h:FN w):jo [.dT (mt cs),iI w,.im<|cM c]=some (bV<|aJ cs w c,[.dT (mt cs),iI w,.im<|cM c]):=by
 have RU:(Fe c w w.toNat).length<=100:=by
  rw[n5];have w2:=h.2;exact Nat.le_trans (Nat.mul_le_mul (show w.toNat<=6 by lia) (show w.toNat<=6 by lia)) (by decide)
 have c1:aD 1 [0] (aF<|oV<|ao 2 G.fw<|aa (oSl 2)<|aa (oSl 1) aNil) (gN 0) kYes G.tw [some (.dT<|mt cs),some<|iI w,some<|.im<|cM c]=some (.lst<|(Fe c w w.toNat).map fun x=>.bl<|decide (x∈cs),[some (.dT<|mt cs),some<|iI w,some<|.im<|cM c]):=by
  refine Gn (xs:=(Fe c w w.toNat).map cM) (o:=none) (D1:=[some (.dT<|mt cs),some<|iI w,some<|.im<|cM c]) ?_ (db cM (fun x=>.bl<|decide (x∈cs)) _ (fun x hx=>?_) (by lia)) rfl
  ·exact Oc (d_ (a_ rfl<|a_ rfl rfl) rfl rfl (tR c h) rfl) rfl
  ·exact⟨[some (.im<|cM x),some<|.dT<|mt cs],_,[some (.im<|cM x),some<|.dT<|mt cs],rfl,rfl,b_ rfl rfl rfl rfl<|k8 cs x,rfl⟩
 unfold jo tB;refine ba (D:=[some (.dT<|mt cs),some<|iI w,some<|.im<|cM c]) rfl (cg ?_) rfl;rw[<- BE h];exact Ew (a_ (v_ c1) rfl) rfl (io (fun x=>decide (x∈cs)) _)
theorem ua:∀ cs:List p_,GH (cs.map fun c=>.tup [cM c,.bl true])=some (cs.map fun c=>(kM c,.bl true))
 | []=>rfl
 | c::r=>by
  rw[map_cons];show (GH _).map _=_;rw[ua r];rfl
theorem uc:∀ (cs ks:List p_),(cs.map fun c=>(kM c,Im.bl true)).foldl (fun a p=>dz a p.1 p.2) (mt ks)=mt (cs.foldl bO ks)
 | [],ks=>rfl
 | c::cs,ks=>by
  rw[map_cons,foldl_cons,foldl_cons,nN,uc]
theorem BM(nd:cs.Nodup)(hl:cs.length<=1000):vDict [.lst (cs.map fun c=>.tup [cM c,.bl true])]=some (.dT<|mt cs):=by
 show (GH _).bind _=_;rw[ua];refine (if_pos ⟨?_,by rw[length_map];exact hl⟩).trans ?_
 rotate_left
 ·rw[all_map];exact all_eq_true.mpr fun c _=>rfl
 ·show some (Vl.dT<|(cs.map fun c=>(kM c,Im.bl true)).foldl (fun a p=>dz a p.1 p.2)<|mt [])=_;rw[uc,k7 cs [] nd];rfl
theorem ud(nd:cs.Nodup)(hl:cs.length<=1000)(h:FN w):fy [cT cs,iI w]=some (cT<|cs.filter<|aJ cs w,[cT cs,iI w]):=by
 have c0:aD 1 [] (aF<|oSl 0) (gN 0) kYes G.tD [some (cT cs),some<|iI w,none]=some (.lst<|cs.map fun c=>.tup [cM c,.bl true],[some (cT cs),some<|iI w,none]):=by
  refine Gn (xs:=cs.map cM) (o:=none) (D1:=[some (cT cs),some<|iI w,none]) rfl (db cM (fun c=>.tup [cM c,.bl true]) _ (fun x hx=>?_) (by lia)) rfl;exact⟨[some (.im<|cM x)],_,[some (.im<|cM x)],rfl,rfl,Io (a_ rfl<|a_ rfl rfl) rfl (le_of_ble_eq_true rfl) rfl,rfl⟩
 have c1:aD 1 [2,1] (aF<|oSl 0) (gN 0) G.tF G.tE [some (cT cs),some<|iI w,some<|.dT<|mt cs]=some (cL<|cs.filter<|aJ cs w,[some (cT cs),some<|iI w,some<|.dT<|mt cs]):=by
  refine Gn (xs:=cs.map cM) (o:=none) (D1:=[some (cT cs),some<|iI w,some<|.dT<|mt cs]) rfl (fX cM (aJ cs w) cM _ [] (fun x hx=>?_) (by rw[length_nil];lia)) rfl;refine⟨[some (.im<|cM x),some<|.dT<|mt cs,some<|iI w],[some (.im<|cM x),some<|.dT<|mt cs,some<|iI w],rfl,?_,fun _=>rfl,fun _=>⟨[some (.im<|cM x),some<|.dT<|mt cs,some<|iI w],rfl,rfl⟩⟩;exact Gm (v_<|d_ (D3:=[some (.im<|cM x),some<|.dT<|mt cs,some<|iI w]) (a_ rfl<|a_ rfl<|a_ rfl rfl) rfl rfl (BL h) rfl) rfl rfl
 unfold fy tH;refine ba (D:=[some (cT cs),some<|iI w,some<|.dT<|mt cs]) rfl (w_ (D1:=[some (cT cs),some<|iI w,some<|.dT<|mt cs]) (a9 (Ew (a_ (v_ c0) rfl) rfl<|BM nd hl) (EG rfl) rfl) ?_) rfl;exact cg (Ew (a_ (v_ c1) rfl) rfl rfl)
def bP(a b:p_):Bool:=decide ((if a.1 - b.1<0 then -(a.1 - b.1) else a.1 - b.1)+(if a.2 - b.2<0 then -(a.2 - b.2) else a.2 - b.2)=1)
theorem ue(a b:p_):gn [.im (cM a),.im<|cM b]=some (bV<|bP a b,[.im (cM a),.im<|cM b]):=by
 unfold gn sW;refine ba (D:=[some (.im<|cM a),some<|.im<|cM b]) rfl (cg ?_) rfl;exact b_ (v_<|b_ (v_<|Ew (a_ (v_<|b_ (v_<|b_ (d:=iI a.1) rfl rfl rfl rfl rfl) (v_<|b_ (d:=iI b.1) rfl rfl rfl rfl rfl) rfl rfl rfl) rfl) rfl rfl) (v_<|Ew (a_ (v_<|b_ (v_<|b_ (d:=iI a.2) rfl rfl rfl rfl rfl) (v_<|b_ (d:=iI b.2) rfl rfl rfl rfl rfl) rfl rfl rfl) rfl) rfl rfl) rfl rfl rfl) rfl rfl rfl (gj _ _)
theorem uf{a b:p_}:bP a b=true↔b∈IT a:=by
 obtain⟨a1,a2⟩:=a;obtain⟨b1,b2⟩:=b;unfold bP IT;rw[decide_eq_true_iff];simp only[mem_cons,not_mem_nil,or_false,Prod.mk.injEq];omega
theorem ug(ps:List p_)(c:p_):inB (cM c) (cL ps)=some (decide (c∈ps)):=by
 rw[zS,jc,g9,rG];rfl
theorem uh(ps:List p_)(c:p_):inB (cM c) (cT ps)=some (decide (c∈ps)):=by
 rw[zR,jc,g9,rG];rfl
theorem BN(l:List p_)(c:p_):vNotIn (.im<|cM c) (cL l)=some (bV<|!decide (c∈l)):=by
 show (inB (cM c)<|cL l).map (fun r=>Vl.im<|.bl<|!r)=_;rw[ug];rfl
theorem ui(l:List p_)(c:p_):vNotIn (.im<|cM c) (cT l)=some (bV<|!decide (c∈l)):=by
 show (inB (cM c)<|cT l).map (fun r=>Vl.im<|.bl<|!r)=_;rw[uh];rfl
theorem uj(l:List p_)(c:p_):vIn (.im<|cM c) (cL l)=some (bV<|decide (c∈l)):=by
 show (inB (cM c)<|cL l).map (fun r=>Vl.im<|.bl r)=_;rw[ug];rfl
theorem oh(l:List p_)(c:p_):vIn (.im<|cM c) (cT l)=some (bV<|decide (c∈l)):=by
 show (inB (cM c)<|cT l).map (fun r=>Vl.im<|.bl r)=_;rw[uh];rfl
theorem BO(a b:p_):vNe (.im<|cM a) (.im<|cM b)=some (bV<|!decide (a=b)):=by
 show (if (Im.pl 8 (cM a) && Im.pl 8 (cM b))=true then some (Vl.im<|.bl<|!aA (cM a) (cM b)) else none)=_;rw[jc,jc,if_pos<|show (true && true)=true from rfl,ni]
theorem BP(bs:List p_):vNe (cL bs) (.lst [])=some (bV<|!decide (bs=[])):=by
 show (if (Im.pls 8 (bs.map cM) && Im.pls 8 [])=true then some (Vl.im<|.bl<|!bD (bs.map cM) []) else none)=_;rw[g9,if_pos<|show (true && Im.pls 8 [])=true from rfl];cases bs with
 | nil=>rfl
 | cons a r=>rfl
theorem oj(a b:p_):bP a b=bP b a:=by
 unfold bP;rw[decide_eq_decide];split<;>split<;>split<;>split<;>omega
inductive Cn (cs:List p_) (s:p_):p_->Prop
 | self:Cn cs s s
 | step {a b:p_}:Cn cs s a->b∈cs->bP a b=true->Cn cs s b
def Eu(es:List p_)(c:p_):Bool:=es.any fun e=>bP e c
abbrev pD(o0 o1:Option Vl)(part g_:List p_)(o4:Option Vl)(near:List p_)(o6:Option Vl):SD:=[o0,o1,some<|cL part,some<|cL g_,o4,some<|cL near,o6]
theorem BQ{near:List p_}(hl:near.length<10000)(he:g_.length<=10000):jn (pD o0 o1 part g_ o4 near<|some<|.im<|cM c)=some (.nx,pD o0 o1 part g_ o4 (if Eu g_ c then near++[c] else near)<|some<|.im<|cM c):=by
 have c1:aD 1 [6] (aF<|oSl 3) (gN 0) kYes G.nS (pD o0 o1 part g_ o4 near<|some<|.im<|cM c)=some (.lst<|g_.map fun x=>.bl<|bP x c,pD o0 o1 part g_ o4 near<|some<|.im<|cM c):=by
  refine Gn (xs:=g_.map cM) (o:=some (3,cL g_)) (D1:=[o0,o1,some<|cL part,some .jk,o4,some<|cL near,some<|.im<|cM c]) rfl (db cM (fun x=>.bl<|bP x c) _ (fun x hx=>?_) (by lia)) rfl;exact⟨[some (.im<|cM x),some<|.im<|cM c],_,[some (.im<|cM x),some<|.im<|cM c],rfl,rfl,d_ (a_ rfl<|a_ rfl rfl) rfl rfl ((ue c x).trans (by rw[oj])) rfl,rfl⟩
 have k:aU (oV<|av vAny<|aa (oV<|aD 1 [6] (aF<|oSl 3) (gN 0) kYes G.nS) aNil) (pD o0 o1 part g_ o4 near<|some<|.im<|cM c)=some (Eu g_ c,pD o0 o1 part g_ o4 near<|some<|.im<|cM c):=Gm (v_<|Ew (a_ (v_ c1) rfl) rfl<|k9 (fun x=>bP x c) g_) rfl rfl;unfold jn;cases hb:Eu g_ c with
 | false=>rw[hb] at k;exact bJ k rfl
 | true=>
  rw[hb] at k;refine bN k (N9 (N_ rfl rfl (a_ rfl rfl) rfl rfl (Pz (by rw[length_map];lia)) ?_));rw[if_pos rfl];show _=[o0,o1,some<|cL part,some<|cL g_,o4,some<|cL<|near++[c],some<|.im<|cM c];unfold cL;rw[map_append];rfl
theorem uk{o0 o1 o4:Option Vl}{part g_:List p_}(he:g_.length<=10000):∀ (cs near:List p_) (o6:Option Vl),near.length+cs.length<10000->∃ Hu,bj (gN 6) jn (cs.map cM) (pD o0 o1 part g_ o4 near o6)=some (.nx,pD o0 o1 part g_ o4 (near++cs.filter (Eu g_)) Hu)
 | [],near,o6,_=>⟨o6,by rw[List.filter_nil,append_nil];rfl⟩
 | c::cs,near,o6,hl=>by
  rw[length_cons] at hl;have e:=BQ (o0:=o0) (o1:=o1) (o4:=o4) (part:=part) (near:=near) (c:=c) (by lia) he;obtain⟨Hu,ih⟩:=uk he cs (if Eu g_ c then near++[c] else near) (some<|.im<|cM c) (by split<;>(try rw[length_append,length_singleton])<;>lia);refine⟨Hu,?_⟩;rw[map_cons,bj];show (jn<|pD o0 o1 part g_ o4 near<|some<|.im<|cM c).bind _=_;rw[e];refine ih.trans ?_;rw[List.filter_cons];cases Eu g_ c with
  | true=>rw[if_pos rfl,if_pos rfl,List.append_assoc];rfl
  | false=>rw[if_neg Bool.false_ne_true,if_neg Bool.false_ne_true]
structure IV(cs:List p_)(s:p_)(part g_ left:List p_):Prop where
 nd:(part++left).Nodup
 len:(part++left).length<=cs.length+1
 sub:∀ x∈left,x∈cs
 Od:s∈part
 con:∀ x∈part,Cn cs s x
 RV:∀ x∈g_,x∈part
 Oe:g_.length<=cs.length+1
 all:∀ x∈cs,x∈part++left
 out:∀ a∈part,a∉g_->∀ b∈left,bP a b=false
theorem IV.next(P:IV cs s part g_ left):IV cs s (part++left.filter (Eu g_)) (left.filter<|Eu g_) (left.filter fun c=>!Eu g_ c):=by
 have pm:(part++left.filter (Eu g_)++left.filter fun c=>!Eu g_ c).Perm (part++left):=by
  rw[List.append_assoc];exact (List.filter_append_perm (Eu g_) left).append_left part
 refine⟨pm.nodup_iff.mpr P.nd,by rw[pm.length_eq];exact P.len,fun x hx=>P.sub x (List.mem_filter.mp hx).1,mem_append_left _ P.Od,fun x hx=>?_,fun x hx=>mem_append_right _ hx,?_,fun x hx=>pm.mem_iff.mpr<|P.all x hx,fun a ha na b hb=>?_⟩
 ·rcases mem_append.mp hx with h | h
  ·exact P.con x h
  ·obtain⟨h1,h2⟩:=List.mem_filter.mp h;obtain⟨e,he,hb⟩:=any_eq_true.mp h2;exact .step (P.con e<|P.RV e he) (P.sub x h1) hb
 ·have:=P.len;rw[length_append] at this;have:=length_filter_le (Eu g_) left;lia
 ·obtain⟨b1,b2⟩:=List.mem_filter.mp hb;have ap:a∈part:=(mem_append.mp ha).resolve_right na;cases hc:bP a b with
  | false=>rfl
  | true=>
   by_cases PF:a∈g_
   ·have:Eu g_ b=true:=any_eq_true.mpr ⟨a,PF,hc⟩;rw[this] at b2;cases b2
   ·rw[P.out a ap PF b b1] at hc;cases hc
theorem IV.done(P:IV cs s part [] left)(x:p_):x∈part↔Cn cs s x:=by
 refine⟨P.con x,fun h=>?_⟩;induction h with
 | self=>exact P.Od
 | step _ hb e ih=>
  rcases mem_append.mp (P.all _ hb) with h | h
  ·exact h
  ·rw[P.out _ ih (fun z=>by cases z) _ h] at e;cases e
theorem BR(P:IV cs s part g_ left)(hl:cs.length<=1000):∃ PH Hu,kW [o0,o1,some<|cL part,some<|cL g_,some<|cL left,o5,o6]=some (.nx,[o0,o1,some<|cL<|part++left.filter (Eu g_),some<|cL<|left.filter<|Eu g_,some<|cL<|left.filter fun c=>!Eu g_ c,PH,Hu]):=by
 have l1:part.length+left.length<=1001:=by have:=P.len;rw[length_append] at this;lia
 have l2:g_.length<=10000:=by have:=P.Oe;lia
 have l3:=length_filter_le (Eu g_) left;obtain⟨Hu,lp⟩:=uk (o0:=o0) (o1:=o1) (o4:=some .jk) (part:=part) l2 left [] o6 (by show 0+_ < _;lia);have ne:∀ c∈left,(!decide (c∈left.filter (Eu g_)))=!Eu g_ c:=fun c hc=>by
  congr 1;rw[Bool.eq_iff_iff,decide_eq_true_iff,List.mem_filter];exact⟨fun h=>h.2,fun h=>⟨hc,h⟩⟩
 have c1:aD 1 [5] (aF<|oSl 4) (gN 0) G.tj G.sZ [o0,o1,some<|cL<|part++left.filter (Eu g_),some<|cL g_,some<|cL left,some<|cL<|left.filter<|Eu g_,Hu]=some (cL<|left.filter fun c=>!Eu g_ c,[o0,o1,some<|cL<|part++left.filter (Eu g_),some<|cL g_,some<|cL left,some<|cL<|left.filter<|Eu g_,Hu]):=by
  refine Gn (xs:=left.map cM) (o:=some (4,cL left)) (D1:=[o0,o1,some<|cL<|part++left.filter (Eu g_),some<|cL g_,some .jk,some<|cL<|left.filter<|Eu g_,Hu]) rfl (fX cM (fun c=>!Eu g_ c) cM _ [] (fun x hx=>?_) (by rw[length_nil];lia)) rfl;refine⟨[some (.im<|cM x),some<|cL<|left.filter<|Eu g_],[some (.im<|cM x),some<|cL<|left.filter<|Eu g_],rfl,?_,fun _=>rfl,fun _=>⟨[some (.im<|cM x),some<|cL<|left.filter<|Eu g_],rfl,rfl⟩⟩;rw[<- ne x hx];exact EM (b_ rfl rfl rfl rfl<|BN _ x)
 refine⟨some .jk,Hu,?_⟩;unfold kW;refine w_ (D1:=pD o0 o1 part g_ (some<|cL left) [] o6) rfl ?_;refine w_ (cW (o:=some (4,cL left)) (D1:=pD o0 o1 part g_ (some .jk) [] o6) rfl lp rfl) ?_;refine w_ (D1:=[o0,o1,some<|cL<|part++left.filter (Eu g_),some<|cL g_,some<|cL left,some<|cL<|left.filter<|Eu g_,Hu]) ?_ ?_
 ·refine a9 (d:=cL (part++left.filter (Eu g_))) (b_ rfl rfl rfl rfl ?_) (EG rfl) rfl;show (if (part.map cM).length+((left.filter<|Eu g_).map cM).length<=100000 then some (Vl.lst<|part.map cM++(left.filter<|Eu g_).map cM) else none)=_;rw[if_pos (by rw[length_map,length_map];lia),<- map_append]
 refine w_ (a9 c1 (EG rfl) rfl) ?_;rfl
theorem BS(nd:cs.Nodup)(hl:cs.length<=900):∃ pt,dk [cT cs,.im<|cM s]=some (cT pt,[cT cs,.im<|cM s])/\Up pt/\(∀ x,x∈pt↔Cn cs s x)/\pt.length<=cs.length+1:=by
 have hp:∀ x,(!decide (x=s))=true↔x≠s:=fun x=>by
  rw[not_eq_true',decide_eq_false_iff_not]
 have c1:aD 1 [1] (aF<|oSl 0) (gN 0) G.sY G.sX [some (cT cs),some<|.im<|cM s,some<|cL [s],some<|cL [s],none,none,none]=some (cL<|cs.filter fun c=>!decide (c=s),[some (cT cs),some<|.im<|cM s,some<|cL [s],some<|cL [s],none,none,none]):=by
  refine Gn (xs:=cs.map cM) (o:=none) (D1:=[some (cT cs),some<|.im<|cM s,some<|cL [s],some<|cL [s],none,none,none]) rfl (fX cM (fun c=>!decide (c=s)) cM _ [] (fun x hx=>?_) (by rw[length_nil];lia)) rfl;exact⟨[some (.im<|cM x),some<|.im<|cM s],[some (.im<|cM x),some<|.im<|cM s],rfl,EM<|b_ rfl rfl rfl rfl<|BO x s,fun _=>rfl,fun _=>⟨[some (.im<|cM x),some<|.im<|cM s],rfl,rfl⟩⟩
 have P0:IV cs s [s] [s] (cs.filter fun c=>!decide (c=s)):=by
  have lf:=length_filter_le (fun c=>!decide (c=s)) cs;refine⟨?_,by rw[length_append,length_singleton];lia,fun x hx=>(List.mem_filter.mp hx).1,.head _,fun x hx=>?_,fun x hx=>hx,by show 1<=_;lia,fun x hx=>?_,fun a ha na=>absurd ha na⟩
  ·refine nodup_cons.mpr ⟨fun h=>?_,nd.filter _⟩;exact (hp s).mp (List.mem_filter.mp h).2 rfl
  ·rw[mem_singleton.mp hx];exact .self
  ·by_cases h:x=s
   ·rw[h];exact .head _
   ·exact .tail _ (List.mem_filter.mpr ⟨hx,(hp x).mpr h⟩)
 obtain⟨D',w1,part,left,o4,o5,o6,rfl,P⟩:=zu (c:=nU) (b:=kW) (fun m D=>∃ part g_ left o5 o6,D=[some (cT cs),some<|.im<|cM s,some<|cL part,some<|cL g_,some<|cL left,o5,o6]/\IV cs s part g_ left/\m=left.length+(if g_=[] then 0 else 1)) (fun D=>∃ part left o4 o5 o6,D=[some (cT cs),some<|.im<|cM s,some<|cL part,o4,some<|cL left,o5,o6]/\IV cs s part [] left) (fun m D ⟨part,g_,left,o5,o6,e,P,em⟩=>by
  subst e;have k:nU [some (cT cs),some<|.im<|cM s,some<|cL part,some<|cL g_,some<|cL left,o5,o6]=some (!decide (g_=[]),[some (cT cs),some<|.im<|cM s,some<|cL part,some<|cL g_,some<|cL left,o5,o6]):=EM (b_ rfl rfl rfl rfl<|BP g_);refine⟨_,_,k,fun ht=>?_,fun hf=>?_⟩
  ·have he:g_≠[]:=fun z=>by rw[z] at ht;cases ht
   obtain⟨PH,Hu,e⟩:=BR (o0:=some (cT cs)) (o1:=some (.im<|cM s)) (o5:=o5) (o6:=o6) P (by lia);refine⟨_,_,e,.inl rfl,_,?_,_,_,_,_,_,rfl,P.next,rfl⟩;rw[em,if_neg he];have hs:=(List.filter_append_perm (Eu g_) left).length_eq;rw[length_append] at hs;by_cases hn:left.filter (Eu g_)=[]
   ·rw[if_pos hn];rw[hn,length_nil] at hs;lia
   ·rw[if_neg hn];have:=List.length_pos_iff.mpr hn;lia
  ·have he:g_=[]:=by
    by_cases z:g_=[]
    ·exact z
    ·rw[decide_eq_false z] at hf;cases hf
   subst he;exact⟨part,left,_,o5,o6,rfl,P⟩) 1000000 _ [some (cT cs),some<|.im<|cM s,some<|cL [s],some<|cL [s],some<|cL<|cs.filter fun c=>!decide (c=s),none,none] ⟨_,_,_,_,_,rfl,P0,rfl⟩ (by
    have lf:=length_filter_le (fun c=>!decide (c=s)) cs;split<;>lia)
 have MQ:part.Nodup:=(nodup_append.mp P.nd).1;have lp:part.length<=cs.length+1:=by have:=P.len;rw[length_append] at this;lia
 obtain⟨pt,s1,s2,s3⟩:=kT MQ (by lia);refine⟨pt,?_,s3,fun x=>s2.mem_iff.trans<|P.done x,by rw[s2.length_eq];exact lp⟩;have hs:ER [cL part]=some (cL pt):=by
  have hi:Fv (part.map cM)=none:=by
   cases part with
   | nil=>cases P.Od
   | cons a r=>rfl
  show (match Fv (part.map cM) with | some ns=>vSorted [.lst (part.map cM)] | none=>d9<|part.map cM)=_;rw[hi];dsimp only;unfold d9;rw[if_pos (ja.mpr (jd MQ (by lia))),s1]
 unfold dk tm;refine ba (D:=[some (cT cs),some<|.im<|cM s,some<|cL part,o4,some<|cL left,o5,o6]) rfl ?_ rfl;refine w_ (D1:=[some (cT cs),some<|.im<|cM s,some<|cL [s],some<|cL [s],none,none,none]) rfl ?_;refine w_ (a9 c1 (EG rfl) rfl) (w_ w1<|cg ?_);exact Ew (a_ (v_<|Ew (a_ rfl rfl) rfl hs) rfl) rfl rfl
def LP:Im->Bool
 | .tup ds=>ds.all Gw && b8 ds
 | _=>false
theorem om(h:Gw d=true):∃ c:p_,d=cM c:=by
 unfold Gw at h;split at h
 ·next a b=>
  rw[and_eq_true] at h;obtain⟨i,rfl⟩:=tU h.1;obtain⟨j,rfl⟩:=tU h.2;exact⟨(i,j),rfl⟩
 ·cases h
theorem ul:∀ {ds:List Im},ds.all Gw=true->∃ cs:List p_,ds=cs.map cM
 | [],_=>⟨[],rfl⟩
 | d::ds,h=>by
  rw[List.all_cons,and_eq_true] at h;obtain⟨c,rfl⟩:=om h.1;obtain⟨cs,rfl⟩:=ul h.2;exact⟨c::cs,rfl⟩
theorem um(h:H9 d):fu f [.im d,.im<|.fn f]=some (bV<|LP d,[.im d,.im<|.fn f]):=by
 cases d with
 | fn a=>exact absurd rfl (h.1 a)
 | tup ds=>
  obtain⟨hl,hd⟩:=h.2 ds rfl;unfold fu sR;refine ba (D:=[some (.im<|.tup ds),some<|.im<|.fn f]) rfl ?_ rfl;show ai _ _ [some (.im<|.tup ds),some<|.im<|.fn f]=_;have c1:aD 1 [1] (aF<|oSl 0) (gN 0) kYes (kU f) [some (.im<|.tup ds),some<|.im<|.fn f]=some (.lst<|ds.map fun d=>.bl<|Gw d,[some (.im<|.tup ds),some<|.im<|.fn f]):=by
   refine Gn (xs:=ds.map id) (o:=none) (D1:=[some (.im<|.tup ds),some<|.im<|.fn f]) (by rw[map_id];rfl) (db id (fun d=>.bl<|Gw d) _ (fun x hx=>?_) (by lia)) rfl;refine⟨[some (.im x),some<|.im<|.fn f],_,[some (.im x),some<|.im<|.fn f],rfl,rfl,?_,rfl⟩;unfold kU;show (if f=f then _ else _)=_;rw[if_pos rfl];exact d_ (a_ rfl rfl) rfl rfl (BF<|hd x hx) rfl
  have c2:bh (aU<|oV<|av vAll<|aa (oV<|aD 1 [1] (aF<|oSl 0) (gN 0) kYes<|kU f) aNil) [some (.im<|.tup ds),some<|.im<|.fn f]=some (!(ds.all Gw),[some (.im<|.tup ds),some<|.im<|.fn f]):=J5 (Gm (v_<|Ew (a_ (v_ c1) rfl) rfl<|io Gw ds) rfl rfl);show _=some (Fl.rt<|bV<|ds.all Gw && b8 ds,_);cases ha:ds.all Gw with
  | false=>
   rw[ha] at c2;exact cU (bN (df (LM<|Gm rfl rfl rfl) c2) rfl)
  | true=>
   rw[ha] at c2;refine w_ (bJ (df (LM<|Gm rfl rfl rfl) c2) rfl) ?_;have IE:=all_eq_true.mp ha;have c3:aD 2 [] (iZ<|aa (oSl 0)<|aa (oV<|eSl (oSl 0) (dQ<|eC<|.int 1) pNone) aNil) (gT 2<|c6 (gN 0)<|c6 (gN 1) gNil') kYes (sQ f) [some (.im<|.tup ds),some<|.im<|.fn f]=some (.lst<|(ds.zip<|ds.drop 1).map fun p=>.bl<|u_ p.1 p.2,[some (.im<|.tup ds),some<|.im<|.fn f]):=by
    refine Gn (xs:=(ds.zip<|ds.drop 1).map fun p=>.tup [p.1,p.2]) (o:=none) (D1:=[some (.im<|.tup ds),some<|.im<|.fn f]) ?_ (db (fun p:Im×Im=>.tup [p.1,p.2]) (fun p=>.bl<|u_ p.1 p.2) _ (fun p hp=>?_) ?_) rfl
    ·rw[<- tY];exact RP (a_ rfl (a_ (v_ (Jm (d':=.im (.tup<|ds.drop 1)) rfl rfl rfl rfl (by show some (Vl.im<|.tup<|a0 ds (some ((1:Nat):Int)) none)=_;rw[zr]))) rfl)) rfl
    ·obtain⟨a,ea⟩:=om (IE p.1 (of_mem_zip hp).1);obtain⟨b,eb⟩:=om (IE p.2<|mem_of_mem_drop (of_mem_zip hp).2);obtain⟨x,y⟩:=p;dsimp only at ea eb ⊢;subst ea eb;exact⟨[some (.im<|cM a),some<|.im<|cM b],_,[some (.im<|cM a),some<|.im<|cM b],rfl,rfl,b_ rfl rfl rfl rfl rfl,rfl⟩
    ·rw[List.length_zip,length_drop];lia
   exact cg (Ew (a_ (v_ c3) rfl) rfl<|io (fun p:Im×Im=>u_ p.1 p.2) _)
 | _=>rfl
theorem oo(ks:List p_)(c:p_):vNotIn (.im<|cM c) (.dT<|mt ks)=some (bV<|!decide (c∈ks)):=by
 have:=k8 ks c;show (inB (cM c)<|.dT<|mt ks).map (fun r=>Vl.im<|.bl<|!r)=_;have h2:(inB (cM c)<|.dT<|mt ks).map (fun r=>Vl.im<|.bl r)=some (bV<|decide (c∈ks)):=this;obtain⟨r,e1,e2⟩:=map_eq_some_iff.mp h2;rw[e1];cases e2;rfl
def fC(fs ps:List p_)(w:Int)(u c:p_):Bool:=decide (c∈fs) && (!decide (u∈GX c w) && !((IT c).any fun n=>decide (n∈fs) && !decide (n∈ps)))
theorem BT(h:FN w):
  ik f [o0,some<|iI w,o2,some<|.im<|cM u,o4,some<|.dT<|mt fs,some<|.dT<|mt ps,some<|.im<|cM c]=some (if fC fs ps w u c then Fl.nx else .rt (bV false),[o0,some<|iI w,o2,some<|.im<|cM u,o4,some<|.dT<|mt fs,some<|.dT<|mt ps,some<|.im<|cM c]):=by
 obtain⟨D,hD⟩:∃ D:SD,D=[o0,some<|iI w,o2,some<|.im<|cM u,o4,some<|.dT<|mt fs,some<|.dT<|mt ps,some<|.im<|cM c]:=⟨_,rfl⟩;rw[<- hD];have k1:kB (ae vNotIn (oSl 7)<|oSl 5) D=some (!decide (c∈fs),D):=by subst hD;exact EM (b_ rfl rfl rfl rfl<|oo fs c)
 have k2:kB (ae vIn (oSl 3)<|oV<|ao 2 G.er<|aa (oSl 7)<|aa (oSl 1) aNil) D=some (decide (u∈GX c w),D):=by
  subst hD;exact EM (b_ rfl (v_<|d_ (a_ rfl<|a_ rfl rfl) rfl rfl (tQ c h) rfl) rfl rfl<|uj _ u)
 have c1:aD 1 [5,6] (aF<|oV<|ao 1 G.ii<|aa (oSl 7) aNil) (gN 0) kYes (G.nQ f) D=some (.lst<|(IT c).map fun n=>.bl<|decide (n∈fs) && !decide (n∈ps),D):=by
  subst hD;refine Gn (xs:=(IT c).map cM) (o:=none) (Oc (d_ (a_ rfl rfl) rfl rfl (BD c) rfl) rfl) (db cM (fun n=>.bl<|decide (n∈fs) && !decide (n∈ps)) _ (fun n hn=>?_)<|le_of_ble_eq_true rfl) rfl;refine⟨[some (.im<|cM n),some<|.dT<|mt fs,some<|.dT<|mt ps],_,[some (.im<|cM n),some<|.dT<|mt fs,some<|.dT<|mt ps],rfl,rfl,IR ?_,rfl⟩;have a1:kB (ae vIn (oSl 0)<|oSl 1) [some (.im<|cM n),some<|.dT<|mt fs,some<|.dT<|mt ps]=some (decide (n∈fs),[some (.im<|cM n),some<|.dT<|mt fs,some<|.dT<|mt ps]):=EM (b_ rfl rfl rfl rfl<|k8 fs n);have a2:kB (ae vNotIn (oSl 0)<|oSl 2) [some (.im<|cM n),some<|.dT<|mt fs,some<|.dT<|mt ps]=some (!decide (n∈ps),[some (.im<|cM n),some<|.dT<|mt fs,some<|.dT<|mt ps]):=EM (b_ rfl rfl rfl rfl<|oo ps n);cases hb:decide (n∈fs) with
  | false=>rw[hb] at a1;exact jl a1
  | true=>rw[hb] at a1;exact ft a1 a2
 have k3:aU (oV<|av vAny<|aa (oV<|aD 1 [5,6] (aF<|oV<|ao 1 G.ii<|aa (oSl 7) aNil) (gN 0) kYes<|G.nQ f) aNil) D=some ((IT c).any fun n=>decide (n∈fs) && !decide (n∈ps),D):=Gm (v_<|Ew (a_ (v_ c1) rfl) rfl<|k9 (fun n=>decide (n∈fs) && !decide (n∈ps))<|IT c) rfl rfl;unfold ik fC;cases h1:decide (c∈fs) with
 | false=>rw[h1] at k1;exact cU (bN (kR k1) rfl)
 | true=>
  rw[h1] at k1;cases h2:decide (u∈GX c w) with
  | true=>rw[h2] at k2;exact cU (bN (df k1 k2) rfl)
  | false=>
   rw[h2] at k2;refine w_ (bJ (df k1 k2) rfl) ?_;cases h3:(IT c).any fun n=>decide (n∈fs) && !decide (n∈ps) with
   | true=>rw[h3] at k3;exact bN k3 rfl
   | false=>rw[h3] at k3;exact bJ k3 rfl
theorem uo{f:Addr}{o0 o2 o4:Option Vl}{fs ps:List p_}{w:Int}{u:p_}(h:FN w):∀ (cs:List p_) (o7:Option Vl),∃ Of,bj (gN 7) (ik f) (cs.map cM) [o0,some<|iI w,o2,some<|.im<|cM u,o4,some<|.dT<|mt fs,some<|.dT<|mt ps,o7]=some (if cs.all (fC fs ps w u) then Fl.nx else .rt (bV false),[o0,some<|iI w,o2,some<|.im<|cM u,o4,some<|.dT<|mt fs,some<|.dT<|mt ps,Of])
 | [],o7=>⟨o7,rfl⟩
 | c::cs,o7=>by
  have e:=BT (f:=f) (o0:=o0) (o2:=o2) (o4:=o4) (fs:=fs) (ps:=ps) (u:=u) (c:=c) h;obtain⟨Of,ih⟩:=uo (f:=f) (o0:=o0) (o2:=o2) (o4:=o4) (fs:=fs) (ps:=ps) (u:=u) h cs (some<|.im<|cM c);rw[map_cons,bj];cases hc:fC fs ps w u c with
  | true=>
   rw[hc] at e;refine⟨Of,?_⟩;show (ik f [o0,some<|iI w,o2,some<|.im<|cM u,o4,some<|.dT<|mt fs,some<|.dT<|mt ps,some<|.im<|cM c]).bind _=_;rw[e];refine ih.trans ?_;rw[List.all_cons,hc,Bool.true_and]
  | false=>
   rw[hc] at e;refine⟨some<|.im<|cM c,?_⟩;show (ik f [o0,some<|iI w,o2,some<|.im<|cM u,o4,some<|.dT<|mt fs,some<|.dT<|mt ps,some<|.im<|cM c]).bind _=_;rw[e,List.all_cons,hc,Bool.false_and];rfl
def fE(fs:List p_)(w:Int)(s u:p_)(ps:List p_):Bool:=b8 (ps.map cM) && (decide (s∈ps) && ps.all (fC fs ps w u))
theorem oq(nd:cs.Nodup)(hl:cs.length<10000)(h:FN w)(hp:ps.length<=290):
  et f [cT cs,iI w,.im<|cM s,.im<|cM u,cT ps]=some (bV<|fE (cs.filter<|aJ cs w) w s u ps,[cT cs,iI w,.im<|cM s,.im<|cM u,cT ps]):=by
 have th:H9 (.tup<|ps.map cM):=⟨(fun a e=>by cases e),fun ds e=>by
  cases e;refine⟨by rw[length_map];exact hp,fun x hx=>?_⟩;obtain⟨c,_,rfl⟩:=mem_map.mp hx;exact⟨(fun a e=>by cases e),fun es e y hy a z=>by
   cases e;subst z;simp at hy⟩⟩
 have hr:LP (.tup<|ps.map cM)=b8 (ps.map cM):=by
  show ((ps.map cM).all Gw && b8 (ps.map cM))=_;rw[show (ps.map cM).all Gw=true from all_eq_true.mpr fun x hx=>by
   obtain⟨c,_,rfl⟩:=mem_map.mp hx;rfl]
  rfl
 have k1:bh (aU<|oV<|ao 2 (G.fu f)<|aa (oSl 4)<|aa (oV<|eC<|.fn f) aNil) [some (cT cs),some<|iI w,some<|.im<|cM s,some<|.im<|cM u,some<|cT ps,none,none,none]=some (!b8 (ps.map cM),[some (cT cs),some<|iI w,some<|.im<|cM s,some<|.im<|cM u,some<|cT ps,none,none,none]):=by
  rw[<- hr];exact J5 (Gm (v_<|d_ (a_ rfl<|a_ rfl rfl) rfl rfl (um th) rfl) rfl rfl)
 unfold et nR fE;cases ha:b8 (ps.map cM) with
 | false=>
  rw[ha] at k1;exact ba (D:=[some (cT cs),some<|iI w,some<|.im<|cM s,some<|.im<|cM u,some<|cT ps,none,none,none]) rfl (cU<|bN k1 rfl) rfl
 | true=>
  rw[ha] at k1;have MQ:=ip (oa ha);have k2:kB (ae vNotIn (oSl 2)<|oSl 6) [some (cT cs),some<|iI w,some<|.im<|cM s,some<|.im<|cM u,some<|cT ps,some<|.dT<|mt<|cs.filter<|aJ cs w,some<|.dT<|mt ps,none]=some (!decide (s∈ps),[some (cT cs),some<|iI w,some<|.im<|cM s,some<|.im<|cM u,some<|cT ps,some<|.dT<|mt<|cs.filter<|aJ cs w,some<|.dT<|mt ps,none]):=EM (b_ rfl rfl rfl rfl<|oo ps s);obtain⟨o7,lp⟩:=uo (f:=f) (o0:=some (cT cs)) (o2:=some (.im<|cM s)) (o4:=some (cT ps)) (fs:=cs.filter (aJ cs w)) (ps:=ps) (u:=u) h ps none;have start:∀ {g:MS}{r:Option (Fl×SD)},g [some (cT cs),some<|iI w,some<|.im<|cM s,some<|.im<|cM u,some<|cT ps,some<|.dT<|mt<|cs.filter<|aJ cs w,some<|.dT<|mt ps,none]=r->ai (sIf (bh<|aU<|oV<|ao 2 (G.fu f)<|aa (oSl 4)<|aa (oV<|eC<|.fn f) aNil) (aG<|eC<|.bl false) sNil) (ai (ar 5<|ao 2 G.ij<|aa (oSl 0)<|aa (oSl 1) aNil)<|ai (ar 6<|ao 1 G.dB<|aa (oSl 4) aNil) g) [some (cT cs),some<|iI w,some<|.im<|cM s,some<|.im<|cM u,some<|cT ps,none,none,none]=r:=fun e=>
   w_ (bJ k1 rfl) (w_ (D1:=[some (cT cs),some<|iI w,some<|.im<|cM s,some<|.im<|cM u,some<|cT ps,some<|.dT<|mt<|cs.filter<|aJ cs w,none,none]) (a9 (d_ (a_ rfl<|a_ rfl rfl) rfl rfl (BK nd hl h) rfl) (EG rfl) rfl) (w_ (a9 (d_ (a_ rfl rfl) rfl rfl (tN MQ (by lia)) rfl) (EG rfl) rfl) e));rw[Bool.true_and];cases hs:decide (s∈ps) with
  | false=>
   rw[hs] at k2;exact ba (D:=[some (cT cs),some<|iI w,some<|.im<|cM s,some<|.im<|cM u,some<|cT ps,some<|.dT<|mt<|cs.filter<|aJ cs w,some<|.dT<|mt ps,none]) rfl (start<|cU<|bN k2 rfl) rfl
  | true=>
   rw[hs] at k2;rw[Bool.true_and];refine ba (D:=[some (cT cs),some<|iI w,some<|.im<|cM s,some<|.im<|cM u,some<|cT ps,some<|.dT<|mt<|cs.filter<|aJ cs w,some<|.dT<|mt ps,o7]) rfl (start<|w_ (bJ k2 rfl) ?_) rfl;cases hg:ps.all (fC (cs.filter<|aJ cs w) ps w u) with
   | false=>rw[hg] at lp;exact cU (cW (o:=none) rfl lp rfl)
   | true=>rw[hg] at lp;exact w_ (cW (o:=none) rfl lp rfl) rfl
theorem uq(hd:H9 d)(hr:LP d=false):
  et f [cT cs,iI w,.im<|cM s,.im<|cM u,.im d]=some (bV false,[cT cs,iI w,.im<|cM s,.im<|cM u,.im d]):=by
 have k1:bh (aU<|oV<|ao 2 (G.fu f)<|aa (oSl 4)<|aa (oV<|eC<|.fn f) aNil) [some (cT cs),some<|iI w,some<|.im<|cM s,some<|.im<|cM u,some<|.im d,none,none,none]=some (true,[some (cT cs),some<|iI w,some<|.im<|cM s,some<|.im<|cM u,some<|.im d,none,none,none]):=by
  have e:=um (f:=f) hd;rw[hr] at e;exact RO (Gm (v_<|d_ (a_ rfl<|a_ rfl rfl) rfl rfl e rfl) rfl rfl)
 unfold et nR;exact ba (D:=[some (cT cs),some<|iI w,some<|.im<|cM s,some<|.im<|cM u,some<|.im d,none,none,none]) rfl (cU<|bN k1 rfl) rfl
theorem BU(h:E3 d):jq [.im d]=some (bV<|Gp d,[.im d]):=by
 cases d with
 | fn a=>exact absurd rfl (h.1 a)
 | tup ds=>
  unfold jq tK
  match ds,h with
  | [],_=>rfl
  | [a],_=>rw[tX (d:=.tup [a]) rfl];rfl
  | [a,b],h=>
   have ha:=h.2 _ rfl a (.head _);have hb:=h.2 _ rfl b (.tail _<|.head _);cases a with
   | fn z=>exact absurd rfl (ha z)
   | int i=>
    cases b with
    | fn z=>exact absurd rfl (hb z)
    | int j=>
     have e:Gp (.tup [.int i,.int j])=(decide (0<=(if j<i then j else i)) && decide ((if j > i then j else i)<31)):=by
      rw[BH];show ((decide (0<=i) && decide (i<31)) && (decide (0<=j) && decide (j<31)))=_;rw[Bool.eq_iff_iff];simp only[and_eq_true,decide_eq_true_iff];split<;>split<;>omega
     rw[e];refine ba (D:=[some (.im<|.tup [.int i,.int j])]) rfl (w_ (D1:=[some (.im<|.tup [.int i,.int j])]) rfl<|w_ (D1:=[some (.im<|.tup [.int i,.int j])]) rfl<|w_ (D1:=[some (.im<|.tup [.int i,.int j])]) rfl<|cg<|IR ?_) rfl;have k1:kB (ae vLe (oV<|eC<|.int 0)<|oV<|av vMinP<|aa (oSl 0) aNil) [some (.im<|.tup [.int i,.int j])]=some (decide (0<=(if j<i then j else i)),[some (.im<|.tup [.int i,.int j])]):=EM (b_ rfl (v_<|Ew (a_ rfl rfl) rfl rfl) rfl rfl rfl);have k2:kB (ae vLt (oV<|av vMaxP<|aa (oSl 0) aNil)<|oV<|eC<|.int 31) [some (.im<|.tup [.int i,.int j])]=some (decide ((if j > i then j else i)<31),[some (.im<|.tup [.int i,.int j])]):=EM (b_ (v_<|Ew (a_ rfl rfl) rfl rfl) rfl rfl rfl rfl);cases h1:decide (0<=(if j<i then j else i)) with
     | false=>rw[h1] at k1;exact jl k1
     | true=>rw[h1] at k1;exact ft k1 k2
    | _=>rfl
   | _=>
    cases b with
    | fn z=>exact absurd rfl (hb z)
    | _=>rfl
  | a::b::c::r,_=>
   have e:vNe (iI ((a::b::c::r).length:Int)) (iI 2)=some (bV true):=(Bo _ _).trans (congrArg (fun b=>some<|bV<|!b) (decide_eq_false (by rw[length_cons,length_cons,length_cons];lia)));rw[tX (d:=.tup (a::b::c::r)) rfl];exact ba (D:=[some (.im<|.tup (a::b::c::r))]) rfl (cU<|bN (D1:=[some (.im<|.tup (a::b::c::r))]) (df (LM<|Gm rfl rfl rfl)<|EM<|b_ (v_<|Ew (a_ rfl rfl) rfl rfl) rfl rfl rfl e) rfl) rfl
 | _=>rfl
abbrev dD(fs:List p_)(w:Int)(s u:p_)(d:Im)(o:Option Vl):SD:=[some (cT fs),some<|iI w,some<|.im<|cM s,some<|.im<|cM u,some<|.im d,o]
theorem ur(hl:ds.length<=290)(hd:∀ x∈ds,E3 x):kOr (bh<|aU<|oV<|cQ "tuple"<|oSl 4) (bh<|aU<|oV<|av vAll<|aa (oV<|aD 1 [] (aF<|oSl 4) (gN 0) kYes G.kX) aNil) (dD fs w s u (.tup ds) none)=some (!ds.all Gp,dD fs w s u (.tup ds) none):=by
 have c1:aD 1 [] (aF<|oSl 4) (gN 0) kYes G.kX (dD fs w s u (.tup ds) none)=some (.lst<|ds.map fun d=>.bl<|Gp d,dD fs w s u (.tup ds) none):=by
  refine Gn (xs:=ds.map id) (o:=none) (D1:=dD fs w s u (.tup ds) none) (by rw[map_id];rfl) (db id (fun d=>.bl<|Gp d) _ (fun x hx=>?_) (by lia)) rfl;exact⟨[some (.im x)],_,[some (.im x)],rfl,rfl,d_ (a_ rfl rfl) rfl rfl (BU<|hd x hx) rfl,rfl⟩
 exact df (LM<|Gm rfl rfl rfl) (J5<|Gm (v_<|Ew (a_ (v_ c1) rfl) rfl<|io Gp ds) rfl rfl)
theorem BV(hl:ds.length<=290)(hd:∀ x∈ds,E3 x)(h:ds.all Gp=false):fA [cT fs,iI w,.im<|cM s,.im<|cM u,.im<|.tup ds]=some (bV false,[cT fs,iI w,.im<|cM s,.im<|cM u,.im<|.tup ds]):=by
 have k:=ur (fs:=fs) (w:=w) (s:=s) (u:=u) hl hd;rw[h] at k;unfold fA nY;exact ba (D:=dD fs w s u (.tup ds) none) rfl (cU<|bN k rfl) rfl
def gp(ps:List p_)(c:p_):Bool:=decide (c∈ps) || !(ps.any fun p=>bP c p)
def lc(fs:List p_)(w:Int)(s u:p_)(ps:List p_):Bool:=b8 (ps.map cM) && (decide (s∈ps) && (ps.all (fun c=>decide (c∈fs)) && (fs.all (gp ps) && !(ps.any fun p=>decide (u∈Fe p w w.toNat)))))
theorem BW(hl:ps.length<=290):il (dD fs w s u (.tup<|ps.map cM)<|some<|.im<|cM c)=some (if gp ps c then Fl.nx else .rt (bV false),dD fs w s u (.tup<|ps.map cM)<|some<|.im<|cM c):=by
 obtain⟨D,hD⟩:∃ D:SD,D=dD fs w s u (.tup<|ps.map cM) (some<|.im<|cM c):=⟨_,rfl⟩;rw[<- hD];have k1:kB (ae vNotIn (oSl 5)<|oSl 4) D=some (!decide (c∈ps),D):=by subst hD;exact EM (b_ rfl rfl rfl rfl<|ui ps c)
 have c1:aD 1 [5] (aF<|oSl 4) (gN 0) kYes G.nX D=some (.lst<|ps.map fun p=>.bl<|bP c p,D):=by
  subst hD;refine Gn (xs:=ps.map cM) (o:=none) (D1:=dD fs w s u (.tup<|ps.map cM) (some<|.im<|cM c)) rfl (db cM (fun p=>.bl<|bP c p) _ (fun x hx=>?_) (by lia)) rfl;exact⟨[some (.im<|cM x),some<|.im<|cM c],_,[some (.im<|cM x),some<|.im<|cM c],rfl,rfl,d_ (a_ rfl<|a_ rfl rfl) rfl rfl (ue c x) rfl,rfl⟩
 have k2:aU (oV<|av vAny<|aa (oV<|aD 1 [5] (aF<|oSl 4) (gN 0) kYes G.nX) aNil) D=some (ps.any fun p=>bP c p,D):=Gm (v_<|Ew (a_ (v_ c1) rfl) rfl<|k9 (fun p=>bP c p) ps) rfl rfl;unfold il gp;cases h1:decide (c∈ps) with
 | true=>rw[h1] at k1;exact bJ (jl k1) rfl
 | false=>
  rw[h1] at k1;cases h2:ps.any fun p=>bP c p with
  | true=>rw[h2] at k2;exact bN (ft k1 k2) rfl
  | false=>rw[h2] at k2;exact bJ (ft k1 k2) rfl
theorem ut{fs ps:List p_}{w:Int}{s u:p_}(hl:ps.length<=290):∀ (cs:List p_) (o:Option Vl),∃ o',bj (gN 5) il (cs.map cM) (dD fs w s u (.tup<|ps.map cM) o)=some (if cs.all (gp ps) then Fl.nx else .rt (bV false),dD fs w s u (.tup<|ps.map cM) o')
 | [],o=>⟨o,rfl⟩
 | c::cs,o=>by
  have e:=BW (fs:=fs) (w:=w) (s:=s) (u:=u) (c:=c) hl;obtain⟨o',ih⟩:=ut (fs:=fs) (w:=w) (s:=s) (u:=u) hl cs (some<|.im<|cM c);rw[map_cons,bj];cases hc:gp ps c with
  | true=>
   rw[hc] at e;refine⟨o',?_⟩;show (il<|dD fs w s u (.tup<|ps.map cM)<|some<|.im<|cM c).bind _=_;rw[e];refine ih.trans ?_;rw[List.all_cons,hc,Bool.true_and]
  | false=>
   rw[hc] at e;refine⟨some<|.im<|cM c,?_⟩;show (il<|dD fs w s u (.tup<|ps.map cM)<|some<|.im<|cM c).bind _=_;rw[e,List.all_cons,hc,Bool.false_and];rfl
theorem BX(hw:FN w)(hl:ps.length<=290)(h:(ps.map cM).all Gp=true):fA [cT fs,iI w,.im<|cM s,.im<|cM u,cT ps]=some (bV<|lc fs w s u ps,[cT fs,iI w,.im<|cM s,.im<|cM u,cT ps]):=by
 have th:∀ x∈ps.map cM,E3 x:=fun x hx=>by
  obtain⟨c,_,rfl⟩:=mem_map.mp hx;exact⟨(fun a e=>by cases e),fun es e y hy a z=>by
   cases e;subst z;simp at hy⟩
 have k:=ur (fs:=fs) (w:=w) (s:=s) (u:=u) (by rw[length_map];exact hl) th;rw[h] at k;obtain⟨q1,q2,q3,q4⟩:=t9 hl;have es:dA (aa (oSl 4) aNil) (dD fs w s u (.tup<|ps.map cM) none)=some (.lst<|bH u_<|(bw<|ps.map kM).map .tup,dD fs w s u (.tup<|ps.map cM) none):=by
  show (Fw<|ps.map cM).bind _=_;rw[show ps.map cM=(ps.map kM).map .tup by rw[List.map_map];rfl,nK];exact if_pos ⟨q1,q2⟩
 have ev:vNe (.lst<|ps.map cM) (.lst<|bH u_<|(bw<|ps.map kM).map .tup)=some (bV<|!b8 (ps.map cM)):=by
  show (if (Im.pls 8 (ps.map cM) && Im.pls 8 _)=true then _ else _)=_;rw[g9,q4,if_pos<|show (true && true)=true from rfl,q3]
 have k1:kB (ae vNe (oV<|av vList<|aa (oSl 4) aNil)<|oV<|dA<|aa (oSl 4) aNil) (dD fs w s u (.tup<|ps.map cM) none)=some (!b8 (ps.map cM),dD fs w s u (.tup<|ps.map cM) none):=EM (b_ (v_<|Ew (a_ rfl rfl) rfl rfl) (v_ es) rfl rfl ev);have k2:kB (ae vNotIn (oSl 2)<|oSl 4) (dD fs w s u (.tup<|ps.map cM) none)=some (!decide (s∈ps),dD fs w s u (.tup<|ps.map cM) none):=EM (b_ rfl rfl rfl rfl<|ui ps s);have c3:aD 1 [0] (aF<|oSl 4) (gN 0) kYes G.nW (dD fs w s u (.tup<|ps.map cM) none)=some (.lst<|ps.map fun c=>.bl<|decide (c∈fs),dD fs w s u (.tup<|ps.map cM) none):=by
  refine Gn (xs:=ps.map cM) (o:=none) (D1:=dD fs w s u (.tup<|ps.map cM) none) rfl (db cM (fun c=>.bl<|decide (c∈fs)) _ (fun x hx=>?_) (by lia)) rfl;exact⟨[some (.im<|cM x),some<|cT fs],_,[some (.im<|cM x),some<|cT fs],rfl,rfl,b_ rfl rfl rfl rfl<|oh fs x,rfl⟩
 have k3:bh (aU<|oV<|av vAll<|aa (oV<|aD 1 [0] (aF<|oSl 4) (gN 0) kYes G.nW) aNil) (dD fs w s u (.tup<|ps.map cM) none)=some (!ps.all (fun c=>decide (c∈fs)),dD fs w s u (.tup<|ps.map cM) none):=J5 (Gm (v_<|Ew (a_ (v_ c3) rfl) rfl<|io (fun c=>decide (c∈fs)) ps) rfl rfl);obtain⟨o',lp⟩:=ut (fs:=fs) (ps:=ps) (w:=w) (s:=s) (u:=u) hl fs none;have c5:aD 1 [3,1] (aF<|oSl 4) (gN 0) kYes G.tL (dD fs w s u (.tup<|ps.map cM) o')=some (.lst<|ps.map fun p=>.bl<|decide (u∈Fe p w w.toNat),dD fs w s u (.tup<|ps.map cM) o'):=by
  refine Gn (xs:=ps.map cM) (o:=none) (D1:=dD fs w s u (.tup<|ps.map cM) o') rfl (db cM (fun p=>.bl<|decide (u∈Fe p w w.toNat)) _ (fun x hx=>?_) (by lia)) rfl;exact⟨[some (.im<|cM x),some<|.im<|cM u,some<|iI w],_,[some (.im<|cM x),some<|.im<|cM u,some<|iI w],rfl,rfl,b_ rfl (v_<|d_ (a_ rfl<|a_ rfl rfl) rfl rfl (tR x hw) rfl) rfl rfl<|uj _ u,rfl⟩
 unfold fA nY lc;have go:∀ {g:MS}{r:Option (Fl×SD)},g (dD fs w s u (.tup<|ps.map cM) none)=r->ai (sIf (kOr (bh<|aU<|oV<|cQ "tuple"<|oSl 4)<|bh<|aU<|oV<|av vAll<|aa (oV<|aD 1 [] (aF<|oSl 4) (gN 0) kYes G.kX) aNil) (aG<|eC<|.bl false) sNil) g (dD fs w s u (.tup<|ps.map cM) none)=r:=fun e=>w_ (bJ k rfl) e;cases h1:b8 (ps.map cM) with
 | false=>
  rw[h1] at k1;exact ba (D:=dD fs w s u (.tup<|ps.map cM) none) rfl (go<|cU<|bN (kR k1) rfl) rfl
 | true=>
  rw[h1] at k1;rw[Bool.true_and];cases h2:decide (s∈ps) with
  | false=>
   rw[h2] at k2;exact ba (D:=dD fs w s u (.tup<|ps.map cM) none) rfl (go<|cU<|bN (df k1 k2) rfl) rfl
  | true=>
   rw[h2] at k2;rw[Bool.true_and];cases h3:ps.all (fun c=>decide (c∈fs)) with
   | false=>
    rw[h3] at k3;exact ba (D:=dD fs w s u (.tup<|ps.map cM) none) rfl (go<|w_ (bJ (df k1 k2) rfl)<|cU<|bN k3 rfl) rfl
   | true=>
    rw[h3] at k3;rw[Bool.true_and];cases h4:fs.all (gp ps) with
    | false=>
     rw[h4] at lp;exact ba (D:=dD fs w s u (.tup<|ps.map cM) o') rfl (go<|w_ (bJ (df k1 k2) rfl)<|w_ (bJ k3 rfl)<|cU<|cW (o:=none) rfl lp rfl) rfl
    | true=>
     rw[h4] at lp;rw[Bool.true_and];exact ba (D:=dD fs w s u (.tup<|ps.map cM) o') rfl (go<|w_ (bJ (df k1 k2) rfl)<|w_ (bJ k3 rfl)<|w_ (cW (o:=none) rfl lp rfl)<|cg<|IR<|J5<|EM<|Ew (a_ (v_ c5) rfl) rfl<|k9 (fun p=>decide (u∈Fe p w w.toNat)) ps) rfl
theorem BY(hw:FN w):fE fs w s u ps=lc fs w s u ps:=by
 unfold fE lc;congr 1;congr 1;have un:∀ p,decide (u∈Fe p w w.toNat)=decide (u∈GX p w):=fun p=>by
  rw[decide_eq_decide,n9 hw,n6 hw]
 rw[Bool.eq_iff_iff];simp only[and_eq_true,all_eq_true,fC,gp,or_eq_true,not_eq_true',decide_eq_true_iff,un,List.any_eq_false,decide_eq_false_iff_not,Bool.and_eq_false_iff,Bool.not_eq_false'];constructor
 ·intro z;refine⟨fun p hp=>(z p hp).1,fun c hc=>?_,fun p hp=>(z p hp).2.1⟩;by_cases h:c∈ps
  ·exact .inl h
  ·refine .inr fun p hp hb=>?_;have:=(z p hp).2.2 c ((uf (a:=p) (b:=c)).mp (by rw[oj];exact hb));simp_all
 ·rintro⟨z1,z2,z3⟩ p hp;refine⟨z1 p hp,z3 p hp,fun n hn=>?_⟩;by_cases h:n∈fs
  ·rcases z2 n h with k | k
   ·simp_all
   ·exact absurd (show bP n p=true by rw[oj];exact uf.mpr hn) (k p hp)
  ·simp_all
theorem BZ(F:Hj cs)(hw:FN w)(hd:H9 d):∃ r,et f [cT cs,iI w,.im<|cM s,.im<|cM u,.im d]=some (bV r,[cT cs,iI w,.im<|cM s,.im<|cM u,.im d])/\fA [cT (cs.filter<|aJ cs w),iI w,.im<|cM s,.im<|cM u,.im d]=some (bV r,[cT (cs.filter<|aJ cs w),iI w,.im<|cM s,.im<|cM u,.im d]):=by
 have nd:=ip F.up;have hl:=F.len;by_cases ht:∃ ds,d=.tup ds
 ·obtain⟨ds,rfl⟩:=ht;obtain⟨dl,dt⟩:=hd.2 ds rfl;cases hc:ds.all Gp with
  | true=>
   obtain⟨ps,rfl⟩:=t5 hc;rw[length_map] at dl;exact⟨_,(oq nd (by lia) hw dl).trans (by rw[BY hw]),BX hw dl hc⟩
  | false=>
   refine⟨false,?_,BV dl dt hc⟩;cases hr:LP (.tup ds) with
   | false=>exact uq hd hr
   | true=>
    have hp:ds.all Gw=true:=by
     have:(ds.all Gw && b8 ds)=true:=hr;rw[and_eq_true] at this;exact this.1
    obtain⟨ps,rfl⟩:=ul hp;rw[length_map] at dl;refine (oq nd (by lia) hw dl).trans ?_;have:fE (cs.filter<|aJ cs w) w s u ps=false:=by
     cases hs:fE (cs.filter<|aJ cs w) w s u ps with
     | false=>rfl
     | true=>
      unfold fE at hs;simp only[and_eq_true,all_eq_true] at hs;have:(ps.map cM).all Gp=true:=all_eq_true.mpr fun x hx=>by
       obtain⟨c,hc,rfl⟩:=mem_map.mp hx;have:=hs.2.2 c hc;unfold fC at this;simp only[and_eq_true,decide_eq_true_iff] at this;exact BG (F.J7 c (List.mem_filter.mp this.1).1)
      rw[hc] at this;cases this
    rw[this]
 ·have hr:LP d=false:=by
   cases d with
   | tup ds=>exact absurd ⟨ds,rfl⟩ ht
   | _=>rfl
  refine⟨false,uq hd hr,?_⟩;cases d with
  | tup ds=>exact absurd ⟨ds,rfl⟩ ht
  | fn a=>exact absurd rfl (hd.1 a)
  | _=>rfl
theorem ot(h:x.length+y.length<=100000):vAdd (.im<|.tup x) (.im<|.tup y)=some (.im<|.tup<|x++y):=if_pos h
theorem uu(h:x.length+y.length<=100000):vAdd (.lst x) (.lst y)=some (.lst<|x++y):=if_pos h
theorem ju(i:Int):Ht (.int i):=fun a e=>by cases e
theorem uw(c:Int×Int):E3 (cM c):=⟨(fun a e=>by cases e),fun es e y hy=>by
 cases e;rcases mem_cons.mp hy with rfl | hy
 ·exact ju _
 ·rw[mem_singleton.mp hy];exact ju _⟩
theorem lg{cs:List (Int×Int)}{x:Im}(h:x∈cs.map cM):E3 x:=by
 obtain⟨c,_,rfl⟩:=mem_map.mp h;exact uw c
theorem ou(h:∀ x∈ds,Ht x):E3 (.tup ds):=⟨(fun a e=>by cases e),fun es e=>by cases e;exact h⟩
theorem ux(h:∀ ds,d≠.tup ds)(h0:Ht d):E3 d:=⟨h0,fun es e=>absurd e<|h es⟩
theorem cX(h:∀ x∈ds,E3 x)(hl:ds.length<=290):H9 (.tup ds):=⟨(fun a e=>by cases e),fun es e=>by cases e;exact⟨hl,h⟩⟩
theorem jv:∀ x∈([]:List Im),P x:=fun _ h=>(not_mem_nil h).elim
theorem all_cons{l:List Im}(h:P d)(k:∀ x∈l,P x):∀ x∈d::l,P x:=fun x hx=>by
 rcases mem_cons.mp hx with rfl | hx
 ·exact h
 ·exact k x hx
theorem uy(b:Bool):Ht (.bl b):=fun a e=>by cases e
theorem B1(x:Str):Ht (.str x):=fun a e=>by cases e
theorem uz:Ht .j_:=fun a e=>by cases e
theorem uA{n:Nat}(x:aT (n+1) h)(h0:xs≠[])(h1:xs.length<1073741824):∃ d h',bI [h,.im<|.tup xs]=some (.im d,[h',.im<|.tup xs])/\d∈xs/\aT n h':=by
 have hl:0<xs.length:=List.length_pos_iff.mpr h0;obtain⟨v,h',e,e1,e2,e3⟩:=ed (m:=xs.length) x (by lia) (by lia);obtain⟨d,hd⟩:∃ d,xs[v.toNat]?=some d:=⟨xs[v.toNat]'(by lia),by simp⟩;have Lz:FS xs v=some d:=mQ e1 hd;obtain⟨q,rfl⟩:=aW x;obtain⟨q',rfl⟩:=aW e3;refine⟨d,.lst q',?_,mem_of_getElem? hd,e3⟩;have hv:vIx (.im<|.tup xs) (iI v)=some (.im d):=by
  show (FS xs v).map Vl.im=_;rw[Lz];rfl
 unfold bI no;exact ba (D:=[some (.lst q'),some<|.im<|.tup xs]) rfl (cg<|b_ rfl (v_<|d_ (os:=[.sl 0,.vl<|iI xs.length]) (a_ rfl<|a_ (v_<|Ew (a_ rfl rfl) rfl rfl) rfl) rfl rfl e rfl) rfl rfl hv) rfl
theorem oz:∀ bs:List p_,Im.pls 7 (bs.map cM)=true
 | []=>rfl
 | b::bs=>by
  rw[map_cons,Im.pls,oz bs];rfl
theorem B2(bs:List p_):vEq (cT bs) (.im<|.tup [])=some (bV<|decide (bs=[])):=by
 show (if (Im.pls 7 (bs.map cM) && true)=true then some (Vl.im<|.bl<|aA (.tup<|bs.map cM)<|.tup []) else none)=_;rw[oz,if_pos<|show (true && true)=true from rfl];cases bs with
 | nil=>rfl
 | cons a r=>rfl
theorem B3(bs:List p_):vNe (cT bs) (.im<|.tup [])=some (bV<|!decide (bs=[])):=by
 show (if (Im.pls 7 (bs.map cM) && true)=true then some (Vl.im<|.bl<|!aA (.tup<|bs.map cM) (.tup [])) else none)=_;rw[oz,if_pos<|show (true && true)=true from rfl];cases bs with
 | nil=>rfl
 | cons a r=>rfl
theorem B4{M:Nat}(H:aT (M+2) h)(F:Hj cs):∃ (w:Int) (s:p_) (h':Vl),jp [h,cT cs]=some (.im<|.tup [.int w,cM s],[h',cT cs])/\FN w/\aT M h':=by
 have nd:=ip F.up;have hl:=F.len;obtain⟨x,h1,e1,i1,H1⟩:=hU (n:=M+1) (xs:=[.int 1,.int 2,.int 1,.int 2,.int 3,.int 4,.int 5,.int 6]) H (by simp) (by simp);obtain⟨w,rfl,hw⟩:∃ w:Int,x=.int w/\FN w:=by
  simp at i1;rcases i1 with rfl | rfl | rfl | rfl | rfl | rfl | rfl | rfl<;>exact⟨_,rfl,by decide,by decide⟩
 have ea:=ud nd (by lia) hw;obtain⟨fs,MC⟩:∃ fs,fs=cs.filter (aJ cs w):=⟨_,rfl⟩;rw[<- MC] at ea;have fl:fs.length<=144:=by rw[MC];exact Nat.le_trans (length_filter_le _ _) hl
 obtain⟨q,rfl⟩:=aW H;obtain⟨q1,rfl⟩:=aW H1;have k:kB (ae vEq (oSl 3)<|oV<|ax aNil) [some (.lst q1),some<|cT cs,some<|iI w,some<|cT fs]=some (decide (fs=[]),[some (.lst q1),some<|cT cs,some<|iI w,some<|cT fs]):=EM (b_ rfl rfl rfl rfl<|B2 fs);have go:∀ {g:MS}{r:Option (Fl×SD)},g [some (.lst q1),some<|cT cs,some<|iI w,some<|cT fs]=r->ai (ar 2<|ao 2 G.bI<|aa (oSl 0)<|aa (oV<|aZ<|aa (oV<|eC<|.int 1)<|aa (oV<|eC<|.int 2)<|aa (oV<|eC<|.int 1)<|aa (oV<|eC<|.int 2)<|aa (oV<|eC<|.int 3)<|aa (oV<|eC<|.int 4)<|aa (oV<|eC<|.int 5)<|aa (oV<|eC<|.int 6) aNil) aNil) (ai (ar 3<|ao 2 G.fy<|aa (oSl 1)<|aa (oSl 2) aNil) g) [some (.lst q),some<|cT cs,none,none]=r:=fun e=>
  w_ (D1:=[some (.lst q1),some<|cT cs,some<|iI w,none]) (a9 (d_ (os:=[.sl 0,.vl<|.lst [.int 1,.int 2,.int 1,.int 2,.int 3,.int 4,.int 5,.int 6]]) rfl rfl rfl e1 rfl) (EG rfl) rfl) (w_ (a9 (d_ (os:=[.sl 1,.sl 2]) rfl rfl rfl ea rfl) (EG rfl) rfl) e);unfold jp tJ;cases hn:decide (fs=[]) with
 | true=>
  rw[hn] at k;obtain⟨y,h2,e2,i2,H2⟩:=hU (n:=M) (xs:=cs.map cM++[cM (0,0),cM (30,30),cM (15,2)]) H1 (by simp) (by rw[length_append,length_map];show _+3 < _;lia);obtain⟨s,rfl⟩:∃ s:p_,y=cM s:=by
   rcases mem_append.mp i2 with z | z
   ·obtain⟨c,_,rfl⟩:=mem_map.mp z;exact⟨c,rfl⟩
   ·simp at z;rcases z with rfl | rfl | rfl<;>exact⟨_,rfl⟩
  obtain⟨q2,rfl⟩:=aW H2;refine⟨w,s,.lst q2,ba (D:=[some (.lst q2),some<|cT cs,some<|iI w,some<|cT fs]) rfl (go<|cU<|bN k<|cg ?_) rfl,hw,H2⟩;refine Io (a_ rfl (a_ (v_ (d_ (os:=[.sl 0,.vl<|.lst<|cs.map cM++[cM (0,0),cM (30,30),cM (15,2)]]) (D1:=[some (.lst q1),some<|cT cs,some<|iI w,some<|cT fs]) (a_ rfl (a_ (v_ (b_ (v_<|Ew (a_ rfl rfl) rfl rfl) rfl rfl rfl (uu (y:=[cM (0,0),cM (30,30),cM (15,2)]) (by rw[length_map];show _+3<=_;lia)))) rfl)) rfl rfl e2 rfl)) rfl)) rfl (le_of_ble_eq_true rfl) rfl
 | false=>
  rw[hn] at k;have Ip:fs.map cM≠[]:=fun z=>of_decide_eq_false hn (List.map_eq_nil_iff.mp z);obtain⟨y,h2,e2,i2,H2⟩:=uA (n:=M) (xs:=fs.map cM) H1 Ip (by rw[length_map];lia);obtain⟨s,_,rfl⟩:=mem_map.mp i2;obtain⟨q2,rfl⟩:=aW H2;refine⟨w,s,.lst q2,ba (D:=[some (.lst q2),some<|cT cs,some<|iI w,some<|cT fs]) rfl (go<|w_ (bJ k rfl)<|cg ?_) rfl,hw,H2⟩;exact Io (a_ rfl<|a_ (v_<|d_ (os:=[.sl 0,.sl 3]) (D1:=[some (.lst q1),some<|cT cs,some<|iI w,some<|cT fs]) rfl rfl rfl e2 rfl) rfl) rfl (le_of_ble_eq_true rfl) rfl
theorem PJ{g:M (List Opd)}{os:List Opd}(hl:cs.length<=290)(e1:g D=some (os,D1))(e2:ce D1 os=some [cT cs]):∃ es:List p_,dA g D=some (cL es,D1)/\es.length<=290:=by
 obtain⟨dc,e,nd,hm⟩:=t7 cs;have hlen:dc.length<=cs.length:=f8 nd fun x hx=>(hm x).mp hx;have e3:(dc.map kM).map Im.tup=dc.map cM:=by rw[List.map_map];rfl
 obtain⟨es,s1,s2,s3⟩:=kT nd (by lia);obtain⟨q1,q2,_,_⟩:=t9 hl;refine⟨es,?_,by rw[s2.length_eq];lia⟩;unfold dA;rw[e1];show (ce D1 os).bind _=_;rw[e2];show (Fw<|cs.map cM).bind _=_;rw[show cs.map cM=(cs.map kM).map .tup by rw[List.map_map];rfl,nK];refine (if_pos ⟨q1,q2⟩).trans ?_;rw[e,e3,s1]
theorem B5{W:List α}{lo hi:Option Int}{x:α}(h:x∈a0 W lo hi):x∈W:=mem_of_mem_drop (mem_of_mem_take h)
theorem uB(W:List α)(lo hi:Option Int):(a0 W lo hi).length<=W.length:=by
 unfold a0;rw[length_take,length_drop];lia
def fF(W S B O:List Im)(k:Int)(s:Im):List Im:=[.tup W,.tup S,.tup B,.tup O,.tup<|a0 W none (some k)++a0 W (some<|k+1) none,.tup W.reverse,.fl W,.tup<|W++a0 W (some<|-1) none,.tup [],.j_,.bl true,.tup [.tup W],.tup<|W++[.j_],.tup<|a0 W none (some k)++[.tup [.bl true,.int 0]]++a0 W (some k) none,.str "ab",.tup [s],.tup<|a0 W none (some k)++[.fl [.int 0,.int 0]]++a0 W (some k) none,.tup<|W++[.tup [.int 31,.int 0]],.fd]
theorem B6{W S B O:List Im}{s:Im}(hW:∀ x∈W,E3 x)(hS:∀ x∈S,E3 x)(hB:∀ x∈B,E3 x)(hO:∀ x∈O,E3 x)(hs:E3 s)(lW:W.length<=144)(lS:S.length<=290)(lB:B.length<=290)(lO:O.length<=290):∀ x∈fF W S B O k s,H9 x:=by
 have tk:∀ lo hi,∀ x∈a0 W lo hi,E3 x:=fun lo hi x hx=>hW x (B5 hx);have lk:∀ lo hi,(a0 W lo hi).length<=144:=fun lo hi=>Nat.le_trans (uB W lo hi) lW;have ap:∀ {a b:List Im},(∀ x∈a,E3 x)->(∀ x∈b,E3 x)->∀ x∈a++b,E3 x:=fun ha hb x hx=>(mem_append.mp hx).elim (ha x) (hb x);have s2:∀ {d:Im},(∀ ds,d≠.tup ds)->Ht d->H9 d:=fun h h0=>⟨h0,fun ds e=>absurd e<|h ds⟩;have o1:∀ {d:Im},E3 d->∀ x∈[d],E3 x:=fun h=>all_cons h jv;have l2:∀ a b c d,(a0 W a b++a0 W c d).length<=290:=fun a b c d=>by
  have:=lk a b;have:=lk c d;rw[length_append];lia
 have l3:∀ a b c d (z:Im),(a0 W a b++[z]++a0 W c d).length<=290:=fun a b c d z=>by
  have:=lk a b;have:=lk c d;rw[length_append,length_append,length_singleton];lia
 have l1:∀ z:Im,(W++[z]).length<=290:=fun z=>by rw[length_append,length_singleton];lia
 have tz:E3 (.tup [.bl true,.int 0]):=ou (all_cons (uy _)<|all_cons (ju _) jv);have ty:E3 (.tup [.int 31,.int 0]):=ou (all_cons (ju _)<|all_cons (ju _) jv);have tf:∀ x,Ht (.fl x):=fun x a e=>by cases e
 unfold fF;refine all_cons (cX hW (by lia)) (all_cons (cX hS lS) (all_cons (cX hB lB) (all_cons (cX hO lO) (all_cons (cX (ap (tk _ _)<|tk _ _)<|l2 _ _ _ _) (all_cons (cX (fun x hx=>hW x<|List.mem_reverse.mp hx) (by rw[List.length_reverse];lia)) (all_cons (s2 (fun _ e=>by cases e)<|tf _) (all_cons (cX (ap hW<|tk _ _) (by have:=lk (some<|-1) none;rw[length_append];lia)) ?_)))))));refine all_cons (cX jv<|zero_le _) (all_cons (s2 (fun _ e=>by cases e) uz) (all_cons (s2 (fun _ e=>by cases e)<|uy _) (all_cons (cX (o1<|ou fun x hx=>(hW x hx).1) (show 1<=290 by decide)) (all_cons (cX (ap hW (o1 (ux (fun _ e=>by cases e) uz)))<|l1 _) ?_))));refine all_cons (cX (ap (ap (tk _ _)<|o1 tz)<|tk _ _)<|l3 _ _ _ _ _) (all_cons (s2 (fun _ e=>by cases e)<|B1 _) (all_cons (cX (o1 hs) (show 1<=290 by decide)) (all_cons (cX (ap (ap (tk _ _) (o1 (ux (fun _ e=>by cases e)<|tf _)))<|tk _ _)<|l3 _ _ _ _ _) (all_cons (cX (ap hW<|o1 ty)<|l1 _) (all_cons (s2 (fun _ e=>by cases e) fun a e=>by cases e) jv)))))
theorem uD(nd:cs.Nodup)(hl:cs.length<=144)(hs:s∈cs):∃ pt,dk [cT cs,.im<|cM s]=some (cT pt,[cT cs,.im<|cM s])/\pt.length<=144:=by
 obtain⟨pt,e,up,hc,_⟩:=BS (s:=s) nd (by lia);refine⟨pt,e,?_⟩;have:pt.length<=cs.length:=f8 (ip up) fun x hx=>by
  have:=(hc x).mp hx;cases this with
  | self=>exact hs
  | step _ hb _=>exact hb
 lia
abbrev qD(h:Vl)(S:List Im)(s:Im)(o3 o4 o5 o6 o7 o8:Option Vl):SD:=[some h,some<|.im<|.tup S,some<|.im s,o3,o4,o5,o6,o7,o8]
theorem B7{M:Nat}(H:aT (M+2) h)(nd:fs.Nodup)(hl:fs.length<=144):∃ (ps:List Im) (h':Vl),jr [h,cT fs,.im<|cM s]=some (.lst ps,[h',cT fs,.im<|cM s])/\(∀ x∈ps,H9 x)/\aT M h':=by
 obtain⟨q,rfl⟩:=aW H;obtain⟨pt,e1,lp⟩:∃ pt:List p_,sIf (kB<|ae vIn (oSl 2)<|oSl 1) (ar 3<|ao 2 G.dk<|aa (oSl 1)<|aa (oSl 2) aNil) sNil (qD (.lst q) (fs.map cM) (cM s) (some<|.im<|.tup []) none none none none none)=some (.nx,qD (.lst q) (fs.map cM) (cM s) (some<|cT pt) none none none none none)/\pt.length<=144:=by
  have k:kB (ae vIn (oSl 2)<|oSl 1) (qD (.lst q) (fs.map cM) (cM s) (some<|.im<|.tup []) none none none none none)=some (decide (s∈fs),qD (.lst q) (fs.map cM) (cM s) (some<|.im<|.tup []) none none none none none):=EM (b_ rfl rfl rfl rfl<|oh fs s);cases hb:decide (s∈fs) with
  | false=>rw[hb] at k;exact⟨[],bJ k rfl,zero_le _⟩
  | true=>
   rw[hb] at k;obtain⟨pt,e,l⟩:=uD nd hl (of_decide_eq_true hb);exact⟨pt,bN k<|a9 (d_ (os:=[.sl 1,.sl 2]) rfl rfl rfl e rfl) (EG rfl) rfl,l⟩
 obtain⟨k,h1,e2,a2,b2,H1⟩:=ed (n:=M+1) (m:=((pt.map cM).length:Int)+1) H (by lia) (by rw[length_map];lia);obtain⟨q1,rfl⟩:=aW H1;obtain⟨y,h2,e3,i3,H2⟩:=hU (n:=M) (xs:=fs.map cM++[cM (0,0),cM (30,30)]) H1 (by simp) (by rw[length_append,length_map];show _+2 < _;lia);obtain⟨u,rfl⟩:∃ u:p_,y=cM u:=by
  rcases mem_append.mp i3 with z | z
  ·obtain⟨c,_,rfl⟩:=mem_map.mp z;exact⟨c,rfl⟩
  ·simp at z;rcases z with rfl | rfl<;>exact⟨_,rfl⟩
 obtain⟨q2,rfl⟩:=aW H2;obtain⟨es,e4,l4⟩:=PJ (D:=qD (.lst q2) (fs.map cM) (cM s) (some<|cT pt) (some<|iI k) (some<|.im<|cM u) none none none) (D1:=qD (.lst q2) (fs.map cM) (cM s) (some<|cT pt) (some<|iI k) (some<|.im<|cM u) none none none) (g:=aa (oV<|ae vAdd (oSl 3)<|oV<|ax<|aa (oSl 5) aNil) aNil) (os:=[.vl (cT<|pt++[u])]) (cs:=pt++[u]) (by rw[length_append,length_singleton];lia) (a_ (v_ (b_ rfl (v_<|Io (a_ rfl rfl) rfl (le_of_ble_eq_true rfl) rfl) rfl rfl (by
  show vAdd (.im<|.tup<|pt.map cM) (.im<|.tup [cM u])=some (.im<|.tup<|(pt++[u]).map cM);rw[map_append];exact ot (by rw[length_map];show _+1<=_;lia)))) rfl) rfl
 obtain⟨bt,e5,l5⟩:∃ bt:List p_,sIf (kB<|ae vIn (oSl 5)<|oSl 1) (ar 7<|av vTuple<|aa (oV<|dA<|aa (oV<|ae vAdd (oSl 3)<|oV<|ao 2 G.dk<|aa (oSl 1)<|aa (oSl 5) aNil) aNil) aNil) sNil (qD (.lst q2) (fs.map cM) (cM s) (some<|cT pt) (some<|iI k) (some<|.im<|cM u) (some<|cT es) (some<|cT pt) none)=some (.nx,qD (.lst q2) (fs.map cM) (cM s) (some<|cT pt) (some<|iI k) (some<|.im<|cM u) (some<|cT es) (some<|cT bt) none)/\bt.length<=290:=by
  have kk:kB (ae vIn (oSl 5)<|oSl 1) (qD (.lst q2) (fs.map cM) (cM s) (some<|cT pt) (some<|iI k) (some<|.im<|cM u) (some<|cT es) (some<|cT pt) none)=some (decide (u∈fs),qD (.lst q2) (fs.map cM) (cM s) (some<|cT pt) (some<|iI k) (some<|.im<|cM u) (some<|cT es) (some<|cT pt) none):=EM (b_ rfl rfl rfl rfl<|oh fs u);cases hb:decide (u∈fs) with
  | false=>rw[hb] at kk;exact⟨pt,bJ kk rfl,by lia⟩
  | true=>
   rw[hb] at kk;obtain⟨pu,e,l⟩:=uD nd hl (of_decide_eq_true hb);obtain⟨bt,ee,ll⟩:=PJ (D:=qD (.lst q2) (fs.map cM) (cM s) (some<|cT pt) (some<|iI k) (some<|.im<|cM u) (some<|cT es) (some<|cT pt) none) (D1:=qD (.lst q2) (fs.map cM) (cM s) (some<|cT pt) (some<|iI k) (some<|.im<|cM u) (some<|cT es) (some<|cT pt) none) (g:=aa (oV<|ae vAdd (oSl 3)<|oV<|ao 2 G.dk<|aa (oSl 1)<|aa (oSl 5) aNil) aNil) (os:=[.vl (cT<|pt++pu)]) (cs:=pt++pu) (by rw[length_append];lia) (a_ (v_ (b_ rfl (v_<|d_ (os:=[.sl 1,.sl 5]) rfl rfl rfl e rfl) rfl rfl (by
    show vAdd (.im<|.tup<|pt.map cM) (.im<|.tup<|pu.map cM)=some (.im<|.tup<|(pt++pu).map cM);rw[map_append];exact ot (by rw[length_map,length_map];lia)))) rfl) rfl
   exact⟨bt,bN kk<|a9 (Ew (a_ (v_ ee) rfl) rfl rfl) (EG rfl) rfl,ll⟩
 have hW:∀ x∈pt.map cM,E3 x:=fun x hx=>lg hx;have hS:∀ x∈fs.map cM,E3 x:=fun x hx=>lg hx;have hB:∀ x∈bt.map cM,E3 x:=fun x hx=>lg hx;have hO:∀ x∈es.map cM,E3 x:=fun x hx=>lg hx;have lW:(pt.map cM).length<=144:=by rw[length_map];exact lp
 have th:=B6 (k:=k) hW hS hB hO (uw s) lW (by rw[length_map];lia) (by rw[length_map];lia) (by rw[length_map];lia);refine⟨fF (pt.map cM) (fs.map cM) (bt.map cM) (es.map cM) k<|cM s,.lst q2,?_,th,H2⟩;unfold jr tM;have start:∀ {g:MS}{r:Option (Fl×SD)},g (qD (.lst q2) (fs.map cM) (cM s) (some<|cT pt) (some<|iI k) (some<|.im<|cM u) (some<|cT es) (some<|cT bt) none)=r->ai (ar 3<|ax aNil) (ai (sIf (kB<|ae vIn (oSl 2)<|oSl 1) (ar 3<|ao 2 G.dk<|aa (oSl 1)<|aa (oSl 2) aNil) sNil)<|ai (ar 4<|ao 2 G.bo<|aa (oSl 0)<|aa (oV<|ae vAdd (oV<|av vLen<|aa (oSl 3) aNil)<|oV<|eC<|.int 1) aNil)<|ai (ar 5<|ao 2 G.bI<|aa (oSl 0)<|aa (oV<|ae vAdd (oV<|av vList<|aa (oSl 1) aNil)<|oV<|aZ<|aa (oV<|ax<|aa (oV<|eC<|.int 0)<|aa (oV<|eC<|.int 0) aNil)<|aa (oV<|ax<|aa (oV<|eC<|.int 30)<|aa (oV<|eC<|.int 30) aNil) aNil) aNil)<|ai (ar 6<|av vTuple<|aa (oV<|dA<|aa (oV<|ae vAdd (oSl 3)<|oV<|ax<|aa (oSl 5) aNil) aNil) aNil)<|ai (ar 7<|bu 3)<|ai (sIf (kB<|ae vIn (oSl 5)<|oSl 1) (ar 7<|av vTuple<|aa (oV<|dA<|aa (oV<|ae vAdd (oSl 3)<|oV<|ao 2 G.dk<|aa (oSl 1)<|aa (oSl 5) aNil) aNil) aNil) sNil) g) (qD (.lst q) (fs.map cM) (cM s) none none none none none none)=r:=fun e=>by
  refine w_ (D1:=qD (.lst q) (fs.map cM) (cM s) (some<|.im<|.tup []) none none none none none) rfl (w_ e1 ?_);refine w_ (D1:=qD (.lst q1) (fs.map cM) (cM s) (some<|cT pt) (some<|iI k) none none none none) (a9 (d_ (os:=[.sl 0,.vl<|iI<|((pt.map cM).length:Int)+1]) (D1:=qD (.lst q) (fs.map cM) (cM s) (some<|cT pt) none none none none none) rfl rfl rfl e2 rfl) (EG rfl) rfl) ?_;refine w_ (D1:=qD (.lst q2) (fs.map cM) (cM s) (some<|cT pt) (some<|iI k) (some<|.im<|cM u) none none none) (a9 (d_ (os:=[.sl 0,.vl<|.lst<|fs.map cM++[cM (0,0),cM (30,30)]]) (D1:=qD (.lst q1) (fs.map cM) (cM s) (some<|cT pt) (some<|iI k) none none none none) (a_ rfl (a_ (v_ (b_ (v_<|Ew (a_ rfl rfl) rfl rfl) rfl rfl rfl (uu (y:=[cM (0,0),cM (30,30)]) (by rw[length_map];show _+2<=_;lia)))) rfl)) rfl rfl e3 rfl) (EG rfl) rfl) ?_;refine w_ (D1:=qD (.lst q2) (fs.map cM) (cM s) (some<|cT pt) (some<|iI k) (some<|.im<|cM u) (some<|cT es) none none) (a9 (Ew (a_ (v_ e4) rfl) rfl rfl) (EG rfl) rfl) ?_;exact w_ (D1:=qD (.lst q2) (fs.map cM) (cM s) (some<|cT pt) (some<|iI k) (some<|.im<|cM u) (some<|cT es) (some<|cT pt) none) rfl (w_ e5 e)
 refine ba (D:=qD (.lst q2) (fs.map cM) (cM s) (some<|cT pt) (some<|iI k) (some<|.im<|cM u) (some<|cT es) (some<|cT bt) (some<|.lst<|(fF (pt.map cM) (fs.map cM) (bt.map cM) (es.map cM) k<|cM s).take 16)) rfl (start ?_) rfl;clear start e1 e2 e3 e4 e5 th hW hS hB hO i3;unfold cT;generalize pt.map cM=W at lW;generalize fs.map cM=S;generalize bt.map cM=B;generalize es.map cM=O;have lk:∀ lo hi,(a0 W lo hi).length<=144:=fun lo hi=>Nat.le_trans (uB W lo hi) lW;have sl:∀ lo hi,vSl (.im<|.tup W) lo hi=some (.im<|.tup<|a0 W lo hi):=fun lo hi=>rfl;have ad:∀ {a b:List Im},a.length<=290->b.length<=290->vAdd (.im<|.tup a) (.im<|.tup b)=some (.im<|.tup<|a++b):=fun ha hb=>ot (by lia);have l1:∀ (lo hi:Option Int) (z:Im),(a0 W lo hi++[z]).length<=290:=fun lo hi z=>by
  have:=lk lo hi;rw[length_append,length_singleton];lia
 have J8:∀ lo hi,(a0 W lo hi).length<=290:=fun lo hi=>Nat.le_trans (lk lo hi) (by decide);have Og:W.length<=290:=Nat.le_trans lW (by decide);have l0:∀ z:Im,[z].length<=290:=fun z=>by rw[length_singleton];decide
 refine w_ (D1:=qD (.lst q2) S (cM s) (some<|.im<|.tup W) (some<|iI k) (some<|.im<|cM u) (some<|.im<|.tup O) (some<|.im<|.tup B) (some<|.lst<|(fF W S B O k<|cM s).take 5)) (a9 (J6 (a_ rfl<|a_ rfl<|a_ rfl<|a_ rfl<|a_ (v_<|b_ (v_<|Jm rfl rfl rfl rfl<|sl none<|some k) (v_<|Jm rfl rfl rfl rfl<|sl (some<|k+1) none) rfl rfl<|ad (J8 _ _)<|J8 _ _) rfl) rfl (le_of_ble_eq_true rfl) rfl) (EG rfl) rfl) ?_;refine w_ (D1:=qD (.lst q2) S (cM s) (some<|.im<|.tup W) (some<|iI k) (some<|.im<|cM u) (some<|.im<|.tup O) (some<|.im<|.tup B) (some<|.lst<|(fF W S B O k<|cM s).take 8)) (a9 (b_ rfl (v_<|J6 (a_ rfl<|a_ (v_<|RQ<|Ew (a_ rfl rfl) rfl rfl)<|a_ (v_<|b_ rfl (v_<|Jm rfl rfl rfl rfl<|sl (some<|-1) none) rfl rfl<|ad Og<|J8 _ _) rfl) rfl (le_of_ble_eq_true rfl) rfl) rfl rfl rfl) (EG rfl) rfl) ?_;refine w_ (D1:=qD (.lst q2) S (cM s) (some<|.im<|.tup W) (some<|iI k) (some<|.im<|cM u) (some<|.im<|.tup O) (some<|.im<|.tup B) (some<|.lst<|(fF W S B O k<|cM s).take 13)) (a9 (b_ rfl (v_<|J6 (a_ rfl<|a_ rfl<|a_ rfl<|a_ rfl<|a_ (v_<|b_ rfl rfl rfl rfl<|ad Og<|l0 .j_) rfl) rfl (le_of_ble_eq_true rfl) rfl) rfl rfl rfl) (EG rfl) rfl) ?_;refine w_ (D1:=qD (.lst q2) S (cM s) (some<|.im<|.tup W) (some<|iI k) (some<|.im<|cM u) (some<|.im<|.tup O) (some<|.im<|.tup B) (some<|.lst<|(fF W S B O k<|cM s).take 16)) (a9 (b_ rfl (v_<|J6 (a_ (v_<|b_ (v_<|b_ (v_<|Jm rfl rfl rfl rfl<|sl none<|some k) rfl rfl rfl<|ad (J8 _ _)<|l0<|.tup [.bl true,.int 0]) (v_<|Jm rfl rfl rfl rfl<|sl (some k) none) rfl rfl<|ad (l1 _ _ _)<|J8 _ _)<|a_ rfl<|a_ rfl rfl) rfl (le_of_ble_eq_true rfl) rfl) rfl rfl rfl) (EG rfl) rfl) ?_;exact cg (b_ rfl (v_<|J6 (a_ (v_<|b_ (v_<|b_ (v_<|Jm rfl rfl rfl rfl<|sl none<|some k) rfl rfl rfl<|ad (J8 _ _)<|l0<|.fl [.int 0,.int 0]) (v_<|Jm rfl rfl rfl rfl<|sl (some k) none) rfl rfl<|ad (l1 _ _ _)<|J8 _ _)<|a_ (v_<|b_ rfl rfl rfl rfl<|ad Og<|l0<|.tup [.int 31,.int 0])<|a_ rfl rfl) rfl (le_of_ble_eq_true rfl) rfl) rfl rfl rfl)
theorem B8(b:Bool):vNe (bV b) (bV b)=some (bV false):=by cases b<;>rfl
section
variable{f:Addr}{cs:List p_}{w:Int}{s u:p_}
abbrev lD(o0 o1 o2:Option Vl)(cs:List p_)(w:Int)(s:p_)(fs:List p_)(o7 o8 o9 o10 o11 o12:Option Vl):SD:=[o0,o1,o2,some<|cT cs,some<|iI w,some<|.im<|cM s,some<|cT fs,o7,o8,o9,o10,o11,o12]
theorem B9(F:Hj cs)(hw:FN w)(hd:H9 d):∃ E_ EA,js f (lD o0 o1 o2 cs w s (cs.filter<|aJ cs w) o7 o8 (some<|.im<|cM u) (some<|.im d) o11 o12)=some (.nx,lD o0 o1 o2 cs w s (cs.filter<|aJ cs w) o7 o8 (some<|.im<|cM u) (some<|.im d) E_ EA):=by
 obtain⟨r,e1,e2⟩:=BZ (f:=f) (s:=s) (u:=u) F hw hd;refine⟨some<|bV r,some<|bV r,?_⟩;generalize cs.filter (aJ cs w)=fs at e2;unfold js;refine w_ (D1:=lD o0 o1 o2 cs w s fs o7 o8 (some<|.im<|cM u) (some<|.im d) (some<|bV r) o12) (a9 (d_ (os:=[.sl 3,.sl 4,.sl 5,.sl 9,.sl 10]) rfl rfl rfl e1 rfl) (EG rfl) rfl) ?_;refine w_ (D1:=lD o0 o1 o2 cs w s fs o7 o8 (some<|.im<|cM u) (some<|.im d) (some<|bV r) (some<|bV r)) (a9 (d_ (os:=[.sl 6,.sl 4,.sl 5,.sl 9,.sl 10]) rfl rfl rfl e2 rfl) (EG rfl) rfl) ?_;exact bJ (df (LM<|Gm rfl rfl rfl)<|EM<|b_ rfl rfl rfl rfl<|B8 r) rfl
theorem uE{o0 o1 o2 o7 o8:Option Vl}(F:Hj cs)(hw:FN w):∀ (ps:List Im) (o10 o11 o12:Option Vl),(∀ x∈ps,H9 x)->∃ Ez E_ EA,bj (gN 10) (js f) ps (lD o0 o1 o2 cs w s (cs.filter<|aJ cs w) o7 o8 (some<|.im<|cM u) o10 o11 o12)=some (.nx,lD o0 o1 o2 cs w s (cs.filter<|aJ cs w) o7 o8 (some<|.im<|cM u) Ez E_ EA)
 | [],o10,o11,o12,_=>⟨o10,o11,o12,rfl⟩
 | d::ps,o10,o11,o12,h=>by
  obtain⟨a,b,e⟩:=B9 (f:=f) (s:=s) (u:=u) (o0:=o0) (o1:=o1) (o2:=o2) (o7:=o7) (o8:=o8) (o11:=o11) (o12:=o12) F hw (h d<|.head _);obtain⟨a',b',c',ih⟩:=uE (o0:=o0) (o1:=o1) (o2:=o2) (o7:=o7) (o8:=o8) F hw ps (some<|.im d) a b fun x hx=>h x (.tail _ hx);refine⟨a',b',c',?_⟩;rw[bj];show (js f<|lD o0 o1 o2 cs w s (cs.filter<|aJ cs w) o7 o8 (some<|.im<|cM u) (some<|.im d) o11 o12).bind _=_;rw[e];exact ih
theorem Ca{M:Nat}{ps:List Im}(H:aT (M+1) h)(F:Hj cs)(Ip:cs≠[])(hw:FN w)(hp:∀ x∈ps,H9 x):∃ h' Go Ez E_ EA,kY f (lD o0 o1 (some h) cs w s (cs.filter<|aJ cs w) (some<|.lst ps) o8 o9 o10 o11 o12)=some (.nx,lD o0 o1 (some h') cs w s (cs.filter<|aJ cs w) (some<|.lst ps) o8 Go Ez E_ EA)/\aT M h':=by
 have hl:=F.len;obtain⟨y,h1,e1,i1,H1⟩:=uA (n:=M) (xs:=cs.map cM) H (fun z=>Ip<|List.map_eq_nil_iff.mp z) (by rw[length_map];lia);obtain⟨u,_,rfl⟩:=mem_map.mp i1;obtain⟨q,rfl⟩:=aW H;obtain⟨q1,rfl⟩:=aW H1;obtain⟨a,b,c,lp⟩:=uE (f:=f) (s:=s) (u:=u) (o0:=o0) (o1:=o1) (o2:=some (.lst q1)) (o7:=some .jk) (o8:=o8) F hw ps o10 o11 o12 hp;refine⟨.lst q1,some<|.im<|cM u,a,b,c,?_,H1⟩;generalize cs.filter (aJ cs w)=fs at lp;unfold kY;refine w_ (D1:=lD o0 o1 (some<|.lst q1) cs w s fs (some<|.lst ps) o8 (some<|.im<|cM u) o10 o11 o12) (a9 (d_ (os:=[.sl 2,.sl 3]) rfl rfl rfl e1 rfl) (EG rfl) rfl) ?_;exact cW (o:=some (7,.lst ps)) (D1:=lD o0 o1 (some<|.lst q1) cs w s fs (some .jk) o8 (some<|.im<|cM u) o10 o11 o12) rfl lp rfl
end
abbrev mD(o0 o1 o2 o3 o4 o5 o6 o7 o8 o9 o10 o11 o12:Option Vl):SD:=[o0,o1,o2,o3,o4,o5,o6,o7,o8,o9,o10,o11,o12]
theorem Cb{ns:List Int}{o3:Option Vl}(hk:0<=k)(Gc:k<1000):
  ∃ p2 p3 p4 p5 p6 p7 p8 p9 J9 J_ Ka,kZ f (mD (some<|.fz<|ns.map .int) (some<|iI k) o2 o3 o4 o5 o6 o7 o8 o9 o10 o11 o12)=some (.nx,mD (some<|.fz<|ns.map .int) (some<|iI k) p2 p3 p4 p5 p6 p7 p8 p9 J9 J_ Ka):=by
 obtain⟨h,e1,H⟩:=Ao (ns:=ns) hk Gc;obtain⟨cs,h',e2,F,H'⟩:=Bu (M:=999600) H;obtain⟨q,rfl⟩:=aW H;obtain⟨q',rfl⟩:=aW H';have hl:=F.len;have nd:=ip F.up;have kk:kB (ae vNe (oSl 3)<|oV<|ax aNil) (mD (some<|.fz<|ns.map .int) (some<|iI k) (some<|.lst q') (some<|cT cs) o4 o5 o6 o7 o8 o9 o10 o11 o12)=some (!decide (cs=[]),mD (some<|.fz<|ns.map .int) (some<|iI k) (some<|.lst q') (some<|cT cs) o4 o5 o6 o7 o8 o9 o10 o11 o12):=EM (b_ rfl rfl rfl rfl<|B3 cs);have go:∀ {g:MS}{r:Option (Fl×SD)},g (mD (some<|.fz<|ns.map .int) (some<|iI k) (some<|.lst q') (some<|cT cs) o4 o5 o6 o7 o8 o9 o10 o11 o12)=r->ai (ar 2<|ao 2 G.f7<|aa (oSl 0)<|aa (oSl 1) aNil) (ai (ar 3<|ao 1 G.ie<|aa (oSl 2) aNil) g) (mD (some<|.fz<|ns.map .int) (some<|iI k) o2 o3 o4 o5 o6 o7 o8 o9 o10 o11 o12)=r:=fun e=>
  w_ (D1:=mD (some<|.fz<|ns.map .int) (some<|iI k) (some<|.lst q) o3 o4 o5 o6 o7 o8 o9 o10 o11 o12) (a9 (d_ (os:=[.sl 0,.sl 1]) rfl rfl rfl e1 rfl) (EG rfl) rfl) (w_ (a9 (d_ (os:=[.sl 2]) rfl rfl rfl e2 rfl) (EG rfl) rfl) e);unfold kZ;cases hn:decide (cs=[]) with
 | true=>
  rw[hn] at kk;exact⟨_,_,_,_,_,_,_,_,_,_,_,go<|bJ kk rfl⟩
 | false=>
  rw[hn] at kk;have Ip:cs≠[]:=of_decide_eq_false hn;obtain⟨w,s,h1,e3,hw,H1⟩:=B4 (M:=999598) H' F;obtain⟨q1,rfl⟩:=aW H1;have e4:=ud nd (by lia) hw;have nf:=nd.filter (aJ cs w);have lf:(cs.filter<|aJ cs w).length<=144:=Nat.le_trans (length_filter_le _ _) hl;obtain⟨ps,h2,e5,th,H2⟩:=B7 (M:=999596) (s:=s) H1 nf lf;obtain⟨q2,rfl⟩:=aW H2;obtain⟨D',l1,h3,p8,p9,J9,J_,Ka,rfl,_⟩:=gS (tg:=gN 8) (b:=kY f) (xs:=bF 0 3) (fun i D=>∃ h o8 o9 o10 o11 o12,D=lD (some<|.fz<|ns.map .int) (some<|iI k) (some h) cs w s (cs.filter<|aJ cs w) (some<|.lst ps) o8 o9 o10 o11 o12/\aT (999596 - i) h) (D:=lD (some<|.fz<|ns.map .int) (some<|iI k) (some<|.lst q2) cs w s (cs.filter<|aJ cs w) (some<|.lst ps) o8 o9 o10 o11 o12)
   ⟨_,o8,o9,o10,o11,o12,rfl,H2⟩ (fun i x D hx hI=>by
    obtain⟨h,o8,o9,o10,o11,o12,rfl,H⟩:=hI;obtain⟨hi,rfl⟩:=ig hx;obtain⟨h',a,b,c,d,e,H'⟩:=Ca (M:=999596 - (i+1)) (f:=f) (s:=s) (o0:=some (.fz<|ns.map .int)) (o1:=some (iI k)) (o8:=some (iI<|0+(i:Int))) (o9:=o9) (o10:=o10) (o11:=o11) (o12:=o12) (H.mono (by lia)) F Ip hw th;exact⟨_,_,_,rfl,e,.inl rfl,h',_,a,b,c,d,rfl,H'⟩)
  refine⟨some h3,some<|cT cs,some<|iI w,some<|.im<|cM s,some<|cT<|cs.filter<|aJ cs w,some<|.lst ps,p8,p9,J9,J_,Ka,go<|bN kk ?_⟩;generalize cs.filter (aJ cs w)=fs at e4 e5 l1;refine w_ (D1:=mD (some<|.fz<|ns.map .int) (some<|iI k) (some<|.lst q1) (some<|cT cs) (some<|iI w) (some<|.im<|cM s) o6 o7 o8 o9 o10 o11 o12) (MO (d_ (os:=[.sl 2,.sl 3]) rfl rfl rfl e3 rfl) rfl) ?_;refine w_ (D1:=mD (some<|.fz<|ns.map .int) (some<|iI k) (some<|.lst q1) (some<|cT cs) (some<|iI w) (some<|.im<|cM s) (some<|cT fs) o7 o8 o9 o10 o11 o12) (a9 (d_ (os:=[.sl 3,.sl 4]) rfl rfl rfl e4 rfl) (EG rfl) rfl) ?_;refine w_ (D1:=mD (some<|.fz<|ns.map .int) (some<|iI k) (some<|.lst q2) (some<|cT cs) (some<|iI w) (some<|.im<|cM s) (some<|cT fs) (some<|.lst ps) o8 o9 o10 o11 o12) (a9 (d_ (os:=[.sl 2,.sl 6,.sl 5]) rfl rfl rfl e5 rfl) (EG rfl) rfl) ?_;exact cW (o:=none) (Jn (a_ rfl rfl) rfl ⟨by decide,by decide⟩) l1 rfl
theorem Cc(f:Addr)(ns:List Int)(Nh:ns.length<100000):∃ outs,jt f [.fz (ns.map .int)]=some (.im<|.bl true,outs):=by
 obtain⟨n,hn,n0,n1⟩:∃ n:Int,av vMax2 (aa (oV<|eC<|.int 1)<|aa (oV<|av vMin2<|aa (oV<|eC<|.int 8)<|aa (oV<|av vLen<|aa (oSl 0) aNil) aNil) aNil) (mD (some<|.fz<|ns.map .int) none none none none none none none none none none none none)=some (iI n,mD (some<|.fz<|ns.map .int) none none none none none none none none none none none none)/\0<=n/\n<=12:=by
  refine⟨_,Ew (a_ rfl<|a_ (v_<|Ew (a_ rfl<|a_ (v_<|Ew (a_ rfl rfl) rfl rfl) rfl) rfl rfl) rfl) rfl rfl,?_,?_⟩
  ·split<;>split<;>lia
  ·split<;>split<;>lia
 obtain⟨D',l1,p1,p2,p3,p4,p5,p6,p7,p8,p9,J9,J_,Ka,rfl⟩:=gS (tg:=gN 1) (b:=kZ f) (xs:=bF 0 n.toNat) (fun i D=>∃ o1 o2 o3 o4 o5 o6 o7 o8 o9 o10 o11 o12,D=mD (some<|.fz<|ns.map .int) o1 o2 o3 o4 o5 o6 o7 o8 o9 o10 o11 o12) (D:=mD (some<|.fz<|ns.map .int) none none none none none none none none none none none none)
  ⟨_,_,_,_,_,_,_,_,_,_,_,_,rfl⟩ (fun i x D hx hI=>by
   obtain⟨o1,o2,o3,o4,o5,o6,o7,o8,o9,o10,o11,o12,rfl⟩:=hI;obtain⟨hi,rfl⟩:=ig hx;obtain⟨p2,p3,p4,p5,p6,p7,p8,p9,J9,J_,Ka,e⟩:=Cb (ns:=ns) (k:=0+(i:Int)) (f:=f) (o2:=o2) (o3:=o3) (o4:=o4) (o5:=o5) (o6:=o6) (o7:=o7) (o8:=o8) (o9:=o9) (o10:=o10) (o11:=o11) (o12:=o12) (by lia) (by lia);exact⟨_,_,_,rfl,e,.inl rfl,_,p2,p3,p4,p5,p6,p7,p8,p9,J9,J_,Ka,rfl⟩)
 have en:=oq (f:=f) (cs:=[(0,0),(0,2)]) (ps:=[(0,0)]) (w:=1) (s:=(0,0)) (u:=(0,2)) (by decide) (by decide) ⟨by decide,by decide⟩ (by decide);rw[show fE ([((0:Int),(0:Int)),(0,2)].filter<|aJ [(0,0),(0,2)] 1) 1 (0,0) (0,2) [(0,0)]=true by decide] at en;refine⟨_,ba (D:=mD (some<|.fz<|ns.map .int) p1 p2 p3 p4 p5 p6 p7 p8 p9 J9 J_ Ka) rfl ?_ rfl⟩;show nZ f (mD (some<|.fz<|ns.map .int) none none none none none none none none none none none none)=_;unfold nZ;refine w_ (cW (o:=none) (Jn (a_ (v_ hn) rfl) rfl ⟨by lia,by lia⟩) l1 rfl) ?_;exact cg (b_ (v_<|d_ (os:=[.vl (cT [(0,0),(0,2)]),.vl<|iI 1,.vl<|.im<|cM (0,0),.vl<|.im<|cM (0,2),.vl<|cT [(0,0)]]) rfl rfl rfl en rfl) rfl rfl rfl rfl)
end G
namespace L2
open PySem
end L2
namespace L2
open PySem PySem.Spec PyProof.Rows
variable{g:M (List Opd)}{es:List Expr}{e:Expr}{pos p:Pos}{k n:Nat}{ps:List Str}{f:Addr}{st:Stmt}{qual x:Str}{K:PySem.W.Frag}{G:Fn}
def jw:List (Addr×Obj)->Bool
 | []=>true
 | (_,o)::r=>(match o.data with
  | .seq _ _=>(match o.cls with | .type n=>n != "list" | _=>true)
  | _=>true) && jw r
theorem Cd{K:List (Addr×Obj)}{a:Addr}{o:Obj}{e_:Array Value}(h:jw K=true)(e:K.lookup a=some o)(hc:o.cls=.type "list")(hd:o.data=.seq e_ n):False:=by
 induction K with
 | nil=>cases e
 | cons p r ih=>
  obtain⟨b,x⟩:=p;rw[jw,and_eq_true] at h;simp only[List.lookup] at e;split at e
  ·cases e;have h1:=h.1;rw[hd] at h1;dsimp only at h1;rw[hc] at h1;exact absurd h1 (by decide)
  ·exact ih h.2 e
theorem uF{H:Hp}:∀ ns:List Int,ak H (ns.map .int) (ns.map V.int)
 | []=>rfl
 | n::r=>⟨.int n,_,rfl,rfl,uF r⟩
theorem Ce(hK:jw K=true)(H:Hp)(a:Addr)(ns:List Int)(hO:jP H)(hS:En K H a (ns.map V.int))(ht:∃ outs,G [.fz (ns.map .int)]=some (.im<|.bl true,outs)){E:XK}:HL 1 G [.ref a] H (fun v _=>v=.bl true) E:=by
 obtain⟨outs,ht⟩:=ht;have hf:∃ o,H a=some (.Et o<|.lst<|ns.map V.int):=by
  rcases hS with (h | h) | ⟨o,e_,n,h1,h2,h3,h4,_⟩
  ·rcases hO a with e | ⟨o,xs,e⟩
   ·rw[e] at h;cases h
   ·rw[e] at h;cases h
  ·exact h
  ·exact (Cd hK h1 h2 h4).elim
 obtain⟨o,ho⟩:=hf;refine⟨rfl,[.fz (ns.map .int)],[],.im<|.bl true,outs,⟨_,_,[],[],rfl,⟨a,_,o,rfl,ho,uF ns,rfl⟩,⟨rfl,rfl⟩,rfl⟩,nodup_nil,ht,fun v H' R R' h _ _=>?_⟩;exact h.1
theorem dC{us:List Value}(h:us.length=n+1):∃ a r,us=a::r/\r.length=n:=by
 cases us with
 | nil=>cases h
 | cons a r=>exact⟨a,r,rfl,Nat.succ.inj h⟩
theorem Ga.Kb{fd:FuncData}(F:Ga K x qual st f fd)(h:∀ (kV doc pm:Value) (an:Option Addr) (r_ ct:Value) (a:Value),bindArgs (PySem.W.fnOf x qual (cJ st) (ca st) (ay st) .none kV doc pm an r_ ct) ⟨[a],[]⟩=pure (ps.zip [a]))(hp:ps.length=1:=by rfl):cH K fd ps []:=
 F.binds fun kV doc pm an r_ ct us hl=>by
  replace hl:=hl.trans hp;obtain⟨a,u1,rfl,h1⟩:=dC hl;obtain rfl:=eq_nil_of_length_eq_zero h1;exact h kV doc pm an r_ ct a
theorem Ga.Kc{fd:FuncData}(F:Ga K x qual st f fd)(h:∀ (kV doc pm:Value) (an:Option Addr) (r_ ct:Value) (a b:Value),bindArgs (PySem.W.fnOf x qual (cJ st) (ca st) (ay st) .none kV doc pm an r_ ct) ⟨[a,b],[]⟩=pure (ps.zip [a,b]))(hp:ps.length=2:=by rfl):cH K fd ps []:=
 F.binds fun kV doc pm an r_ ct us hl=>by
  replace hl:=hl.trans hp;obtain⟨a,u1,rfl,h1⟩:=dC hl;obtain⟨b,u2,rfl,h2⟩:=dC h1;obtain rfl:=eq_nil_of_length_eq_zero h2;exact h kV doc pm an r_ ct a b
theorem Ga.Kd{fd:FuncData}(F:Ga K x qual st f fd)(h:∀ (kV doc pm:Value) (an:Option Addr) (r_ ct:Value) (a b c:Value),bindArgs (PySem.W.fnOf x qual (cJ st) (ca st) (ay st) .none kV doc pm an r_ ct) ⟨[a,b,c],[]⟩=pure (ps.zip [a,b,c]))(hp:ps.length=3:=by rfl):cH K fd ps []:=
 F.binds fun kV doc pm an r_ ct us hl=>by
  replace hl:=hl.trans hp;obtain⟨a,u1,rfl,h1⟩:=dC hl;obtain⟨b,u2,rfl,h2⟩:=dC h1;obtain⟨c,u3,rfl,h3⟩:=dC h2;obtain rfl:=eq_nil_of_length_eq_zero h3;exact h kV doc pm an r_ ct a b c
theorem Ga.Ke{fd:FuncData}(F:Ga K x qual st f fd)(h:∀ (kV doc pm:Value) (an:Option Addr) (r_ ct:Value) (a b c d e:Value),bindArgs (PySem.W.fnOf x qual (cJ st) (ca st) (ay st) .none kV doc pm an r_ ct) ⟨[a,b,c,d,e],[]⟩=pure (ps.zip [a,b,c,d,e]))(hp:ps.length=5:=by rfl):cH K fd ps []:=
 F.binds fun kV doc pm an r_ ct us hl=>by
  replace hl:=hl.trans hp;obtain⟨a,u1,rfl,h1⟩:=dC hl;obtain⟨b,u2,rfl,h2⟩:=dC h1;obtain⟨c,u3,rfl,h3⟩:=dC h2;obtain⟨d,u4,rfl,h4⟩:=dC h3;obtain⟨e,u5,rfl,h5⟩:=dC h4;obtain rfl:=eq_nil_of_length_eq_zero h5;exact h kV doc pm an r_ ct a b c d e
def Raw(K:PySem.W.Frag)(x:Str)(st:Stmt)(f:Addr):Prop:=∃ fd,Ga K x x st f fd/\PySem.W.nsIn K mainGlobals x=some (some<|.ref f)
def Fa(K:PySem.W.Frag)(mg:Str->Option Value)(x:Str)(st:Stmt)(f:Addr)(ps:List Str):Prop:=∃ fd,Ga K x x st f fd/\cH K fd ps []/\mg x=some (.ref f)
def C_(P:Program)(w:World)(K:PySem.W.Frag)(mg:Str->Option Value)(base:Heap)(k:Nat)(x:Str)(st:Stmt)(f:Addr)(ps:List Str)(n:Nat)(G:Fn):Prop:=∃ fd,Ga K x x st f fd/\cH K fd ps []/\mg x=some (.ref f)/\EN P w K mg base GT k f fd ps (HL n G)
theorem Cf{oc:Value}{od an:Option Addr}{Hn:Array (Option Value)}{kV doc pm r_ ct:Value}(a:PySem.W.nsIn K mainGlobals x=some (some<|.ref f))(l:K.lookup f=some ⟨oc,od,.func<|PySem.W.fnOf x x (cJ st) (ca st) (ay st) .none kV doc pm an r_ ct,Hn⟩)(c:PySem.W.codeIn K r_ x=true)(k:PySem.W.keepIn K (.ref f)=true):Raw K x st f:=⟨_,xS l c k,a⟩
section
variable{P:Program}{w:World}{K:PySem.W.Frag}{mg:Str->Option Value}{base h:Heap}{k n:Nat}{x:Str}{st:Stmt}{f:Addr}{ps:List Str}{G:Fn}
theorem Raw.b1(r:Raw K x st f)(X:K.In h)(Gg:h.Ns mainGlobals mg)(hb:∀ (kV doc pm:Value) (an:Option Addr) (r_ ct a:Value),bindArgs (PySem.W.fnOf x x (cJ st) (ca st) (ay st) .none kV doc pm an r_ ct) ⟨[a],[]⟩=pure (ps.zip [a]))(hp:ps.length=1:=by rfl):Fa K mg x st f ps:=
 have ⟨_,U,a⟩:=r
 ⟨_,U,U.Kb hb hp,PySem.W.mg_of X Gg a⟩
theorem Raw.b2(r:Raw K x st f)(X:K.In h)(Gg:h.Ns mainGlobals mg)(hb:∀ (kV doc pm:Value) (an:Option Addr) (r_ ct a b:Value),bindArgs (PySem.W.fnOf x x (cJ st) (ca st) (ay st) .none kV doc pm an r_ ct) ⟨[a,b],[]⟩=pure (ps.zip [a,b]))(hp:ps.length=2:=by rfl):Fa K mg x st f ps:=
 have ⟨_,U,a⟩:=r
 ⟨_,U,U.Kc hb hp,PySem.W.mg_of X Gg a⟩
theorem Raw.b3(r:Raw K x st f)(X:K.In h)(Gg:h.Ns mainGlobals mg)(hb:∀ (kV doc pm:Value) (an:Option Addr) (r_ ct a b c:Value),bindArgs (PySem.W.fnOf x x (cJ st) (ca st) (ay st) .none kV doc pm an r_ ct) ⟨[a,b,c],[]⟩=pure (ps.zip [a,b,c]))(hp:ps.length=3:=by rfl):Fa K mg x st f ps:=
 have ⟨_,U,a⟩:=r
 ⟨_,U,U.Kd hb hp,PySem.W.mg_of X Gg a⟩
theorem Raw.b5(r:Raw K x st f)(X:K.In h)(Gg:h.Ns mainGlobals mg)(hb:∀ (kV doc pm:Value) (an:Option Addr) (r_ ct a b c d e:Value),bindArgs (PySem.W.fnOf x x (cJ st) (ca st) (ay st) .none kV doc pm an r_ ct) ⟨[a,b,c,d,e],[]⟩=pure (ps.zip [a,b,c,d,e]))(hp:ps.length=5:=by rfl):Fa K mg x st f ps:=
 have ⟨_,U,a⟩:=r
 ⟨_,U,U.Ke hb hp,PySem.W.mg_of X Gg a⟩
theorem C_.m(C:C_ P w K mg base k x st f ps n G):mg x=some (.ref f):=have ⟨_,_,_,m,_⟩:=C;m
theorem C_.fd{fd:FuncData}(C:C_ P w K mg base k x st f ps n G)(U:Ga K x x st f fd):EN P w K mg base GT k f fd ps (HL n G):=by
 obtain⟨Sy,U',_,_,g⟩:=C;obtain⟨oc,od,kV,doc,pm,an,r_,ct,Hn,e,l,_⟩:=U.ex;obtain⟨Sz,SA,SB,RW,SC,SE,RX,SF,RY,e',l',_⟩:=U'.ex;rw[l] at l';cases l';exact g
theorem Cg(r:Raw K x st f)(X:K.In h)(Gg:h.Ns mainGlobals mg){fa:Addr}(Oh:mg x=some (.ref fa)){p:Str}(hb:∀ (kV doc pm:Value) (an:Option Addr) (r_ ct:Value) (s:Shared) (v:Value),BindsTo s (PySem.W.fnOf x x (cJ st) (ca st) (ay st) .none kV doc pm an r_ ct) ⟨[v],[]⟩ [(p,v)])(C:∀ base,C_ P w K mg base k x st f [p] n G):
  ∃ fd:FuncData,(∀ (s:Shared) (v:Value),BindsTo s fd ⟨[v],[]⟩ [(p,v)])/\∀ base:Heap,K.In base->base.Ns mainGlobals mg->EN P w K mg base GT k fa fd [p] (HL n G):=by
 obtain⟨fd,U,a⟩:=r;cases Oh.symm.trans (PySem.W.mg_of X Gg a);refine⟨fd,?_,fun b _ _=>(C b).fd U⟩;obtain⟨oc,od,kV,doc,pm,an,r_,ct,Hn,rfl,l,_⟩:=U.ex;exact hb kV doc pm an r_ ct
theorem bC{N:List Str}{fix:List Nat}{g:MS}(F:Fa K mg x st f ps)(S:i_ N ps (ay st))(hn:ps.length=n)(O':∀ i∈fix,i<n)(hb:N.Nodup->∀ (r_:Value) (A:Around) (outer:List Env) (s:Shared) (H:Hp) (E:XK),Ed k (A.deeper<|envOfC x (ay st) s.heap.objs.size f r_)->HM (eJ GT P w K mg base N x (ay st) f r_ A outer s H E).Kk fix (ca st) g):
  C_ P w K mg base (k+1) x st f ps n (bd n N.length fix g):=
 have ⟨_,U,b,m⟩:=F
 ⟨_,U,b,m,QN U S hn O'<|hb S.nd⟩
end
section
variable{X:Cx}
variable{m:Nat}
theorem aI(C:C_ X.prog X.w X.K X.mg X.base k x st f ps n G)(hr:Ed m X.A)(hg:Gl X x)(ha:VA X (e::es) g)(hm:k<=m:=by decide)(Ha:(x == ("__debug__" : Str))=false:=by decide)(he:starEach (e::es) X.env=(false,eval e X.env)::starEach es X.env:=by rfl)(Fz:(backTo pos<|starEach es X.env).any (·.1)=false:=by rfl):
  VE X (.Call (.Name x p) (e::es) [] pos) (ao n G g):=
 have ⟨_,U,b,m,F⟩:=C
 yJ F (hr.mono hm) hg m U.kp b ha Ha he Fz
theorem Ch{i:Nat}{y:Str}(C:C_ X.prog X.w X.K X.mg X.base k y st f ps n G)(hr:Ed m X.A)(hv:PE X (.Name x p) (eG i))(ha:VA X (e::es) g)(hm:k<=m:=by decide)(he:starEach (e::es) X.env=(false,eval e X.env)::starEach es X.env:=by rfl)(Fz:(backTo pos<|starEach es X.env).any (·.1)=false:=by rfl):
  VE X (.Call (.Name x p) (e::es) [] pos) (ko i f n G g):=
 have ⟨_,U,b,_,F⟩:=C
 zJ F (hr.mono hm) hv U.kp b ha he Fz
theorem ag{i:Int}{j pos}:VO X (.Constant (.int i) j pos) (oV<|eC<|.int i):=ab dv
theorem vv(i:Nat){x:Str}{pos:Pos}(hN:X.N[i]?=some x:=by rfl)(hv:Mf X.env.scope x:=by first | exact Or.inl rfl | exact Or.inr (Or.inl rfl) | exact Or.inr (Or.inr rfl))(hd:(x == ("__debug__" : Str))=false:=by decide)(G_:(x == ("__classdict__" : Str))=false:=by decide):VO X (.Name x pos) (oSl i):=yC (oN hN hv hd G_)
theorem af{g:M Opd}(he:VO X e g)(hs:starEach [e] X.env=(false,eval e X.env)::starEach [] X.env:=by rfl):VA X [e] (aa g aNil):=ah he eV hs
theorem bn{a b:Expr}{ga gb:M Opd}(hr:Ed m X.A)(ha:VO X a ga)(hb:VO X b gb)(hs:lT b:=by exact fun _ _=>rfl):VE X (.Subscript a b pos) (ae vIx ga gb):=yE (y8 (by have:=hr.un;omega)) ha hb hs
end
end L2
set_option maxHeartbeats 4000000
namespace K09
open PySem L2 PyProof.Rows
variable{H_ f:Addr}{l:PySem.W.OpenLaw}{k:Nat}{A:Around}
def top(i:Nat):Stmt:=PySem.Challenge.pw_mowfloor_k09_papers_of_never.main.body.getD i (.Pass ⟨0,0,0,0⟩)
structure Txt(mg:Str->Option Value):Prop where
 Jo:mg "abs" = none
 FO:mg "all" = none
 GY:mg "any" = none
 F8:mg "bool" = none
 Kf:mg "dict" = none
 Gq:mg "int" = none
 k_:mg "isinstance" = none
 FP:mg "len" = none
 F9:mg "list" = none
 GZ:mg "max" = none
 G0:mg "min" = none
 Em:mg "range" = none
 Ia:mg "set" = none
 EB:mg "sorted" = none
 Eg:mg "tuple" = none
 LQ:mg "zip" = none
theorem uG:bootBuiltins "abs" = some (.builtin "abs"):=by decide +kernel
theorem iq:bootBuiltins "all" = some (.builtin "all"):=by decide +kernel
theorem lh:bootBuiltins "any" = some (.builtin "any"):=by decide +kernel
theorem lj:bootBuiltins "bool" = some (.type "bool"):=by decide +kernel
theorem Ci:bootBuiltins "dict" = some (.type "dict"):=by decide +kernel
theorem jx:bootBuiltins "int" = some (.type "int"):=by decide +kernel
theorem dE:bootBuiltins "isinstance" = some (.builtin "isinstance"):=by decide +kernel
theorem ir:bootBuiltins "len" = some (.builtin "len"):=by decide +kernel
theorem lm:bootBuiltins "list" = some (.type "list"):=by decide +kernel
theorem lq:bootBuiltins "max" = some (.builtin "max"):=by decide +kernel
theorem lr:bootBuiltins "min" = some (.builtin "min"):=by decide +kernel
theorem uH:bootBuiltins "sorted" = some (.builtin "sorted"):=by decide +kernel
theorem eu:bootBuiltins "tuple" = some (.type "tuple"):=by decide +kernel
theorem aN(hr:Ed k A):A.units+20<cLine:=by have:=hr.un;omega
theorem ls(hr:Ed k A):A.units+30<cLine:=by have:=hr.un;omega
abbrev jy:Stmt:=top 1
abbrev Cj:List Str:=["thing"]
abbrev gq:Stmt:=top 2
abbrev Ck:List Str:=["thing"]
abbrev gr:Stmt:=top 3
abbrev oA:List Str:=["thing","is_kind"]
abbrev iw:Stmt:=top 4
abbrev Cl:List Str:=["things","found","thing"]
abbrev jz:Stmt:=top 5
abbrev Cm:List Str:=["cell","row","column"]
abbrev gs:Stmt:=top 7
abbrev uI:List Str:=["place","width"]
abbrev ix:Stmt:=top 8
abbrev uJ:List Str:=["floor","width","free"]
abbrev iy:Stmt:=top 9
abbrev uK:List Str:=["floor","width","start","cell","thing","fits","paper","place"]
abbrev jA:Stmt:=top 11
abbrev Co:List Str:=["_law_script","_law_k","_law_cell","_law_bound","_law_digits"]
abbrev gu:Stmt:=top 12
abbrev Cp:List Str:=["_law_hand_here","_law_many","_law_digit","_law_turn","_law_mixed","_law_odd"]
abbrev fG:Stmt:=top 13
abbrev Cq:List Str:=["_law_hand_here","_law_some"]
abbrev jB:Stmt:=top 14
abbrev Cr:List Str:=["_law_hand_here","_law_most","_law_high","_law_wide","_law_top","_law_side","_law_way","_law_cells","_law_row","_law_column","_law_free","_law_turn","_law_down","_law_right"]
abbrev iz:Stmt:=top 15
abbrev Cs:List Str:=["_law_one","_law_other"]
abbrev fH:Stmt:=top 16
abbrev lu:List Str:=["_law_floor_here","_law_cell","_law_part_here","_law_last","_law_rest","_law_more","_law_one"]
abbrev gw:Stmt:=top 17
abbrev uL:List Str:=["_law_place","_law_width","_law_cells","_law_down"]
abbrev iA:Stmt:=top 18
abbrev uM:List Str:=["_law_known","_law_width","_law_place"]
abbrev fI:Stmt:=top 19
abbrev oC:List Str:=["_law_floor_here","_law_width","_law_known"]
abbrev jC:Stmt:=top 20
abbrev Ct:List Str:=["_law_hand_here","_law_floor_here","_law_width","_law_stands_here"]
abbrev jD:Stmt:=top 21
abbrev Cu:List Str:=["_law_thing"]
abbrev eE:Stmt:=top 22
abbrev jE:List Str:=["_law_stands_here","_law_width","_law_start","_law_cell","_law_thing","_law_one"]
abbrev jF:Stmt:=top 23
abbrev Cv:List Str:=["_law_hand_here","_law_stands_here","_law_start","_law_field","_law_at","_law_other","_law_wide","_law_both","_law_some"]
abbrev lv:Stmt:=top 24
abbrev Cw:List Str:=["_law_script","_law_k","_law_hand_here","_law_floor_here","_law_width","_law_start","_law_stands_here","_law_papers_here","_law_turn","_law_cell","_law_thing","_law_told","_law_due_here"]
section
variable{P:Program}{w:World}{K:PySem.W.Frag}{mg:Str->Option Value}{base:Heap}
theorem Cy:i_ Cj ["thing"] (ay jy):=⟨rfl,rfl,rfl,by decide +kernel,rfl,by decide +kernel,by decide +kernel⟩
theorem Cz(F:Fa K mg "is_whole" jy f ["thing"])(T:Txt mg):
  C_ P w K mg base 1 "is_whole" jy f ["thing"] 1 G.gf:=by
 refine bC F Cy rfl (by decide) fun nd r_ A outer s H E hr=>?_;exact (az<|aQ<|gH (cu<|dy rfl T.k_ dE rfl T.Gq jx<|vv 0)<|cu<|gG<|qi<|cu<|dy rfl T.k_ dE rfl T.F8 lj<|vv 0)
theorem CA:i_ Ck ["thing"] (ay gq):=⟨rfl,rfl,rfl,by decide +kernel,rfl,by decide +kernel,by decide +kernel⟩
theorem CB(F:Fa K mg "is_pair" gq f ["thing"])(T:Txt mg){GJ:Addr}(C0:C_ P w K mg base 1 "is_whole" jy GJ ["thing"] 1 G.gf):
  C_ P w K mg base 2 "is_pair" gq f ["thing"] 1 G.gg:=by
 refine bC F CA rfl (by decide) fun nd r_ A outer s H E hr=>?_;exact (az (aQ (gH (cu<|dy rfl T.k_ dE rfl T.Eg eu<|vv 0) (gH (cu (bL (fg<|aN hr) (ab (bf gO (by rfl) T.FP ir<|af<|vv 0)) ag<|bx _))<|gH (cu<|aI C0 hr rfl<|af<|ab<|bn hr (vv 0) ag)<|cu<|gG<|aI C0 hr rfl<|af<|ab<|bn hr (vv 0) ag))))
theorem CC:i_ oA ["thing","is_kind"] (ay gr):=⟨rfl,rfl,rfl,by decide +kernel,rfl,by decide +kernel,by decide +kernel⟩
theorem CD(F:Fa K mg "is_rising" gr f ["thing","is_kind"])(T:Txt mg){f':Addr}(C1:C_ P w K mg base 2 "is_pair" gq f' ["thing"] 1 G.gg):
  C_ P w K mg base 3 "is_rising" gr f ["thing","is_kind"] 2 (G.fu f'):=by
 refine bC F CC rfl (by decide) fun nd r_ A outer s H E hr=>?_;exact (aq (bA (VW.vt (eU (dG<|b6<|ab<|dy rfl T.k_ dE rfl T.Eg eu<|vv 0) (eT (dG (b6 (ab (bf (gP rfl) (by rfl) T.FO iq (af (ab (cD (own:=["part"]) (caps:=[1]) rfl (cb (ay gr) oA (by decide +kernel)) (by decide) (bT<|vv 0) (fun Y=>(aR (i:=0) (show (["part","is_kind"]:List Str).Nodup by decide +kernel) rfl (Or.inl rfl) (by decide))) (fun Y=>c8)<|fun Y=>(Ch C1 hr (pv 1)<|af<|vv 0))))))))))) (az<|aQ bv) bz) (az (aQ (bf (gP rfl) (by rfl) T.FO iq (af (ab (cD (own:=["ahead","behind"]) (caps:=[]) rfl (cb (ay gr) oA (by decide +kernel)) (by decide) (zn rfl T.LQ (ah (vv 0) (by exact (af<|ab<|fj (vv 0) (fi dv) fh)))) (fun Y=>(jV rfl (fb (aR (i:=0) (show (["ahead","behind"]:List Str).Nodup by decide +kernel) rfl (Or.inl rfl) (by decide)) (fb (aR (i:=1) (show (["ahead","behind"]:List Str).Nodup by decide +kernel) rfl (Or.inl rfl) (by decide)) jU)))) (fun Y=>c8)<|fun Y=>(bL (Bm<|aN hr) (vv 0) (vv 1)<|bx _))))))))
theorem CF:i_ Cl ["things"] (ay iw):=⟨rfl,rfl,rfl,by decide +kernel,rfl,by decide +kernel,by decide +kernel⟩
theorem CG(F:Fa K mg "lookup" iw f ["things"])(T:Txt mg):
  C_ P w K mg base 1 "lookup" iw f ["things"] 1 G.dB:=by
 refine bC F CF rfl (by decide) fun nd r_ A outer s H E hr=>?_;exact (aq (aB (i:=1) nd rfl (Or.inl rfl) mR (by decide)) (aq (dw (fx:=[0]) PassesOwn.never rfl (bT<|vv 0) (aR (i:=2) nd rfl (Or.inl rfl) (by decide)) (az<|fc bv<|iY (pv 1) (cC<|pv 2)<|mS<|aN hr) (by decide) (iP (by decide)))<|az<|aQ<|cC<|pv 1))
theorem CH:i_ Cm ["cell"] (ay jz):=⟨rfl,rfl,rfl,by decide +kernel,rfl,by decide +kernel,by decide +kernel⟩
theorem CI(F:Fa K mg "around" jz f ["cell"])(T:Txt mg):
  C_ P w K mg base 1 "around" jz f ["cell"] 1 G.ii:=by
 refine bC F CH rfl (by decide) fun nd r_ A outer s H E hr=>?_;exact (aq (aB (i:=1) nd rfl (Or.inl rfl) (bn hr (vv 0) ag) (by decide)) (aq (aB (i:=2) nd rfl (Or.inl rfl) (bn hr (vv 0) ag) (by decide)) (az (aQ (bE (by exact (ah (ab (aE (by exact (ah (ab<|am dO (vv 1) ag) (by exact (af<|vv 2)))))) (by exact (ah (ab (aE (by exact (ah (vv 1) (by exact (af<|ab<|am dO (vv 2) ag)))))) (by exact (ah (ab (aE (by exact (ah (vv 1) (by exact (af<|ab<|am aH (vv 2) ag)))))) (by exact (af (ab (aE (by exact (ah (ab<|am aH (vv 1) ag) (by exact (af<|vv 2)))))))))))))))))))
theorem CJ:i_ uI ["place","width"] (ay gs):=⟨rfl,rfl,rfl,by decide +kernel,rfl,by decide +kernel,by decide +kernel⟩
theorem CK(F:Fa K mg "under" gs f ["place","width"])(T:Txt mg):
  C_ P w K mg base 1 "under" gs f ["place","width"] 2 G.er:=by
 refine bC F CJ rfl (by decide) fun nd r_ A outer s H E hr=>?_;exact (az (aQ (cD (own:=["step"]) (caps:=[0,1]) rfl (cb (ay gs) uI (by decide +kernel)) (by decide) (ff rfl T.Em<|af<|ab<|am dj (vv 1)<|vv 1) (fun Y=>(aR (i:=0) (show (["step","place","width"]:List Str).Nodup by decide +kernel) rfl (Or.inl rfl) (by decide))) (fun Y=>c8) (fun Y=>(aE (by exact (ah (ab<|am aH (ab<|bn hr (vv 1) ag)<|ab<|am iT (vv 0)<|vv 2) (by exact (af<|ab<|am aH (ab<|bn hr (vv 1) ag)<|ab<|am dP (vv 0)<|vv 2)))))))))
theorem CL:i_ uJ ["floor","width"] (ay ix):=⟨rfl,rfl,rfl,by decide +kernel,rfl,by decide +kernel,by decide +kernel⟩
theorem CM(F:Fa K mg "fitting" ix f ["floor","width"])(T:Txt mg){Fy:Addr}(C3:C_ P w K mg base 1 "lookup" iw Fy ["things"] 1 G.dB){F_:Addr}(C5:C_ P w K mg base 1 "under" gs F_ ["place","width"] 2 G.er):
  C_ P w K mg base 2 "fitting" ix f ["floor","width"] 2 G.ij:=by
 refine bC F CL rfl (by decide) fun nd r_ A outer s H E hr=>?_;exact (aq (aB (i:=2) nd rfl (Or.inr rfl) (aI C3 hr rfl<|af<|vv 0) (by decide)) (az (aQ (aI C3 hr rfl (af (ab (cD (own:=["place"]) (caps:=[1,2]) rfl (cb (ay ix) uJ (by decide +kernel)) (by decide) (bT<|vv 0) (fun Y=>(aR (i:=0) (show (["place","width","free"]:List Str).Nodup by decide +kernel) rfl (Or.inl rfl) (by decide))) (fun Y=>(jX (b6 (ab (bf (gP rfl) (by rfl) T.FO iq (af (ab (cD (own:=["cell"]) (caps:=[2]) rfl (Bz (by with_unfolding_all rfl)) (by decide) (bT (ab (aI C5 hr rfl (ah (vv 0) (by exact (af<|vv 1)))))) (fun Y=>(aR (i:=0) (show (["cell","free"]:List Str).Nodup by decide +kernel) rfl (Or.inl rfl) (by decide))) (fun Y=>c8)<|fun Y=>(bL (dR<|aN hr) (vv 0) (vv 1) rfl)))))))))<|fun Y=>(cC<|pv 0))))))))
theorem CN:i_ uK ["floor","width","start","cell","thing"] (ay iy):=⟨rfl,rfl,rfl,by decide +kernel,rfl,by decide +kernel,by decide +kernel⟩
theorem CO(F:Fa K mg "shows_never" iy f ["floor","width","start","cell","thing"])(T:Txt mg){f':Addr}(C1:C_ P w K mg base 2 "is_pair" gq f' ["thing"] 1 G.gg){Gr:Addr}(C2:C_ P w K mg base 3 "is_rising" gr Gr ["thing","is_kind"] 2 (G.fu f')){Hk:Addr}(C6:C_ P w K mg base 2 "fitting" ix Hk ["floor","width"] 2 G.ij){Fy:Addr}(C3:C_ P w K mg base 1 "lookup" iw Fy ["things"] 1 G.dB){F_:Addr}(C5:C_ P w K mg base 1 "under" gs F_ ["place","width"] 2 G.er){Ib:Addr}(C4:C_ P w K mg base 1 "around" jz Ib ["cell"] 1 G.ii):
  C_ P w K mg base 4 "shows_never" iy f ["floor","width","start","cell","thing"] 5 (G.et f'):=by
 refine bC F CN rfl (by decide) fun nd r_ A outer s H E hr=>?_;exact (aq (bA (dG (b6 (ab (aI C2 hr rfl (ah (vv 4) (by exact (af<|ab<|zh rfl C1.m))))))) (az<|aQ bv) bz) (aq (aB (i:=5) nd rfl (Or.inr rfl) (aI C6 hr rfl (ah (vv 0) (by exact (af<|vv 1)))) (by decide)) (aq (aB (i:=6) nd rfl (Or.inr rfl) (aI C3 hr rfl<|af<|vv 4) (by decide)) (aq (bA (bY (gW<|aN hr) (vv 2) (vv 6) rfl) (az<|aQ bv) bz) (aq (dw (fx:=[0,1,2,3,4]) PassesOwn.never rfl (bT<|vv 4) (aR (i:=7) nd rfl (Or.inl rfl) (by decide)) (aq (bA (VW.vt (eU (bY (gW<|aN hr) (vv 7) (vv 5) rfl) (eT (bY (dR<|aN hr) (vv 3) (ab (aI C5 hr rfl (ah (vv 7) (by exact (af<|vv 1))))) rfl)))) (az<|aQ bv) bz) (az (bA (b6 (ab (bf (kc rfl) (by rfl) T.GY lh (af (ab (cD (own:=["beside"]) (caps:=[5,6]) rfl (cb (ay iy) uK (by decide +kernel)) (by decide) (bT<|ab<|aI C4 hr rfl<|af<|vv 7) (fun Y=>(aR (i:=0) (show (["beside","fits","paper"]:List Str).Nodup by decide +kernel) rfl (Or.inl rfl) (by decide))) (fun Y=>c8)<|fun Y=>(gH (cu<|bL (dR<|aN hr) (vv 0) (vv 1) rfl)<|cu<|gG<|bL (gW<|aN hr) (vv 0) (vv 2) rfl))))))) (az<|aQ bv) bz))) (by decide) (iP (by decide)))<|az<|aQ bv)))))
theorem CP:i_ Co ["_law_script","_law_k"] (ay jA):=⟨rfl,rfl,rfl,by decide +kernel,rfl,by decide +kernel,by decide +kernel⟩
theorem CQ(F:Fa K mg "_law_hand" jA f ["_law_script","_law_k"])(T:Txt mg):
  C_ P w K mg base 1 "_law_hand" jA f ["_law_script","_law_k"] 2 G.f7:=by
 refine bC F CP rfl (by decide) fun nd r_ A outer s H E hr=>?_;exact (aq (aB (i:=2) nd rfl (Or.inl rfl) dv (by decide)) (aq (bA (bY qA (vv 1) (ab (bf gO (by rfl) T.FP ir<|af<|vv 0))<|bx _) (az (aB (i:=2) nd rfl (Or.inl rfl) (bn hr (vv 0)<|vv 1) (by decide))) bz) (aq (aB (i:=3) nd rfl (Or.inl rfl) (am dj (ab<|am dj (ab<|am jZ ag ag)<|ab<|am jZ ag ag)<|ab<|am jZ ag ag) (by decide)) (aq (aB (i:=4) nd rfl (Or.inl rfl) (am dj (ab<|am dP (vv 2)<|vv 3)<|ab<|dh qF rfl T.Gq jx<|af<|ab<|bL yW (vv 2) (ab<|am jZ ag ag)<|bx _) (by decide)) (az (aQ (bE (by exact (ah (vv 4) (by exact (ah (ab<|am aH (ab<|am aH (ab<|am dP (vv 2) ag)<|ab<|am dj ag<|vv 1) ag) (by exact (af ag)))))))))))))
theorem CS:i_ Cp ["_law_hand_here","_law_many"] (ay gu):=⟨rfl,rfl,rfl,by decide +kernel,rfl,by decide +kernel,by decide +kernel⟩
theorem CT(F:Fa K mg "_law_take" gu f ["_law_hand_here","_law_many"])(T:Txt mg):
  C_ P w K mg base 1 "_law_take" gu f ["_law_hand_here","_law_many"] 2 G.bo:=by
 refine bC F CS rfl (by decide) fun nd r_ A outer s H E hr=>?_;exact (aq (bA (bY qB (ab<|bn hr (vv 0) ag) ag<|bx _) (aq (aB (i:=2) nd rfl (Or.inl rfl) (am dP (ab<|bn hr (vv 0) ag)<|vv 1) (by decide))<|aq (fc (am iT (ab<|bn hr (vv 0) ag)<|vv 1)<|iY (pv 0) dv<|qU<|aN hr)<|az<|aQ<|cC<|pv 2) bz) (aq (fc (am aH (ab<|bn hr (vv 0) ag) ag)<|iY (pv 0) dv<|qU<|aN hr) (aq (aB (i:=3) nd rfl (Or.inl rfl) (bn hr (vv 0) ag) (by decide)) (aq (aB (i:=4) nd rfl (Or.inl rfl) (am dP (ab<|am dj (ab<|bn hr (vv 0) ag)<|ab<|am aH (ab<|am aH ag<|ab<|am dj (ab<|am dj ag<|vv 3)<|vv 3)<|ab<|am dj ag<|vv 3) ag) (by decide)) (aq (aB (i:=5) nd rfl (Or.inl rfl) (am aH (ab<|am aH (ab<|am dP (vv 4) ag)<|ab<|am dj (vv 3) ag) ag) (by decide)) (aq (aB (i:=4) nd rfl (Or.inl rfl) (am dP (ab<|am dj (vv 4)<|vv 5) ag) (by decide))<|az<|aQ<|am dP (ab<|am aH (ab<|am iT (vv 4) ag)<|ab<|am iT (vv 4) ag)<|vv 1))))))
theorem CU:i_ Cq ["_law_hand_here","_law_some"] (ay fG):=⟨rfl,rfl,rfl,by decide +kernel,rfl,by decide +kernel,by decide +kernel⟩
theorem CV(F:Fa K mg "_law_of" fG f ["_law_hand_here","_law_some"])(T:Txt mg){EC:Addr}(C9:C_ P w K mg base 1 "_law_take" gu EC ["_law_hand_here","_law_many"] 2 G.bo):
  C_ P w K mg base 2 "_law_of" fG f ["_law_hand_here","_law_some"] 2 G.bI:=by
 refine bC F CU rfl (by decide) fun nd r_ A outer s H E hr=>?_;exact (az (aQ (bn hr (vv 1) (ab (aI C9 hr rfl (ah (vv 0) (by exact (af (ab (bf gO (by rfl) T.FP ir<|af<|vv 1))))))))))
theorem CW:i_ Cr ["_law_hand_here"] (ay jB):=⟨rfl,rfl,rfl,by decide +kernel,rfl,by decide +kernel,by decide +kernel⟩
theorem CY(F:Fa K mg "_law_floor" jB f ["_law_hand_here"])(T:Txt mg){EC:Addr}(C9:C_ P w K mg base 1 "_law_take" gu EC ["_law_hand_here","_law_many"] 2 G.bo){ES:Addr}(Ic:C_ P w K mg base 2 "_law_of" fG ES ["_law_hand_here","_law_some"] 2 G.bI):
  C_ P w K mg base 3 "_law_floor" jB f ["_law_hand_here"] 1 G.ie:=by
 refine bC F CW rfl (by decide) fun nd r_ A outer s H E hr=>?_;exact (aq (aB (i:=1) nd rfl (Or.inl rfl) dv (by decide)) (aq (bA (bY (fg<|aN hr) (ab (aI C9 hr rfl (ah (vv 0) (by exact (af ag))))) ag<|bx _) (az (aB (i:=1) nd rfl (Or.inl rfl) dv (by decide))) bz) (aq (mv (i:=2) (j:=3) rfl nd rfl rfl (by decide) rfl rfl (ah (ab (am aH ag (ab (aI C9 hr rfl (ah (vv 0) (by exact (af<|vv 1))))))) (by exact (af (ab (am aH ag (ab (aI C9 hr rfl (ah (vv 0) (by exact (af<|vv 1)))))))))) (by decide) (by decide) rfl) (aq (mv (i:=4) (j:=5) rfl nd rfl rfl (by decide) rfl rfl (ah (ab (aI Ic hr rfl (ah (vv 0) (by exact (af (ab (bE (by exact (ah ag (by exact (ah ag (by exact (ah ag (by exact (af<|ab<|am dO ag<|vv 2))))))))))))))) (by exact (af (ab (aI Ic hr rfl (ah (vv 0) (by exact (af (ab (bE (by exact (ah ag (by exact (ah ag (by exact (ah ag (by exact (af<|ab<|am dO ag<|vv 3)))))))))))))))))) (by decide) (by decide) rfl) (aq (aB (i:=6) nd rfl (Or.inl rfl) (aI C9 hr rfl (ah (vv 0) (by exact (af ag)))) (by decide)) (aq (aB (i:=7) nd rfl (Or.inl rfl) mR (by decide)) (aq (dw (fx:=[0]) PassesOwn.never rfl (ff rfl T.Em<|af<|vv 2) (aR (i:=8) nd rfl (Or.inl rfl) (by decide)) (az (dw (fx:=[0]) PassesOwn.never rfl (ff rfl T.Em<|af<|vv 3) (aR (i:=9) nd rfl (Or.inl rfl) (by decide)) (aq (aB (i:=10) nd rfl (Or.inl rfl) (bE (by exact (ah (ab (bL (fg<|aN hr) (ab (aI C9 hr rfl (ah (vv 0) (by exact (af ag))))) ag<|bx _)) (by exact (ah (ab (bL qB (ab (aI C9 hr rfl (ah (vv 0) (by exact (af ag))))) ag<|bx _)) (by exact (af<|ab bv))))))) (by decide)) (aq (mq<|mK mJ PySem.F.plainAttrs_list PySem.F.slot_list_append PySem.F.type_list_append qH (pv 10)<|af<|ab<|qj (cu<|bL (fg<|aN hr) (ab<|am dP (vv 8) ag) ag<|bx _)<|cu<|gG<|bL (fg<|aN hr) (vv 9) (ab<|am dP (ab<|am iT (vv 8) ag)<|vv 3)<|bx _) (aq (aB (i:=10) nd rfl (Or.inl rfl) (am aH (vv 10) (ab (bE (by exact (ah (ab (qj (cu (bL (dR<|aN hr) (vv 8) (ab (aE (by exact (ah ag (by exact (af<|ab<|am dO (vv 2) ag)))))) rfl)) (cu (gG (bL (dR<|aN hr) (vv 9) (ab (aE (by exact (ah ag (by exact (af<|ab<|am dO (vv 3) ag)))))) rfl))))) (by exact (af<|ab bv))))))) (by decide)) (az (bA (b6<|ab<|bn hr (vv 10)<|vv 6) (az (fc bv (iY (pv 7) (aE (by exact (ah (ab<|am aH (vv 8)<|vv 4) (by exact (af<|ab<|am aH (vv 9)<|vv 5)))))<|mS<|aN hr))) bz))))) (by decide) gJ)) (by decide) gJ) (aq (fc (aE (by exact (ah ag (by exact (af ag))))) (jV rfl (fb (aR (i:=8) nd rfl (Or.inl rfl) (by decide)) (fb (aR (i:=9) nd rfl (Or.inl rfl) (by decide)) jU)))) (aq (dw (fx:=[0]) PassesOwn.never rfl (ff rfl T.Em<|af<|ab<|am dj ag<|ab<|dh qF rfl T.Gq jx<|af<|ab<|bL (fg<|aN hr) (vv 6) ag<|bx _) (aR (i:=11) nd rfl (Or.inl rfl) (by decide)) (aq (fc bv (iY (pv 7) (aE (by exact (ah (ab<|am aH (vv 8)<|vv 4) (by exact (af<|ab<|am aH (vv 9)<|vv 5)))))<|mS<|aN hr)) (aq (fc (aI Ic hr rfl (ah (vv 0) (by exact (af (ab (bE (by exact (ah (ab (aE (by exact (ah ag (by exact (af ag)))))) (by exact (ah (ab (aE (by exact (ah ag (by exact (af ag)))))) (by exact (ah (ab (aE (by exact (ah ag (by exact (af ag)))))) (by exact (ah (ab (aE (by exact (ah (ab<|j6 dv) (by exact (af ag)))))) (by exact (ah (ab (aE (by exact (ah ag (by exact (af<|ab<|j6 dv)))))) (by exact (af (ab (aE (by exact (ah ag (by exact (af ag)))))))))))))))))))))))) (jV rfl (fb (aR (i:=12) nd rfl (Or.inl rfl) (by decide)) (fb (aR (i:=13) nd rfl (Or.inl rfl) (by decide)) jU)))) (aq (aB (i:=8) nd rfl (Or.inl rfl) (bf (mG rfl) (by rfl) T.G0 lr (ah (ab<|am dO (vv 2) ag) (by exact (af (ab (bf (mF rfl) (by rfl) T.GZ lq (ah ag (by exact (af<|ab<|am aH (vv 8)<|vv 12))))))))) (by decide)) (az (aB (i:=9) nd rfl (Or.inl rfl) (bf (mG rfl) (by rfl) T.G0 lr (ah (ab<|am dO (vv 3) ag) (by exact (af (ab (bf (mF rfl) (by rfl) T.GZ lq (ah ag (by exact (af<|ab<|am aH (vv 9)<|vv 13))))))))) (by decide)))))) (by decide) gJ) (az (aQ (dh iV rfl T.Eg eu (af (ab (bf (rA rfl<|aN hr) (by rfl) T.EB uH<|af<|vv 7)))))))))))))))
theorem CZ:i_ Cs ["_law_one","_law_other"] (ay iz):=⟨rfl,rfl,rfl,by decide +kernel,rfl,by decide +kernel,by decide +kernel⟩
theorem Da(F:Fa K mg "_law_are_beside" iz f ["_law_one","_law_other"])(T:Txt mg):
  C_ P w K mg base 1 "_law_are_beside" iz f ["_law_one","_law_other"] 2 G.gn:=by
 refine bC F CZ rfl (by decide) fun nd r_ A outer s H E hr=>?_;exact (az (aQ (bL (fg<|aN hr) (ab (am aH (ab (bf qG (by rfl) T.Jo uG<|af<|ab<|am dO (ab<|bn hr (vv 0) ag)<|ab<|bn hr (vv 1) ag)) (ab (bf qG (by rfl) T.Jo uG<|af<|ab<|am dO (ab<|bn hr (vv 0) ag)<|ab<|bn hr (vv 1) ag)))) ag<|bx _)))
theorem Db:i_ lu ["_law_floor_here","_law_cell"] (ay fH):=⟨rfl,rfl,rfl,by decide +kernel,rfl,by decide +kernel,by decide +kernel⟩
theorem Dc(F:Fa K mg "_law_part" fH f ["_law_floor_here","_law_cell"])(T:Txt mg){Ei:Addr}(Oi:C_ P w K mg base 1 "_law_are_beside" iz Ei ["_law_one","_law_other"] 2 G.gn):
  C_ P w K mg base 2 "_law_part" fH f ["_law_floor_here","_law_cell"] 2 G.dk:=by
 refine bC F Db rfl (by decide) fun nd r_ A outer s H E hr=>?_;exact (aq (mv (i:=2) (j:=3) rfl nd rfl rfl (by decide) rfl rfl (ah (ab (bE (by exact (af<|vv 1)))) (by exact (af (ab (bE (by exact (af<|vv 1))))))) (by decide) (by decide) rfl) (aq (qW (i:=4) (own:=["_law_one"]) (caps:=[1]) nd rfl (Or.inl rfl) rfl (cb (ay fH) lu (by decide +kernel)) (by decide) (bT<|vv 0) (fun Y=>(aR (i:=0) (show (["_law_one","_law_cell"]:List Str).Nodup by decide +kernel) rfl (Or.inl rfl) (by decide))) (fun Y=>(jX<|bY (gL<|aN hr) (vv 0) (vv 1)<|bx _)) (fun Y=>(cC<|pv 0)) (by decide)) (aq (yL 1000000 PassesOwn.never (bY (gL<|aN hr) (vv 3) (ab (bE (by exact eV)))<|bx _) (aq (aB (i:=5) nd rfl (Or.inr rfl) (bE (by exact eV)) (by decide)) (aq (dw (fx:=[4,0,1]) PassesOwn.never rfl (bT<|vv 4) (aR (i:=6) nd rfl (Or.inr rfl) (by decide)) (az (bA (b6 (ab (bf (kc rfl) (by rfl) T.GY lh (af (ab (cD (own:=["_law_other"]) (caps:=[6]) rfl (cb (ay fH) lu (by decide +kernel)) (by decide) (bT<|vv 3) (fun Y=>(aR (i:=0) (show (["_law_other","_law_one"]:List Str).Nodup by decide +kernel) rfl (Or.inl rfl) (by decide))) (fun Y=>c8) (fun Y=>(aI Oi hr rfl (ah (vv 1) (by exact (af<|vv 0))))))))))) (az<|mq<|mK mJ PySem.F.plainAttrs_list PySem.F.slot_list_append PySem.F.type_list_append qH (pv 5)<|af<|vv 6) bz)) (by decide) (iP (by decide))) (aq (aB (i:=2) nd rfl (Or.inl rfl) (am aH (vv 2)<|vv 5) (by decide)) (aq (qW (i:=4) (own:=["_law_one"]) (caps:=[5]) nd rfl (Or.inl rfl) rfl (cb (ay fH) lu (by decide +kernel)) (by decide) (bT<|vv 4) (fun Y=>(aR (i:=0) (show (["_law_one","_law_more"]:List Str).Nodup by decide +kernel) rfl (Or.inl rfl) (by decide))) (fun Y=>(jX<|bY (gW<|aN hr) (vv 0) (vv 1) rfl)) (fun Y=>(cC<|pv 0)) (by decide)) (az (aB (i:=3) nd rfl (Or.inl rfl) (cC<|pv 5) (by decide)))))))) (az (aQ (dh iV rfl T.Eg eu (af (ab (bf (rA rfl<|aN hr) (by rfl) T.EB uH<|af<|vv 2)))))))))
theorem De:i_ uL ["_law_place","_law_width"] (ay gw):=⟨rfl,rfl,rfl,by decide +kernel,rfl,by decide +kernel,by decide +kernel⟩
theorem Df(F:Fa K mg "_law_under" gw f ["_law_place","_law_width"])(T:Txt mg):
  C_ P w K mg base 1 "_law_under" gw f ["_law_place","_law_width"] 2 G.fw:=by
 refine bC F De rfl (by decide) fun nd r_ A outer s H E hr=>?_;exact (aq (aB (i:=2) nd rfl (Or.inl rfl) (bE (by exact eV)) (by decide)) (aq (dw (fx:=[0,1]) PassesOwn.never rfl (ff rfl T.Em<|af<|vv 1) (aR (i:=3) nd rfl (Or.inr rfl) (by decide)) (az (mq (mK mJ PySem.F.plainAttrs_list PySem.F.slot_list_extend PySem.F.type_list_extend zj (pv 2) (af (ab (cD (own:=["_law_right"]) (caps:=[0,3]) rfl (cb (ay gw) uL (by decide +kernel)) (by decide) (ff rfl T.Em<|af<|vv 1) (fun Y=>(aR (i:=0) (show (["_law_right","_law_place","_law_down"]:List Str).Nodup by decide +kernel) rfl (Or.inl rfl) (by decide))) (fun Y=>c8) (fun Y=>(aE (by exact (ah (ab<|am aH (ab<|bn hr (vv 1) ag)<|vv 2) (by exact (af<|ab<|am aH (ab<|bn hr (vv 1) ag)<|vv 0)))))))))))) (by decide) gJ)<|az<|aQ<|cC<|pv 2))
theorem Dg:i_ uM ["_law_known","_law_width","_law_place"] (ay iA):=⟨rfl,rfl,rfl,by decide +kernel,rfl,by decide +kernel,by decide +kernel⟩
theorem Dh(F:Fa K mg "_law_stands" iA f ["_law_known","_law_width","_law_place"])(T:Txt mg){Fb:Addr}(Oj:C_ P w K mg base 1 "_law_under" gw Fb ["_law_place","_law_width"] 2 G.fw):
  C_ P w K mg base 2 "_law_stands" iA f ["_law_known","_law_width","_law_place"] 3 G.jo:=by
 refine bC F Dg rfl (by decide) fun nd r_ A outer s H E hr=>?_;exact (az (aQ (bf (gP rfl) (by rfl) T.FO iq (af (ab (cD (own:=["_law_cell"]) (caps:=[0]) rfl (cb (ay iA) uM (by decide +kernel)) (by decide) (bT (ab (aI Oj hr rfl (ah (vv 2) (by exact (af<|vv 1)))))) (fun Y=>(aR (i:=0) (show (["_law_cell","_law_known"]:List Str).Nodup by decide +kernel) rfl (Or.inl rfl) (by decide))) (fun Y=>c8)<|fun Y=>(bL (dR<|aN hr) (vv 0) (vv 1) rfl)))))))
theorem Di:i_ oC ["_law_floor_here","_law_width"] (ay fI):=⟨rfl,rfl,rfl,by decide +kernel,rfl,by decide +kernel,by decide +kernel⟩
theorem Dj(F:Fa K mg "_law_all_stands" fI f ["_law_floor_here","_law_width"])(T:Txt mg){GK:Addr}(RZ:C_ P w K mg base 2 "_law_stands" iA GK ["_law_known","_law_width","_law_place"] 3 G.jo):
  C_ P w K mg base 3 "_law_all_stands" fI f ["_law_floor_here","_law_width"] 2 G.fy:=by
 refine bC F Di rfl (by decide) fun nd r_ A outer s H E hr=>?_;exact (aq (aB (i:=2) nd rfl (Or.inr rfl) (dh (Ad rfl<|ls hr) rfl T.Kf Ci (af (ab (cD (own:=["_law_cell"]) (caps:=[]) rfl (cb (ay fI) oC (by decide +kernel)) (by decide) (bT<|vv 0) (fun Y=>(aR (i:=0) (show (["_law_cell"]:List Str).Nodup by decide +kernel) rfl (Or.inl rfl) (by decide))) (fun Y=>c8) (fun Y=>(aE (by exact (ah (vv 0) (by exact (af<|ab bv)))))))))) (by decide)) (az (aQ (dh iV rfl T.Eg eu (af (ab (cD (own:=["_law_cell"]) (caps:=[2,1]) rfl (cb (ay fI) oC (by decide +kernel)) (by decide) (bT<|vv 0) (fun Y=>(aR (i:=0) (show (["_law_cell","_law_known","_law_width"]:List Str).Nodup by decide +kernel) rfl (Or.inl rfl) (by decide))) (fun Y=>(jX (b6 (ab (aI RZ hr rfl (ah (vv 1) (by exact (ah (vv 2) (by exact (af<|vv 0))))))))))<|fun Y=>(cC<|pv 0))))))))
theorem Dk:i_ Ct ["_law_hand_here","_law_floor_here"] (ay jC):=⟨rfl,rfl,rfl,by decide +kernel,rfl,by decide +kernel,by decide +kernel⟩
theorem Dm(F:Fa K mg "_law_mower" jC f ["_law_hand_here","_law_floor_here"])(T:Txt mg){ES:Addr}(Ic:C_ P w K mg base 2 "_law_of" fG ES ["_law_hand_here","_law_some"] 2 G.bI){Ej:Addr}(Ol:C_ P w K mg base 3 "_law_all_stands" fI Ej ["_law_floor_here","_law_width"] 2 G.fy):
  C_ P w K mg base 4 "_law_mower" jC f ["_law_hand_here","_law_floor_here"] 2 G.jp:=by
 refine bC F Dk rfl (by decide) fun nd r_ A outer s H E hr=>?_;exact (aq (aB (i:=2) nd rfl (Or.inl rfl) (aI Ic hr rfl (ah (vv 0) (by exact (af (ab (bE (by exact (ah ag (by exact (ah ag (by exact (ah ag (by exact (ah ag (by exact (ah ag (by exact (ah ag (by exact (ah ag (by exact (af ag)))))))))))))))))))))) (by decide)) (aq (aB (i:=3) nd rfl (Or.inl rfl) (aI Ol hr rfl (ah (vv 1) (by exact (af<|vv 2)))) (by decide)) (aq (bA (bY (fg<|aN hr) (vv 3) (ab (aE (by exact eV)))<|bx _) (az (aQ (aE (by exact (ah (vv 2) (by exact (af (ab (aI Ic hr rfl (ah (vv 0) (by exact (af (ab (am aH (ab<|dh j9 rfl T.F9 lm<|af<|vv 1) (ab (bE (by exact (ah (ab (aE (by exact (ah ag (by exact (af ag)))))) (by exact (ah (ab (aE (by exact (ah ag (by exact (af ag)))))) (by exact (af (ab (aE (by exact (ah ag (by exact (af ag)))))))))))))))))))))))))))) bz) (az (aQ (aE (by exact (ah (vv 2) (by exact (af (ab (aI Ic hr rfl (ah (vv 0) (by exact (af<|vv 3)))))))))))))))
theorem Do:i_ Cu ["_law_thing"] (ay jD):=⟨rfl,rfl,rfl,by decide +kernel,rfl,by decide +kernel,by decide +kernel⟩
theorem Dp(F:Fa K mg "_law_is_cell" jD f ["_law_thing"])(T:Txt mg):
  C_ P w K mg base 1 "_law_is_cell" jD f ["_law_thing"] 1 G.jq:=by
 refine bC F Do rfl (by decide) fun nd r_ A outer s H E hr=>?_;exact (aq (bA (VW.vt (eU (dG<|b6<|ab<|dy rfl T.k_ dE rfl T.Eg eu<|vv 0) (eT (bY (gL<|aN hr) (ab (bf gO (by rfl) T.FP ir<|af<|vv 0)) ag<|bx _)))) (az<|aQ bv) bz) (aq (bA (VW.vt<|eU (b6<|ab<|dy rfl T.k_ dE rfl T.F8 lj<|ab<|bn hr (vv 0) ag)<|eT<|b6<|ab<|dy rfl T.k_ dE rfl T.F8 lj<|ab<|bn hr (vv 0) ag) (az<|aQ bv) bz) (aq (bA (VW.vt<|eU (dG<|b6<|ab<|dy rfl T.k_ dE rfl T.Gq jx<|ab<|bn hr (vv 0) ag)<|eT<|dG<|b6<|ab<|dy rfl T.k_ dE rfl T.Gq jx<|ab<|bn hr (vv 0) ag) (az<|aQ bv) bz) (az (aQ (gH (cu (bL yV ag (ab (bf (By rfl) (by rfl) T.G0 lr<|af<|vv 0))<|bx _)) (cu (gG (bL qA (ab (bf (Bx rfl) (by rfl) T.GZ lq<|af<|vv 0)) ag<|bx _)))))))))
theorem Dq:i_ jE ["_law_stands_here","_law_width","_law_start","_law_cell","_law_thing"] (ay eE):=⟨rfl,rfl,rfl,by decide +kernel,rfl,by decide +kernel,by decide +kernel⟩
theorem Dr(F:Fa K mg "_law_due" eE f ["_law_stands_here","_law_width","_law_start","_law_cell","_law_thing"])(T:Txt mg){Gs:Addr}(R8:C_ P w K mg base 1 "_law_is_cell" jD Gs ["_law_thing"] 1 G.jq){Ei:Addr}(Oi:C_ P w K mg base 1 "_law_are_beside" iz Ei ["_law_one","_law_other"] 2 G.gn){Fb:Addr}(Oj:C_ P w K mg base 1 "_law_under" gw Fb ["_law_place","_law_width"] 2 G.fw):
  C_ P w K mg base 2 "_law_due" eE f ["_law_stands_here","_law_width","_law_start","_law_cell","_law_thing"] 5 G.fA:=by
 refine bC F Dq rfl (by decide) fun nd r_ A outer s H E hr=>?_;exact (aq (bA (VW.vt (eU (dG<|b6<|ab<|dy rfl T.k_ dE rfl T.Eg eu<|vv 4) (eT (dG (b6 (ab (bf (gP rfl) (by rfl) T.FO iq (af (ab (cD (own:=["_law_one"]) (caps:=[]) rfl (cb (ay eE) jE (by decide +kernel)) (by decide) (bT<|vv 4) (fun Y=>(aR (i:=0) (show (["_law_one"]:List Str).Nodup by decide +kernel) rfl (Or.inl rfl) (by decide))) (fun Y=>c8)<|fun Y=>(aI R8 hr rfl<|af<|vv 0))))))))))) (az<|aQ bv) bz) (aq (bA (VW.vt<|eU (bY (gL<|aN hr) (ab<|dh j9 rfl T.F9 lm<|af<|vv 4) (ab<|nL (ls hr) rfl T.EB rfl T.Ia<|af<|vv 4)<|bx _)<|eT<|bY (gW<|aN hr) (vv 2) (vv 4) rfl) (az<|aQ bv) bz) (aq (bA (dG (b6 (ab (bf (gP rfl) (by rfl) T.FO iq (af (ab (cD (own:=["_law_one"]) (caps:=[0]) rfl (cb (ay eE) jE (by decide +kernel)) (by decide) (bT<|vv 4) (fun Y=>(aR (i:=0) (show (["_law_one","_law_stands_here"]:List Str).Nodup by decide +kernel) rfl (Or.inl rfl) (by decide))) (fun Y=>c8)<|fun Y=>(bL (dR<|aN hr) (vv 0) (vv 1) rfl)))))))) (az<|aQ bv) bz) (aq (dw (fx:=[0,1,2,3,4]) PassesOwn.never rfl (bT<|vv 0) (aR (i:=5) nd rfl (Or.inr rfl) (by decide)) (az (bA (VW.vt (yG (bY (gW<|aN hr) (vv 5) (vv 4) rfl) (yF (b6 (ab (bf (kc rfl) (by rfl) T.GY lh (af (ab (cD (own:=["_law_other"]) (caps:=[5]) rfl (cb (ay eE) jE (by decide +kernel)) (by decide) (bT<|vv 4) (fun Y=>(aR (i:=0) (show (["_law_other","_law_one"]:List Str).Nodup by decide +kernel) rfl (Or.inl rfl) (by decide))) (fun Y=>c8) (fun Y=>(aI Oi hr rfl (ah (vv 1) (by exact (af<|vv 0)))))))))))))) (az<|aQ bv) bz)) (by decide) (iP (by decide))) (az (aQ (qi (cu (bf (kc rfl) (by rfl) T.GY lh (af (ab (cD (own:=["_law_one"]) (caps:=[3,1]) rfl (cb (ay eE) jE (by decide +kernel)) (by decide) (bT<|vv 4) (fun Y=>(aR (i:=0) (show (["_law_one","_law_cell","_law_width"]:List Str).Nodup by decide +kernel) rfl (Or.inl rfl) (by decide))) (fun Y=>c8) (fun Y=>(bL (dR<|aN hr) (vv 1) (ab (aI Oj hr rfl (ah (vv 0) (by exact (af<|vv 2))))) rfl))))))))))))))
theorem Ds:i_ Cv ["_law_hand_here","_law_stands_here","_law_start"] (ay jF):=⟨rfl,rfl,rfl,by decide +kernel,rfl,by decide +kernel,by decide +kernel⟩
theorem Dt(F:Fa K mg "_law_papers" jF f ["_law_hand_here","_law_stands_here","_law_start"])(T:Txt mg){Id:Addr}(PK:C_ P w K mg base 2 "_law_part" fH Id ["_law_floor_here","_law_cell"] 2 G.dk){EC:Addr}(C9:C_ P w K mg base 1 "_law_take" gu EC ["_law_hand_here","_law_many"] 2 G.bo){ES:Addr}(Ic:C_ P w K mg base 2 "_law_of" fG ES ["_law_hand_here","_law_some"] 2 G.bI):
  C_ P w K mg base 3 "_law_papers" jF f ["_law_hand_here","_law_stands_here","_law_start"] 3 G.jr:=by
 refine bC F Ds rfl (by decide) fun nd r_ A outer s H E hr=>?_;exact (aq (aB (i:=3) nd rfl (Or.inl rfl) (aE (by exact eV)) (by decide)) (aq (bA (bY (dR<|aN hr) (vv 2) (vv 1) rfl) (az (aB (i:=3) nd rfl (Or.inl rfl) (aI PK hr rfl (ah (vv 1) (by exact (af<|vv 2)))) (by decide))) bz) (aq (aB (i:=4) nd rfl (Or.inl rfl) (aI C9 hr rfl (ah (vv 0) (by exact (af (ab (am aH (ab (bf gO (by rfl) T.FP ir<|af<|vv 3)) ag)))))) (by decide)) (aq (aB (i:=5) nd rfl (Or.inl rfl) (aI Ic hr rfl (ah (vv 0) (by exact (af (ab (am aH (ab<|dh j9 rfl T.F9 lm<|af<|vv 1) (ab (bE (by exact (ah (ab (aE (by exact (ah ag (by exact (af ag)))))) (by exact (af (ab (aE (by exact (ah ag (by exact (af ag)))))))))))))))))) (by decide)) (aq (aB (i:=6) nd rfl (Or.inl rfl) (dh iV rfl T.Eg eu (af (ab (nL (ls hr) rfl T.EB rfl T.Ia (af (ab (am aH (vv 3) (ab (aE (by exact (af<|vv 5))))))))))) (by decide)) (aq (aB (i:=7) nd rfl (Or.inl rfl) (cC<|pv 3) (by decide)) (aq (bA (bY (dR<|aN hr) (vv 5) (vv 1) rfl) (az (aB (i:=7) nd rfl (Or.inl rfl) (dh iV rfl T.Eg eu (af (ab (nL (ls hr) rfl T.EB rfl T.Ia (af (ab (am aH (vv 3) (ab (aI PK hr rfl (ah (vv 1) (by exact (af<|vv 5)))))))))))) (by decide))) bz) (aq (aB (i:=8) nd rfl (Or.inl rfl) (bE (by exact (ah (vv 3) (by exact (ah (vv 1) (by exact (ah (vv 7) (by exact (ah (vv 6) (by exact (af<|ab<|am aH (ab<|fj (vv 3) fh<|fi<|cC<|pv 4)<|ab<|fj (vv 3) (fi<|am aH (vv 4) ag) fh))))))))))) (by decide)) (aq (aB (i:=8) nd rfl (Or.inl rfl) (am aH (vv 8) (ab (bE (by exact (ah (ab<|zQ (vv 3)<|j6 dv) (by exact (ah (ab<|mT<|dh j9 rfl T.F9 lm<|af<|vv 3) (by exact (af<|ab<|am aH (vv 3)<|ab<|fj (vv 3) (fi<|j6 dv) fh))))))))) (by decide)) (aq (aB (i:=8) nd rfl (Or.inl rfl) (am aH (vv 8) (ab (bE (by exact (ah (ab (aE (by exact eV))) (by exact (ah (ab qd) (by exact (ah (ab bv) (by exact (ah (ab (aE (by exact (af<|vv 3)))) (by exact (af (ab (am aH (vv 3) (ab (aE (by exact (af<|ab qd))))))))))))))))))) (by decide)) (aq (aB (i:=8) nd rfl (Or.inl rfl) (am aH (vv 8) (ab (bE (by exact (ah (ab (am aH (ab (am aH (ab<|fj (vv 3) fh<|fi<|cC<|pv 4) (ab (aE (by exact (af (ab (aE (by exact (ah (ab bv) (by exact (af ag))))))))))))<|ab<|fj (vv 3) (fi<|cC<|pv 4) fh)) (by exact (ah (ab yD) (by exact (af (ab (aE (by exact (af<|vv 2))))))))))))) (by decide)) (az (aQ (am aH (vv 8) (ab (bE (by exact (ah (ab (am aH (ab (am aH (ab<|fj (vv 3) fh<|fi<|cC<|pv 4) (ab (aE (by exact (af (ab (mT (bE (by exact (ah ag (by exact (af ag)))))))))))))<|ab<|fj (vv 3) (fi<|cC<|pv 4) fh)) (by exact (ah (ab (am aH (vv 3) (ab (aE (by exact (af (ab (aE (by exact (ah ag (by exact (af ag)))))))))))) (by exact (af<|ab<|mT mR))))))))))))))))))))))
theorem Du:i_ Cw ["_law_script"] (ay lv):=⟨rfl,rfl,rfl,by decide +kernel,rfl,by decide +kernel,by decide +kernel⟩
theorem Dv(F:Fa K mg "law" lv f ["_law_script"])(T:Txt mg){f':Addr}(C1:C_ P w K mg base 2 "is_pair" gq f' ["thing"] 1 G.gg){Ie:Addr}(C8:C_ P w K mg base 1 "_law_hand" jA Ie ["_law_script","_law_k"] 2 G.f7){Hl:Addr}(R9:C_ P w K mg base 3 "_law_floor" jB Hl ["_law_hand_here"] 1 G.ie){Hm:Addr}(R_:C_ P w K mg base 4 "_law_mower" jC Hm ["_law_hand_here","_law_floor_here"] 2 G.jp){Ej:Addr}(Ol:C_ P w K mg base 3 "_law_all_stands" fI Ej ["_law_floor_here","_law_width"] 2 G.fy){GL:Addr}(Sa:C_ P w K mg base 3 "_law_papers" jF GL ["_law_hand_here","_law_stands_here","_law_start"] 3 G.jr){ES:Addr}(Ic:C_ P w K mg base 2 "_law_of" fG ES ["_law_hand_here","_law_some"] 2 G.bI){FH:Addr}(C7:C_ P w K mg base 4 "shows_never" iy FH ["floor","width","start","cell","thing"] 5 (G.et f')){IW:Addr}(Sb:C_ P w K mg base 2 "_law_due" eE IW ["_law_stands_here","_law_width","_law_start","_law_cell","_law_thing"] 5 G.fA):
  C_ P w K mg base 5 "law" lv f ["_law_script"] 1 (G.jt f'):=by
 refine bC F Du rfl (by decide) fun nd r_ A outer s H E hr=>?_;exact (aq (dw (fx:=[0]) PassesOwn.never rfl (ff rfl T.Em (af (ab (bf (mF rfl) (by rfl) T.GZ lq (ah ag (by exact (af (ab (bf (mG rfl) (by rfl) T.G0 lr (ah ag (by exact (af (ab (bf gO (by rfl) T.FP ir<|af<|vv 0)))))))))))))) (aR (i:=1) nd rfl (Or.inl rfl) (by decide)) (aq (aB (i:=2) nd rfl (Or.inl rfl) (aI C8 hr rfl (ah (vv 0) (by exact (af<|vv 1)))) (by decide)) (aq (aB (i:=3) nd rfl (Or.inl rfl) (aI R9 hr rfl<|af<|vv 2) (by decide)) (az (bA (bY (gL<|aN hr) (vv 3) (ab (aE (by exact eV)))<|bx _) (aq (fc (aI R_ hr rfl (ah (vv 2) (by exact (af<|vv 3)))) (jV rfl (fb (aR (i:=4) nd rfl (Or.inl rfl) (by decide)) (fb (aR (i:=5) nd rfl (Or.inl rfl) (by decide)) jU)))) (aq (aB (i:=6) nd rfl (Or.inl rfl) (aI Ol hr rfl (ah (vv 3) (by exact (af<|vv 4)))) (by decide)) (aq (aB (i:=7) nd rfl (Or.inl rfl) (aI Sa hr rfl (ah (vv 2) (by exact (ah (vv 6) (by exact (af<|vv 5)))))) (by decide)) (az (dw (fx:=[0]) PassesOwn.never rfl (ff rfl T.Em<|af ag) (aR (i:=8) nd rfl (Or.inl rfl) (by decide)) (aq (aB (i:=9) nd rfl (Or.inl rfl) (aI Ic hr rfl (ah (vv 2) (by exact (af<|vv 3)))) (by decide)) (az (dw (fx:=[7,0]) PassesOwn.never rfl (bT<|vv 7) (aR (i:=10) nd rfl (Or.inl rfl) (by decide)) (aq (aB (i:=11) nd rfl (Or.inl rfl) (aI C7 hr rfl (ah (vv 3) (by exact (ah (vv 4) (by exact (ah (vv 5) (by exact (ah (vv 9) (by exact (af<|vv 10)))))))))) (by decide)) (aq (aB (i:=12) nd rfl (Or.inl rfl) (aI Sb hr rfl (ah (vv 6) (by exact (ah (vv 4) (by exact (ah (vv 5) (by exact (ah (vv 9) (by exact (af<|vv 10)))))))))) (by decide))<|az<|bA (VW.vt<|eU (dG<|b6<|ab<|dy rfl T.k_ dE rfl T.F8 lj<|vv 11)<|eT<|bY (gL<|aN hr) (vv 11) (vv 12)<|bx _) (az<|aQ bv) bz)) (by decide) (iP (by decide))))) (by decide) gJ))))) bz)))) (by decide) gJ) (az (aQ (bL y6 (ab (aI C7 hr rfl (ah (ab (aE (by exact (ah (ab (aE (by exact (ah ag (by exact (af ag)))))) (by exact (af (ab (aE (by exact (ah ag (by exact (af ag)))))))))))) (by exact (ah ag (by exact (ah (ab (aE (by exact (ah ag (by exact (af ag)))))) (by exact (ah (ab (aE (by exact (ah ag (by exact (af ag)))))) (by exact (af (ab (aE (by exact (af (ab (aE (by exact (ah ag (by exact (af ag))))))))))))))))))))) (ab bv)<|bx _))))
end
theorem all_mk{w:World}{K:PySem.W.Frag}{h:Heap}{mg:Str->Option Value}{fa Om On Oo Op Oq Os Ot Ou Ov LR LS LT LU LV LW LX LY LZ L1 L3 L4:Addr}(X:K.In h)(Gg:h.Ns mainGlobals mg)(Oh:mg "law" = some (.ref fa))(r_w0:Raw K "is_whole" jy Om)(r_w1:Raw K "is_pair" gq H_)(r_w2:Raw K "is_rising" gr On)(r_w3:Raw K "lookup" iw Oo)(r_w4:Raw K "around" jz Op)(r_w5:Raw K "under" gs Oq)(r_w6:Raw K "fitting" ix Os)(r_w7:Raw K "shows_never" iy Ot)(r_w8:Raw K "_law_hand" jA Ou)(r_w9:Raw K "_law_take" gu Ov)(r_w10:Raw K "_law_of" fG LR)(r_w11:Raw K "_law_floor" jB LS)(r_w12:Raw K "_law_are_beside" iz LT)(r_w13:Raw K "_law_part" fH LU)(r_w14:Raw K "_law_under" gw LV)(r_w15:Raw K "_law_stands" iA LW)(r_w16:Raw K "_law_all_stands" fI LX)(r_w17:Raw K "_law_mower" jC LY)(r_w18:Raw K "_law_is_cell" jD LZ)(r_w19:Raw K "_law_due" eE L1)(r_w20:Raw K "_law_papers" jF L3)(r_law:Raw K "law" lv L4)(z_abs:PySem.W.nsIn K mainGlobals "abs" = some none)(z_all:PySem.W.nsIn K mainGlobals "all" = some none)(z_any:PySem.W.nsIn K mainGlobals "any" = some none)(z_bool:PySem.W.nsIn K mainGlobals "bool" = some none)(z_dict:PySem.W.nsIn K mainGlobals "dict" = some none)(z_int:PySem.W.nsIn K mainGlobals "int" = some none)(z_isinstance:PySem.W.nsIn K mainGlobals "isinstance" = some none)(z_len:PySem.W.nsIn K mainGlobals "len" = some none)(z_list:PySem.W.nsIn K mainGlobals "list" = some none)(z_max:PySem.W.nsIn K mainGlobals "max" = some none)(z_min:PySem.W.nsIn K mainGlobals "min" = some none)(z_range:PySem.W.nsIn K mainGlobals "range" = some none)(z_set:PySem.W.nsIn K mainGlobals "set" = some none)(z_sorted:PySem.W.nsIn K mainGlobals "sorted" = some none)(z_tuple:PySem.W.nsIn K mainGlobals "tuple" = some none)(z_zip:PySem.W.nsIn K mainGlobals "zip" = some none):
  ∃ fd:FuncData,(∀ (s:Shared) (v:Value),BindsTo s fd ⟨[v],[]⟩ [("_law_script",v)])/\∀ base:Heap,K.In base->base.Ns mainGlobals mg->EN l.prog w K mg base GT 5 fa fd ["_law_script"] (HL 1<|G.jt H_):=by
 have T:Txt mg:=⟨PySem.W.mg_none_of X Gg z_abs,PySem.W.mg_none_of X Gg z_all,PySem.W.mg_none_of X Gg z_any,PySem.W.mg_none_of X Gg z_bool,PySem.W.mg_none_of X Gg z_dict,PySem.W.mg_none_of X Gg z_int,PySem.W.mg_none_of X Gg z_isinstance,PySem.W.mg_none_of X Gg z_len,PySem.W.mg_none_of X Gg z_list,PySem.W.mg_none_of X Gg z_max,PySem.W.mg_none_of X Gg z_min,PySem.W.mg_none_of X Gg z_range,PySem.W.mg_none_of X Gg z_set,PySem.W.mg_none_of X Gg z_sorted,PySem.W.mg_none_of X Gg z_tuple,PySem.W.mg_none_of X Gg z_zip⟩;have h_w0:=r_w0.b1 (ps:=["thing"]) X Gg fun _ _ _ _ _ _ _=>rfl;have h_w1:=r_w1.b1 (ps:=["thing"]) X Gg fun _ _ _ _ _ _ _=>rfl;have h_w2:=r_w2.b2 (ps:=["thing","is_kind"]) X Gg fun _ _ _ _ _ _ _ _=>rfl;have h_w3:=r_w3.b1 (ps:=["things"]) X Gg fun _ _ _ _ _ _ _=>rfl;have h_w4:=r_w4.b1 (ps:=["cell"]) X Gg fun _ _ _ _ _ _ _=>rfl;have h_w5:=r_w5.b2 (ps:=["place","width"]) X Gg fun _ _ _ _ _ _ _ _=>rfl;have h_w6:=r_w6.b2 (ps:=["floor","width"]) X Gg fun _ _ _ _ _ _ _ _=>rfl;have h_w7:=r_w7.b5 (ps:=["floor","width","start","cell","thing"]) X Gg fun _ _ _ _ _ _ _ _ _ _ _=>rfl;have h_w8:=r_w8.b2 (ps:=["_law_script","_law_k"]) X Gg fun _ _ _ _ _ _ _ _=>rfl;have h_w9:=r_w9.b2 (ps:=["_law_hand_here","_law_many"]) X Gg fun _ _ _ _ _ _ _ _=>rfl;have h_w10:=r_w10.b2 (ps:=["_law_hand_here","_law_some"]) X Gg fun _ _ _ _ _ _ _ _=>rfl;have h_w11:=r_w11.b1 (ps:=["_law_hand_here"]) X Gg fun _ _ _ _ _ _ _=>rfl;have h_w12:=r_w12.b2 (ps:=["_law_one","_law_other"]) X Gg fun _ _ _ _ _ _ _ _=>rfl;have h_w13:=r_w13.b2 (ps:=["_law_floor_here","_law_cell"]) X Gg fun _ _ _ _ _ _ _ _=>rfl;have h_w14:=r_w14.b2 (ps:=["_law_place","_law_width"]) X Gg fun _ _ _ _ _ _ _ _=>rfl;have h_w15:=r_w15.b3 (ps:=["_law_known","_law_width","_law_place"]) X Gg fun _ _ _ _ _ _ _ _ _=>rfl;have h_w16:=r_w16.b2 (ps:=["_law_floor_here","_law_width"]) X Gg fun _ _ _ _ _ _ _ _=>rfl;have h_w17:=r_w17.b2 (ps:=["_law_hand_here","_law_floor_here"]) X Gg fun _ _ _ _ _ _ _ _=>rfl;have h_w18:=r_w18.b1 (ps:=["_law_thing"]) X Gg fun _ _ _ _ _ _ _=>rfl;have h_w19:=r_w19.b5 (ps:=["_law_stands_here","_law_width","_law_start","_law_cell","_law_thing"]) X Gg fun _ _ _ _ _ _ _ _ _ _ _=>rfl;have h_w20:=r_w20.b3 (ps:=["_law_hand_here","_law_stands_here","_law_start"]) X Gg fun _ _ _ _ _ _ _ _ _=>rfl;have h_law:=r_law.b1 (ps:=["_law_script"]) X Gg fun _ _ _ _ _ _ _=>rfl;refine Cg r_law X Gg Oh (fun _ _ _ _ _ _ _ _=>.of_eq rfl) fun base=>?_;have Ow:=Cz (P:=l.prog) (w:=w) (base:=base) h_w0 T;have Kg:=CB (P:=l.prog) (w:=w) (base:=base) h_w1 T Ow;have Ox:=CD (P:=l.prog) (w:=w) (base:=base) h_w2 T Kg;have L5:=CG (P:=l.prog) (w:=w) (base:=base) h_w3 T;have Oy:=CI (P:=l.prog) (w:=w) (base:=base) h_w4 T;have L6:=CK (P:=l.prog) (w:=w) (base:=base) h_w5 T;have Oz:=CM (P:=l.prog) (w:=w) (base:=base) h_w6 T L5 L6;have OA:=CO (P:=l.prog) (w:=w) (base:=base) h_w7 T Kg Ox Oz L5 L6 Oy;have OB:=CQ (P:=l.prog) (w:=w) (base:=base) h_w8 T;have Kh:=CT (P:=l.prog) (w:=w) (base:=base) h_w9 T;have G7:=CV (P:=l.prog) (w:=w) (base:=base) h_w10 T Kh;have L7:=CY (P:=l.prog) (w:=w) (base:=base) h_w11 T Kh G7;have Jp:=Da (P:=l.prog) (w:=w) (base:=base) h_w12 T;have L8:=Dc (P:=l.prog) (w:=w) (base:=base) h_w13 T Jp;have Jq:=Df (P:=l.prog) (w:=w) (base:=base) h_w14 T;have L9:=Dh (P:=l.prog) (w:=w) (base:=base) h_w15 T Jq;have Jr:=Dj (P:=l.prog) (w:=w) (base:=base) h_w16 T L9;have L':=Dm (P:=l.prog) (w:=w) (base:=base) h_w17 T G7 Jr;have L_:=Dp (P:=l.prog) (w:=w) (base:=base) h_w18 T;have Ma:=Dr (P:=l.prog) (w:=w) (base:=base) h_w19 T L_ Jp Jq;have Mb:=Dt (P:=l.prog) (w:=w) (base:=base) h_w20 T L8 Kh G7;exact Dv h_law T Kg OB L7 L' Jr Mb G7 OA Ma
theorem walk{q:Program}{loose:List Str}{XP:(Str->Option Value)->Heap->Prop}{YP:World->Heap->Prop}{d:DefRec}{K:Params->PySem.W.Frag}(hn:l.most=some 63)(K2:d.params.defaults=[])(hY:∀ (w:World) (h:Heap),YP w h->(K w.params).In h)(hK:∀ p,jw (K p)=true)(F:∀ (w:World) (mg:Str->Option Value) (fa:Addr) (h:Heap),(K w.params).In h->h.Ns mainGlobals mg->mg d.name=some (.ref fa)->
   ∃ fd:FuncData,(∀ (s:Shared) (u:Value),BindsTo s fd ⟨[u],[]⟩ [("_law_script",u)])/\∀ base:Heap,(K w.params).In base->base.Ns mainGlobals mg->EN l.prog w (K w.params) mg base GT 5 fa fd ["_law_script"] (HL 1<|G.jt H_)):
  PySem.W.WalkO q loose XP YP l.row.toRowW d [] (fun f vs=>PySem.call f vs):=
 L2.xR (n:=63) (k:=5) (x := "_law_script") (CX:=fun _=>GT) (sp:=fun w=>HL 1<|G.jt H_) hn (by decide) K2 ⟨rfl,by decide,by decide,rfl⟩ hY F (fun w H a ns hl hO hS=>Ce (hK w.params) H a ns hO hS (G.Cc H_ ns (lt_of_le_of_lt hl (by decide)))) fun _ _ _ _ _ z=>z
end K09
def PySem.W.Fast.tw6671238064063278775:=0
def PySem.W.Fast.tw18072464904726536480:=0
def PySem.W.Fast.tw6934121885818867104:=0
def PySem.W.Fast.tw13713648610947037728:=0
def PySem.W.Fast.tw10803655090355714721:=0
def PySem.W.Fast.tw894053997115378338:=0
def PySem.W.Fast.tw8695129815579368707:=0
def PySem.W.Fast.tw17987802401132596739:=0
def PySem.W.Fast.tw8952290676681575267:=0
def PySem.W.Fast.tw2952674014772520260:=0
def PySem.W.Fast.tw9425556416891455876:=0
def PySem.W.Fast.tw12220104107463635878:=0
def PySem.W.Fast.tw3742471876533712103:=0
def PySem.W.Fast.tw10514837202057847399:=0
def PySem.W.Fast.tw1290036054592221352:=0
def PySem.W.Fast.tw17386163426202050312:=0
def PySem.W.Fast.tw17942476301996840201:=0
def PySem.W.Fast.tw6829637466141158250:=0
def PySem.W.Fast.tw4308446785721140811:=0
def PySem.W.Fast.tw3850007199484703118:=0
def PySem.W.Fast.tw1881618852825796687:=0
def PySem.W.Fast.tw18407783824837315215:=0
def PySem.W.Fast.tw3622556760318682512:=0
def PySem.W.Fast.tw4410809408453390737:=0
def PySem.W.Fast.tw7051014391326672401:=0
def PySem.W.Fast.tw9439449385674257201:=0
def PySem.W.Fast.tw10980815712653442386:=0
def PySem.W.Fast.tw13797135107134897810:=0
def PySem.W.Fast.tw11788495823217249300:=0
def PySem.W.Fast.tw15638243419454335061:=0
def PySem.W.Fast.tw13486993837638544117:=0
def PySem.W.Fast.tw2273191252092125270:=0
def PySem.W.Fast.tw9528712997468114551:=0
def PySem.W.Fast.tw13847055237870177656:=0
def PySem.W.Fast.tw505628352526366873:=0
def PySem.W.Fast.tw1296807665070109404:=0
def PySem.W.Fast.tw8522525476393055613:=0
def PySem.W.Fast.tw9192278164151805054:=0
def PySem.W.Fast.tw15125716151903683615:=0
open PySem PySem.W PyProof.Rows
set_option maxRecDepth 100000 in
set_option maxHeartbeats 0 in
theorem PySem.Challenge.cw_mowfloor_k09_papers_of_never_holds : PySem.Challenge.rw_mowfloor_k09_papers_of_never.Holds := by
  w_on; o_law; k_head; (case hw => w_witness2)
  k_fill
  refine' K09.walk (l := PySem.Challenge.rw_mowfloor_k09_papers_of_never) rfl rfl (fun w h Y => PySem.W.kIn_of Y) ?hK ?F
  case hK => intro p; rfl
  case F =>
    intro w mg fa h KX G hmg
    refine' K09.all_mk KX G hmg ?r_w0 ?r_w1 ?r_w2 ?r_w3 ?r_w4 ?r_w5 ?r_w6 ?r_w7 ?r_w8 ?r_w9 ?r_w10 ?r_w11 ?r_w12 ?r_w13 ?r_w14 ?r_w15 ?r_w16 ?r_w17 ?r_w18 ?r_w19 ?r_w20 ?r_law ?z_abs ?z_all ?z_any ?z_bool ?z_dict ?z_int ?z_isinstance ?z_len ?z_list ?z_max ?z_min ?z_range ?z_set ?z_sorted ?z_tuple ?z_zip
    case r_w0 | r_w1 | r_w2 | r_w3 | r_w4 | r_w5 | r_w6 | r_w7 | r_w8 | r_w9 | r_w10 | r_w11 | r_w12 | r_w13 | r_w14 | r_w15 | r_w16 | r_w17 | r_w18 | r_w19 | r_w20 | r_law => refine' L2.Cf ?a ?l ?c ?k; (case a => k_is); (case l => k_is); (case c => k_is); (case k => k_is)
    case z_abs | z_all | z_any | z_bool | z_dict | z_int | z_isinstance | z_len | z_list | z_max | z_min | z_range | z_set | z_sorted | z_tuple | z_zip => k_is
