import PyProof.Rows.All
import Wide.All
import OpenK.AllK
import Wide.FinOn
import Lean
import PyProof.EqAt
import PyProof.EqKinds
import PyProof.TupleCall
import PyProof.IsiNone
import PyProof.NeKinds
import PyProof.MaxThree
import PyProof.Rows.SetFrom
import PyProof.WalksMore
import PySem.Challenge.RW_mowfloor_k51_whole_times_shown
set_option Elab.async false
set_option linter.all false
set_option maxRecDepth 100000
namespace L2
open PySem PySem.Spec PyProof.Rows
inductive Im where
 | non | bl (b:Bool) | int (i:Int) | str (x:Str) | tup (ds:List Im) | fn (a:Addr) | fl (ds:List Im)
mutual
noncomputable def Im.beq:Im→Im→Bool
 | .non,.non=>true
 | .bl a,.bl b=>a == b
 | .int i,.int j=>decide (i=j)
 | .str x,.str y=>decide (x=y)
 | .tup a,.tup b=>Im.beqs a b
 | .fn a,.fn b=>decide (a=b)
 | .fl a,.fl b=>Im.beqs a b
 | _,_=>false
noncomputable def Im.beqs:List Im→List Im→Bool
 | [],[]=>true
 | a::r,b::t=>Im.beq a b && Im.beqs r t
 | _,_=>false
end
mutual
theorem Im.beq_iff:∀ a b:Im,Im.beq a b=true↔a=b
 | .non,b=>by cases b<;>simp[Im.beq]
 | .bl a,b=>by cases b<;>simp[Im.beq]
 | .int i,b=>by cases b<;>simp[Im.beq]
 | .str x,b=>by cases b<;>simp[Im.beq]
 | .tup x,b=>by
  cases b with
  | tup y=>rw[Im.beq,Im.beqs_iff x y];simp
  | _=>simp[Im.beq]
 | .fn a,b=>by cases b<;>simp[Im.beq]
 | .fl x,b=>by
  cases b with
  | fl y=>rw[Im.beq,Im.beqs_iff x y];simp
  | _=>simp[Im.beq]
theorem Im.beqs_iff:∀ a b:List Im,Im.beqs a b=true↔a=b
 | [],b=>by cases b<;>simp[Im.beqs]
 | x::r,b=>by
  cases b with
  | nil=>simp[Im.beqs]
  | cons y t=>rw[Im.beqs,Bool.and_eq_true,Im.beq_iff x y,Im.beqs_iff r t];simp
end
noncomputable instance:DecidableEq Im:=fun a b=>decidable_of_iff (Im.beq a b=true) (Im.beq_iff a b)
mutual
noncomputable def ImV (h:Heap):Im→Value→Prop
 | .non,v=>v=.none
 | .bl b,v=>v=.bool b
 | .int i,v=>∃ t,v=.int i t
 | .str x,v=>∃ t,v=.str x t
 | .fn a,v=>v=.ref a
 | .fl _,v=>∃ a,v=.ref a
 | .tup ds,v=>∃ a o items n,v=.ref a∧h.get? a=some o∧o.cls=.type "tuple" ∧ o.data=.seq items n∧bA h ds items.toList
noncomputable def bA (h:Heap):List Im→List Value→Prop
 | [],vs=>vs=[]
 | d::ds,vs=>∃ v r,vs=v::r∧ImV h d v∧bA h ds r
end
mutual
noncomputable def Im.key:Nat→Im→Bool
 | _,.int _=>true
 | _,.str _=>true
 | n+1,.tup ds=>Im.keys n ds
 | _,_=>false
noncomputable def Im.keys:Nat→List Im→Bool
 | _,[]=>true
 | n,d::ds=>Im.key n d && Im.keys n ds
end
mutual
noncomputable def imH (w:World):Im→Int
 | .int i=>hashInt i
 | .str x=>hashStr w x
 | .tup ds=>reduceHash (Builtin.Tuple.tupleHashOf (ce w ds))
 | _=>0
noncomputable def ce (w:World):List Im→List Int
 | []=>[]
 | d::ds=>imH w d::ce w ds
end
mutual
noncomputable def imD:Im→Nat
 | .tup ds=>cY ds+1
 | _=>1
noncomputable def cY:List Im→Nat
 | []=>0
 | d::ds=>imD d+cY ds
end
theorem ki (w:World):∀ a b:List Im,ce w (a++b)=ce w a++ce w b
 | [],b=>rfl
 | d::a,b=>by rw[List.cons_append,ce,ce,ki w a b,List.cons_append]
theorem kj:∀ a b:List Im,cY (a++b)=cY a+cY b
 | [],b=>by simp[cY]
 | d::a,b=>by rw[List.cons_append,cY,cY,kj a b];lia
theorem mC {n:Nat}:∀ {a b:List Im},Im.keys n (a++b)=true→Im.keys n b=true
 | [],b,h=>h
 | d::a,b,h=>by rw[List.cons_append,Im.keys,Bool.and_eq_true] at h;exact mC h.2
theorem bA.length {h:Heap}:∀ {ds:List Im}{vs:List Value},bA h ds vs→ds.length=vs.length
 | [],vs,e=>by rw[show vs=[] from e];rfl
 | d::ds,vs,e=>by
  obtain⟨v,r,rfl,_,e⟩:=e
  rw[List.length_cons,List.length_cons,bA.length e]
noncomputable def mD (h h':Heap):Prop:=∀ a o items n,h.get? a=some o→o.cls=.type "tuple" → o.data=.seq items n→h'.get? a=some o
mutual
theorem ImV.keep {h h':Heap} (k:mD h h'):∀ {d:Im}{v:Value},ImV h d v→ImV h' d v
 | .non,_,e=>e
 | .bl _,_,e=>e
 | .int _,_,e=>e
 | .str _,_,e=>e
 | .fn _,_,e=>e
 | .fl _,_,e=>e
 | .tup ds,_,e=>by
  obtain⟨a,o,items,n,rfl,h1,h2,h3,h4⟩:=e
  exact⟨a,o,items,n,rfl,k a o items n h1 h2 h3,h2,h3,bA.keep k h4⟩
theorem bA.keep {h h':Heap} (k:mD h h'):∀ {ds:List Im}{vs:List Value},bA h ds vs→bA h' ds vs
 | [],_,e=>e
 | d::ds,_,e=>by
  obtain⟨v,r,rfl,h1,h2⟩:=e
  exact⟨v,r,rfl,ImV.keep k h1,bA.keep k h2⟩
end
theorem mE {h:Heap}:∀ (n:Nat) {x y:Im}{v:Value},Im.key n x=true→Im.key n y=true→ImV h x v→ImV h y v→x=y
 | n,.int i,y,v,_,ky,hx,hy=>by
  obtain⟨t,rfl⟩:=hx
  cases y with
  | int j=>obtain⟨u,e⟩:=hy;injection e with e;rw[e]
  | str z=>obtain⟨u,e⟩:=hy;cases e
  | tup ds=>obtain⟨_,_,_,_,e,_⟩:=hy;cases e
  | _=>cases n<;>cases ky
 | n,.str z,y,v,_,ky,hx,hy=>by
  obtain⟨t,rfl⟩:=hx
  cases y with
  | int j=>obtain⟨u,e⟩:=hy;cases e
  | str z=>obtain⟨u,e⟩:=hy;injection e with e;rw[e]
  | tup ds=>obtain⟨_,_,_,_,e,_⟩:=hy;cases e
  | _=>cases n<;>cases ky
 | n+1,.tup ds,y,v,kx,ky,hx,hy=>by
  obtain⟨a,o,items,m,rfl,h1,h2,h3,h4⟩:=hx
  cases y with
  | int j=>obtain⟨u,e⟩:=hy;cases e
  | str z=>obtain⟨u,e⟩:=hy;cases e
  | tup es=>
   obtain⟨a',o',items',m',e,g1,g2,g3,g4⟩:=hy
   cases e
   rw[h1] at g1
   cases g1
   rw[h3] at g3
   injection g3 with g3 _
   subst g3
   have all:∀ (ds es:List Im) (vs:List Value),Im.keys n ds=true→Im.keys n es=true→bA h ds vs→bA h es vs→ds=es:=by
    intro ds
    induction ds with
    | nil=>
     intro es vs _ _ a b
     cases es with
     | nil=>rfl
     | cons e es=>obtain⟨_,_,q,_⟩:=b;rw[show vs=[] from a] at q;cases q
    | cons d ds ih=>
     intro es vs k1 k2 a b
     obtain⟨v,r,rfl,a1,a2⟩:=a
     cases es with
     | nil=>cases (show v::r=[] from b)
     | cons e es=>
      obtain⟨v',r',q,b1,b2⟩:=b
      cases q
      rw[Im.keys,Bool.and_eq_true] at k1 k2
      rw[mE n k1.1 k2.1 a1 b1,ih es r k1.2 k2.2 a2 b2]
   rw[all ds es _ kx ky h4 g4]
  | _=>cases ky
 | _,.non,_,_,k,_,_,_=>by cases ‹Nat›<;>cases k
 | _,.bl _,_,_,k,_,_,_=>by cases ‹Nat›<;>cases k
 | _,.fn _,_,_,k,_,_,_=>by cases ‹Nat›<;>cases k
 | _,.fl _,_,_,k,_,_,_=>by cases ‹Nat›<;>cases k
 | 0,.tup _,_,_,k,_,_,_=>by cases k
section
variable {prog:Program}{w:World}
theorem mF:∀ (n:Nat) {A:Around}{E:Value→Shared→Prop}{s:Shared}{d:Im}{v:Value}{Q:Int→Shared→Prop},Im.key n d=true→A.units+n<cLine→ImV s.heap d v→Q (imH w d) { s with toks:=s.toks+imD d }→
  wpAny (model prog w) A (pyHash v) Q E s
 | n,A,E,s,.int i,v,Q,_,_,hv,h=>by
  obtain⟨t,rfl⟩:=hv
  exact wpAny_pyHash_int h
 | n,A,E,s,.str i,v,Q,_,_,hv,h=>by
  obtain⟨t,rfl⟩:=hv
  exact wpAny_pyHash_str h
 | n+1,A,E,s,.tup ds,v,Q,k,hu,hv,h=>by
  obtain⟨a,o,items,m,rfl,ho,hc,hd,hi⟩:=hv
  have hT:s.TypeIs (.ref a) "tuple" := ⟨o,ho,hc⟩
  unfold pyHash
  first | unfold pyHashByItsType | skip
  first | refine wpAny_bind (wpAny_cRoomFor_or (.inr (by lia)) ?_) | skip
  refine wpAny_bind (wpAny_specialOf hT F.slot_tuple_hash.lookup ?_)
  show wpAny _ _ (if (some (Value.builtin "tuple.__hash__") == some Value.none)=true then _ else _) Q E s
  rw[if_neg (by rw[beq_builtin_none];exact Bool.false_ne_true)]
  refine wpAny_bind (wpAny_specialOf hT F.slot_tuple_hash.lookup ?_)
  show wpAny _ _ (callSpecialIfBoundUnlessNone? (.ref a) "__hash__" _ >>= _) Q E s
  refine wpAny_bind (wpAny_callSpecialIfBoundUnlessNone?_slot hT F.slot_tuple_hash (wpAny_call_entry F.slot_tuple_hash hT F.entry_tuple_hash ?_ (F.args_tuple_hash_1 _)))
  show wpAny _ _ (Builtin.Tuple.tupleItemsOf (.ref a) >>= _) _ _ s
  refine wpAny_bind (wpAny_tupleItemsOf ho hd ?_)
  refine wpAny_bind ?_
  rw[← Array.forIn_toList]
  refine wpAny_forIn_list _
   (fun rest (b:Array Int) s'=>∃ done left,ds=done++left∧bA s.heap left rest∧b.toList=ce w done∧s'={ s with toks:=s.toks+cY done })
   _ ?_ ?_ _ _ ⟨[],ds,rfl,hi,rfl,rfl⟩
  ·rintro x rest b s' ⟨done,left,rfl,hl,hb,rfl⟩
   cases left with
   | nil=>cases (show x::rest=[] from hl)
   | cons d left=>
    obtain⟨v,r,e,h1,hl'⟩:=hl
    cases e
    have k2:=mC (a:=done) (show Im.keys n (done++d::left)=true from k)
    rw[Im.keys,Bool.and_eq_true] at k2
    refine wpAny_bind (mF n k2.1 (by show A.units+1+n<cLine;lia) h1 ?_)
    first
     | exact wpAny_pure ⟨done++[d],left,by simp,hl',by simp[hb,ki,ce],by simp[kj,cY,Nat.add_assoc]⟩
     | exact wpAny_bind (wpAny_pure (wpAny_pure ⟨done++[d],left,by simp,hl',by simp[hb,ki,ce],by simp[kj,cY,Nat.add_assoc]⟩))
  ·rintro b s' ⟨done,left,rfl,hl,hb,rfl⟩
   cases left with
   | cons d left=>obtain⟨_,_,e,_⟩:=hl;cases e
   | nil=>
   rw[List.append_nil] at h
   show wpAny _ _ (retInt (Builtin.Tuple.tupleHashOf b.toList)) _ _ _
   rw[hb]
   refine wpAny_ret_mkInt ?_
   show wpAny _ _ (if (decide (-(2:Int) ^ 63≤Builtin.Tuple.tupleHashOf (ce w done)) && decide (Builtin.Tuple.tupleHashOf (ce w done)<2 ^ 63))=true then _ else _) Q E _
   rw[imH,imD] at h
   unfold reduceHash at h
   by_cases hr:(decide (-(2:Int) ^ 63≤Builtin.Tuple.tupleHashOf (ce w done)) && decide (Builtin.Tuple.tupleHashOf (ce w done)<2 ^ 63))=true
   ·rw[if_pos hr]
    rw[if_pos hr] at h
    exact wpAny_pure (by simpa [Nat.add_assoc] using h)
   ·rw[if_neg hr]
    rw[if_neg hr] at h
    exact wpAny_bind (wpAny_rule (wpAny_pure (by simpa [Nat.add_assoc] using h)))
 | _,_,_,_,.non,_,_,k,_,_,_=>by cases ‹Nat›<;>cases k
 | _,_,_,_,.bl _,_,_,k,_,_,_=>by cases ‹Nat›<;>cases k
 | _,_,_,_,.fn _,_,_,k,_,_,_=>by cases ‹Nat›<;>cases k
 | _,_,_,_,.fl _,_,_,k,_,_,_=>by cases ‹Nat›<;>cases k
 | 0,_,_,_,.tup _,_,_,k,_,_,_=>by cases k
mutual
noncomputable def aB:Im→Im→Bool
 | .non,.non=>true
 | .bl a,.bl b=>a == b
 | .bl a,.int j=>(if a then 1 else 0) == j
 | .int i,.bl b=>i == (if b then 1 else 0)
 | .int i,.int j=>i == j
 | .str x,.str y=>x == y
 | .tup a,.tup b=>bm a b
 | _,_=>false
noncomputable def bm:List Im→List Im→Bool
 | [],[]=>true
 | a::r,b::t=>aB a b && bm r t
 | _,_=>false
end
mutual
noncomputable def Im.pl:Nat→Im→Bool
 | _,.non=>true
 | _,.bl _=>true
 | _,.int _=>true
 | _,.str _=>true
 | n+1,.tup ds=>Im.pls n ds
 | _,_=>false
noncomputable def Im.pls:Nat→List Im→Bool
 | _,[]=>true
 | n,d::ds=>Im.pl n d && Im.pls n ds
end
theorem cZ {n:Nat}:∀ {ds:List Im}{j:Nat}{d:Im},Im.pls n ds=true→ds[j]?=some d→Im.pl n d=true
 | [],j,d,_,h=>by simp at h
 | e::ds,0,d,k,h=>by
  rw[Im.pls,Bool.and_eq_true] at k
  simp at h
  subst h
  exact k.1
 | e::ds,j+1,d,k,h=>by
  rw[Im.pls,Bool.and_eq_true] at k
  exact cZ k.2 (by simpa using h)
theorem bA.get {h:Heap}:∀ {ds:List Im}{vs:List Value}{j:Nat}{v:Value},bA h ds vs→vs[j]?=some v→∃ d,ds[j]?=some d∧ImV h d v
 | [],vs,j,v,a,e=>by rw[show vs=[] from a] at e;simp at e
 | d::ds,vs,0,v,a,e=>by
  obtain⟨u,r,rfl,a1,a2⟩:=a
  simp at e
  subst e
  exact⟨d,rfl,a1⟩
 | d::ds,vs,j+1,v,a,e=>by
  obtain⟨u,r,rfl,a1,a2⟩:=a
  obtain⟨d',h1,h2⟩:=bA.get (j:=j) a2 (by simpa using e)
  exact⟨d',by simpa using h1,h2⟩
theorem mG {h:Heap}:∀ (n:Nat) {x y:Im}{v:Value},Im.pl n x=true→Im.pl n y=true→ImV h x v→ImV h y v→aB x y=true
 | n,.non,y,v,_,ky,hx,hy=>by
  cases (show v=.none from hx)
  cases y with
  | non=>rfl
  | bl b=>cases hy
  | int j=>obtain⟨u,e⟩:=hy;cases e
  | str z=>obtain⟨u,e⟩:=hy;cases e
  | tup ds=>obtain⟨_,_,_,_,e,_⟩:=hy;cases e
  | fn a=>cases n<;>cases ky
  | fl a=>cases n<;>cases ky
 | n,.bl b,y,v,_,ky,hx,hy=>by
  cases (show v=.bool b from hx)
  cases y with
  | non=>cases hy
  | bl c=>cases hy;simp[aB]
  | int j=>obtain⟨u,e⟩:=hy;cases e
  | str z=>obtain⟨u,e⟩:=hy;cases e
  | tup ds=>obtain⟨_,_,_,_,e,_⟩:=hy;cases e
  | fn a=>cases n<;>cases ky
  | fl a=>cases n<;>cases ky
 | n,.int i,y,v,_,ky,hx,hy=>by
  obtain⟨t,rfl⟩:=hx
  cases y with
  | non=>cases hy
  | bl c=>cases hy
  | int j=>obtain⟨u,e⟩:=hy;cases e;simp[aB]
  | str z=>obtain⟨u,e⟩:=hy;cases e
  | tup ds=>obtain⟨_,_,_,_,e,_⟩:=hy;cases e
  | fn a=>cases n<;>cases ky
  | fl a=>cases n<;>cases ky
 | n,.str i,y,v,_,ky,hx,hy=>by
  obtain⟨t,rfl⟩:=hx
  cases y with
  | non=>cases hy
  | bl c=>cases hy
  | int j=>obtain⟨u,e⟩:=hy;cases e
  | str z=>obtain⟨u,e⟩:=hy;cases e;simp[aB]
  | tup ds=>obtain⟨_,_,_,_,e,_⟩:=hy;cases e
  | fn a=>cases n<;>cases ky
  | fl a=>cases n<;>cases ky
 | n+1,.tup ds,y,v,kx,ky,hx,hy=>by
  obtain⟨a,o,items,m,rfl,h1,h2,h3,h4⟩:=hx
  cases y with
  | non=>cases hy
  | bl c=>cases hy
  | int j=>obtain⟨u,e⟩:=hy;cases e
  | str z=>obtain⟨u,e⟩:=hy;cases e
  | fn a=>cases ky
  | fl a=>cases ky
  | tup es=>
   obtain⟨a',o',items',m',e,g1,g2,g3,g4⟩:=hy
   cases e
   rw[h1] at g1
   cases g1
   rw[h3] at g3
   injection g3 with g3 _
   subst g3
   have all:∀ (ds es:List Im) (vs:List Value),Im.pls n ds=true→Im.pls n es=true→bA h ds vs→bA h es vs→bm ds es=true:=by
    intro ds
    induction ds with
    | nil=>
     intro es vs _ _ a b
     cases es with
     | nil=>rfl
     | cons e es=>obtain⟨_,_,q,_⟩:=b;rw[show vs=[] from a] at q;cases q
    | cons d ds ih=>
     intro es vs k1 k2 a b
     obtain⟨v,r,rfl,a1,a2⟩:=a
     cases es with
     | nil=>cases (show v::r=[] from b)
     | cons e es=>
      obtain⟨v',r',q,b1,b2⟩:=b
      cases q
      rw[Im.pls,Bool.and_eq_true] at k1 k2
      rw[bm,mG n k1.1 k2.1 a1 b1,ih es r k1.2 k2.2 a2 b2]
      rfl
   rw[aB]
   exact all ds es _ kx ky h4 g4
 | n,.fn _,_,_,k,_,_,_=>by cases n<;>cases k
 | n,.fl _,_,_,k,_,_,_=>by cases n<;>cases k
 | 0,.tup _,_,_,k,_,_,_=>by cases k
theorem hU {e:Nat→Bool}:∀ {ds es:List Im},(∀ (j:Nat) (x y:Im),ds[j]?=some x→es[j]?=some y→e j=aB x y)→((List.range (min ds.length es.length)).all e && ds.length == es.length)=bm ds es:=by
 have key:∀ (ds es:List Im) (f:Nat→Bool),(∀ (j:Nat) (x y:Im),ds[j]?=some x→es[j]?=some y→f j=aB x y)→((List.range (min ds.length es.length)).all f && ds.length == es.length)=bm ds es:=by
  intro ds
  induction ds with
  | nil=>intro es f _;cases es<;>simp[bm]
  | cons d ds ih=>
   intro es f h
   cases es with
   | nil=>simp[bm]
   | cons c es=>
    have:=ih es (fun j=>f (j+1)) fun j x y a b=>h (j+1) x y (by simpa using a) (by simpa using b)
    rw[bm,← this,← h 0 d c rfl rfl]
    rw[List.length_cons,List.length_cons,show min (ds.length+1) (es.length+1)=min ds.length es.length+1 by lia,List.range_succ_eq_map,List.all_cons,List.all_map,Bool.and_assoc]
    congr 2
    rw[Bool.eq_iff_iff]
    simp
 exact fun {ds es} h=>key ds es e h
theorem gf {s:Shared}:∀ (n:Nat) {A:Around}{x y:Im}{u v:Value},Im.pl n x=true→Im.pl n y=true→A.units+n+1<cLine→ImV s.heap x u→ImV s.heap y v→SeqAt.EqAt A s u v (aB x y)
 | n,A,.non,y,u,v,_,ky,hu,hx,hy=>by
  cases (show u=.none from hx)
  cases y with
  | non=>cases (show v=.none from hy);exact SeqAt.EqAt.same _
  | bl b=>cases (show v=.bool b from hy);exact SeqAt.EqAt.none_bool b
  | int j=>obtain⟨t,rfl⟩:=hy;exact SeqAt.EqAt.none_int j t
  | str z=>obtain⟨t,rfl⟩:=hy;exact SeqAt.EqAt.none_str z t
  | tup ds=>obtain⟨a,o,items,m,rfl,h1,h2,h3,_⟩:=hy;exact SeqAt.EqAt.none_tuple ⟨o,h1,h2,m,h3⟩ (by lia)
  | fn a=>cases n<;>cases ky
  | fl a=>cases n<;>cases ky
 | n,A,.bl b,y,u,v,_,ky,hu,hx,hy=>by
  cases (show u=.bool b from hx)
  cases y with
  | non=>cases (show v=.none from hy);exact SeqAt.EqAt.bool_none b
  | bl c=>cases (show v=.bool c from hy);exact SeqAt.EqAt.bool_bool b c
  | int j=>obtain⟨t,rfl⟩:=hy;exact SeqAt.EqAt.bool_int b j t
  | str z=>obtain⟨t,rfl⟩:=hy;exact SeqAt.EqAt.bool_str b z t
  | tup ds=>obtain⟨a,o,items,m,rfl,h1,h2,h3,_⟩:=hy;exact SeqAt.EqAt.bool_tuple b ⟨o,h1,h2,m,h3⟩ (by lia)
  | fn a=>cases n<;>cases ky
  | fl a=>cases n<;>cases ky
 | n,A,.int i,y,u,v,_,ky,hu,hx,hy=>by
  obtain⟨t0,rfl⟩:=hx
  cases y with
  | non=>cases (show v=.none from hy);exact SeqAt.EqAt.int_none i t0
  | bl c=>cases (show v=.bool c from hy);exact SeqAt.EqAt.int_bool i t0 c
  | int j=>obtain⟨t,rfl⟩:=hy;exact SeqAt.EqAt.int_int i t0 j t
  | str z=>obtain⟨t,rfl⟩:=hy;exact SeqAt.EqAt.int_str i t0 z t
  | tup ds=>obtain⟨a,o,items,m,rfl,h1,h2,h3,_⟩:=hy;exact SeqAt.EqAt.int_tuple i t0 ⟨o,h1,h2,m,h3⟩ (by lia)
  | fn a=>cases n<;>cases ky
  | fl a=>cases n<;>cases ky
 | n,A,.str i,y,u,v,_,ky,hu,hx,hy=>by
  obtain⟨t0,rfl⟩:=hx
  cases y with
  | non=>cases (show v=.none from hy);exact SeqAt.EqAt.str_none i t0
  | bl c=>cases (show v=.bool c from hy);exact SeqAt.EqAt.str_bool i t0 c
  | int j=>obtain⟨t,rfl⟩:=hy;exact SeqAt.EqAt.str_int i t0 j t
  | str z=>obtain⟨t,rfl⟩:=hy;exact SeqAt.EqAt.str_str i t0 z t
  | tup ds=>obtain⟨a,o,items,m,rfl,h1,h2,h3,_⟩:=hy;exact SeqAt.EqAt.str_tuple i t0 ⟨o,h1,h2,m,h3⟩ (by lia)
  | fn a=>cases n<;>cases ky
  | fl a=>cases n<;>cases ky
 | n+1,A,.tup ds,y,u,v,kx,ky,hu,hx,hy=>by
  have hx':=hx
  obtain⟨a,o,items,m,rfl,h1,h2,h3,h4⟩:=hx
  have ta:s.heap.IsTuple a items:=⟨o,h1,h2,m,h3⟩
  cases y with
  | non=>cases (show v=.none from hy);exact SeqAt.EqAt.tuple_none ta (by lia)
  | bl c=>cases (show v=.bool c from hy);exact SeqAt.EqAt.tuple_bool c ta (by lia)
  | int j=>obtain⟨t,rfl⟩:=hy;exact SeqAt.EqAt.tuple_int j t ta (by lia)
  | str z=>obtain⟨t,rfl⟩:=hy;exact SeqAt.EqAt.tuple_str z t ta (by lia)
  | fn a=>cases ky
  | fl a=>cases ky
  | tup es=>
   have hy':=hy
   obtain⟨b,o',items',m',rfl,g1,g2,g3,g4⟩:=hy
   by_cases e:a=b
   ·subst e
    rw[mG (n+1) kx ky hx' hy']
    exact SeqAt.EqAt.same _
   ·have tb:s.heap.IsTuple b items':=⟨o',g1,g2,m',g3⟩
    have l1:=h4.length
    have l2:=g4.length
    have l3:items.toList.length=items.size:=by simp
    have l4:items'.toList.length=items'.size:=by simp
    rw[l3] at l1
    rw[l4] at l2
    have q:=SeqAt.EqAt.of_refs (A:=A) e (SeqAt.RcAt.tuples (e:=fun j=>aB (ds.getD j .non) (es.getD j .non)) ta tb (by lia) fun j j1 j2=>by
     obtain⟨d1,e1,r1⟩:=h4.get (j:=j) (v:=items[j]) (by rw[Array.getElem?_toList];simp[j1])
     obtain⟨d2,e2,r2⟩:=g4.get (j:=j) (v:=items'[j]) (by rw[Array.getElem?_toList];simp[j2])
     rw[List.getD_eq_getElem?_getD,e1,List.getD_eq_getElem?_getD,e2]
     exact gf n (cZ kx e1) (cZ ky e2) (by show A.units+1+n+1<cLine;lia) r1 r2)
    rw[← l1,← l2,hU (ds:=ds) (es:=es) (fun j x y a b=>by rw[List.getD_eq_getElem?_getD,a,List.getD_eq_getElem?_getD,b];rfl)] at q
    rw[aB]
    exact q
 | n,A,.fn _,_,_,_,k,_,_,_,_=>by cases n<;>cases k
 | n,A,.fl _,_,_,_,k,_,_,_,_=>by cases n<;>cases k
 | 0,A,.tup _,_,_,_,k,_,_,_,_=>by cases k
mutual
theorem kl:∀ {n:Nat}{d:Im},Im.key n d=true→Im.pl n d=true
 | n,.int _,_=>by cases n<;>rfl
 | n,.str _,_=>by cases n<;>rfl
 | n+1,.tup ds,h=>by rw[Im.key] at h;rw[Im.pl];exact mH h
 | 0,.tup _,h=>by cases h
 | n,.non,h=>by cases n<;>cases h
 | n,.bl _,h=>by cases n<;>cases h
 | n,.fn _,h=>by cases n<;>cases h
 | n,.fl _,h=>by cases n<;>cases h
theorem mH:∀ {n:Nat}{ds:List Im},Im.keys n ds=true→Im.pls n ds=true
 | n,[],_=>by rw[Im.pls]
 | n,d::ds,h=>by rw[Im.keys,Bool.and_eq_true] at h;rw[Im.pls,kl h.1,mH h.2];rfl
end
mutual
theorem mI:∀ {n:Nat}{x y:Im},Im.key n x=true→Im.key n y=true→aB x y=decide (x=y)
 | n,.int i,y,_,hy=>by
  cases y with
  | int j=>rw[aB];by_cases e:i=j<;>simp[e]
  | str z=>simp[aB]
  | tup z=>simp[aB]
  | _=>cases n<;>cases hy
 | n,.str i,y,_,hy=>by
  cases y with
  | int j=>simp[aB]
  | str z=>rw[aB];by_cases e:i=z<;>simp[e]
  | tup z=>simp[aB]
  | _=>cases n<;>cases hy
 | n+1,.tup ds,y,hx,hy=>by
  cases y with
  | int j=>simp[aB]
  | str z=>simp[aB]
  | tup es=>
   rw[Im.key] at hx hy
   rw[aB,mJ hx hy]
   simp
  | _=>cases hy
 | 0,.tup _,_,h,_=>by cases h
 | n,.non,_,h,_=>by cases n<;>cases h
 | n,.bl _,_,h,_=>by cases n<;>cases h
 | n,.fn _,_,h,_=>by cases n<;>cases h
 | n,.fl _,_,h,_=>by cases n<;>cases h
theorem mJ:∀ {n:Nat}{x y:List Im},Im.keys n x=true→Im.keys n y=true→bm x y=decide (x=y)
 | n,[],y,_,_=>by cases y<;>simp[bm]
 | n,d::ds,[],_,_=>by simp[bm]
 | n,d::ds,e::es,hx,hy=>by
  rw[Im.keys,Bool.and_eq_true] at hx hy
  rw[bm,mI hx.1 hy.1,mJ hx.2 hy.2]
  by_cases h1:d=e<;>by_cases h2:ds=es<;>simp[h1,h2]
end
theorem mK:∀ (n:Nat) {A:Around}{E:Value→Shared→Prop}{s:Shared}{d:Im}{v:Value}{Q:Bool→Shared→Prop},Im.key n d=true→ImV s.heap d v→Q true s→wpAny (model prog w) A (eqIsQuiet n v) Q E s
 | n,A,E,s,.int i,v,Q,_,hv,h=>by
  obtain⟨t,rfl⟩:=hv
  rw[eqIsQuiet_byValue n rfl]
  exact wpAny_pure h
 | n,A,E,s,.str i,v,Q,_,hv,h=>by
  obtain⟨t,rfl⟩:=hv
  rw[eqIsQuiet_byValue n rfl]
  exact wpAny_pure h
 | n+1,A,E,s,.tup ds,v,Q,k,hv,h=>by
  obtain⟨a,o,items,m,rfl,ho,hc,hd,hi⟩:=hv
  have hT:s.TypeIs (.ref a) "tuple" := ⟨o,ho,hc⟩
  unfold eqIsQuiet
  refine wpAny_bind (wpAny_specialOf hT F.slot_tuple_eq.lookup ?_)
  show wpAny _ _ (isInstance (.ref a) (.type "tuple") >>= _) _ _ s
  refine wpAny_bind (wpAny_isInstance hT isSubtype_tuple_tuple ?_)
  simp only[Bool.not_true,Bool.false_eq_true,if_false]
  refine wpAny_bind (wpAny_seqItems ho hd ?_)
  refine wpAny_bind ?_
  show wpAny _ _ (forIn items _ _) _ _ s
  rw[← Array.forIn_toList]
  rw[Im.key] at k
  refine wpAny_forIn_list _ (fun rest r s'=>r.1=none∧s'=s∧∃ left,Im.keys n left=true∧bA s.heap left rest) _ ?_ ?_ _ _ ⟨rfl,rfl,ds,k,hi⟩
  ·rintro v rest r s' ⟨hr,rfl,left,hk,hl⟩
   cases left with
   | nil=>cases (show v::rest=[] from hl)
   | cons d left=>
    obtain⟨v',r',e,h1,hl'⟩:=hl
    cases e
    rw[Im.keys,Bool.and_eq_true] at hk
    refine wpAny_bind (mK n hk.1 h1 ?_)
    simp only[Bool.not_true,Bool.false_eq_true,if_false]
    exact wpAny_pure ⟨rfl,rfl,left,hk.2,hl'⟩
  ·rintro⟨r1,r2⟩ s' ⟨hr,rfl,_⟩
   simp only at hr
   subst hr
   exact wpAny_pure h
 | _,_,_,_,.non,_,_,k,_,_=>by cases ‹Nat›<;>cases k
 | _,_,_,_,.bl _,_,_,k,_,_=>by cases ‹Nat›<;>cases k
 | _,_,_,_,.fn _,_,_,k,_,_=>by cases ‹Nat›<;>cases k
 | _,_,_,_,.fl _,_,_,k,_,_=>by cases ‹Nat›<;>cases k
 | 0,_,_,_,.tup _,_,_,k,_,_=>by cases k
noncomputable def hV (prog:Program) (w:World):HeapKind prog w (List Im) where
 is:=fun h ds a=>Im.keys 7 ds=true∧ImV h (.tup ds) (.ref a)
 hash:=fun ds=>imH w (.tup ds)
 draws:=fun ds=>imD (.tup ds)
 room:=fun A=>A.units+10<cLine
 inj:=fun hx hy=>by
  have:=mE 8 (x:=.tup _) (y:=.tup _) hx.1 hy.1 hx.2 hy.2
  injection this
 keeps:=fun {h h' k a d o es ep} x ho hd hs=>⟨x.1,x.2.keep fun b u items n hb hc hd'=>by
  have hne:b≠d:=by
   rintro rfl
   rw[ho] at hb
   cases hb
   rw[hd] at hd'
   cases hd'
  exact (hs.2 b hne).trans hb⟩
 pyHash:=fun hu hk h=>mF 8 (d:=.tup _) hk.1 (show _ < _ by have:_+10<cLine:=hu;lia) hk.2 h
 eqBool:=fun {A E s x y a b Q} hu hx hy h=>by
  have q:=gf (s:=s) 8 (A:=A) (x:=.tup x) (y:=.tup y) (kl (n:=8) (d:=.tup x) hx.1) (kl (n:=8) (d:=.tup y) hy.1) (show _ < _ by have:A.units+10<cLine:=hu;lia) hx.2 hy.2
  rw[mI (n:=8) (x:=.tup x) (y:=.tup y) hx.1 hy.1] at q
  exact q _ _ E Q (by simpa using h)
 quiet:=fun hk h=>mK 8 (d:=.tup _) hk.1 hk.2 h
end
noncomputable abbrev Key:=Sum Int Str
noncomputable def gg:Key→Value→Bool
 | .inl k,v=>Value.isInt k v
 | .inr x,v=>Value.isStrOf x v
noncomputable def se (w:World):Key→Int
 | .inl k=>hashInt k
 | .inr x=>hashStr w x
theorem dJ:∀ {k:Key}{v:Value},gg k v=true→(∃ i t,k=Sum.inl i∧v=Value.int i t)∨(∃ x t,k=Sum.inr x∧v=Value.str x t)
 | .inl i,v,h=>by
  obtain⟨t,e⟩:=Value.isInt_shape (k:=i) (v:=v) h
  exact .inl ⟨i,t,rfl,e⟩
 | .inr x,v,h=>by
  obtain⟨t,e⟩:=Value.isStrOf_shape (x:=x) (v:=v) h
  exact .inr ⟨x,t,rfl,e⟩
theorem sf (i:Int) (t:Tok):gg (.inl i) (.int i t)=true:=by simp[gg,Value.isInt]
theorem sh (x:Str) (t:Tok):gg (.inr x) (.str x t)=true:=by simp[gg,Value.isStrOf]
theorem si (a b:Int):decide ((Sum.inl a:Key)=Sum.inl b)=(a == b):=by
 by_cases e:a=b
 ·subst e;simp
 ·have h:¬ (Sum.inl a:Key)=Sum.inl b:=fun q=>e (Sum.inl.inj q)
  rw[decide_eq_false h]
  exact (beq_eq_false_iff_ne.mpr e).symm
theorem sj (a b:Str):decide ((Sum.inr a:Key)=Sum.inr b)=decide (a=b):=by
 by_cases e:a=b
 ·subst e;simp
 ·have h:¬ (Sum.inr a:Key)=Sum.inr b:=fun q=>e (Sum.inr.inj q)
  rw[decide_eq_false h,decide_eq_false e]
theorem sk (a:Int) (b:Str):decide ((Sum.inl a:Key)=Sum.inr b)=false:=decide_eq_false (fun q=>nomatch q)
theorem sn (a:Str) (b:Int):decide ((Sum.inr a:Key)=Sum.inl b)=false:=decide_eq_false (fun q=>nomatch q)
noncomputable def gj (prog:Program) (w:World):PySem.KeyKind prog w Key where
 is:=gg
 hash:=se w
 inj:=fun v a b ha hb=>by
  rcases dJ ha with ⟨i,t,rfl,rfl⟩ | ⟨x,t,rfl,rfl⟩
  ·rcases dJ hb with ⟨j,u,rfl,e⟩ | ⟨y,u,rfl,e⟩
   ·injection e with e1 _;rw[e1]
   ·exact nomatch e
  ·rcases dJ hb with ⟨j,u,rfl,e⟩ | ⟨y,u,rfl,e⟩
   ·exact nomatch e
   ·injection e with e1 _;rw[e1]
 byValue:=fun k v h=>by
  rcases dJ h with ⟨i,t,rfl,rfl⟩ | ⟨x,t,rfl,rfl⟩<;>rfl
 pyHash:=fun hv h=>by
  rcases dJ hv with ⟨i,t,rfl,rfl⟩ | ⟨x,t,rfl,rfl⟩
  ·exact wpAny_pyHash_int h
  ·exact wpAny_pyHash_str h
 eqBool:=fun hu hv h=>by
  rcases dJ hu with ⟨i,t,rfl,rfl⟩ | ⟨x,t,rfl,rfl⟩
  ·rcases dJ hv with ⟨j,u,rfl,rfl⟩ | ⟨y,u,rfl,rfl⟩
   ·rw[si] at h;exact wpAny_eqBool_int h
   ·rw[sk] at h;exact SeqAt.EqAt.int_str i t y u _ _ _ _ h
  ·rcases dJ hv with ⟨j,u,rfl,rfl⟩ | ⟨y,u,rfl,rfl⟩
   ·rw[sn] at h;exact SeqAt.EqAt.str_int x t j u _ _ _ _ h
   ·rw[sj] at h;exact wpAny_eqBool_str h
 «strs»:=fun k x t v h=>by
  rcases dJ h with ⟨i,u,rfl,e⟩ | ⟨y,u,rfl,e⟩
  ·exact nomatch e
  ·injection e with e1 _
   subst e1
   cases v<;>rfl
theorem sq (prog:Program) (w:World) (i:Int) (t:Tok):(gj prog w).is (.inl i) (.int i t)=true:=sf i t
theorem sr (prog:Program) (w:World) (x:Str) (t:Tok):(gj prog w).is (.inr x) (.str x t)=true:=sh x t
inductive V where
 | non | bl (b:Bool) | int (i:Int) | str (x:Str) | byt (b:Array UInt8) | flt (b:UInt64) | ref (a:Addr) | ty (n:String)
 deriving DecidableEq
noncomputable def ay:V→Value→Prop
 | .non,u=>u=Value.none
 | .bl b,u=>u=Value.bool b
 | .int i,u=>∃ t,u=Value.int i t
 | .str x,u=>∃ t,u=Value.str x t
 | .byt b,u=>∃ t,u=Value.bytes b t
 | .flt b,u=>∃ t,u=Value.float b t
 | .ref a,u=>u=Value.ref a
 | .ty n,u=>u=Value.type n
noncomputable abbrev am:List V→List Value→Prop:=Paired ay
theorem am.length {xs:List V}{us:List Value} (r:am xs us):xs.length=us.length:=Paired.length r
theorem am.get:∀ {xs:List V}{us:List Value}{i:Nat}{x:V},am xs us→xs[i]?=some x→∃ u,us[i]?=some u∧ay x u
 | _,_,_,_,.nil,e=>by simp at e
 | _,_,0,_,.cons r _,e=>by simp at e;subst e;exact⟨_,rfl,r⟩
 | _,_,i+1,x,.cons _ t,e=>by
  obtain⟨u,h1,h2⟩:=am.get (i:=i) (x:=x) t (by simpa using e)
  exact⟨u,by simpa using h1,h2⟩
theorem am.set {x:V}{u:Value} (r:ay x u):∀ {xs:List V}{us:List Value} (i:Nat),am xs us→am (xs.set i x) (us.set i u)
 | _,_,_,.nil=>.nil
 | _,_,0,.cons _ t=>.cons r t
 | _,_,i+1,.cons q t=>.cons q (am.set r i t)
theorem am.append:∀ {xs ys:List V}{us ws:List Value},am xs us→am ys ws→am (xs++ys) (us++ws)
 | _,_,_,_,.nil,s=>s
 | _,_,_,_,.cons r t,s=>.cons r (am.append t s)
theorem am.take:∀ {xs:List V}{us:List Value} (n:Nat),am xs us→am (xs.take n) (us.take n)
 | _,_,0,_=>.nil
 | _,_,_+1,.nil=>.nil
 | _,_,n+1,.cons r t=>.cons r (am.take n t)
theorem am.drop:∀ {xs:List V}{us:List Value} (n:Nat),am xs us→am (xs.drop n) (us.drop n)
 | _,_,0,r=>r
 | _,_,_+1,.nil=>.nil
 | _,_,n+1,.cons _ t=>am.drop n t
noncomputable def d9:Option V→Option Value→Prop
 | some v,some u=>ay v u
 | none,none=>True
 | _,_=>False
noncomputable def KV {κ:Type}:List (κ×V)→List (κ×Value)→Prop:=Paired fun (p:κ×V) (q:κ×Value)=>p.1=q.1∧ay p.2 q.2
noncomputable def kV:Key→V
 | .inl i=>.int i
 | .inr x=>.str x
inductive HO where
 /-- a list -/
 | lst (xs:List V)
 /-- a tuple (never changes) -/
 | tup (xs:List V)
 /-- a dict whose keys are ints and texts;one whose keys are tuples of ints and texts (the empty one is both) -/
 | dK (kvs:List (Key×V)) | dT (kvs:List (List Im×V))
 /-- a set of ints: its members,its size -/
 | set (S:Int→Bool) (n:Nat)
 /-- an instance of the class at C,its dict at dx,its attributes -/
 | ins (C dx:Addr) (fs:List (Str×V))
 /-- the dict of the instance at x -/
 | own (x:Addr)
 /-- the dict of an exception -/
 | xd (fs:List (Str×V))
 /-- a bound method,f of x -/
 | met (f x:Addr)
 /-- a range object lo,lo+1,.. below hi -/
 | rng (lo hi:Int)
 /-- a thing that is known to the object (the script;a dict while a loop walks it): read,never written while it is so -/
 | frz (o:Obj) (u:HO)
 /-- a code object's table -/
 | tbl (ps:Array Value)
 /-- any other thing,by what is true of its one object (a def of one's own: SetO a S n:=HO.ext fun h=>..) -/
 | ext (φ:Heap→Prop)
noncomputable abbrev Hp:=Addr→Option HO
noncomputable def upd (H:Hp) (a:Addr) (o:HO):Hp:=fun b=>if b=a then some o else H b
theorem bD {H:Hp}{a:Addr}{o:HO}:upd H a o a=some o:=by unfold upd;rw[if_pos rfl]
theorem aI {H:Hp}{a b:Addr}{o:HO} (h:b≠a):upd H a o b=H b:=by unfold upd;rw[if_neg h]
theorem bS {H:Hp}{a b:Addr}{o:HO} (h:H a=some o) (h':H b=none):a≠b:=by
 intro e;subst e;rw[h] at h';cases h'
mutual
noncomputable def IsI (H:Hp):Im→V→Prop
 | .non,v=>v=.non
 | .bl b,v=>v=.bl b
 | .int i,v=>v=.int i
 | .str x,v=>v=.str x
 | .fn a,v=>v=.ref a
 | .fl ds,v=>∃ a xs o,v=.ref a∧H a=some (.frz o (.lst xs))∧ak H ds xs
 | .tup ds,v=>∃ a xs,v=.ref a∧H a=some (.tup xs)∧ak H ds xs
noncomputable def ak (H:Hp):List Im→List V→Prop
 | [],vs=>vs=[]
 | d::ds,vs=>∃ v r,vs=v::r∧IsI H d v∧ak H ds r
end
noncomputable def hX (H H':Hp):Prop:=∀ a xs,H a=some (.tup xs)→H' a=some (.tup xs)
structure TupS (H H':Hp):Prop where
 t:hX H H'
 z:∀ a o u,H a=some (.frz o u)→H' a=some (.frz o u)
noncomputable instance {H H':Hp}:CoeFun (TupS H H') (fun _=>∀ a xs,H a=some (.tup xs)→H' a=some (.tup xs)):=⟨fun t=>t.t⟩
mutual
theorem IsI.mono {H H':Hp} (k:TupS H H'):∀ {d:Im}{v:V},IsI H d v→IsI H' d v
 | .non,_,e=>e
 | .bl _,_,e=>e
 | .int _,_,e=>e
 | .str _,_,e=>e
 | .fn _,_,e=>e
 | .tup ds,_,e=>by
  obtain⟨a,xs,rfl,h1,h2⟩:=e
  exact⟨a,xs,rfl,k.t a xs h1,ak.mono k h2⟩
 | .fl ds,_,e=>by
  obtain⟨a,xs,o,rfl,h1,h2⟩:=e
  exact⟨a,xs,o,rfl,k.z a _ _ h1,ak.mono k h2⟩
theorem ak.mono {H H':Hp} (k:TupS H H'):∀ {ds:List Im}{vs:List V},ak H ds vs→ak H' ds vs
 | [],_,e=>e
 | d::ds,_,e=>by
  obtain⟨v,r,rfl,h1,h2⟩:=e
  exact⟨v,r,rfl,IsI.mono k h1,ak.mono k h2⟩
end
noncomputable def KAd (H:Hp) (k:List Im) (b:Addr):Prop:=Im.keys 7 k=true∧IsI H (.tup k) (.ref b)
mutual
theorem IsI.monoK {H H':Hp} (k:hX H H'):∀ {d:Im}{n:Nat}{v:V},Im.key n d=true→IsI H d v→IsI H' d v
 | .non,_,_,_,e=>e
 | .bl _,_,_,_,e=>e
 | .int _,_,_,_,e=>e
 | .str _,_,_,_,e=>e
 | .fn _,_,_,_,e=>e
 | .tup ds,n+1,_,q,e=>by
  obtain⟨a,xs,rfl,h1,h2⟩:=e
  exact⟨a,xs,rfl,k a xs h1,ak.monoK k q h2⟩
 | .tup ds,0,_,q,e=>nomatch q
 | .fl ds,0,_,q,e=>nomatch q
 | .fl ds,n+1,_,q,e=>nomatch q
theorem ak.monoK {H H':Hp} (k:hX H H'):∀ {ds:List Im}{n:Nat}{vs:List V},Im.keys n ds=true→ak H ds vs→ak H' ds vs
 | [],_,_,_,e=>e
 | d::ds,n,_,q,e=>by
  obtain⟨v,r,rfl,h1,h2⟩:=e
  rw[Im.keys,Bool.and_eq_true] at q
  exact⟨v,r,rfl,IsI.monoK k q.1 h1,ak.monoK k q.2 h2⟩
end
theorem KAd.mono {H H':Hp}{k:List Im}{b:Addr} (h:KAd H k b) (t:hX H H'):KAd H' k b:=by
 obtain⟨h0,a,xs,e,h1,h2⟩:=h
 exact⟨h0,a,xs,e,t a xs h1,h2.monoK t h0⟩
section
variable (P:Program) (w:World)
noncomputable def bE (H:Hp) (h:Heap) (a:Addr):HO→Prop
 | .lst xs=>xs.length≤sizeLine∧∃ (its:List Value) (n:Nat),am xs its∧h.get? a=some { cls:=.type "list",data:=.seq its.toArray n }
 | .tup xs=>xs.length≤sizeLine∧∃ its:List Value,am xs its∧IsTup h a its.toArray
 | .dK kvs=>kvs.length≤sizeLine∧(a == sysModules)=false∧∃ vs,KV kvs vs∧h.DictOf (gj P w) a vs
 | .dT kvs=>kvs.length≤sizeLine∧(a == sysModules)=false∧∃ xs:List (List Im×Addr×Value),
   Paired (fun (p:List Im×V) (q:List Im×Addr×Value)=>p.1=q.1∧KAd H p.1 q.2.1∧ay p.2 q.2.2) kvs xs∧
   ∃ o es ep,h.get? a=some o∧o.ExactDict∧o.data=.dict es ep∧es.toList=xs.map (entryOfKey (hV P w))∧(xs.map (·.1)).Nodup
 | .set S n=>h.SetOf (intKind P w) a S n
 | .ins C dx fs=>H dx=some (.own a)∧fs.length≤1000∧dx≠a∧h.get? a=some (PySem.W.instObj C dx)∧
   ∃ mA,h.Ns1 dx mA∧(∀ f,d9 (fs.lookup f) (mA f))∧PySem.Within mA (fs.map (·.1))
 | .own _=>∃ o,h.get? a=some o
 | .xd fs=>∃ mA,h.Ns1 a mA∧∀ f,d9 (fs.lookup f) (mA f)
 | .rng lo hi=>∃ t u v,h.get? a=some { cls:=.type "range",data:=.fields #[.int lo t,.int hi u,.int 1 v] }
 | .frz o u=>h.get? a=some o∧bE H h a u
 | .tbl ps=>h.get? a=some { cls:=.none,data:=.fields ps }
 | .met f x=>h.get? a=some (PySem.W.methodObj (.ref f) (.ref x))
 | .ext φ=>φ h∧(∃ o,h.get? a=some o)∧∀ h1 h2:Heap,φ h1→(∀ o,h1.get? a=some o→h2.get? a=some o)→φ h2
noncomputable def HOk (H:Hp) (h:Heap):Prop:=∀ a o,H a=some o→bE P w H h a o
end
section
variable {P:Program}{w:World}{H H':Hp}{h h':Heap}{a:Addr}{o:HO}
theorem bE.lt (x:bE P w H h a o):a<h.objs.size:=by
 cases o with
 | lst xs=>obtain⟨_,_,_,_,e⟩:=x;exact Heap.lt_size e
 | tup xs=>obtain⟨_,_,_,p⟩:=x;exact p.lt
 | dK kvs=>obtain⟨_,_,_,_,o,_,_,e,_⟩:=x;exact Heap.lt_size e
 | dT kvs=>obtain⟨_,_,_,_,o,_,_,e,_⟩:=x;exact Heap.lt_size e
 | set S n=>obtain⟨o,_,_,_,e,_⟩:=x;exact Heap.lt_size e
 | ins C dx fs=>obtain⟨_,_,_,e,_⟩:=x;exact Heap.lt_size e
 | own y=>obtain⟨_,e⟩:=x;exact Heap.lt_size e
 | xd fs=>obtain⟨_,⟨_,_,_,e,_⟩,_⟩:=x;exact Heap.lt_size e
 | rng lo hi=>obtain⟨_,_,_,e⟩:=x;exact Heap.lt_size e
 | frz ob u=>obtain⟨e,_⟩:=x;exact Heap.lt_size e
 | tbl ps=>exact Heap.lt_size (show h.get? a=some _ from x)
 | met f y=>exact Heap.lt_size (show h.get? a=some _ from x)
 | ext φ=>obtain⟨_,⟨_,e⟩,_⟩:=x;exact Heap.lt_size e
theorem Paired.mapP {α β:Type}{F G:α→β→Prop}:∀ {l₁:List α}{l₂:List β},Paired F l₁ l₂→(∀ a b,F a b→G a b)→Paired G l₁ l₂
 | _,_,.nil,_=>.nil
 | _,_,.cons r t,f=>.cons (f _ _ r) (Paired.mapP t f)
theorem bE.stay (x:bE P w H h a o) (k:∀ b u,(b=a∨H b=some (.own a))→h.get? b=some u→h'.get? b=some u)
  (ho:∀ b,H b=some (.own a)→H' b=some (.own a)) (ht:∀ b xs,H b=some (.tup xs)→H' b=some (.tup xs)):bE P w H' h' a o:=by
 induction o with
 | lst xs=>obtain⟨z,its,n,r,e⟩:=x;exact⟨z,its,n,r,k _ _ (.inl rfl) e⟩
 | tup xs=>obtain⟨z,its,r,ob,e,c⟩:=x;exact⟨z,its,r,ob,k _ _ (.inl rfl) e,c⟩
 | dK kvs=>obtain⟨z,y,vs,r,ob,es,ep,e,c⟩:=x;exact⟨z,y,vs,r,ob,es,ep,k _ _ (.inl rfl) e,c⟩
 | dT kvs=>
  obtain⟨z,y,xs,r,ob,es,ep,e,c⟩:=x
  exact⟨z,y,xs,Paired.mapP r fun p q z=>⟨z.1,z.2.1.mono ht,z.2.2⟩,ob,es,ep,k _ _ (.inl rfl) e,c⟩
 | set S n=>obtain⟨ob,es,ep,t,e,c⟩:=x;exact⟨ob,es,ep,t,k _ _ (.inl rfl) e,c⟩
 | ins C dx fs=>
  obtain⟨d,z,ne,e,mA,⟨od,es,ep,e2,c⟩,r⟩:=x
  exact⟨ho _ d,z,ne,k _ _ (.inl rfl) e,mA,⟨od,es,ep,k _ _ (.inr d) e2,c⟩,r⟩
 | own y=>obtain⟨ob,e⟩:=x;exact⟨ob,k _ _ (.inl rfl) e⟩
 | xd fs=>obtain⟨mA,⟨od,es,ep,e,c⟩,r⟩:=x;exact⟨mA,⟨od,es,ep,k _ _ (.inl rfl) e,c⟩,r⟩
 | rng lo hi=>obtain⟨t,u,v,e⟩:=x;exact⟨t,u,v,k _ _ (.inl rfl) e⟩
 | frz ob u ih=>obtain⟨e,q⟩:=x;exact⟨k _ _ (.inl rfl) e,ih q⟩
 | tbl ps=>
  have e:h.get? a=some { cls:=.none,data:=.fields ps }:=x
  show h'.get? a=some { cls:=.none,data:=.fields ps }
  exact k a _ (.inl rfl) e
 | met f y=>
  have e:h.get? a=some (PySem.W.methodObj (.ref f) (.ref y)):=x
  show h'.get? a=some (PySem.W.methodObj (.ref f) (.ref y))
  exact k a _ (.inl rfl) e
 | ext φ=>obtain⟨p,⟨o,e⟩,st⟩:=x;exact⟨st _ _ p fun o q=>k _ _ (.inl rfl) q,⟨o,k _ _ (.inl rfl) e⟩,st⟩
theorem HOk.lt (x:HOk P w H h) (e:H a=some o):a<h.objs.size:=(x a o e).lt
theorem HOk.fresh (x:HOk P w H h) (e:h.objs.size≤a):H a=none:=by
 cases q:H a with
 | none=>rfl
 | some u=>exact absurd (Nat.lt_of_lt_of_le (x.lt q) e) (Nat.lt_irrefl _)
theorem HOk.kept (x:HOk P w H h) (k:∀ b u,h.get? b=some u→h'.get? b=some u):HOk P w H h':=fun a o e=>
 (x a o e).stay (fun b u _ q=>k b u q) (fun _ q=>q) fun _ _ q=>q
theorem HOk.laid (x:HOk P w H h) (k:∀ b u,h.get? b=some u→h'.get? b=some u) (hp:h.objs.size≤a) (new:bE P w (upd H a o) h' a o):HOk P w (upd H a o) h':=fun b u e=>by
 have hn:=x.fresh hp
 by_cases hb:b=a
 ·subst hb;rw[bD] at e;cases e;exact new
 ·rw[aI hb] at e
  exact (x b u e).stay (fun c v _ q=>k c v q) (fun c q=>by rw[aI (bS q hn)];exact q) fun c xs q=>by rw[aI (bS q hn)];exact q
end
noncomputable def Rd (H:Hp) (a:Addr) (u:HO):Prop:=H a=some u∨∃ o,H a=some (.frz o u)
theorem Rd.ok {P:Program}{w:World}{H:Hp}{h:Heap}{a:Addr}{u:HO} (r:Rd H a u) (x:HOk P w H h):bE P w H h a u:=by
 rcases r with r | ⟨o,r⟩
 ·exact x a u r
 ·obtain⟨_,q⟩:=x a _ r
  exact q
noncomputable def Mut:Option HO→Prop
 | some (.lst _)=>True
 | some (.dK _)=>True
 | some (.dT _)=>True
 | some (.set _ _)=>True
 | some (.ins _ _ _)=>True
 | some (.ext _)=>True
 | _=>False
section
variable {P:Program}{w:World}{H:Hp}{h h':Heap}{x e:Addr}{o':HO}
theorem HOk.write (ok:HOk P w H h) (mu:Mut (H x)) (he:e=x∨H e=some (.own x)) (k:∀ b u,b≠e→h.get? b=some u→h'.get? b=some u) (heo:∃ u,h'.get? e=some u)
  (new:bE P w (upd H x o') h' x o'):HOk P w (upd H x o') h':=fun b u q=>by
 have nown:∀ c y,H c=some (.own y)→c≠x:=fun c y r z=>by subst z;rw[r] at mu;exact mu
 have ntup:∀ c xs,H c=some (.tup xs)→c≠x:=fun c xs r z=>by subst z;rw[r] at mu;exact mu
 by_cases hb:b=x
 ·subst hb;rw[bD] at q;cases q;exact new
 ·rw[aI hb] at q
  by_cases hbe:b=e
  ·have q':H b=some (.own x):=by
    rcases he with z | z
    ·exact absurd (hbe.trans z) hb
    ·rw[hbe];exact z
   rw[q] at q';cases q'
   obtain⟨v,hv⟩:=heo
   exact⟨v,by rw[hbe];exact hv⟩
  ·refine (ok b u q).stay (fun c v hc r=>k c v ?_ r) (fun c r=>by rw[aI (nown c b r)];exact r) fun c xs r=>by rw[aI (ntup c xs r)];exact r
   rcases hc with rfl | hc
   ·exact hbe
   ·rintro rfl
    rcases he with z | z
    ·exact nown c b hc z
    ·rw[hc] at z;cases z;exact hb rfl
end
structure Un (fs ex:List Addr) (H H':Hp) (h h':Heap):Prop where
 keep:∀ b o,h.get? b=some o→H b=none→b∉fs→b∉ex→h'.get? b=some o
 slot:∀ b o,h.get? b=some o→H b=none→b∈fs→b∉ex→∃ sl,h'.get? b=some { o with slots:=sl }
 free:∀ b o,h.get? b=some o→H b=none→b∉ex→H' b=none
 there:∀ b o,h.get? b=some o→b∉ex→∃ o',h'.get? b=some o'
 tups:∀ b xs,H b=some (.tup xs)→H' b=some (.tup xs)
 frzs:∀ b o u,H b=some (.frz o u)→H' b=some (.frz o u)
 tbls:∀ b ps,H b=some (.tbl ps)→∃ more,H' b=some (.tbl (ps++more))
section
variable {fs fs' ex ex':List Addr}{H H1 H2:Hp}{h h1 h2 h':Heap}{a x e:Addr}{o:HO}
theorem Un.any (u:Un fs ex H H1 h h1) {b:Addr}{ob:Obj} (q:h.get? b=some ob) (n:H b=none) (hx:b∉ex):∃ sl,h1.get? b=some { ob with slots:=sl }:=by
 by_cases hb:b∈fs
 ·exact u.slot b ob q n hb hx
 ·exact⟨ob.slots,u.keep b ob q n hb hx⟩
theorem Un.kept (k:∀ b u,h.get? b=some u→h'.get? b=some u):Un fs ex H H h h':=
 ⟨fun b ob q _ _ _=>k b ob q,fun b ob q _ _ _=>⟨ob.slots,k b ob q⟩,fun _ _ _ n _=>n,fun b ob q _=>⟨ob,k b ob q⟩,fun _ _ q=>q,fun _ _ _ q=>q,fun _ ps q=>⟨#[],by rw[q];simp⟩⟩
theorem Un.refl:Un fs ex H H h h:=Un.kept fun _ _ q=>q
theorem Un.laid (k:∀ b u,h.get? b=some u→h'.get? b=some u) (hp:h.objs.size≤a) (hn:H a=none):Un fs ex H (upd H a o) h h' where
 keep:=fun b u q _ _ _=>k b u q
 slot:=fun b u q _ _ _=>⟨u.slots,k b u q⟩
 free:=fun b u q n _=>by rw[aI (Nat.ne_of_lt (Nat.lt_of_lt_of_le (Heap.lt_size q) hp))];exact n
 there:=fun b u q _=>⟨u,k b u q⟩
 tups:=fun b xs q=>by rw[aI (bS q hn)];exact q
 frzs:=fun b u xs q=>by rw[aI (bS q hn)];exact q
 tbls:=fun b ps q=>⟨#[],by rw[aI (bS q hn),q];simp⟩
theorem Un.write (mu:Mut (H x)) (he:e=x∨H e=some (.own x)) (k:∀ b u,b≠e→h.get? b=some u→h'.get? b=some u) (heo:∃ u,h'.get? e=some u):Un fs ex H (upd H x o) h h':=by
 have hx:∀ b,H b=none→b≠x:=fun b n z=>by subst z;rw[n] at mu;exact mu
 have hb:∀ b,H b=none→b≠e:=fun b n z=>by
  subst z
  rcases he with r | r
  ·exact hx b n r
  ·rw[n] at r;cases r
 have hm:∀ b u,H b=some u→¬ Mut (some u)→b≠x:=fun b u q nm z=>by subst z;rw[q] at mu;exact nm mu
 refine⟨fun b u q n _ _=>k b u (hb b n) q,fun b u q n _ _=>⟨u.slots,k b u (hb b n) q⟩,fun b u q n _=>by rw[aI (hx b n)];exact n,fun b u q _=>?_,
  fun b xs q=>by rw[aI (hm b _ q fun z=>z)];exact q,fun b u xs q=>by rw[aI (hm b _ q fun z=>z)];exact q,fun b ps q=>⟨#[],by rw[aI (hm b _ q fun z=>z),q];simp⟩⟩
 by_cases hbe:b=e
 ·subst hbe;exact heo
 ·exact⟨u,k b u hbe q⟩
end
noncomputable def trk (h:Heap) (H:Hp):List Addr:=(List.range h.objs.size).filter fun a=>(H a).isSome
noncomputable def dL (h:Heap) (H:Hp):Heap:=PySem.W.hideAll h (trk h H)
theorem ss (h:Heap) (H:Hp):(dL h H).objs.size=h.objs.size:=PySem.W.hideAll_size _ _
theorem su {h:Heap}{H:Hp}{b:Addr}{o:Obj} (e:h.get? b=some o) (n:H b=none):(dL h H).get? b=some o:=
 PySem.W.hideAll_get _ e fun hm=>by
  have q:(H b).isSome=true:=(List.mem_filter.mp hm).2
  rw[n] at q;simp at q
theorem sv {h:Heap}{H:Hp}{b:Addr}{o:Obj} (e:(dL h H).get? b=some o):h.get? b=some o∧H b=none:=by
 have e':h.get? b=some o:=PySem.W.of_hideAll (trk h H) e
 refine⟨e',?_⟩
 cases q:H b with
 | none=>rfl
 | some x=>
  have hm:b∈trk h H:=List.mem_filter.mpr ⟨List.mem_range.mpr (Heap.lt_size e'),by simp[q]⟩
  have z:(dL h H).get? b=none:=PySem.W.hideAll_none (trk h H) hm
  rw[z] at e;cases e
noncomputable def sw (g h:Heap) (L:Addr):List (Addr×Obj):=(List.range h.objs.size).filterMap fun a=>if a=L∨(g.get? a).isSome=true then none else (h.get? a).map fun o=>(a,o)
noncomputable def rest (g h:Heap) (L d:Addr):List (Addr×Obj):=(sw g h L).filter fun p=>decide (p.1≠d)
structure Mod (K:PySem.W.Frag) (mg:Str→Option Value) (base:Heap):Prop where
 kin:K.In base
 glob:base.Ns mainGlobals mg
 blt:∃ mb,base.Ns builtinsNs mb∧∀ x:Str,x ≠ "__name__" → mb x=bootBuiltins x
 nolimit:base.NoLimit
structure Cx where
 prog:Program
 w:World
 K:PySem.W.Frag
 mg:Str→Option Value
 base:Heap
 A:Around
 N:List Str
 s₀:Shared
 H₀:Hp
 env:Env
 outer:List Env
 stack:List Env
 ex:List Addr
 fn:Str→Bool
 calm:Bool
 pn:List (Addr×Obj)
 xe:Value→Shared→Prop
noncomputable def frs (l:List Env):List Addr:=l.filterMap (·.frame)
noncomputable abbrev Cx.fs (X:Cx):List Addr:=frs X.outer
noncomputable def Vis (sc:Scope) (x:Str):Prop:=sc.names.lookup x=some .local∨sc.names.lookup x=some .cell∨sc.names.lookup x=some .free
noncomputable def Loc (sc:Scope) (x:Str):Prop:=sc.names.lookup x=some .local∨sc.names.lookup x=some .cell
noncomputable def sx (env:Env) (h:Heap) (m:Str→Option Value) (x:Str) (u:Value):Prop:=
 (env.kindOf x=some .local∧m x=some u)∨((env.kindOf x=some .cell∨env.kindOf x=some .free)∧∃ c,env.cells.lookup x=some c∧h.IsCell c (some u))
structure Cx.Ok (X:Cx):Prop where
 mod:Mod X.K X.mg X.base
 kind:X.env.scope.kind=.function
 glob:X.env.globals=mainGlobals
 blt:X.env.builtins=builtinsNs
 above:X.s₀.heap.objs.size≤X.env.locals
 inj:∀ x y c,X.env.cells.lookup x=some c→X.env.cells.lookup y=some c→x=y
 has:∀ x,(X.env.kindOf x=some .cell∨X.env.kindOf x=some .free)→∃ c,X.env.cells.lookup x=some c
 cab:∀ x c,X.fn x=true→X.env.cells.lookup x=some c→X.s₀.heap.objs.size≤c
 hd:X.calm=true→X.A.handled=none
 frames:X.A.frames=some X.stack
 stk:X.stack=X.outer∨(X.stack=X.env::X.outer∧X.env.frame=some X.env.locals)
 exf:∀ b∈X.ex,b≠X.env.locals∧∀ x c,X.env.cells.lookup x=some c→c≠b
 bs:∀ b o,X.base.get? b=some o→X.s₀.heap.get? b=some o∧X.H₀ b=none
 bsz:X.base.objs.size≤X.s₀.heap.objs.size
 noex:∀ b o,X.base.get? b=some o→b∉X.ex
 exfs:∀ b∈X.ex,b∉X.fs
 funs:X.s₀.heap.FunFrames X.base X.outer
 frf:∀ b∈X.fs,X.H₀ b=none
structure Inv (X:Cx) (pins:List (Addr×Obj)) (σ:List (Option V)) (H:Hp) (s:Shared):Prop where
 ok:X.Ok
 os:s.os=X.s₀.os
 bare:AllBare s.gens
 base:Un X.fs X.ex X.H₀ H X.s₀.heap s.heap
 loc:∃ m,s.heap.Ns X.env.locals m∧∀ (i:Nat) (x:Str) (v:V),X.N[i]?=some x→σ[i]?=some (some v)→Vis X.env.scope x→∃ u,ay v u∧sx X.env s.heap m x u
 cell:∀ x c,X.env.cells.lookup x=some c→∃ v,s.heap.IsCell c v
 free:H X.env.locals=none
 freeC:∀ x c,X.env.cells.lookup x=some c→H c=none
 pin:∀ p∈X.pn++pins,s.heap.get? p.1=some p.2∧H p.1=none∧p.1≠X.env.locals∧p.1∉X.fs∧∀ v,p.2.data≠.cell v
 hok:HOk X.prog X.w H s.heap
 len:σ.length=X.N.length
section
variable {X:Cx}{pins:List (Addr×Obj)}{σ:List (Option V)}{H H':Hp}{s:Shared}{h':Heap}
theorem Cx.Ok.nofr (ok:X.Ok) {b:Addr}{o:Obj} (e:X.base.get? b=some o):b∉X.fs:=fun hb=>by
 have:=(ok.funs.mem hb).1
 rw[e] at this;cases this
theorem Inv.bs (I:Inv X pins σ H s):∀ b o,X.base.get? b=some o→s.heap.get? b=some o∧H b=none:=fun b o e=>
 ⟨I.base.keep b o (I.ok.bs b o e).1 (I.ok.bs b o e).2 (I.ok.nofr e) (I.ok.noex b o e),I.base.free b o (I.ok.bs b o e).1 (I.ok.bs b o e).2 (I.ok.noex b o e)⟩
theorem Inv.bk (I:Inv X pins σ H s):∀ b o,X.base.get? b=some o→s.heap.get? b=some o:=fun b o e=>(I.bs b o e).1
theorem Inv.mod (I:Inv X pins σ H s):Mod X.K X.mg X.base:=I.ok.mod
theorem Inv.kIn (I:Inv X pins σ H s):X.K.In s.heap:=I.ok.mod.kin.keeps I.bk
theorem Inv.fr (I:Inv X pins σ H s):∃ m,Fr X.base X.env.locals s.heap m:=
 let ⟨m,hn,_⟩:=I.loc
 ⟨m,hn,I.bk,Nat.le_trans I.ok.bsz I.ok.above⟩
theorem Inv.lt (I:Inv X pins σ H s):X.env.locals<s.heap.objs.size:=let ⟨_,hn,_⟩:=I.loc;hn.lt
theorem Inv.sz (I:Inv X pins σ H s):X.s₀.heap.objs.size≤s.heap.objs.size:=Nat.le_trans I.ok.above (Nat.le_of_lt I.lt)
theorem Inv.nofs (I:Inv X pins σ H s) {a:Addr} (h:s.heap.objs.size≤a):a∉X.fs:=fun hb=>by
 obtain⟨_,o,ho,_⟩:=I.ok.funs.mem hb
 exact absurd (Nat.lt_of_lt_of_le (Heap.lt_size ho) (Nat.le_trans I.sz h)) (Nat.lt_irrefl _)
theorem Inv.cne (I:Inv X pins σ H s):∀ x c,X.env.cells.lookup x=some c→c≠X.env.locals:=fun x c e z=>by
 obtain⟨v,o,ho,hd⟩:=I.cell x c e
 obtain⟨m,⟨o',es,ep,ho',hd',_⟩,_⟩:=I.loc
 rw[z,ho'] at ho;cases ho;rw[hd'] at hd;cases hd
theorem Inv.funs (I:Inv X pins σ H s):s.heap.FunFrames X.base X.outer:=by
 have all:∀ (l:List Env),(∀ b∈frs l,b∈X.fs)→X.s₀.heap.FunFrames X.base l→s.heap.FunFrames X.base l:=by
  intro l
  induction l with
  | nil=>intro _ _;trivial
  | cons env r ih=>
   intro hs hl
   obtain⟨hk,⟨L,o,hf,hn,ho,hd⟩,hr⟩:=hl
   have hL:L∈X.fs:=hs L (by unfold frs;rw[List.filterMap_cons,hf];exact List.mem_cons_self)
   obtain⟨sl,e⟩:=I.base.slot L o ho (I.ok.frf L hL) hL fun z=>I.ok.exfs L z hL
   exact⟨hk,⟨L,_,hf,hn,e,hd⟩,ih (fun b hb=>hs b (by unfold frs;rw[List.filterMap_cons,hf];exact List.mem_cons_of_mem _ hb)) hr⟩
 exact all X.outer (fun _ hb=>hb) I.ok.funs
theorem Inv.stack (I:Inv X pins σ H s):s.heap.FunFrames X.base X.stack:=by
 rcases I.ok.stk with e | ⟨e,hf⟩
 ·rw[e];exact I.funs
 ·rw[e]
  obtain⟨m,hn,_⟩:=I.loc
  refine .cons (by rw[I.ok.kind];decide) hf hn ?_ I.funs
  exact Heap.get?_none_of_le (Nat.le_trans I.ok.bsz I.ok.above)
theorem Inv.stkSub (I:Inv X pins σ H s):∀ b∈frs X.stack,b∈X.env.locals::X.fs:=fun b hb=>by
 rcases I.ok.stk with e | ⟨e,hf⟩
 ·rw[e] at hb;exact List.mem_cons_of_mem _ hb
 ·rw[e] at hb
  unfold frs at hb
  rw[List.filterMap_cons,hf] at hb
  exact hb
theorem Inv.stkFree (I:Inv X pins σ H s):∀ b∈frs X.stack,H b=none:=fun b hb=>by
 rcases List.mem_cons.mp (I.stkSub b hb) with e | hb
 ·rw[e];exact I.free
 ·obtain⟨_,o,ho,_⟩:=I.ok.funs.mem hb
  exact I.base.free b o ho (I.ok.frf b hb) fun z=>I.ok.exfs b z hb
theorem Inv.step {g':Array GenState}{t':Nat}{d':Drawn}{ch:List Addr} (I:Inv X pins σ H s)
  (hch:∀ b∈ch,(b∈X.ex∨X.s₀.heap.objs.size≤b)∧b≠X.env.locals∧(∀ x c,X.env.cells.lookup x=some c→c≠b)∧∀ p∈X.pn++pins,p.1≠b)
  (keep:∀ b o,b≠X.env.locals→b∉X.fs→b∉ch→s.heap.get? b=some o→H b=none→h'.get? b=some o)
  (slot:∀ b o,b≠X.env.locals→b∈X.fs→b∉ch→s.heap.get? b=some o→H b=none→∃ sl,h'.get? b=some { o with slots:=sl }) (free:∀ b o,b∉ch→s.heap.get? b=some o→H b=none→H' b=none)
  (there:∀ b o,b∉ch→s.heap.get? b=some o→∃ o',h'.get? b=some o')
  (tups:∀ b xs,H b=some (.tup xs)→H' b=some (.tup xs)) (frzs:∀ b o u,H b=some (.frz o u)→H' b=some (.frz o u)) (tbls:∀ b ps,H b=some (.tbl ps)→∃ more,H' b=some (.tbl (ps++more)))
  (ns:∀ m,s.heap.Ns X.env.locals m→h'.Ns X.env.locals m) (hok:HOk X.prog X.w H' h') (hg:AllBare g'):
  Inv X pins σ H' { s with heap:=h',gens:=g',drawn:=d',toks:=t' }:=by
 have neL:∀ b o,X.s₀.heap.get? b=some o→b≠X.env.locals:=fun b o e=>Nat.ne_of_lt (Nat.lt_of_lt_of_le (Heap.lt_size e) I.ok.above)
 have neC:∀ b o,X.s₀.heap.get? b=some o→b∉X.ex→b∉ch:=fun b o e hx hb=>by
  rcases (hch b hb).1 with z | z
  ·exact hx z
  ·exact absurd (Nat.lt_of_lt_of_le (Heap.lt_size e) z) (Nat.lt_irrefl _)
 have cellK:∀ x c,X.env.cells.lookup x=some c→∀ v,s.heap.IsCell c v→h'.IsCell c v:=fun x c e v ⟨o,ho,hd⟩=>by
  have nch:c∉ch:=fun z=>(hch c z).2.2.1 x c e rfl
  by_cases hc:c∈X.fs
  ·obtain⟨sl,q⟩:=slot c o (I.cne x c e) hc nch ho (I.freeC x c e)
   exact⟨_,q,hd⟩
  ·exact⟨o,keep c o (I.cne x c e) hc nch ho (I.freeC x c e),hd⟩
 refine⟨I.ok,I.os,hg,⟨fun b o e n hb hx=>?_,fun b o e n hb hx=>?_,fun b o e n hx=>?_,fun b o e hx=>?_,fun b xs e=>tups b xs (I.base.tups b xs e),fun b o xs e=>frzs b o xs (I.base.frzs b o xs e),fun b ps e=>?_⟩,?_,fun x c e=>?_,?_,fun x c e=>?_,fun p hp=>?_,hok,I.len⟩
 ·exact keep b o (neL b o e) hb (neC b o e hx) (I.base.keep b o e n hb hx) (I.base.free b o e n hx)
 ·obtain⟨sl,e1⟩:=I.base.slot b o e n hb hx
  obtain⟨sl',e2⟩:=slot b _ (neL b o e) hb (neC b o e hx) e1 (I.base.free b o e n hx)
  exact⟨sl',e2⟩
 ·obtain⟨o',e1⟩:=I.base.there b o e hx
  exact free b o' (neC b o e hx) e1 (I.base.free b o e n hx)
 ·obtain⟨o',e1⟩:=I.base.there b o e hx
  exact there b o' (neC b o e hx) e1
 ·obtain⟨m1,e1⟩:=I.base.tbls b ps e
  obtain⟨m2,e2⟩:=tbls b _ e1
  exact⟨m1++m2,by rw[e2,Array.append_assoc]⟩
 ·obtain⟨m,hn,hl⟩:=I.loc
  refine⟨m,ns m hn,fun i x v e1 e2 e3=>?_⟩
  obtain⟨u,r,l⟩:=hl i x v e1 e2 e3
  refine⟨u,r,?_⟩
  rcases l with l | ⟨k,c,e,z⟩
  ·exact .inl l
  ·exact .inr ⟨k,c,e,cellK x c e _ z⟩
 ·obtain⟨v,z⟩:=I.cell x c e
  exact⟨v,cellK x c e v z⟩
 ·obtain⟨m,⟨o,_,_,ho,_⟩,_⟩:=I.loc
  exact free _ o (fun z=>(hch _ z).2.1 rfl) ho I.free
 ·obtain⟨v,o,ho,hd⟩:=I.cell x c e
  exact free c o (fun z=>(hch c z).2.2.1 x c e rfl) ho (I.freeC x c e)
 ·obtain⟨e,n,ne,nf,d⟩:=I.pin p hp
  have nch:p.1∉ch:=fun z=>(hch p.1 z).2.2.2 p hp rfl
  exact⟨keep p.1 p.2 ne nf nch e n,free p.1 p.2 nch e n,ne,nf,d⟩
theorem Inv.un {t':Nat} (I:Inv X pins σ H s) (u:Un X.fs [] H H' s.heap h') (hok:HOk X.prog X.w H' h'):Inv X pins σ H' { s with heap:=h',toks:=t' }:=by
 obtain⟨m,⟨o,es,ep,ho,r⟩,_⟩:=id I.loc
 obtain⟨sl,hL⟩:=u.any ho I.free (by simp)
 exact I.step (g':=s.gens) (d':=s.drawn) (ch:=[]) (fun _ z=>nomatch z) (fun b o _ hb _ e n=>u.keep b o e n hb (by simp)) (fun b o _ hb _ e n=>u.slot b o e n hb (by simp)) (fun b o _ e n=>u.free b o e n (by simp)) (fun b o _ e=>u.there b o e (by simp)) u.tups u.frzs u.tbls (fun m' hm=>by
  obtain⟨o',es',ep',ho',r'⟩:=hm
  rw[ho] at ho';cases ho'
  exact⟨_,es',ep',hL,r'⟩) hok I.bare
theorem Inv.call {g':Array GenState}{t':Nat}{d':Drawn}{ch:List Addr} (I:Inv X pins σ H s) (u:Un (frs X.stack) ch H H' s.heap h') (hok:HOk X.prog X.w H' h') (hg:AllBare g')
  (hch:∀ b∈ch,(b∈X.ex∨X.s₀.heap.objs.size≤b)∧b≠X.env.locals∧(∀ x c,X.env.cells.lookup x=some c→c≠b)∧∀ p∈X.pn++pins,p.1≠b):
  Inv X pins σ H' { s with heap:=h',gens:=g',drawn:=d',toks:=t' }:=by
 obtain⟨m,⟨o,es,ep,ho,r⟩,_⟩:=id I.loc
 obtain⟨sl,hL⟩:=u.any ho I.free fun z=>(hch _ z).2.1 rfl
 exact I.step (ch:=ch) hch (fun b o hL hb hc e n=>u.keep b o e n (fun z=>(List.mem_cons.mp (I.stkSub b z)).elim hL hb) hc) (fun b o _ _ hc e n=>u.any e n hc) (fun b o hc e n=>u.free b o e n hc) (fun b o hc e=>u.there b o e hc) u.tups u.frzs u.tbls (fun m' hm=>by
  obtain⟨o',es',ep',ho',r'⟩:=hm
  rw[ho] at ho';cases ho'
  exact⟨_,es',ep',hL,r'⟩) hok hg
theorem Inv.turned {t':Nat}{it:Addr} (I:Inv X pins σ H s) (k:∀ b o,b≠it→s.heap.get? b=some o→h'.get? b=some o) (hn:H it=none) (hL:it≠X.env.locals)
  (h1:it∈X.ex∨X.s₀.heap.objs.size≤it) (h2:∀ x c,X.env.cells.lookup x=some c→c≠it) (h3:∀ p∈X.pn++pins,p.1≠it):Inv X pins σ H { s with heap:=h',toks:=t' }:=by
 have nit:∀ b u,H b=some u→b≠it:=fun b u e z=>by rw[z,hn] at e;cases e
 refine I.step (g':=s.gens) (d':=s.drawn) (ch:=[it]) (fun b hb=>?_) (fun b o _ _ hc e _=>k b o (fun z=>hc (by simp[z])) e) (fun b o _ _ hc e _=>⟨o.slots,k b o (fun z=>hc (by simp[z])) e⟩) (fun _ _ _ _ n=>n)
  (fun b o hc e=>⟨o,k b o (fun z=>hc (by simp[z])) e⟩) (fun _ _ e=>e) (fun _ _ _ e=>e) (fun b ps e=>⟨#[],by rw[e];simp⟩) (fun m hm=>?_) (fun b u e=>?_) I.bare
 ·have e:b=it:=by simpa using hb
  subst e
  exact⟨h1,hL,h2,h3⟩
 ·obtain⟨o,es,ep,ho,r⟩:=hm
  exact⟨o,es,ep,k _ o (Ne.symm hL) ho,r⟩
 ·refine (I.hok b u e).stay (fun c v hc q=>k c v ?_ q) (fun _ q=>q) fun _ _ q=>q
  rcases hc with z | z
  ·rw[z];exact nit b u e
  ·exact nit c _ z
theorem Inv.tok (I:Inv X pins σ H s) (t:Nat):Inv X pins σ H { s with toks:=t }:=I.un (h':=s.heap) (t':=t) Un.refl I.hok
theorem Inv.kept {t':Nat} (I:Inv X pins σ H s) (k:∀ b u,s.heap.get? b=some u→h'.get? b=some u):Inv X pins σ H { s with heap:=h',toks:=t' }:=I.un (Un.kept k) (I.hok.kept k)
theorem Inv.laid {a:Addr}{o:HO}{t':Nat} (I:Inv X pins σ H s) (k:∀ b u,s.heap.get? b=some u→h'.get? b=some u) (hp:s.heap.objs.size≤a) (new:bE X.prog X.w (upd H a o) h' a o):
  Inv X pins σ (upd H a o) { s with heap:=h',toks:=t' }:=I.un (Un.laid k hp (I.hok.fresh hp)) (I.hok.laid k hp new)
theorem Inv.write {x e:Addr}{o:HO}{t':Nat} (I:Inv X pins σ H s) (mu:Mut (H x)) (he:e=x∨H e=some (.own x)) (k:∀ b u,b≠e→s.heap.get? b=some u→h'.get? b=some u) (heo:∃ u,h'.get? e=some u)
  (new:bE X.prog X.w (upd H x o) h' x o):Inv X pins σ (upd H x o) { s with heap:=h',toks:=t' }:=I.un (Un.write mu he k heo) (I.hok.write mu he k heo new)
theorem Inv.weak {σ':List (Option V)} (I:Inv X pins σ H s) (hl:σ'.length=σ.length) (w:∀ (i:Nat) v,σ'[i]?=some (some v)→σ[i]?=some (some v)):Inv X pins σ' H s:=
 ⟨I.ok,I.os,I.bare,I.base,let ⟨m,hn,hl'⟩:=I.loc;⟨m,hn,fun i x v e1 e2 e3=>hl' i x v e1 (w i v e2) e3⟩,I.cell,I.free,I.freeC,I.pin,I.hok,hl.trans I.len⟩
theorem Inv.pins_of {pins':List (Addr×Obj)} (I:Inv X pins σ H s) (h:∀ p∈pins',s.heap.get? p.1=some p.2∧H p.1=none∧p.1≠X.env.locals∧p.1∉X.fs∧∀ v,p.2.data≠.cell v):Inv X pins' σ H s:=
 ⟨I.ok,I.os,I.bare,I.base,I.loc,I.cell,I.free,I.freeC,fun p hp=>(List.mem_append.mp hp).elim (fun z=>I.pin p (List.mem_append_left _ z)) (h p),I.hok,I.len⟩
theorem mL {N:List Str} (hN:N.Nodup) {i j:Nat}{x:Str} (a:N[i]?=some x) (b:N[j]?=some x):i=j:=by
 obtain⟨h1,e1⟩:=List.getElem?_eq_some_iff.mp a
 obtain⟨h2,e2⟩:=List.getElem?_eq_some_iff.mp b
 exact (List.getElem_inj hN).mp (e1.trans e2.symm)
theorem mM {M:Model}{A:Around}{E:Value→Shared→Prop}{i:Nat}{x:Str}{v:V}{u:Value}{Q:Unit→Shared→Prop} (I:Inv X pins σ H s) (hN:X.N.Nodup) (hi:X.N[i]?=some x) (hx:Loc X.env.scope x) (r:ay v u)
  (h:∀ s',Inv X pins (σ.set i (some v)) H s'→(∃ a,Heap.SameBut a s.heap s'.heap∧(a=X.env.locals∨X.env.cells.lookup x=some a))→Q () s') (hf:X.fn x=true∨X.env.scope.names.lookup x=some .local:=by first | exact .inl rfl | exact .inr rfl | assumption):wpAny M A (storeName X.env x u) Q E s:=by
 obtain⟨m,hn,hl⟩:=id I.loc
 have hcls:(X.env.scope.kind == .class || (X.env.scope.kind == .module && X.env.locals != X.env.globals))=false:=by rw[I.ok.kind];rfl
 have hiσ:i < σ.length:=by rw[I.len];exact (List.getElem?_eq_some_iff.mp hi).1
 have cne:=I.cne
 have tracked:∀ {a:Addr}{h':Heap},(∃ o,s.heap.get? a=some o∧H a=none)→Heap.SameBut a s.heap h'→HOk X.prog X.w H h':=fun {a h'} ha hs b ob e=>by
  obtain⟨_,_,hfree⟩:=ha
  refine (I.hok b ob e).stay (fun c w' hc q=>(hs.2 c ?_).trans q) (fun _ q=>q) fun _ _ q=>q
  rintro rfl
  rcases hc with rfl | hc
  ·rw[hfree] at e;cases e
  ·rw[hfree] at hc;cases hc
 rcases hx with hk | hk
 ·refine wpAny_storeName_local hk hn (fun h' hn' hs=>?_) hcls
  obtain⟨oL,_,_,hoL,_⟩:=id hn
  refine h _ ⟨I.ok,I.os,I.bare,⟨fun b o e n hb hx=>?_,fun b o e n hb hx=>?_,I.base.free,fun b o e hx=>?_,I.base.tups,I.base.frzs,I.base.tbls⟩,⟨_,hn',fun j y v' e1 e2 e3=>?_⟩,fun y c e=>?_,I.free,I.freeC,fun p hp=>?_,tracked ⟨oL,hoL,I.free⟩ hs,by simpa using I.len⟩ ⟨_,hs,.inl rfl⟩
  ·exact (hs.2 b (Nat.ne_of_lt (Nat.lt_of_lt_of_le (Heap.lt_size e) I.ok.above))).trans (I.base.keep b o e n hb hx)
  ·obtain⟨sl,e1⟩:=I.base.slot b o e n hb hx
   exact⟨sl,(hs.2 b (Nat.ne_of_lt (Nat.lt_of_lt_of_le (Heap.lt_size e) I.ok.above))).trans e1⟩
  ·obtain⟨o',e1⟩:=I.base.there b o e hx
   exact⟨o',(hs.2 b (Nat.ne_of_lt (Nat.lt_of_lt_of_le (Heap.lt_size e) I.ok.above))).trans e1⟩
  ·by_cases hj:j=i
   ·subst hj
    rw[hi] at e1;cases e1
    rw[List.getElem?_set_self hiσ] at e2
    cases e2
    exact⟨u,r,.inl ⟨hk,by simp⟩⟩
   ·rw[List.getElem?_set_ne (Ne.symm hj)] at e2
    obtain⟨u',r',q⟩:=hl j y v' e1 e2 e3
    refine⟨u',r',?_⟩
    rcases q with ⟨k,e⟩ | ⟨k,c,e,z⟩
    ·refine .inl ⟨k,?_⟩
     have:y≠x:=fun e=>hj (mL hN e1 (e ▸ hi))
     simp[this,e]
    ·exact .inr ⟨k,c,e,z.sameBut hs (cne y c e)⟩
  ·obtain⟨w',z⟩:=I.cell y c e
   exact⟨w',z.sameBut hs (cne y c e)⟩
  ·obtain⟨e,n,ne,nf,d⟩:=I.pin p hp
   exact⟨(hs.2 p.1 ne).trans e,n,ne,nf,d⟩
 ·have hfn:X.fn x=true:=by
   rcases hf with z | z
   ·exact z
   ·rw[z] at hk;cases hk
  obtain⟨c,hc⟩:=I.ok.has x (.inl hk)
  obtain⟨w',z⟩:=I.cell x c hc
  refine wpAny_storeName_cell I.ok.kind hk hc z (fun h' hc' hs=>?_)
  obtain⟨oc,hoc,hocd⟩:=id z
  refine h { s with heap:=h' } ⟨I.ok,I.os,I.bare,⟨fun b o e n hb hx=>?_,fun b o e n hb hx=>?_,I.base.free,fun b o e hx=>?_,I.base.tups,I.base.frzs,I.base.tbls⟩,⟨m,hn.sameBut hs (Ne.symm (cne x c hc)),fun j y v' e1 e2 e3=>?_⟩,fun y c' e=>?_,I.free,I.freeC,fun p hp=>?_,tracked ⟨oc,hoc,I.freeC x c hc⟩ hs,by simpa using I.len⟩ ⟨c,hs,.inr hc⟩
  ·exact (hs.2 b (Nat.ne_of_lt (Nat.lt_of_lt_of_le (Heap.lt_size e) (I.ok.cab x c hfn hc)))).trans (I.base.keep b o e n hb hx)
  ·obtain⟨sl,e1⟩:=I.base.slot b o e n hb hx
   exact⟨sl,(hs.2 b (Nat.ne_of_lt (Nat.lt_of_lt_of_le (Heap.lt_size e) (I.ok.cab x c hfn hc)))).trans e1⟩
  ·obtain⟨o',e1⟩:=I.base.there b o e hx
   exact⟨o',(hs.2 b (Nat.ne_of_lt (Nat.lt_of_lt_of_le (Heap.lt_size e) (I.ok.cab x c hfn hc)))).trans e1⟩
  ·by_cases hj:j=i
   ·subst hj
    rw[hi] at e1;cases e1
    rw[List.getElem?_set_self hiσ] at e2
    cases e2
    exact⟨u,r,.inr ⟨.inl hk,c,hc,hc'⟩⟩
   ·rw[List.getElem?_set_ne (Ne.symm hj)] at e2
    obtain⟨u',r',q⟩:=hl j y v' e1 e2 e3
    refine⟨u',r',?_⟩
    rcases q with q | ⟨k,c',e,z'⟩
    ·exact .inl q
    ·refine .inr ⟨k,c',e,z'.sameBut hs ?_⟩
     rintro rfl
     exact hj (mL hN e1 (I.ok.inj _ _ _ e hc ▸ hi))
  ·by_cases hcc:c'=c
   ·subst hcc;exact⟨_,hc'⟩
   ·obtain⟨w2,z2⟩:=I.cell y c' e
    exact⟨w2,z2.sameBut hs hcc⟩
  ·obtain⟨e,n,ne,nf,d⟩:=I.pin p hp
   refine⟨(hs.2 p.1 ?_).trans e,n,ne,nf,d⟩
   intro q
   rw[q,hoc] at e
   have q':oc=p.2:=Option.some.inj e
   exact d w' (by rw[← q'];exact hocd)
theorem mN {M:Model}{A:Around}{E:Value→Shared→Prop}{i:Nat}{x:Str}{v:V}{u:Value}{Q:Unit→Shared→Prop} (I:Inv X pins σ H s) (hN:X.N.Nodup) (hi:X.N[i]?=some x) (hx:Loc X.env.scope x) (r:ay v u)
  (h:∀ s',Inv X pins (σ.set i (some v)) H s'→Q () s') (hf:X.fn x=true∨X.env.scope.names.lookup x=some .local:=by first | exact .inl rfl | exact .inr rfl | assumption):wpAny M A (storeName X.env x u) Q E s:=
 mM I hN hi hx r (fun s' I' _=>h s' I') hf
theorem Inv.call' {s':Shared}{ch:List Addr} (I:Inv X pins σ H s) (ho:s'.os=s.os) (u:Un (frs X.stack) ch H H' s.heap s'.heap) (hok:HOk X.prog X.w H' s'.heap) (hg:AllBare s'.gens)
  (hch:∀ b∈ch,(b∈X.ex∨X.s₀.heap.objs.size≤b)∧b≠X.env.locals∧(∀ x c,X.env.cells.lookup x=some c→c≠b)∧∀ p∈X.pn++pins,p.1≠b):Inv X pins σ H' s':=by
 obtain⟨h',g',d',t',o'⟩:=s'
 have e:o'=s.os:=ho
 subst e
 exact I.call (g':=g') (t':=t') (d':=d') u hok hg hch
end
noncomputable abbrev XK:=Value→Option Addr→Hp→Prop
noncomputable abbrev St:=List (Option V)
noncomputable abbrev VK:=V→Hp→Prop
noncomputable abbrev TE:=St→Hp→VK→Prop
noncomputable abbrev TT:=St→Hp→(Bool→Hp→Prop)→Prop
noncomputable abbrev TA:=St→Hp→(List V→Hp→Prop)→Prop
structure Ends where
 nx:St→Hp→Prop
 rt:VK
 bk:St→Hp→Prop:=fun _ _=>False
 ct:St→Hp→Prop:=fun _ _=>False
noncomputable abbrev TS:=Ends→St→Hp→Prop
noncomputable def EP (X:Cx) (pins:List (Addr×Obj)) (σ:St) (Q:VK) (u:Value) (s':Shared):Prop:=∃ v H',Inv X pins σ H' s'∧ay v u∧Q v H'
noncomputable def TP (X:Cx) (pins:List (Addr×Obj)) (σ:St) (Q:Bool→Hp→Prop) (b:Bool) (s':Shared):Prop:=∃ H',Inv X pins σ H' s'∧Q b H'
noncomputable def AP (X:Cx) (pins:List (Addr×Obj)) (σ:St) (Q:List V→Hp→Prop) (us:List Value) (s':Shared):Prop:=∃ vs H',Inv X pins σ H' s'∧am vs us∧Q vs H'
noncomputable def SP (X:Cx) (pins:List (Addr×Obj)) (D:Ends) (f:Flow) (s':Shared):Prop:=
 match f with
 | .next=>∃ σ' H',Inv X pins σ' H' s'∧D.nx σ' H'
 | .brk=>∃ σ' H',Inv X pins σ' H' s'∧D.bk σ' H'
 | .cont=>∃ σ' H',Inv X pins σ' H' s'∧D.ct σ' H'
 | .ret u=>∃ v σ' H',Inv X pins σ' H' s'∧ay v u∧D.rt v H'
noncomputable def PE (X:Cx) (e:Expr) (t:TE):Prop:=
 ∀ (pins:List (Addr×Obj)) (s:Shared) (σ:St) (H:Hp) (Q:VK),Inv X pins σ H s→t σ H Q→wpAny (model X.prog X.w) X.A (eval e X.env) (EP X pins σ Q) X.xe s
noncomputable def PT (X:Cx) (e:Expr) (t:TT):Prop:=
 ∀ (pins:List (Addr×Obj)) (s:Shared) (σ:St) (H:Hp) (Q:Bool→Hp→Prop),Inv X pins σ H s→t σ H Q→wpAny (model X.prog X.w) X.A (isTrue e X.env (eval e X.env)) (TP X pins σ Q) X.xe s
noncomputable def PW (X:Cx) (e:Expr) (t:TT):Prop:=
 ∀ (whole:Sem Value) (pins:List (Addr×Obj)) (s:Shared) (σ:St) (H:Hp) (Q:Bool→Hp→Prop),Inv X pins σ H s→t σ H Q→wpAny (model X.prog X.w) X.A (isTrue e X.env whole) (TP X pins σ Q) X.xe s
theorem PW.pt {X:Cx}{e:Expr}{t:TT} (h:PW X e t):PT X e t:=h _
noncomputable def PA (X:Cx) (es:List Expr) (t:TA):Prop:=
 ∀ (pos:Pos) (pins:List (Addr×Obj)) (s:Shared) (σ:St) (H:Hp) (Q:List V→Hp→Prop),Inv X pins σ H s→t σ H Q→wpAny (model X.prog X.w) X.A (spliced (backTo pos (starEach es X.env))) (AP X pins σ Q) X.xe s
noncomputable def PS (X:Cx) (st:Stmt) (t:TS):Prop:=
 ∀ (pins:List (Addr×Obj)) (s:Shared) (σ:St) (H:Hp) (D:Ends),Inv X pins σ H s→t D σ H→wpAny (model X.prog X.w) X.A (exec st X.env) (SP X pins D) X.xe s
noncomputable def PSs (X:Cx) (st:List Stmt) (t:TS):Prop:=
 ∀ (pins:List (Addr×Obj)) (s:Shared) (σ:St) (H:Hp) (D:Ends),Inv X pins σ H s→t D σ H→wpAny (model X.prog X.w) X.A (execs st X.env) (SP X pins D) X.xe s
theorem thn {α:Type}{t:Sem α}{Q Q':α→Shared→Prop}{M:Model}{A:Around}{E:Value→Shared→Prop}{s:Shared} (h:wpAny M A t Q E s) (hQ:∀ a s,Q a s→Q' a s):wpAny M A t Q' E s:=wpAny_mono h hQ fun _ _ x=>x
section
variable {X:Cx}
theorem bin {a b:Expr}{ta tb:TE} (ha:PE X a ta) (hb:PE X b tb) {pins:List (Addr×Obj)}{s:Shared}{σ:St}{H:Hp}{R:V→V→Hp→Prop} (I:Inv X pins σ H s) (h:ta σ H fun x H1=>tb σ H1 fun y H2=>R x y H2)
  {α:Type}{Q:α→Shared→Prop}{f:Value→Value→Sem α}
  (hf:∀ v u s2 x y H2,Inv X pins σ H2 s2→ay x v→ay y u→R x y H2→wpAny (model X.prog X.w) X.A (f v u) Q X.xe s2):
  wpAny (model X.prog X.w) X.A (eval a X.env) (fun v s₁=>wpAny (model X.prog X.w) X.A (eval b X.env) (fun u s₂=>wpAny (model X.prog X.w) X.A (f v u) Q X.xe s₂) X.xe s₁) X.xe s:=by
 refine thn (ha pins s σ H _ I h) fun v s1 ⟨x,H1,I1,r1,q1⟩=>?_
 refine thn (hb pins s1 σ H1 _ I1 q1) fun u s2 ⟨y,H2,I2,r2,q2⟩=>?_
 exact hf v u s2 x y H2 I2 r1 r2 q2
noncomputable def fy (i:Nat):TE:=fun σ H Q=>∃ v,σ[i]?=some (some v)∧Q v H
noncomputable def tC (v:V):TE:=fun _ H Q=>Q v H
theorem sy {i:Nat}{x:Str}{pos:Pos} (hN:X.N[i]?=some x) (hv:Vis X.env.scope x) (hd:(x == ("__debug__" : Str))=false:=by decide) (hcd:(x == ("__classdict__" : Str))=false:=by decide):PE X (.Name x pos) (fy i):=by
 intro pins s σ H Q I h
 obtain⟨v,e,h⟩:=h
 obtain⟨m,hn,hl⟩:=I.loc
 obtain⟨u,r,l⟩:=hl i x v hN e hv
 have fin:EP X pins σ Q u s:=⟨v,H,I,r,h⟩
 rcases l with ⟨hk,hm⟩ | ⟨hk,c,hc,hcell⟩
 ·exact wpAny_Name (wpAny_loadName_local I.ok.kind hk hn hm fin) hd
 ·rcases hk with hk | hk
  ·exact wpAny_Name (wpAny_loadName_cell I.ok.kind hk hc hcell fin) hd
  ·exact wpAny_Name (wpAny_loadName_free I.ok.kind hk hc hcell fin hcd) hd
theorem sD {i j pos}:PE X (.Constant (.int i) j pos) (tC (.int i)):=fun _ _ _ H _ I h=>wpAny_Constant_int ⟨.int i,H,I.tok _,⟨_,rfl⟩,h⟩
theorem sE {b j pos}:PE X (.Constant (.bool b) j pos) (tC (.bl b)):=fun _ _ _ H _ I h=>Constant_bool ⟨.bl b,H,I,rfl,h⟩
theorem sF {j pos}:PE X (.Constant .none j pos) (tC .non):=fun _ _ _ H _ I h=>Constant_none ⟨.non,H,I,rfl,h⟩
noncomputable def Gl (X:Cx) (x:Str):Prop:=X.env.kindOf x=some .globalImplicit
theorem mO {E:Value→Shared→Prop}{pins:List (Addr×Obj)}{s:Shared}{σ:St}{H:Hp}{x:Str}{u:Value}{pos:Pos}{Q:Value→Shared→Prop} (I:Inv X pins σ H s) (hg:Gl X x) (hm:X.mg x=some u) (h:Q u s)
  (hd:(x == ("__debug__" : Str))=false:=by decide):wpAny (model X.prog X.w) X.A (eval (.Name x pos) X.env) Q E s:=
 Calls.Name_function_global I.ok.kind hg (Calls.loadGlobal_global (by rw[I.ok.glob];exact I.mod.glob.keeps I.bk) hm h) hd
theorem cl {E:Value→Shared→Prop}{pins:List (Addr×Obj)}{s:Shared}{σ:St}{H:Hp}{x:Str}{u:Value}{pos:Pos}{Q:Value→Shared→Prop} (I:Inv X pins σ H s) (hg:Gl X x) (hm:X.mg x=none) (hv:bootBuiltins x=some u) (h:Q u s)
  (hn:x ≠ "__name__" := by decide) (hd:(x == ("__debug__" : Str))=false:=by decide):wpAny (model X.prog X.w) X.A (eval (.Name x pos) X.env) Q E s:=by
 obtain⟨mb,h1,h2⟩:=I.mod.blt
 exact Calls.Name_function_global I.ok.kind hg (Calls.loadGlobal_builtin (by rw[I.ok.glob];exact I.mod.glob.keeps I.bk) hm (by rw[I.ok.blt];exact h1.keeps I.bk) ((h2 x hn).trans hv) h) hd
theorem sG {x:Str}{v:V}{u:Value}{pos:Pos} (hg:Gl X x) (hm:X.mg x=some u) (r:ay v u) (hd:(x == ("__debug__" : Str))=false:=by decide):PE X (.Name x pos) (tC v):=
 fun _ _ _ H _ I h=>mO I hg hm ⟨v,H,I,r,h⟩ hd
theorem sH {x:Str}{v:V}{u:Value}{pos:Pos} (hg:Gl X x) (hm:X.mg x=none) (hv:bootBuiltins x=some u) (r:ay v u) (hn:x ≠ "__name__" := by decide) (hd:(x == ("__debug__" : Str))=false:=by decide):PE X (.Name x pos) (tC v):=
 fun _ _ _ H _ I h=>cl I hg hm hv ⟨v,H,I,r,h⟩ hn hd
variable {a b:Expr}{ta tb:TE}{pos:Pos}
variable {tA tB':TT}{rest:List Expr}
noncomputable def mP (t u:TT):TT:=fun σ H Q=>t σ H fun c H1=>if c=true then u σ H1 Q else Q false H1
noncomputable def tOr (t u:TT):TT:=fun σ H Q=>t σ H fun c H1=>if c=true then Q true H1 else u σ H1 Q
noncomputable def sI (t:TT):TT:=fun σ H Q=>t σ H fun c H1=>Q (!c) H1
theorem sJ (ha:PT X a tA):PW X (.BoolOp .And [a] pos) tA:=by
 intro wh pins s σ H Q I h
 refine isTrue_and (thn (ha pins s σ H Q I h) fun c s1 e=>?_)
 cases c with
 | true=>exact isTrue_and_nil e
 | false=>exact e
theorem sK (ha:PT X a tA):PW X (.BoolOp .Or [a] pos) tA:=by
 intro wh pins s σ H Q I h
 refine isTrue_or (thn (ha pins s σ H Q I h) fun c s1 e=>?_)
 cases c with
 | false=>exact isTrue_or_nil e
 | true=>exact e
theorem sL (ha:PT X a tA) (hb:PW X (.BoolOp .And (b::rest) pos) tB'):PW X (.BoolOp .And (a::b::rest) pos) (mP tA tB'):=by
 intro wh pins s σ H Q I h
 refine isTrue_and (thn (ha pins s σ H _ I h) fun c s1 ⟨H1,I1,q1⟩=>?_)
 cases c with
 | true=>exact hb wh pins s1 σ H1 Q I1 q1
 | false=>exact⟨H1,I1,q1⟩
theorem sM (ha:PT X a tA) (hb:PW X (.BoolOp .Or (b::rest) pos) tB'):PW X (.BoolOp .Or (a::b::rest) pos) (tOr tA tB'):=by
 intro wh pins s σ H Q I h
 refine isTrue_or (thn (ha pins s σ H _ I h) fun c s1 ⟨H1,I1,q1⟩=>?_)
 cases c with
 | true=>exact⟨H1,I1,q1⟩
 | false=>exact hb wh pins s1 σ H1 Q I1 q1
theorem sN (ha:PT X a tA):PT X (.UnaryOp .Not a pos) (sI tA):=by
 intro pins s σ H Q I h
 exact isTrue_not (ha pins s σ H (fun c H1=>Q (!c) H1) I h)
noncomputable def sO (ta tb:TE):TE:=fun σ H Q=>ta σ H fun x H1=>∃ c,x=.bl c∧if c=true then tb σ H1 Q else Q (.bl false) H1
noncomputable def sP (ta tb:TE):TE:=fun σ H Q=>ta σ H fun x H1=>∃ c,x=.bl c∧if c=true then Q (.bl true) H1 else tb σ H1 Q
noncomputable def sQ (ta:TE):TE:=fun σ H Q=>ta σ H fun x H1=>∃ c,x=.bl c∧Q (.bl (!c)) H1
theorem sR {op}{t:TE} (h:PE X a t):PE X (.BoolOp op [a] pos) t:=fun pins s σ H Q I hw=>BoolOp_one (h pins s σ H Q I hw)
theorem sS (ha:PE X a ta) (hb:PE X (.BoolOp .And (b::rest) pos) tb):PE X (.BoolOp .And (a::b::rest) pos) (sO ta tb):=by
 intro pins s σ H Q I h
 refine BoolOp_and (thn (ha pins s σ H _ I h) fun v s1 ⟨x,H1,I1,r1,q1⟩=>?_)
 obtain⟨c,rfl,q1⟩:=q1
 cases r1
 refine wpAny_truthy_bool ?_
 cases c with
 | true=>exact hb pins s1 σ H1 Q I1 q1
 | false=>exact⟨.bl false,H1,I1,rfl,q1⟩
theorem sT (ha:PE X a ta) (hb:PE X (.BoolOp .Or (b::rest) pos) tb):PE X (.BoolOp .Or (a::b::rest) pos) (sP ta tb):=by
 intro pins s σ H Q I h
 refine BoolOp_or (thn (ha pins s σ H _ I h) fun v s1 ⟨x,H1,I1,r1,q1⟩=>?_)
 obtain⟨c,rfl,q1⟩:=q1
 cases r1
 refine wpAny_truthy_bool ?_
 cases c with
 | false=>exact hb pins s1 σ H1 Q I1 q1
 | true=>exact⟨.bl true,H1,I1,rfl,q1⟩
theorem sU (ha:PE X a ta):PE X (.UnaryOp .Not a pos) (sQ ta):=by
 intro pins s σ H Q I h
 refine UnaryOp_ (thn (ha pins s σ H _ I h) fun v s1 ⟨x,H1,I1,r1,q1⟩=>?_)
 obtain⟨c,rfl,q1⟩:=q1
 cases r1
 exact not_of (wpAny_truthy_bool ⟨.bl (!c),H1,I1,rfl,q1⟩)
end
noncomputable def SqL (K:PySem.W.Frag) (H:Hp) (a:Addr) (xs:List V):Prop:=
 Rd H a (.lst xs)∨
  ∃ (o:Obj) (its:Array Value) (n:Nat),K.lookup a=some o∧o.cls=.type "list" ∧ o.dict=none∧o.data=.seq its n∧its.size≤sizeLine∧am xs its.toList
noncomputable def SqT (K:PySem.W.Frag) (H:Hp) (a:Addr) (xs:List V):Prop:=
 Rd H a (.tup xs)∨
  ∃ (o:Obj) (its:Array Value) (n:Nat),K.lookup a=some o∧o.cls=.type "tuple" ∧ o.data=.seq its n∧its.size≤sizeLine∧am xs its.toList
noncomputable def sV:Value→Option V
 | .none=>some .non
 | .bool b=>some (.bl b)
 | .int i _=>some (.int i)
 | .str x _=>some (.str x)
 | .bytes b _=>some (.byt b)
 | .float b _=>some (.flt b)
 | .ref a=>some (.ref a)
 | .type n=>some (.ty n)
 | _=>none
theorem ay.abs {x:V}{u:Value} (r:ay x u):sV u=some x:=by
 cases x with
 | non=>cases r;rfl
 | bl _=>cases r;rfl
 | int _=>obtain⟨t,rfl⟩:=r;rfl
 | str _=>obtain⟨t,rfl⟩:=r;rfl
 | byt _=>obtain⟨t,rfl⟩:=r;rfl
 | flt _=>obtain⟨t,rfl⟩:=r;rfl
 | ref _=>cases r;rfl
 | ty _=>cases r;rfl
theorem ay.inj {x y:V}{u:Value} (r:ay x u) (q:ay y u):x=y:=Option.some.inj (r.abs.symm.trans q.abs)
theorem am.inj:∀ {xs ys:List V}{us:List Value},am xs us→am ys us→xs=ys
 | _,_,_,.nil,.nil=>rfl
 | _,_,_,.cons r t,.cons r' t'=>by rw[r.inj r',am.inj t t']
section
variable {X:Cx}{pins:List (Addr×Obj)}{σ:St}{H:Hp}{s:Shared}{a:Addr}{xs ys:List V}
theorem SqL.of {K:PySem.W.Frag} (h:H a=some (.lst xs)):SqL K H a xs:=.inl (.inl h)
theorem SqT.of {K:PySem.W.Frag} (h:H a=some (.tup xs)):SqT K H a xs:=.inl (.inl h)
theorem Inv.list (I:Inv X pins σ H s) (h:SqL X.K H a xs):∃ its:List Value,am xs its∧PlainL s.heap a its.toArray∧xs.length≤sizeLine:=by
 rcases h with h | ⟨o,its,n,hk,hc,hd,hs,hz,r⟩
 ·obtain⟨z,its,n,r,e⟩:=h.ok I.hok
  exact⟨its,r,⟨_,n,e,rfl,rfl,rfl⟩,z⟩
 ·refine⟨its.toList,r,⟨o,n,I.kIn a o hk,hc,hd,by simpa using hs⟩,?_⟩
  have e:=r.length
  simp only[Array.length_toList] at e
  lia
theorem Inv.tuple (I:Inv X pins σ H s) (h:SqT X.K H a xs):∃ its:List Value,am xs its∧IsTup s.heap a its.toArray∧xs.length≤sizeLine:=by
 rcases h with h | ⟨o,its,n,hk,hc,hs,hz,r⟩
 ·obtain⟨z,its,r,p⟩:=h.ok I.hok
  exact⟨its,r,p,z⟩
 ·refine⟨its.toList,r,⟨o,I.kIn a o hk,hc,n,by simpa using hs⟩,?_⟩
  have e:=r.length
  simp only[Array.length_toList] at e
  lia
theorem Inv.list_inj (I:Inv X pins σ H s) (h:SqL X.K H a xs) (h':SqL X.K H a ys):xs=ys:=by
 obtain⟨its,r,⟨o,n,e,_,_,d⟩,_⟩:=I.list h
 obtain⟨its',r',⟨o',n',e',_,_,d'⟩,_⟩:=I.list h'
 rw[e] at e';cases e'
 rw[d] at d'
 injection d' with d1 _
 have:its=its':=by simpa using congrArg Array.toList d1
 subst this
 exact r.inj r'
theorem Inv.tuple_inj (I:Inv X pins σ H s) (h:SqT X.K H a xs) (h':SqT X.K H a ys):xs=ys:=by
 obtain⟨its,r,⟨o,e,_,n,d⟩,_⟩:=I.tuple h
 obtain⟨its',r',⟨o',e',_,n',d'⟩,_⟩:=I.tuple h'
 rw[e] at e';cases e'
 rw[d] at d'
 injection d' with d1 _
 have:its=its':=by simpa using congrArg Array.toList d1
 subst this
 exact r.inj r'
end
noncomputable abbrev Cx.wish (X:Cx) (E:Value→Shared→Prop):Cx:={ X with xe:=E }
noncomputable abbrev Cx.nox (X:Cx):Cx:=X.wish fun _ _=>False
theorem Cx.Ok.wish {X:Cx} (ok:X.Ok) (E:Value→Shared→Prop):(X.wish E).Ok:=
 ⟨ok.mod,ok.kind,ok.glob,ok.blt,ok.above,ok.inj,ok.has,ok.cab,ok.hd,ok.frames,ok.stk,ok.exf,ok.bs,ok.bsz,ok.noex,ok.exfs,ok.funs,ok.frf⟩
theorem Cx.Ok.unwish {X:Cx}{E:Value→Shared→Prop} (ok:(X.wish E).Ok):X.Ok:=
 ⟨ok.mod,ok.kind,ok.glob,ok.blt,ok.above,ok.inj,ok.has,ok.cab,ok.hd,ok.frames,ok.stk,ok.exf,ok.bs,ok.bsz,ok.noex,ok.exfs,ok.funs,ok.frf⟩
section
variable {X:Cx}{pins:List (Addr×Obj)}{σ:St}{H:Hp}{s:Shared}{E:Value→Shared→Prop}
theorem Inv.wish (I:Inv X pins σ H s) (E:Value→Shared→Prop):Inv (X.wish E) pins σ H s:=⟨I.ok.wish E,I.os,I.bare,I.base,I.loc,I.cell,I.free,I.freeC,I.pin,I.hok,I.len⟩
theorem Inv.unwish (I:Inv (X.wish E) pins σ H s):Inv X pins σ H s:=⟨I.ok.unwish,I.os,I.bare,I.base,I.loc,I.cell,I.free,I.freeC,I.pin,I.hok,I.len⟩
theorem SP.unwish {D:Ends}{f:Flow}{s':Shared} (h:SP (X.wish E) pins D f s'):SP X pins D f s':=by
 cases f with
 | next=>obtain⟨σ',H',I,q⟩:=h;exact⟨σ',H',I.unwish,q⟩
 | brk=>obtain⟨σ',H',I,q⟩:=h;exact⟨σ',H',I.unwish,q⟩
 | cont=>obtain⟨σ',H',I,q⟩:=h;exact⟨σ',H',I.unwish,q⟩
 | ret u=>obtain⟨v,σ',H',I,r,q⟩:=h;exact⟨v,σ',H',I.unwish,r,q⟩
theorem PSs.nox {st:List Stmt}{t:TS} (h:PSs X.nox st t):PSs X st t:=fun pins s σ H D I hw=>
 wpAny_mono (h pins s σ H D (I.wish _) hw) (fun _ _ q=>q.unwish) fun _ _ z=>False.elim z
end
section
variable {X:Cx}{st:Stmt}{rest:List Stmt}{t u:TS}{e:Expr}{te:TE}{pos:Pos}
noncomputable def tNext:TS:=fun D σ H=>D.nx σ H
noncomputable def mQ (t u:TS):TS:=fun D σ H=>t { D with nx:=u D } σ H
theorem sW:PSs X [] tNext:=fun _ _ σ H _ I h=>wpAny_execs_nil ⟨σ,H,I,h⟩
theorem sX (h1:PS X st t) (h2:PSs X rest u):PSs X (st::rest) (mQ t u):=by
 intro pins s σ H D I h
 refine wpAny_execs_cons (thn (h1 pins s σ H { D with nx:=u D } I h) fun f s1 q=>?_)
 cases f with
 | next=>
  obtain⟨σ',H',I',q⟩:=q
  exact h2 pins s1 σ' H' D I' q
 | ret v=>exact q
 | brk=>exact q
 | cont=>exact q
theorem sY (h1:PS X st t):PSs X [st] t:=by
 intro pins s σ H D I h
 refine wpAny_execs_cons (thn (h1 pins s σ H D I h) fun f s1 q=>?_)
 cases f with
 | next=>exact wpAny_execs_nil q
 | ret v=>exact q
 | brk=>exact q
 | cont=>exact q
theorem Inv.quiet {pins:List (Addr×Obj)}{σ:St}{H:Hp}{s:Shared} (I:Inv X pins σ H s):interactive X.env=false:=by simp[interactive,I.ok.kind]
noncomputable def sZ (te:TE):TS:=fun D σ H=>te σ H fun _ H1=>D.nx σ H1
theorem tf (he:PE X e te) (hs:swapsWith e none pos.line X.env=pure false:=by rfl):PS X (.Expr e pos) (sZ te):=by
 intro pins s σ H D I h
 exact wpAny_Expr_any (thn (he pins s σ H _ I h) fun v s1 ⟨x,H1,I1,r1,q1⟩=>⟨σ,H1,I1,q1⟩) I.quiet hs
noncomputable def tj (te:TE):TS:=fun D σ H=>te σ H D.rt
theorem tm (he:PE X e te):PS X (.Return (some e) pos) (tj te):=by
 intro pins s σ H D I h
 exact wpAny_Return_some (thn (he pins s σ H _ I h) fun v s1 ⟨x,H1,I1,r1,q1⟩=>⟨x,σ,H1,I1,r1,q1⟩)
noncomputable def tp (c:TT) (t u:TS):TS:=fun D σ H=>c σ H fun b H1=>if b=true then t D σ H1 else u D σ H1
theorem tq {c:Expr}{a b:List Stmt}{tc:TT} (hc:PT X c tc) (ha:PSs X a t) (hb:PSs X b u):PS X (.If c a b pos) (tp tc t u):=by
 intro pins s σ H D I h
 refine wpAny_If (thn (hc pins s σ H _ I h) fun d s1 ⟨H1,I1,q1⟩=>?_)
 cases d with
 | true=>exact ha pins s1 σ H1 D I1 q1
 | false=>exact hb pins s1 σ H1 D I1 q1
end
noncomputable abbrev TG:=V→St→Hp→(St→Hp→Prop)→Prop
noncomputable abbrev TGs:=List V→St→Hp→(St→Hp→Prop)→Prop
noncomputable def PG (X:Cx) (target:Expr) (t:TG):Prop:=
 ∀ (pins:List (Addr×Obj)) (s:Shared) (σ:St) (H:Hp) (v:V) (u:Value) (Q:St→Hp→Prop),Inv X pins σ H s→ay v u→t v σ H Q→
  wpAny (model X.prog X.w) X.A (assign target X.env u) (fun _ s'=>∃ σ' H',Inv X pins σ' H' s'∧Q σ' H') X.xe s
noncomputable def PGs (X:Cx) (ts:List Expr) (t:TGs):Prop:=
 ∀ (pins:List (Addr×Obj)) (s:Shared) (σ:St) (H:Hp) (vs:List V) (us:List Value) (Q:St→Hp→Prop),Inv X pins σ H s→am vs us→t vs σ H Q→
  wpAny (model X.prog X.w) X.A (assignInOrder ((assignEach ts X.env).map (·.2)) us) (fun _ s'=>∃ σ' H',Inv X pins σ' H' s'∧Q σ' H') X.xe s
noncomputable abbrev TSet:=V→V→V→Hp→(Hp→Prop)→Prop
noncomputable def km (X:Cx) (t:TSet):Prop:=
 ∀ (pins:List (Addr×Obj)) (s:Shared) (σ:St) (H:Hp) (o i v:V) (ov iv u:Value) (Q:Hp→Prop),Inv X pins σ H s→ay o ov→ay i iv→ay v u→t o i v H Q→
  wpAny (model X.prog X.w) X.A (setItem ov iv u) (fun _ s'=>∃ H',Inv X pins σ H' s'∧Q H') X.xe s
section
variable {X:Cx}{pos:Pos}
noncomputable def kn (i:Nat):TG:=fun v σ H Q=>Q (σ.set i (some v)) H
theorem tu {i:Nat}{x:Str} (hN:X.N.Nodup) (hi:X.N[i]?=some x) (hx:Loc X.env.scope x) (hf:X.fn x=true∨X.env.scope.names.lookup x=some .local:=by first | exact .inl rfl | exact .inr rfl | assumption):PG X (.Name x pos) (kn i):=by
 intro pins s σ H v u Q I r h
 exact wpAny_assign_Name (mN I hN hi hx r (fun s' I'=>⟨_,H,I',h⟩) hf)
noncomputable def gNil:TGs:=fun vs σ H Q=>vs=[]∧Q σ H
noncomputable def tw (t:TG) (u:TGs):TGs:=fun vs σ H Q=>∃ v r,vs=v::r∧t v σ H fun σ' H'=>u r σ' H' Q
theorem tz:PGs X [] gNil:=by
 intro pins s σ H vs us Q I r h
 obtain⟨e,h⟩:=h
 subst e
 cases r
 exact assignInOrder_nil ⟨σ,H,I,h⟩
theorem tB {e:Expr}{es:List Expr}{t:TG}{u:TGs} (h1:PG X e t) (h2:PGs X es u)
  (hs:(assignEach (e::es) X.env).map (·.2)=assign e X.env::(assignEach es X.env).map (·.2):=by rfl):PGs X (e::es) (tw t u):=by
 intro pins s σ H vs us Q I r h
 obtain⟨v,vr,e1,h⟩:=h
 subst e1
 cases r with
 | cons r rr=>
  rw[hs]
  refine assignInOrder_cons (thn (h1 pins s σ H _ _ _ I r h) fun _ s1 ⟨σ1,H1,I1,q1⟩=>?_)
  exact h2 pins s1 σ1 H1 _ _ Q I1 rr q1
noncomputable def tD (K:PySem.W.Frag) (n:Nat) (t:TGs):TG:=fun v σ H Q=>∃ a xs,v=.ref a∧SqT K H a xs∧xs.length=n∧t xs σ H Q
theorem tE {es:List Expr}{k:Nat}{t:TGs}{n:Nat} (hc:X.calm=true) (h:PGs X es t)
  (hn:(assignEach es X.env).length=n:=by rfl) (hst:(assignEach es X.env).findIdx? (·.1)=none:=by rfl):PG X (.Tuple es k pos) (tD X.K n t):=by
 intro pins s σ H v u Q I r hw
 obtain⟨a,xs,e1,hq,hl,hw⟩:=hw
 subst e1
 cases r
 obtain⟨its,rv,ht,hz⟩:=I.tuple hq
 refine assign_Tuple_tuple (I.ok.hd hc) ht (by simp[hn,← hl,rv.length]) hst fun h' hx=>?_
 have I1:Inv X pins σ H { s with heap:=h' }:=I.kept (t':=s.toks) fun b o e=>hx b o (Nat.ne_of_lt (Heap.lt_size e)) e
 exact h pins _ σ H xs _ Q I1 (by simpa using rv) hw
noncomputable def tF (to ti:TE) (t:TSet):TG:=fun v σ H Q=>to σ H fun o H1=>ti σ H1 fun i H2=>t o i v H2 fun H3=>Q σ H3
theorem tH {o i:Expr}{to ti:TE}{t:TSet} (ho:PE X o to) (hi:PE X i ti) (hs:km X t)
  (ha:∀ v,assign (.Subscript o i pos) X.env v=(do
   let ov ← holding [v] (eval o X.env)
   let iv ← holding [v,ov] (eval i X.env)
   standAt pos
   holding [v,ov,iv] (setItem ov iv v)
   release [v,ov,iv] []):=by intro _;rfl):PG X (.Subscript o i pos) (tF to ti t):=by
 intro pins s σ H v u Q I r h
 rw[ha]
 refine wpAny_bind (wpAny_holding (thn (ho pins s σ H _ I h) fun ov s1 ⟨x,H1,I1,r1,q1⟩=>?_))
 refine wpAny_bind (wpAny_holding (thn (hi pins s1 σ H1 _ I1 q1) fun iv s2 ⟨y,H2,I2,r2,q2⟩=>?_))
 refine wpAny_bind (wpAny_standAt (wpAny_bind (wpAny_holding (thn (hs pins s2 σ H2 x y v ov iv u _ I2 r1 r2 r q2) fun _ s3 ⟨H3,I3,q3⟩=>?_))))
 exact wpAny_release ⟨σ,H3,I3,q3⟩
noncomputable def ko (te:TE) (g:TG):TS:=fun D σ H=>te σ H fun x H1=>g x σ H1 D.nx
theorem tJ {tg e:Expr}{te:TE}{g:TG} (he:PE X e te) (hg:PG X tg g) (hs:swapsWithSole [tg] e pos.line X.env=pure false:=by rfl) (hw:swappedStores [tg] e X.env=pure none:=by rfl)
  (h1:(assignEach [tg] X.env).map (·.2)=[assign tg X.env]:=by rfl):PS X (.Assign [tg] e pos) (ko te g):=by
 intro pins s σ H D I h
 refine wpAny_Assign_stores (thn (he pins s σ H _ I h) fun v s1 ⟨x,H1,I1,r1,q1⟩=>?_) hs hw
 rw[h1]
 exact thn (hg pins s1 σ H1 x v _ I1 r1 q1) fun _ s2 q=>q
theorem tK {i:Nat}{x:Str}{e:Expr}{te:TE}{pos':Pos} (hN:X.N.Nodup) (hi:X.N[i]?=some x) (hx:Loc X.env.scope x) (he:PE X e te) (hs:swapsWith e (some (.Name x pos')) pos.line X.env=pure false:=by rfl) (hf:X.fn x=true∨X.env.scope.names.lookup x=some .local:=by first | exact .inl rfl | exact .inr rfl | assumption):
  PS X (.Assign [.Name x pos'] e pos) (ko te (kn i)):=by
 intro pins s σ H D I h
 refine wpAny_Assign_Name (thn (he pins s σ H _ I h) fun v s1 ⟨y,H1,I1,r1,q1⟩=>?_) hs
 exact mN I1 hN hi hx r1 (fun s2 I2=>⟨_,H1,I2,q1⟩) hf
end
section
variable {X:Cx}{pos:Pos}
noncomputable def tL (c:TT) (tb:TS):TS:=fun D σ H=>∃ W:Nat→St→Hp→Prop,(∃ m,W m σ H)∧∀ m σ H,W m σ H→
 c σ H fun b H1=>if b=true then ∃ N:St→Hp→Prop,(∀ σ' H',N σ' H'→∃ m',m'<m∧W m' σ' H')∧tb { D with nx:=N,ct:=N,bk:=D.nx } σ H1 else D.nx σ H1
theorem tM {c:Expr}{body:List Stmt}{tc:TT}{tb:TS} (hp:PassesOwn (model X.prog X.w) X.A X.env X.xe) (hc:PT X c tc) (hb:PSs X body tb):PS X (.While c body [] pos) (tL tc tb):=by
 intro pins s σ H D I h
 obtain⟨W,⟨m0,w0⟩,turn⟩:=h
 refine wpAny_While (codeAny_whileLoop (fun n s'=>∃ σ' H',Inv X pins σ' H' s'∧W n σ' H') ?_ m0 ⟨σ,H,I,w0⟩)
 rintro n s1 ⟨σ1,H1,I1,w1⟩
 refine wpAny_passesOwn hp (thn (hc pins s1 σ1 H1 _ I1 (turn n σ1 H1 w1)) fun b s2 ⟨H2,I2,q2⟩=>?_)
 cases b with
 | true=>
  obtain⟨N,hN,q2⟩:=q2
  rw[if_pos rfl]
  refine wpAny_passesOwn hp (thn (hb pins s2 σ1 H2 _ I2 q2) fun f s3 q3=>?_)
  cases f with
  | next=>
   obtain⟨σ3,H3,I3,n3⟩:=q3
   obtain⟨m',hm,w3⟩:=hN σ3 H3 n3
   exact⟨m',hm,σ3,H3,I3,w3⟩
  | cont=>
   obtain⟨σ3,H3,I3,n3⟩:=q3
   obtain⟨m',hm,w3⟩:=hN σ3 H3 n3
   exact⟨m',hm,σ3,H3,I3,w3⟩
  | brk=>exact q3
  | ret v=>exact q3
 | false=>
  rw[if_neg Bool.false_ne_true]
  exact wpAny_execs_nil ⟨σ1,H2,I2,q2⟩
end
structure It where
 go:Nat→Hp→Prop
 yld:Nat→Hp→V→Hp→Prop
 stop:Nat→Hp→Prop
noncomputable def bH (X:Cx) (pins:List (Addr×Obj)) (H:Hp) (b:Addr):Prop:=
 H b=none∧b≠X.env.locals∧b∉X.fs∧(b∈X.ex∨X.s₀.heap.objs.size≤b)∧(∀ x c,X.env.cells.lookup x=some c→c≠b)∧∀ p∈X.pn++pins,p.1≠b
theorem Inv.fpOk {X:Cx}{pins:List (Addr×Obj)}{σ:St}{H H':Hp}{s:Shared}{b:Addr} (I:Inv X pins σ H s) (hb:s.heap.objs.size≤b) (hn:H' b=none):bH X pins H' b:=by
 refine⟨hn,Nat.ne_of_gt (Nat.lt_of_lt_of_le I.lt hb),I.nofs hb,.inr (Nat.le_trans I.sz hb),fun x c e z=>?_,fun p hp z=>?_⟩
 ·obtain⟨v,q⟩:=I.cell x c e
  exact absurd (Nat.lt_of_lt_of_le q.lt (by rw[z];exact hb)) (Nat.lt_irrefl _)
 ·exact absurd (Nat.lt_of_lt_of_le (Heap.lt_size (I.pin p hp).1) (by rw[z];exact hb)) (Nat.lt_irrefl _)
structure Turn (P:Program) (w:World) (K:PySem.W.Frag) (tg:Expr) (J:It) (fp:List Addr) (it:Addr) (tn:Nat→Heap→Prop):Prop where
 mem:it∈fp
 obj:∀ i h,tn i h→∀ b∈fp,∃ o,h.get? b=some o∧∀ v,o.data≠.cell v
 keep:∀ i h h',tn i h→(∀ b∈fp,∀ o,h.get? b=some o→h'.get? b=some o)→tn i h'
 item:∀ (X:Cx),X.prog=P→X.w=w→X.K=K→X.calm=true→∀ (i:Nat) (pins:List (Addr×Obj)) (s:Shared) (σ:St) (H:Hp) (E:Value→Shared→Prop),Inv X pins σ H s→(∀ b∈fp,bH X pins H b)→tn i s.heap→J.go i H→
  wpAny (model P w) X.A (pyNext (.ref it)) (fun r s1=>∃ u,r=some u∧
   wpAny (model P w) X.A (letOwnedTupleGo tg (.ref it) u) (fun _ s2=>∃ x H',Inv X pins σ H' s2∧ay x u∧J.yld i H x H'∧tn (i+1) s2.heap∧∀ b∈fp,H' b=none) E s1) E s
 done:∀ (X:Cx),X.prog=P→X.w=w→X.K=K→X.calm=true→∀ (i:Nat) (pins:List (Addr×Obj)) (s:Shared) (σ:St) (H:Hp) (E:Value→Shared→Prop),Inv X pins σ H s→(∀ b∈fp,bH X pins H b)→tn i s.heap→J.stop i H→
  wpAny (model P w) X.A (pyNext (.ref it)) (fun r s1=>r=none∧Inv X pins σ H s1) E s
 self:∀ (A:Around) (i:Nat) (s:Shared) (Q:Value→Shared→Prop) (E:Value→Shared→Prop),tn i s.heap→Q (.ref it) s→wpAny (model P w) A (pyIter (.ref it)) Q E s
noncomputable abbrev TI:=St→Hp→(It→Hp→Prop)→Prop
noncomputable def PIE (X:Cx) (pins:List (Addr×Obj)) (σ:St) (tg:Expr) (R:It→Hp→Prop) (itv:Value) (s2:Shared):Prop:=
 ∃ (it:Addr) (fp:List Addr) (tn:Nat→Heap→Prop) (J:It) (H':Hp),itv=.ref it∧Inv X pins σ H' s2∧Turn X.prog X.w X.K tg J fp it tn∧tn 0 s2.heap∧(∀ b∈fp,bH X pins H' b)∧R J H'
noncomputable def PI (X:Cx) (tg iter:Expr) (wi:TI):Prop:=
 ∀ (pins:List (Addr×Obj)) (s:Shared) (σ:St) (H:Hp) (R:It→Hp→Prop),Inv X pins σ H s→wi σ H R→
  wpAny (model X.prog X.w) X.A (eval iter X.env) (fun v s1=>wpAny (model X.prog X.w) X.A (pyIter v) (PIE X pins σ tg R) X.xe s1) X.xe s
theorem kq {M : Model} {A : Around} {E : Value → Shared → Prop} {s : Shared} {tg : Expr} {it : Addr} {u : Value} {o : Obj} {n : String} {vs : Array Value} {Q : Unit → Shared → Prop} (ho : s.heap.get? it = some o) (hc : o.cls = .type n) (hd : o.data = .fields vs)
    (hn : ["enumerate", "zip", "dict_itemiterator", "dict_reverseitemiterator", "odict_iterator", "itertools.zip_longest", "itertools.pairwise"].contains n = false) (hQ : Q () s) : wpAny M A (letOwnedTupleGo tg (.ref it) u) Q E s := by
  unfold letOwnedTupleGo
  cases tg <;> first
    | exact wpAny_pure hQ
    | (cases u <;> first
        | exact wpAny_pure hQ
        | (refine wpAny_bind (wpAny_load ho ?_)
           rw [hc, hd]
           show wpAny M A (if (["enumerate", "zip", "dict_itemiterator", "dict_reverseitemiterator", "odict_iterator", "itertools.zip_longest", "itertools.pairwise"].contains n && vs[0]? == some (rawInt _)) = true then _ else _) Q E s
           rw [if_neg (by intro h; rw [hn, Bool.false_and] at h; cases h)]
           exact wpAny_pure hQ))
noncomputable def Itl (K:PySem.W.Frag) (a:Addr):It:=
 ⟨fun i H=>∃ xs x,SqL K H a xs∧xs[i]?=some x,fun i H x H'=>H'=H∧∀ xs,SqL K H a xs→xs[i]?=some x,fun i H=>∃ xs,SqL K H a xs∧xs.length≤i⟩
noncomputable def Itt (K:PySem.W.Frag) (a:Addr):It:=
 ⟨fun i H=>∃ xs x,SqT K H a xs∧xs[i]?=some x,fun i H x H'=>H'=H∧∀ xs,SqT K H a xs→xs[i]?=some x,fun i H=>∃ xs,SqT K H a xs∧xs.length≤i⟩
noncomputable def Itr (lo:Int) (n:Nat):It:=⟨fun i _=>i<n,fun i H x H'=>H'=H∧x=.int (lo+i),fun i _=>n≤i⟩
theorem tN {P:Program}{w:World}{K:PySem.W.Frag}{tg:Expr} (a it:Addr):Turn P w K tg (Itl K a) [it] it (fun i h=>h.IsListIter it a i) where
 mem:=by simp
 obj:=fun i h st b hb=>by
  have e:b=it:=by simpa using hb
  subst e
  obtain⟨o,e,c,d⟩:=st
  exact⟨o,e,fun v z=>by rw[d] at z;cases z⟩
 keep:=fun i h h' st k=>st.at fun o e=>k it (by simp) o e
 item:=by
  intro X hP hw hK hc i pins s σ H E I hf st hg
  subst hP hw hK
  obtain⟨xs,x,hq,hx⟩:=hg
  obtain⟨its,rv,p,hz⟩:=I.list hq
  obtain⟨u,hu,ru⟩:=rv.get hx
  obtain⟨f0,f1,f2,f3,f4,f5⟩:=hf it (by simp)
  refine wpAny_pyNext_list_item st p.isList (x:=u) (by simpa using hu) fun h' st' sb=>?_
  have I1:Inv X pins σ H { s with heap:=h' }:=I.turned (t':=s.toks) (fun b o hb e=>(sb.2 b hb).trans e) f0 f1 f3 f4 f5
  obtain⟨o,e,c,d⟩:=id st'
  exact⟨u,rfl,kq (s:={ s with heap:=h' }) e c d (by decide) ⟨x,H,I1,ru,⟨rfl,fun ys hy=>by rw[I.list_inj hy hq];exact hx⟩,st',fun b hb=>(hf b hb).1⟩⟩
 done:=by
  intro X hP hw hK hc i pins s σ H E I hf st hg
  subst hP hw hK
  obtain⟨xs,hq,hx⟩:=hg
  obtain⟨its,rv,p,hz⟩:=I.list hq
  obtain⟨f0,f1,f2,f3,f4,f5⟩:=hf it (by simp)
  have hl:=rv.length
  exact wpAny_pyNext_list_end (I.ok.hd hc) st p.isList (by simp;lia) fun h' eb=>⟨rfl,I.turned (t':=s.toks) (fun b o hb e=>eb b o hb e) f0 f1 f3 f4 f5⟩
 self:=fun _ _ _ _ _ st h=>wpAny_pyIter_listiter st h
theorem tQ {P:Program}{w:World}{K:PySem.W.Frag}{tg:Expr} (a it:Addr):Turn P w K tg (Itt K a) [it] it (fun i h=>h.IsTupleIter it a i) where
 mem:=by simp
 obj:=fun i h st b hb=>by
  have e:b=it:=by simpa using hb
  subst e
  obtain⟨o,e,c,d⟩:=st
  exact⟨o,e,fun v z=>by rw[d] at z;cases z⟩
 keep:=fun i h h' st k=>st.at fun o e=>k it (by simp) o e
 item:=by
  intro X hP hw hK hc i pins s σ H E I hf st hg
  subst hP hw hK
  obtain⟨xs,x,hq,hx⟩:=hg
  obtain⟨its,rv,p,hz⟩:=I.tuple hq
  obtain⟨u,hu,ru⟩:=rv.get hx
  obtain⟨f0,f1,f2,f3,f4,f5⟩:=hf it (by simp)
  refine wpAny_pyNext_tuple_item st (show s.heap.IsTuple a its.toArray from p) (x:=u) (by simpa using hu) fun h' st' sb=>?_
  have I1:Inv X pins σ H { s with heap:=h' }:=I.turned (t':=s.toks) (fun b o hb e=>(sb.2 b hb).trans e) f0 f1 f3 f4 f5
  obtain⟨o,e,c,d⟩:=id st'
  exact⟨u,rfl,kq (s:={ s with heap:=h' }) e c d (by decide) ⟨x,H,I1,ru,⟨rfl,fun ys hy=>by rw[I.tuple_inj hy hq];exact hx⟩,st',fun b hb=>(hf b hb).1⟩⟩
 done:=by
  intro X hP hw hK hc i pins s σ H E I hf st hg
  subst hP hw hK
  obtain⟨xs,hq,hx⟩:=hg
  obtain⟨its,rv,p,hz⟩:=I.tuple hq
  obtain⟨f0,f1,f2,f3,f4,f5⟩:=hf it (by simp)
  have hl:=rv.length
  exact wpAny_pyNext_tuple_end (I.ok.hd hc) st (show s.heap.IsTuple a its.toArray from p) (by simp;lia) fun h' eb=>⟨rfl,I.turned (t':=s.toks) (fun b o hb e=>eb b o hb e) f0 f1 f3 f4 f5⟩
 self:=fun _ _ _ _ _ st h=>wpAny_pyIter_tupleiter st h
theorem tR {P:Program}{w:World}{K:PySem.W.Frag}{tg:Expr} (it:Addr) (lo:Int) (n:Nat):Turn P w K tg (Itr lo n) [it] it (fun i h=>IsRangeIter h it (lo+(i:Nat) * 1) ((n:Int) - (i:Nat)) 1) where
 mem:=by simp
 obj:=fun i h st b hb=>by
  have e:b=it:=by simpa using hb
  subst e
  exact⟨_,st,fun v z=>by
   have z':Data.fields _=Data.cell v:=z
   cases z'⟩
 keep:=fun i h h' st k=>k it (by simp) _ st
 item:=by
  intro X hP hw hK hc i pins s σ H E I hf st hg
  subst hP hw hK
  obtain⟨f0,f1,f2,f3,f4,f5⟩:=hf it (by simp)
  have W:=Walks.range (prog:=X.prog) (w:=X.w) (I.ok.hd hc) it lo 1 n
  refine W.item i s _ _ hg st fun v h' tk hv st' kk=>?_
  obtain⟨t,rfl⟩:=hv
  have I1:Inv X pins σ H { s with heap:=h',toks:=tk }:=I.turned (fun b o hb e=>kk b o (by simpa using hb) e) f0 f1 f3 f4 f5
  refine⟨_,rfl,kq (s:={ s with heap:=h',toks:=tk }) (n := "range_iterator") st' rfl rfl (by decide) ⟨.int (lo+i),H,I1,⟨t,?_⟩,⟨rfl,rfl⟩,st',fun b hb=>(hf b hb).1⟩⟩
  rw[Int.mul_one]
 done:=by
  intro X hP hw hK hc i pins s σ H E I hf st hg
  subst hP hw hK
  obtain⟨f0,f1,f2,f3,f4,f5⟩:=hf it (by simp)
  exact wpAny_pyNext_range_end (I.ok.hd hc) st (by have:n≤i:=hg;lia) fun h' eb=>⟨rfl,I.turned (t':=s.toks) (fun b o hb e=>eb b o hb e) f0 f1 f3 f4 f5⟩
 self:=fun _ _ _ _ _ st h=>wpAny_pyIter_rangeiter st h
section
variable {X:Cx}{tg:Expr}
theorem mR {pins:List (Addr×Obj)}{σ:St}{H:Hp}{s:Shared}{R:It→Hp→Prop}{E:Value→Shared→Prop}{lo hi:Int}{t u v:Tok}{tk:Nat} (I:Inv X pins σ H s) (h1 : -(2 ^ 62)≤lo) (h2:lo<2 ^ 62) (h3 : -(2 ^ 62)≤hi) (h4:hi<2 ^ 62)
  (q:R (Itr lo (hi - lo).toNat) H):wpAny (model X.prog X.w) X.A (pyIter (.ref s.heap.objs.size)) (PIE X pins σ tg R) E { s with heap:=s.heap.push { cls:=.type "range",data:=.fields #[.int lo t,.int hi u,.int 1 v] },toks:=tk }:=by
 refine wpAny_pyIter_range (IsRange.new ..) (small_one h1 h2 h3 h4) ?_
 have I1:Inv X pins σ H { s with heap:=s.heap.push { cls:=.type "range",data:=.fields #[.int lo t,.int hi u,.int 1 v] },toks:=tk }:=I.kept fun b o e=>Heap.get?_push_of_some _ e
 refine⟨(s.heap.push { cls:=.type "range",data:=.fields #[.int lo t,.int hi u,.int 1 v] }).objs.size,[(s.heap.push { cls:=.type "range",data:=.fields #[.int lo t,.int hi u,.int 1 v] }).objs.size],_,_,H,rfl,
  I1.kept (t':=tk) fun b o e=>Heap.get?_push_of_some _ e,tR _ lo (hi - lo).toNat,?_,fun b hb=>?_,q⟩
 ·have e1:lo+((0:Nat):Int) * 1=lo:=by simp
  have e2:(((hi - lo).toNat:Nat):Int) - ((0:Nat):Int)=Builtin.Range.rangeSize lo hi 1:=by rw[rangeSize_one];split<;>lia
  show IsRangeIter _ _ (lo+((0:Nat):Int) * 1) ((((hi - lo).toNat:Nat):Int) - ((0:Nat):Int)) 1
  rw[e1,e2]
  exact Heap.get?_push_size _ rfl
 ·have e:b=(s.heap.push { cls:=.type "range",data:=.fields #[.int lo t,.int hi u,.int 1 v] }).objs.size:=by simpa using hb
  subst e
  exact I1.fpOk (Nat.le_refl _) (I1.hok.fresh (Nat.le_refl _))
noncomputable def tT (ta:TA):TI:=fun σ H R=>ta σ H fun vs H1=>∃ j:Int,vs=[.int j] ∧ -(2 ^ 62)≤j∧j<2 ^ 62∧R (Itr 0 j.toNat) H1
noncomputable def tU (ta:TA):TI:=fun σ H R=>ta σ H fun vs H1=>∃ i j:Int,vs=[.int i,.int j]∧(-(2 ^ 62)≤i∧i<2 ^ 62 ∧ -(2 ^ 62)≤j∧j<2 ^ 62)∧R (Itr i (j - i).toNat) H1
theorem tW {a:Expr}{ta:TA}{p pos:Pos} (hg:Gl X "range") (hm:X.mg "range" = none) (ha:PA X [a] ta) (hs:starEach [a] X.env=[(false,eval a X.env)]:=by rfl):PI X tg (.Call (.Name "range" p) [a] [] pos) (tT ta):=by
 intro pins s σ H R I h
 refine Call_ (cl I hg hm boot_range (PyProof.Rows.callWith_type1 (thn (ha pos pins s σ H _ I h) fun us s1 ⟨vs,H1,I1,r1,q1⟩=>?_) hs rfl))
 obtain⟨j,e,q1,q2,q⟩:=q1
 subst e
 cases r1 with
 | cons r rr=>
  cases rr
  obtain⟨t,rfl⟩:=r
  exact call_range_1 (mR I1 (by lia) (by lia) q1 q2 (by simpa using q))
theorem tX {a b:Expr}{ta:TA}{p pos:Pos} (hg:Gl X "range") (hm:X.mg "range" = none) (ha:PA X [a,b] ta) (hs:starEach [a,b] X.env=[(false,eval a X.env),(false,eval b X.env)]:=by rfl) (hs2:starEach [b] X.env=[(false,eval b X.env)]:=by rfl):
  PI X tg (.Call (.Name "range" p) [a,b] [] pos) (tU ta):=by
 intro pins s σ H R I h
 refine Call_ (cl I hg hm boot_range (PyProof.Rows.callWith_type1 (thn (ha pos pins s σ H _ I h) fun us s1 ⟨vs,H1,I1,r1,q1⟩=>?_) (by rw[hs,hs2]) (by rw[hs2];rfl)))
 obtain⟨i,j,e,⟨q1,q2,q3,q4⟩,q⟩:=q1
 subst e
 cases r1 with
 | cons r rr=>
  cases rr with
  | cons r' rr=>
   cases rr
   obtain⟨t,rfl⟩:=r
   obtain⟨t',rfl⟩:=r'
   exact call_range_2 (mR I1 q1 q2 q3 q4 q)
noncomputable def mS (wi:TI) (g:TG) (tb:TS):TS:=fun D σ H=>wi σ H fun J H1=>∃ W:Nat→Nat→St→Hp→Prop,(∃ m,W 0 m σ H1)∧∀ i m σ H,W i m σ H→
 (J.stop i H∧D.nx σ H)∨(J.go i H∧∃ N:St→Hp→Prop,(∀ σ' H',N σ' H'→∃ m',m'<m∧W (i+1) m' σ' H')∧∀ x H',J.yld i H x H'→g x σ H' fun σ2 H2=>tb { D with nx:=N,ct:=N,bk:=D.nx } σ2 H2)
noncomputable def ed (fp:List Addr) (h:Heap):List (Addr×Obj):=fp.filterMap fun b=>(h.get? b).map fun o=>(b,o)
theorem i5 {fp:List Addr}{h:Heap}{b:Addr}{o:Obj} (hb:b∈fp) (e:h.get? b=some o):(b,o)∈ed fp h:=List.mem_filterMap.mpr ⟨b,hb,by rw[e];rfl⟩
theorem mT {fp:List Addr}{h:Heap}{p:Addr×Obj} (hp:p∈ed fp h):p.1∈fp∧h.get? p.1=some p.2:=by
 obtain⟨b,hb,e⟩:=List.mem_filterMap.mp hp
 cases q:h.get? b with
 | none=>rw[q] at e;cases e
 | some o=>
  rw[q] at e
  have e':(b,o)=p:=Option.some.inj e
  subst e'
  exact⟨hb,q⟩
theorem Inv.pinned {pins:List (Addr×Obj)}{σ:St}{H:Hp}{s:Shared}{fp:List Addr} (I:Inv X pins σ H s) (hf:∀ b∈fp,bH X pins H b) (ho:∀ b∈fp,∃ o,s.heap.get? b=some o∧∀ v,o.data≠.cell v):Inv X (pins++ed fp s.heap) σ H s:=
 I.pins_of fun p hp=>(List.mem_append.mp hp).elim (fun z=>I.pin p (List.mem_append_right _ z)) fun z=>by
  obtain⟨hb,e⟩:=mT z
  obtain⟨f0,f1,f2,_⟩:=hf p.1 hb
  obtain⟨o,e',d⟩:=ho p.1 hb
  rw[e] at e';cases e'
  exact⟨e,f0,f1,f2,d⟩
theorem Inv.unpinned {pins pl:List (Addr×Obj)}{σ:St}{H:Hp}{s:Shared} (I:Inv X (pins++pl) σ H s):Inv X pins σ H s:=I.pins_of fun p hp=>I.pin p (List.mem_append_right _ (List.mem_append_left _ hp))
theorem tY {iter:Expr}{body:List Stmt}{wi:TI}{g:TG}{tb:TS}{pos:Pos} (hp:PassesOwn (model X.prog X.w) X.A X.env X.xe) (hc:X.calm=true) (hi:PI X tg iter wi) (hg:PG X tg g) (hb:PSs X body tb)
  (hs:∀ x,foldedSetIterable iter X.env x=pure x:=by intro _;rfl):PS X (.For tg iter body [] pos) (mS wi g tb):=by
 intro pins s σ H D I h
 refine wpAny_For (thn (hi pins s σ H _ I h) fun v s1 h1=>thn h1 fun itv s2 h2=>?_) hs
 obtain⟨it,fp,tn,J,H2,e,I2,T,st2,f2,W,⟨m0,w0⟩,turn⟩:=h2
 subst e
 -- what stays true of the iterator's objects through the loop
 have stat:∀ {H':Hp},(∀ b∈fp,H' b=none)→∀ b∈fp,bH X pins H' b:=fun hn b hb=>⟨hn b hb,(f2 b hb).2⟩
 refine codeAny_forLoop_any (fun n s'=>∃ i σ' H',Inv X pins σ' H' s'∧tn i s'.heap∧(∀ b∈fp,H' b=none)∧W i n σ' H') ?_ m0 ⟨0,σ,H2,I2,st2,fun b hb=>(f2 b hb).1,w0⟩
 rintro n s3 ⟨i,σ3,H3,I3,st3,fr3,w3⟩
 rcases turn i n σ3 H3 w3 with ⟨stop,qn⟩ | ⟨go,N,hN,step⟩
 ·refine wpAny_passesOwn hp (thn (T.done X rfl rfl rfl hc i pins s3 σ3 H3 X.xe I3 (stat fr3) st3 stop) fun r s4 ⟨hr,I4⟩=>?_)
  subst hr
  exact wpAny_execs_nil ⟨σ3,H3,I4,qn⟩
 ·refine wpAny_passesOwn hp (thn (T.item X rfl rfl rfl hc i pins s3 σ3 H3 X.xe I3 (stat fr3) st3 go) fun r s4 ⟨u,hr,h4⟩=>?_)
  subst hr
  refine wpAny_passesOwn hp (thn h4 fun _ s5 ⟨x,H5,I5,r5,y5,st5,fr5⟩=>?_)
  have I5':=I5.pinned (stat fr5) (T.obj _ _ st5)
  refine wpAny_passesOwn hp (thn (hg _ s5 σ3 H5 x u _ I5' r5 (step x H5 y5)) fun _ s6 ⟨σ6,H6,I6,q6⟩=>?_)
  refine wpAny_passesOwn hp (thn (hb _ s6 σ6 H6 _ I6 q6) fun f s7 q7=>?_)
  have again:∀ {σ7:St}{H7:Hp},Inv X (pins++ed fp s5.heap) σ7 H7 s7→N σ7 H7→∃ m,m<n∧∃ i σ' H',Inv X pins σ' H' s7∧tn i s7.heap∧(∀ b∈fp,H' b=none)∧W i m σ' H':=fun {σ7 H7} I7 n7=>by
   obtain⟨m',hm,w7⟩:=hN σ7 H7 n7
   refine⟨m',hm,i+1,σ7,H7,I7.unpinned,T.keep _ _ _ st5 fun b hb o e=>(I7.pin (b,o) (List.mem_append_right _ (List.mem_append_right _ (i5 hb e)))).1,fun b hb=>?_,w7⟩
   obtain⟨o,e,d⟩:=T.obj _ _ st5 b hb
   exact (I7.pin (b,o) (List.mem_append_right _ (List.mem_append_right _ (i5 hb e)))).2.1
  cases f with
  | next=>obtain⟨σ7,H7,I7,n7⟩:=q7;exact again I7 n7
  | cont=>obtain⟨σ7,H7,I7,n7⟩:=q7;exact again I7 n7
  | brk=>obtain⟨σ7,H7,I7,q7⟩:=q7;exact⟨σ7,H7,I7.unpinned,q7⟩
  | ret v=>obtain⟨x7,σ7,H7,I7,r7,q7⟩:=q7;exact⟨x7,σ7,H7,I7.unpinned,r7,q7⟩
end
noncomputable abbrev R2:=V→V→Hp→VK→Prop
noncomputable def OpR (X:Cx) (f:Value→Value→Sem Value) (r:R2):Prop:=
 ∀ (pins:List (Addr×Obj)) (s:Shared) (σ:St) (H:Hp) (x y:V) (v u:Value) (Q:VK),Inv X pins σ H s→ay x v→ay y u→r x y H Q→
  wpAny (model X.prog X.w) X.A (f v u) (EP X pins σ Q) X.xe s
noncomputable def UnR (X:Cx) (f:Value→Sem Value) (r:V→Hp→VK→Prop):Prop:=
 ∀ (pins:List (Addr×Obj)) (s:Shared) (σ:St) (H:Hp) (x:V) (v:Value) (Q:VK),Inv X pins σ H s→ay x v→r x H Q→
  wpAny (model X.prog X.w) X.A (f v) (EP X pins σ Q) X.xe s
noncomputable def bn (X:Cx) (f:Value) (r:List V→Hp→VK→Prop):Prop:=
 ∀ (pins:List (Addr×Obj)) (s:Shared) (σ:St) (H:Hp) (xs:List V) (us:List Value) (Q:VK),Inv X pins σ H s→am xs us→r xs H Q→
  wpAny (model X.prog X.w) X.A (call f us) (EP X pins σ Q) X.xe s
noncomputable def tZ (X:Cx) (r:V→Hp→(Bool→Hp→Prop)→Prop):Prop:=
 ∀ (pins:List (Addr×Obj)) (s:Shared) (σ:St) (H:Hp) (x:V) (v:Value) (Q:Bool→Hp→Prop),Inv X pins σ H s→ay x v→r x H Q→
  wpAny (model X.prog X.w) X.A (truthy v) (TP X pins σ Q) X.xe s
noncomputable def tOp (r:R2) (ta tb:TE):TE:=fun σ H Q=>ta σ H fun x H1=>tb σ H1 fun y H2=>r x y H2 Q
noncomputable def tUn (r:V→Hp→VK→Prop) (ta:TE):TE:=fun σ H Q=>ta σ H fun x H1=>r x H1 Q
noncomputable def rI (C:Int→Int→Prop) (g:Int→Int→V):R2:=fun x y H Q=>∃ i j,x=.int i∧y=.int j∧C i j∧Q (g i j) H
noncomputable def rI0 (g:Int→Int→V):R2:=fun x y H Q=>∃ i j,x=.int i∧y=.int j∧Q (g i j) H
noncomputable def rU (g:Int→V):V→Hp→VK→Prop:=fun x H Q=>∃ i,x=.int i∧Q (g i) H
section
variable {X:Cx}{a b c:Expr}{ta tb tc:TE}{pos:Pos}
theorem kt (ha:PE X a ta) (hb:PE X b tb) {pins:List (Addr×Obj)}{s:Shared}{σ:St}{H:Hp}{R:V→V→Hp→Prop} (I:Inv X pins σ H s)
  (h:ta σ H fun x H1=>tb σ H1 fun y H2=>R x y H2) {Q:Value→Shared→Prop}{f:Value→Value→Sem Value}
  (hf:∀ v u s2 x y H2,Inv X pins σ H2 s2→ay x v→ay y u→R x y H2→wpAny (model X.prog X.w) X.A (f v u) Q X.xe s2):
  wpAny (model X.prog X.w) X.A (eval a X.env) (fun v s₁=>wpAny (model X.prog X.w) X.A (eval b X.env) (fun u s₂=>wpAny (model X.prog X.w) X.A (f v u) Q X.xe s₂) X.xe s₁) X.xe s:=by
 refine thn (ha pins s σ H _ I h) fun v s1 ⟨x,H1,I1,r1,q1⟩=>?_
 refine thn (hb pins s1 σ H1 _ I1 q1) fun u s2 ⟨y,H2,I2,r2,q2⟩=>?_
 exact hf v u s2 x y H2 I2 r1 r2 q2
theorem t3 {op:Operator}{r:R2} (ho:OpR X (binaryOp op) r) (ha:PE X a ta) (hb:PE X b tb):PE X (.BinOp a op b pos) (tOp r ta tb):=by
 intro pins s σ H Q I h
 exact wpAny_BinOp (kt ha hb I h fun v u s2 x y H2 I2 rx ry q=>ho pins s2 σ H2 x y v u Q I2 rx ry q)
theorem t4 {op:UnaryOp}{r:V→Hp→VK→Prop} (ho:UnR X (unaryOp op) r) (ha:PE X a ta):PE X (.UnaryOp op a pos) (tUn r ta):=by
 intro pins s σ H Q I h
 exact UnaryOp_ (thn (ha pins s σ H _ I h) fun v s1 ⟨x,H1,I1,r1,q1⟩=>ho pins s1 σ H1 x v Q I1 r1 q1)
theorem opI {f:Value→Value→Sem Value}{C:Int→Int→Prop}{g:Int→Int→Int}
  (rule:∀ (i j:Int) (t u:Tok) (s:Shared) (Q:Value→Shared→Prop) (E:Value→Shared→Prop),C i j→Q (.int (g i j) s.toks) { s with toks:=s.toks+1 }→wpAny (model X.prog X.w) X.A (f (.int i t) (.int j u)) Q E s):
  OpR X f (rI C fun i j=>.int (g i j)):=by
 intro pins s σ H x y v u Q I rx ry h
 obtain⟨i,j,rfl,rfl,hc,q⟩:=h
 obtain⟨t,rfl⟩:=rx
 obtain⟨t',rfl⟩:=ry
 exact rule i j t t' s _ _ hc ⟨.int (g i j),H,I.tok _,⟨_,rfl⟩,q⟩
theorem mU {f:Value→Value→Sem Value}{g:Int→Int→Int}
  (rule:∀ (i j:Int) (t u:Tok) (s:Shared) (Q:Value→Shared→Prop) (E:Value→Shared→Prop),Q (.int (g i j) s.toks) { s with toks:=s.toks+1 }→wpAny (model X.prog X.w) X.A (f (.int i t) (.int j u)) Q E s):
  OpR X f (rI0 fun i j=>.int (g i j)):=by
 intro pins s σ H x y v u Q I rx ry h
 obtain⟨i,j,rfl,rfl,q⟩:=h
 obtain⟨t,rfl⟩:=rx
 obtain⟨t',rfl⟩:=ry
 exact rule i j t t' s _ _ ⟨.int (g i j),H,I.tok _,⟨_,rfl⟩,q⟩
theorem i6 {f:Value→Value→Sem Value}{g:Int→Int→Bool}
  (rule:∀ (i j:Int) (t u:Tok) (s:Shared) (Q:Value→Shared→Prop) (E:Value→Shared→Prop),Q (.bool (g i j)) s→wpAny (model X.prog X.w) X.A (f (.int i t) (.int j u)) Q E s):
  OpR X f (rI0 fun i j=>.bl (g i j)):=by
 intro pins s σ H x y v u Q I rx ry h
 obtain⟨i,j,rfl,rfl,q⟩:=h
 obtain⟨t,rfl⟩:=rx
 obtain⟨t',rfl⟩:=ry
 exact rule i j t t' s _ _ ⟨.bl (g i j),H,I,rfl,q⟩
noncomputable def t5 (i j:Int):Prop:=0<j∧j<1073741824
noncomputable def t6 (i j:Int):Prop:=0≤j∧j≤1000000∧i.natAbs<2 ^ 64
theorem t7:OpR X (binaryOp .Add) (rI0 fun i j=>.int (i+j)):=mU fun _ _ _ _ _ _ _ q=>add_int q
theorem t9:OpR X (binaryOp .Sub) (rI0 fun i j=>.int (i - j)):=mU fun _ _ _ _ _ _ _ q=>sub_int q
theorem ua:OpR X (binaryOp .FloorDiv) (rI t5 fun i j=>.int (i / j)):=opI fun i j _ _ _ _ _ hc q=>by
 have h1:(0:Int)<j:=hc.1
 have h2:j<1073741824:=hc.2
 exact floordiv_int (by lia) (by rw[Int.fdiv_eq_ediv_of_nonneg i (by lia)];exact q) (.inl (PyProof.noPylong_small (by lia)))
theorem uc:OpR X (binaryOp .Mod) (rI (fun _ j=>0<j) fun i j=>.int (i % j)):=opI fun i j _ _ _ _ _ hc q=>by
 have h1:(0:Int)<j:=hc
 exact mod_int' (by lia) (by rw[Int.fmod_eq_emod_of_nonneg i (by lia)];exact q)
theorem ud:OpR X (binaryOp .Pow) (rI t6 fun i j=>.int (i ^ j.toNat)):=opI fun _ _ _ _ _ _ _ hc q=>pow_int_small hc.1 hc.2.1 hc.2.2 q
theorem unI {f:Value→Sem Value}{g:Int→Int}
  (rule:∀ (i:Int) (t:Tok) (s:Shared) (Q:Value→Shared→Prop) (E:Value→Shared→Prop),Q (.int (g i) s.toks) { s with toks:=s.toks+1 }→wpAny (model X.prog X.w) X.A (f (.int i t)) Q E s):
  UnR X f (rU fun i=>.int (g i)):=by
 intro pins s σ H x v Q I rx h
 obtain⟨i,rfl,q⟩:=h
 obtain⟨t,rfl⟩:=rx
 exact rule i t s _ _ ⟨.int (g i),H,I.tok _,⟨_,rfl⟩,q⟩
theorem ue:UnR X (unaryOp .USub) (rU fun i=>.int (-i)):=unI fun _ _ _ _ _ q=>neg_int q
end
section
variable {X:Cx}{a b c:Expr}{ta tb tc:TE}{pos:Pos}
theorem mV {pins:List (Addr×Obj)}{σ:St}{H:Hp}{s:Shared}{Q:VK}{k k':Bool} (I:Inv X pins σ H s) (q:Q (.bl k) H) (e:k=k'):EP X pins σ Q (.bool k') s:=by
 subst e
 exact⟨.bl k,H,I,rfl,q⟩
theorem uf:OpR X (compareOp .Lt) (rI0 fun i j=>.bl (decide (i<j))):=i6 fun _ _ _ _ _ _ _ q=>lt_int q
theorem ug:OpR X (compareOp .LtE) (rI0 fun i j=>.bl (decide (i≤j))):=i6 fun _ _ _ _ _ _ _ q=>le_int q
theorem uh:OpR X (compareOp .Gt) (rI0 fun i j=>.bl (decide (j<i))):=i6 fun _ _ _ _ _ _ _ q=>gt_int q
theorem ui:OpR X (compareOp .GtE) (rI0 fun i j=>.bl (decide (j≤i))):=i6 fun _ _ _ _ _ _ _ q=>ge_int q
theorem uj:OpR X (compareOp .Is) (fun x y H Q=>y=.non∧Q (.bl (decide (x=.non))) H):=by
 intro pins s σ H x y v u Q I rx ry h
 obtain⟨rfl,q⟩:=h
 cases ry
 refine is_none_gen (mV I q ?_)
 cases x<;>first
  | (cases rx;rfl)
  | (obtain⟨t,rfl⟩:=rx;rfl)
theorem uk:OpR X (compareOp .IsNot) (fun x y H Q=>y=.non∧Q (.bl (!decide (x=.non))) H):=by
 intro pins s σ H x y v u Q I rx ry h
 obtain⟨rfl,q⟩:=h
 cases ry
 refine isnot_none_gen (mV I q ?_)
 cases x<;>first
  | (cases rx;rfl)
  | (obtain⟨t,rfl⟩:=rx;rfl)
theorem OpR.or {f:Value→Value→Sem Value}{r r':R2} (h:OpR X f r) (h':OpR X f r'):OpR X f (fun x y H Q=>r x y H Q∨r' x y H Q):=by
 intro pins s σ H x y v u Q I rx ry q
 rcases q with q | q
 ·exact h pins s σ H x y v u Q I rx ry q
 ·exact h' pins s σ H x y v u Q I rx ry q
theorem aU (b:Expr) {op:CmpOp} (h:op≠.In:=by decide) (h2:op≠.NotIn:=by decide):behindInMarks op b=false:=by
 have e1:(op == CmpOp.In)=false:=by cases op<;>first | rfl | exact absurd rfl h
 have e2:(op == CmpOp.NotIn)=false:=by cases op<;>first | rfl | exact absurd rfl h2
 cases b<;>simp[behindInMarks,e1,e2]
theorem ul {op:CmpOp}{r:R2} (ho:OpR X (compareOp op) r) (ha:PE X a ta) (hb:PE X b tb) (hm:behindInMarks op b=false):PE X (.Compare a [op] [b] pos) (tOp r ta tb):=by
 intro pins s σ H Q I h
 exact wpAny_Compare1 (kt ha hb I h fun v u s2 x y H2 I2 rx ry q=>ho pins s2 σ H2 x y v u Q I2 rx ry q) hm
noncomputable def um (t:TE):TT:=fun σ H Q=>t σ H fun x H'=>∃ k,x=.bl k∧Q k H'
theorem uo {op:CmpOp}{r:R2} (ho:OpR X (compareOp op) r) (ha:PE X a ta) (hb:PE X b tb) (hm:behindInMarks op b=false):PT X (.Compare a [op] [b] pos) (um (tOp r ta tb)):=by
 intro pins s σ H Q I h
 refine wpAny_isTrue_Compare1 (thn (ha pins s σ H _ I h) fun v s1 ⟨x,H1,I1,r1,q1⟩=>thn (hb pins s1 σ H1 _ I1 q1) fun u s2 ⟨y,H2,I2,r2,q2⟩=>
  thn (ho pins s2 σ H2 x y v u _ I2 r1 r2 q2) fun c s3 ⟨z,H3,I3,r3,k,e,q3⟩=>?_) hm
 subst e
 cases r3
 exact wpAny_truthy_bool ⟨H3,I3,q3⟩
noncomputable def ku (K:PySem.W.Frag) (x:V) (H:Hp) (k:Bool):Prop:=
 match x with
 | .non=>k=false
 | .bl b=>k=b
 | .int i=>k=(i != 0)
 | .str y=>y.length≤sizeLine∧k=((y.length:Int) != 0)
 | .byt y=>y.size≤sizeLine∧k=((y.size:Int) != 0)
 | .ref p=>(∃ xs,SqL K H p xs∧k=!xs.isEmpty)∨(∃ xs,SqT K H p xs∧k=!xs.isEmpty)∨∃ kvs,H p=some (.dK kvs)∧k=!kvs.isEmpty
 | _=>False
theorem uq {κ:Type}{kvs:List (κ×V)}{vs:List (κ×Value)} (r:KV kvs vs):(!vs.isEmpty)=!kvs.isEmpty:=by
 cases r<;>rfl
theorem mW {xs:List V}{its:List Value} (r:am xs its):(!its.toArray.isEmpty)=!xs.isEmpty:=by
 cases r<;>simp
theorem fA:(sizeLine:Nat)<2 ^ 63:=by rw[sizeLine_eq];decide
theorem ur:tZ X (fun x H Q=>∃ k,ku X.K x H k∧Q k H):=by
 intro pins s σ H x v Q I rx h
 obtain⟨k,e,q⟩:=h
 have hl:=fA
 have hs:sizeLine=16777216:=sizeLine_eq
 cases x with
 | non=>
  cases rx
  have e':k=false:=e
  subst e'
  exact truthy_none ⟨H,I,q⟩
 | bl b=>
  cases rx
  have e':k=b:=e
  subst e'
  exact wpAny_truthy_bool ⟨H,I,q⟩
 | int i=>
  obtain⟨t,rfl⟩:=rx
  have e':k=(i != 0):=e
  subst e'
  exact PySem.P.truthy_int ⟨H,I,q⟩
 | str y=>
  obtain⟨t,rfl⟩:=rx
  obtain⟨hy,e'⟩:y.length≤sizeLine∧k=((y.length:Int) != 0):=e
  subst e'
  exact PySem.P.truthy_str (by lia) ⟨H,I.tok _,q⟩
 | byt y=>
  obtain⟨t,rfl⟩:=rx
  obtain⟨hy,e'⟩:y.size≤sizeLine∧k=((y.size:Int) != 0):=e
  subst e'
  exact PySem.W.truthy_bytes (by lia) ⟨H,I.tok _,q⟩
 | ref p=>
  cases rx
  have e':(∃ xs,SqL X.K H p xs∧k=!xs.isEmpty)∨(∃ xs,SqT X.K H p xs∧k=!xs.isEmpty)∨∃ kvs,H p=some (.dK kvs)∧k=!kvs.isEmpty:=e
  rcases e' with ⟨xs,hx,e'⟩ | ⟨xs,hx,e'⟩ | ⟨kvs,hx,e'⟩
  ·subst e'
   obtain⟨its,r,pl,hz⟩:=I.list hx
   have hlen:=r.length
   exact wpAny_truthy_list pl.isList (by simp only[List.size_toArray];lia) ⟨H,I.tok _,by rw[mW r];exact q⟩
  ·subst e'
   obtain⟨its,r,pl,hz⟩:=I.tuple hx
   have hlen:=r.length
   exact truthy_tuple pl (by simp only[List.size_toArray];lia) ⟨H,I.tok _,by rw[mW r];exact q⟩
  ·subst e'
   obtain⟨hz,hS,vs,r,m⟩:kvs.length≤sizeLine∧(p == sysModules)=false∧∃ vs,KV kvs vs∧s.heap.DictOf (gj X.prog X.w) p vs:=I.hok p _ hx
   have hlen:kvs.length=vs.length:=Paired.length r
   exact wpAny_truthy_dict hS m (by lia) ⟨H,I.tok _,by rw[uq r];exact q⟩
 | _=>exact (show False from e).elim
theorem ut (ha:PE X a ta) (he:∀ whole,isTrue a X.env whole=(do let v ← whole;standAt a.pos;holding [v] (truthy v))):
  PT X a (fun σ H Q=>ta σ H fun x H'=>∃ k,ku X.K x H' k∧Q k H'):=by
 intro pins s σ H Q I h
 exact isTrue_plain (thn (ha pins s σ H _ I h) fun v s1 ⟨x,H1,I1,r1,q1⟩=>ur pins s1 σ H1 x v Q I1 r1 q1) (he _)
theorem uu:OpR X (binaryOp .Add) (fun x y H Q=>∃ i j,x=.str i∧y=.str j∧i.length+j.length≤sizeLine∧Q (.str (i++j)) H):=by
 intro pins s σ H x y v u Q I rx ry h
 obtain⟨i,j,rfl,rfl,hz,q⟩:=h
 obtain⟨t,rfl⟩:=rx
 obtain⟨t',rfl⟩:=ry
 exact add_str (fun t' tk=>⟨.str (i++j),H,I.tok _,⟨_,rfl⟩,q⟩) hz
theorem c5 {x:V}{us:List Value} (r:am [x] us):∃ u,us=[u]∧ay x u:=by
 cases r with
 | cons r1 r2=>cases r2;exact⟨_,rfl,r1⟩
theorem i7 {x y:V}{us:List Value} (r:am [x,y] us):∃ u w',us=[u,w']∧ay x u∧ay y w':=by
 cases r with
 | cons r1 r2=>
  cases r2 with
  | cons r3 r4=>cases r4;exact⟨_,_,rfl,r1,r3⟩
theorem uw (hc:X.calm=true):bn X (.builtin "max") (fun xs H Q=>∃ i j,xs=[.int i,.int j]∧Q (.int (if j > i then j else i)) H):=by
 intro pins s σ H xs us Q I r h
 obtain⟨i,j,rfl,q⟩:=h
 obtain⟨u,w',rfl,⟨t,rfl⟩,⟨t',rfl⟩⟩:=i7 r
 refine max_two_ints (I.ok.hd hc) fun h' tk k=>⟨_,H,I.kept k,?_,q⟩
 by_cases hj:j > i
 ·rw[if_pos hj,if_pos hj];exact⟨_,rfl⟩
 ·rw[if_neg hj,if_neg hj];exact⟨_,rfl⟩
theorem ux (hc:X.calm=true):bn X (.builtin "min") (fun xs H Q=>∃ i j,xs=[.int i,.int j]∧Q (.int (if j<i then j else i)) H):=by
 intro pins s σ H xs us Q I r h
 obtain⟨i,j,rfl,q⟩:=h
 obtain⟨u,w',rfl,⟨t,rfl⟩,⟨t',rfl⟩⟩:=i7 r
 refine min_two_ints (I.ok.hd hc) fun h' tk k=>⟨_,H,I.kept k,?_,q⟩
 by_cases hj:j<i
 ·rw[if_pos hj,if_pos hj];exact⟨_,rfl⟩
 ·rw[if_neg hj,if_neg hj];exact⟨_,rfl⟩
theorem uy:bn X (.type "int") (fun xs H Q=>(∃ i,xs=[.int i]∧Q (.int i) H)∨∃ k,xs=[.bl k]∧Q (.int (if k then 1 else 0)) H):=by
 intro pins s σ H xs us Q I r h
 rcases h with ⟨i,rfl,q⟩ | ⟨k,rfl,q⟩
 ·obtain⟨u,rfl,t,rfl⟩:=c5 r
  exact call_int_int ⟨.int i,H,I,⟨_,rfl⟩,q⟩
 ·obtain⟨u,rfl,r1⟩:=c5 r
  cases r1
  exact call_int_bool ⟨.int (if k then 1 else 0),H,I.tok _,⟨_,rfl⟩,q⟩
end
section
variable {prog:Program}{w:World}{A:Around}{E:Value→Shared→Prop}{s:Shared}{K:PySem.W.Frag}{x dx C f:Addr}{mA:Str→Option Value}{name:Str}{v:Value}
end
theorem d9.some_of {v:V}{o:Option Value} (r:d9 (some v) o):∃ u,o=some u∧ay v u:=by
 cases o with
 | none=>exact (show False from r).elim
 | some u=>exact⟨u,rfl,r⟩
section
variable {P:Program}{w:World}{H H':Hp}{h h':Heap}{a C dx:Addr}{fs fs':List (Str×V)}
end
section
variable {X:Cx}{pins:List (Addr×Obj)}{σ:St}{H:Hp}{s:Shared}{a C dx:Addr}{fs:List (Str×V)}{f:Str}{v:V}{A:Around}{E:Value→Shared→Prop}
end
section
variable {X:Cx}{o e value:Expr}{f:Str}{pos pos' tpos:Pos}{ta tv:TE}
end
section
variable {X:Cx}{pins:List (Addr×Obj)}{σ:St}{H:Hp}{s:Shared}{A:Around}{E:Value→Shared→Prop}{Q:Value→Shared→Prop}{c:Value}{b:Bool}
end
structure Room (k:Nat) (A:Around):Prop where
 hd:A.handled=none
 dp:A.depth+3 * k+5<recursionLimit
 un:A.units+16 * k+200<cLine
 gd:A.guards=some []
theorem Room.mono {j k:Nat}{A:Around} (r:Room k A) (h:j≤k):Room j A:=⟨r.hd,by have:=r.dp;lia,by have:=r.un;lia,r.gd⟩
theorem Room.deeper {k:Nat}{A:Around} (r:Room (k+1) A) (env:Env):Room k (A.deeper env):=
 ⟨r.hd,by have:=r.dp;show A.depth+1+3 * k+5 < _;lia,by have:=r.un;show A.units+3+16 * k+200 < _;lia,r.gd⟩
theorem Room.depth {k:Nat}{A:Around} (r:Room k A):A.depth<recursionLimit:=by have:=r.dp;lia
noncomputable def tNil:TA:=fun _ H Q=>Q [] H
noncomputable def uz (ta:TE) (tr:TA):TA:=fun σ H Q=>ta σ H fun x H1=>tr σ H1 fun xs H2=>Q (x::xs) H2
section
variable {X:Cx}{e:Expr}{es:List Expr}{te:TE}{t:TA}{pos:Pos}
theorem mX:PA X [] tNil:=fun _ _ _ _ H Q I h=>Calls.spliced_nil ⟨[],H,I,.nil,h⟩
theorem kw (ha:PE X e te) (hr:PA X es t) (hs:starEach (e::es) X.env=(false,eval e X.env)::starEach es X.env:=by rfl):PA X (e::es) (uz te t):=by
 intro pos pins s σ H Q I h
 rw[hs]
 show wpAny _ _ (spliced ((false,eval e X.env)::backTo pos (starEach es X.env))) _ _ s
 refine Calls.spliced_cons (thn (ha pins s σ H _ I h) fun u s1 ⟨x,H1,I1,r1,q1⟩=>?_)
 exact thn (hr pos pins s1 σ H1 _ I1 q1) fun us s2 ⟨xs,H2,I2,r2,q2⟩=>⟨x::xs,H2,I2,.cons r1 r2,q2⟩
noncomputable def uA (t:TA):TE:=fun σ H Q=>t σ H fun xs H1=>xs.length≤sizeLine∧∀ p,H1 p=none→Q (.ref p) (upd H1 p (.tup xs))
noncomputable def uB (t:TA):TE:=fun σ H Q=>t σ H fun xs H1=>xs.length≤sizeLine∧∀ p,H1 p=none→Q (.ref p) (upd H1 p (.lst xs))
theorem uC {x1} (h:PA X es t):PE X (.Tuple es x1 pos) (uA t):=by
 intro pins s σ H Q I hq
 refine wpAny_Tuple_spliced (thn (h pos pins s σ H _ I hq) fun us s1 ⟨xs,H1,I1,r,z,q⟩=>⟨by rw[← r.length];exact z,?_⟩)
 have hf:H1 s1.heap.objs.size=none:=I1.hok.fresh (Nat.le_refl _)
 refine⟨.ref s1.heap.objs.size,upd H1 s1.heap.objs.size (.tup xs),I1.laid (t':=s1.toks) (fun b u e=>Heap.get?_push_of_some _ e) (Nat.le_refl _) ?_,rfl,q _ hf⟩
 exact⟨z,us,r,⟨_,Heap.get?_push_size _ rfl,rfl,_,rfl⟩⟩
theorem uD (h:PA X es t):PE X (.List es pos) (uB t):=by
 intro pins s σ H Q I hq
 refine wpAny_List_spliced (thn (h pos pins s σ H _ I hq) fun us s1 ⟨xs,H1,I1,r,z,q⟩=>⟨by rw[← r.length];exact z,?_⟩)
 have hf:H1 s1.heap.objs.size=none:=I1.hok.fresh (Nat.le_refl _)
 refine⟨.ref s1.heap.objs.size,upd H1 s1.heap.objs.size (.lst xs),I1.laid (t':=s1.toks) (fun b u e=>Heap.get?_push_of_some _ e) (Nat.le_refl _) ?_,rfl,q _ hf⟩
 exact⟨z,us,0,r,Heap.get?_push_size _ rfl⟩
end
noncomputable abbrev Sp:=List V→Hp→VK→XK→Prop
noncomputable abbrev CXT:=List Env→Hp→Shared→XK→Value→Shared→Prop
structure Env0 (P:Program) (w:World) (K:PySem.W.Frag) (mg:Str→Option Value) (base:Heap) (A:Around) (outer:List Env) (s:Shared) (H:Hp):Prop where
 frames:A.frames=some outer
 mod:Mod K mg base
 bs:∀ b o,base.get? b=some o→s.heap.get? b=some o∧H b=none
 bsz:base.objs.size≤s.heap.objs.size
 funs:s.heap.FunFrames base outer
 frf:∀ b∈frs outer,H b=none
 hok:HOk P w H s.heap
 bare:AllBare s.gens
noncomputable def CE (outer:List Env) (P:Program) (w:World) (H:Hp) (s:Shared) (Q:VK) (u:Value) (s':Shared):Prop:=
 ∃ v H',s'.os=s.os∧AllBare s'.gens∧Un (frs outer) [] H H' s.heap s'.heap∧HOk P w H' s'.heap∧ay v u∧Q v H'
noncomputable def CR (CX:CXT) (outer:List Env) (P:Program) (w:World) (H:Hp) (s:Shared) (Q:VK) (E:XK) (r:Result) (s':Shared):Prop:=
 match r with
 | .ok (.ret u)=>CE outer P w H s Q u s'
 | .ok _=>False
 | .error e=>CX outer H s E e s'
structure FnOk (P:Program) (w:World) (K:PySem.W.Frag) (mg:Str→Option Value) (base:Heap) (CX:CXT) (k:Nat) (f:Addr) (fd:FuncData) (ps:List Str) (sp:Sp):Prop where
 len:∀ vs H Q E,sp vs H Q E→vs.length=ps.length
 run:∀ (A:Around) (outer:List Env) (s:Shared) (H:Hp) (args:Args) (us:List Value) (vs:List V) (Q:VK) (E:XK),Room k A→Env0 P w K mg base A outer s H→BindsTo s fd args (ps.zip us)→am vs us→sp vs H Q E→
  codeAny (model P w) A (.call (.ref f) args) (CR CX outer P w H s Q E) s
section
variable {X:Cx}{pins:List (Addr×Obj)}{σ:St}{H:Hp}{s s':Shared}
theorem Inv.env0 (I:Inv X pins σ H s):Env0 X.prog X.w X.K X.mg X.base X.A X.stack s H:=
 ⟨I.ok.frames,I.ok.mod,I.bs,Nat.le_trans I.ok.bsz I.sz,I.stack,I.stkFree,I.hok,I.bare⟩
theorem Inv.after {Q:VK}{u:Value} (I:Inv X pins σ H s) (h:CE X.stack X.prog X.w H s Q u s'):EP X pins σ Q u s':=by
 obtain⟨v,H',os,bare,un,hok,r,q⟩:=h
 obtain⟨hh,g,d,t,os'⟩:=s'
 obtain rfl:os'=s.os:=os
 exact⟨v,H',I.call (h':=hh) (g':=g) (d':=d) (t':=t) (ch:=[]) un hok bare (fun b z=>absurd z (by simp)),r,q⟩
end
noncomputable def kz (sp:Sp) (dvs:List V) (E:XK) (t:TA):TE:=fun σ H Q=>t σ H fun vs H1=>sp (vs++dvs) H1 Q E
noncomputable def az (K:PySem.W.Frag) (fd:FuncData) (ps:List Str) (ds:List Value):Prop:=
 ∀ (s:Shared) (us:List Value),K.In s.heap→(us++ds).length=ps.length→BindsTo s fd ⟨us,[]⟩ (ps.zip (us++ds))
theorem az.all {K:PySem.W.Frag}{fd:FuncData}{ps:List Str} (h:∀ us:List Value,us.length=ps.length→bindArgs fd ⟨us,[]⟩=pure (ps.zip us)):az K fd ps []:=fun s us _ hl=>by
 rw[List.append_nil] at hl ⊢
 exact .of_eq (h us hl)
noncomputable def i8 (CX:CXT) (X:Cx) (E:XK):Prop:=∀ (pins:List (Addr×Obj)) (σ:St) (H:Hp) (s:Shared) (e:Value) (s':Shared),Inv X pins σ H s→CX X.stack H s E e s'→X.xe e s'
section
variable {X:Cx}{CX:CXT}{k:Nat}{f C:Addr}{fd:FuncData}{ps:List Str}{sp:Sp}{dvs:List V}{ds:List Value}{E:XK}{x m:Str}{p pos apos:Pos}{e o:Expr}{es:List Expr}{ta:TE}{t:TA}
theorem mY {pins:List (Addr×Obj)}{σ:St}{H:Hp}{s:Shared}{Q:VK}{us:List Value}{vs:List V} (F:FnOk X.prog X.w X.K X.mg X.base CX k f fd ps sp) (hr:Room k X.A) (hb:az X.K fd ps ds) (hd:am dvs ds) (hx:i8 CX X E)
  (I:Inv X pins σ H s) (r:am vs us) (h:sp (vs++dvs) H Q E):wpAny (model X.prog X.w) X.A (call (.ref f) us) (EP X pins σ Q) X.xe s:=by
 have r2:am (vs++dvs) (us++ds):=r.append hd
 have hl:(us++ds).length=ps.length:=by rw[← r2.length];exact F.len _ _ _ _ h
 refine wpAny_call (codeAny_mono (F.run X.A X.stack s H ⟨us,[]⟩ (us++ds) (vs++dvs) Q E hr I.env0 (hb s us I.kIn hl) r2 h) fun r s' hq=>?_)
 cases r with
 | error e=>exact hx pins σ H s e s' I hq
 | ok fl=>
  cases fl with
  | ret u=>exact I.after hq
  | next=>exact False.elim hq
  | brk=>exact False.elim hq
  | cont=>exact False.elim hq
theorem uE (F:FnOk X.prog X.w X.K X.mg X.base CX k f fd ps sp) (hr:Room k X.A) (hg:Gl X x) (hm:X.mg x=some (.ref f)) (hk:PySem.W.keepIn X.K (.ref f)=true) (hb:az X.K fd ps ds) (hd:am dvs ds) (hx:i8 CX X E)
  (ha:PA X (e::es) t) (hdb:(x == ("__debug__" : Str))=false:=by decide) (he:starEach (e::es) X.env=(false,eval e X.env)::starEach es X.env:=by rfl) (hpl:(backTo pos (starEach es X.env)).any (·.1)=false:=by rfl):
  PE X (.Call (.Name x p) (e::es) [] pos) (kz sp dvs E t):=by
 intro pins s σ H Q I h
 refine wpAny_Call_Name_kw (mO I hg hm ?_ hdb)
 refine PySem.W.callWith_K (h₀:=X.base) I.ok.mod.kin hk (thn (ha pos pins s σ H _ I h) fun us s1 ⟨vs,H1,I1,r,q⟩=>⟨I1.kIn,?_⟩) he hpl
 exact mY F hr hb hd hx I1 r q
end
section
variable {X:Cx}{CX:CXT}{k:Nat}{f C:Addr}{fd:FuncData}{ps ks:List Str}{sp:Sp}{E:XK}{x m:Str}{p pos apos kpos:Pos}{e o:Expr}{es:List Expr}{kws:List Keyword}{te ta:TE}{t tk:TA}{nm:Option Str}
variable {g:List Value→List Value→List Value}{gV:List V→List V→List V}
end
structure FnScope (N P:List Str) (sc:Scope):Prop where
 kind:sc.kind=.function
 co:sc.isCoroutine=false
 gen:sc.isGenerator=false
 nd:N.Nodup
 pre:N.take P.length=P
 par:∀ x∈P,sc.names.lookup x=some .local∨sc.names.lookup x=some .cell
 nofree:∀ y∈sc.names,y.2≠.free
theorem mZ {kindOf:Str→Option NameKind}{x:Str}:∀ {binds:List (Str×Value)}{m:Str→Option Value},(∀ v,(x,v)∉binds)→bindL kindOf binds m x=m x
 | [],_,_=>rfl
 | (n,v)::r,m,h=>by
  unfold bindL
  rw[mZ fun w hw=>h w (List.mem_cons_of_mem _ hw)]
  split
  ·have:x≠n:=by rintro rfl;exact h v List.mem_cons_self
   simp[this]
  ·rfl
theorem m5 {kindOf:Str→Option NameKind}{x:Str}:∀ {binds:List (Str×Value)}{m:Str→Option Value},(∀ v,(x,v)∉binds)→bindC kindOf binds m x=m x
 | [],_,_=>rfl
 | (n,v)::r,m,h=>by
  unfold bindC
  rw[m5 fun w hw=>h w (List.mem_cons_of_mem _ hw)]
  split
  ·rfl
  ·have:x≠n:=by rintro rfl;exact h v List.mem_cons_self
   simp[this]
theorem m6 {kindOf:Str→Option NameKind}{x:Str}{v:Value}:∀ {P:List Str}{vs:List Value}{i:Nat}{m:Str→Option Value},P.Nodup→P[i]?=some x→vs[i]?=some v→kindOf x=some .local→
  bindL kindOf (P.zip vs) m x=some v
 | [],_,_,_,_,h,_,_=>by simp at h
 | _::_,[],_,_,_,_,h,_=>by simp at h
 | p::P,w::vs,0,m,nd,h1,h2,hk=>by
  simp at h1 h2;subst h1;subst h2
  show bindL kindOf ((p,w)::P.zip vs) m p=_
  unfold bindL
  rw[mZ fun v hv=>(List.nodup_cons.mp nd).1 (List.of_mem_zip hv).1,if_pos hk]
  simp
 | p::P,w::vs,i+1,m,nd,h1,h2,hk=>by
  show bindL kindOf ((p,w)::P.zip vs) m x=_
  unfold bindL
  exact m6 (i:=i) (List.nodup_cons.mp nd).2 (by simpa using h1) (by simpa using h2) hk
theorem m7 {kindOf:Str→Option NameKind}{x:Str}{v:Value}:∀ {P:List Str}{vs:List Value}{i:Nat}{m:Str→Option Value},P.Nodup→P[i]?=some x→vs[i]?=some v→kindOf x≠some .local→
  bindC kindOf (P.zip vs) m x=some v
 | [],_,_,_,_,h,_,_=>by simp at h
 | _::_,[],_,_,_,_,h,_=>by simp at h
 | p::P,w::vs,0,m,nd,h1,h2,hk=>by
  simp at h1 h2;subst h1;subst h2
  show bindC kindOf ((p,w)::P.zip vs) m p=_
  unfold bindC
  rw[m5 fun v hv=>(List.nodup_cons.mp nd).1 (List.of_mem_zip hv).1,if_neg hk]
  simp
 | p::P,w::vs,i+1,m,nd,h1,h2,hk=>by
  show bindC kindOf ((p,w)::P.zip vs) m x=_
  unfold bindC
  exact m7 (i:=i) (List.nodup_cons.mp nd).2 (by simpa using h1) (by simpa using h2) hk
noncomputable def dl (N:List Str) (vs:List V):St:=vs.map some++List.replicate (N.length - vs.length) none
noncomputable def fC (CX:CXT) (P:Program) (w:World) (K:PySem.W.Frag) (mg:Str→Option Value) (base:Heap) (N:List Str) (qual:Str) (scope:Scope) (f:Addr) (cd:Value) (A:Around) (outer:List Env) (s:Shared) (H:Hp) (E:XK):Cx where
 prog:=P
 w:=w
 K:=K
 mg:=mg
 base:=base
 A:=A.deeper (envOfC qual scope s.heap.objs.size f cd)
 N:=N
 s₀:=s
 H₀:=H
 env:=envOfC qual scope s.heap.objs.size f cd
 outer:=outer
 stack:=envOfC qual scope s.heap.objs.size f cd::outer
 ex:=[]
 calm:=true
 fn:=fun _=>true
 pn:=[]
 xe:=fun e s'=>wpAny (model P w) (A.deeper (envOfC qual scope s.heap.objs.size f cd)) (leaving (envOfC qual scope s.heap.objs.size f cd) e) (fun _ s''=>CX outer H s E e s'') (fun e' s''=>CX outer H s E e' s'') s'
theorem m8 {sc:Scope}{n:Nat}{x:Str} (h:sc.names.lookup x=some .cell):∃ c,(cellsFrom n sc.names []).lookup x=some c:=by
 have q:=PySem.W.cellsFrom_some sc.names n [] (.inl h)
 exact Option.isSome_iff_exists.mp q
theorem uF {CX:CXT}{P:Program}{w:World}{K:PySem.W.Frag}{mg:Str→Option Value}{base:Heap}{N ps:List Str}{qual:Str}{scope:Scope}{f:Addr}{cd:Value}{A:Around}{outer:List Env}{s s1:Shared}{H:Hp}{E:XK}{us:List Value}{vs:List V}
  (S:FnScope N ps scope) (hd:A.handled=none) (e0:Env0 P w K mg base A outer s H) (hl:vs.length=ps.length) (r:am vs us)
  (x:InCallC s s.heap.objs.size (bindL (envOfC qual scope s.heap.objs.size f cd).kindOf (ps.zip us) fun _=>none) (cellsFrom (s.heap.objs.size+1) scope.names []) (bindC (envOfC qual scope s.heap.objs.size f cd).kindOf (ps.zip us) fun _=>none) s1):
  Inv (fC CX P w K mg base N qual scope f cd A outer s H E) [] (dl N vs) H s1:=by
 have hpl:ps.length≤N.length:=by have:=congrArg List.length S.pre;rw[List.length_take] at this;lia
 obtain⟨h1,tk,rfl,hk⟩:=x.done
 have noA:∀ b:Addr,b∉(fC CX P w K mg base N qual scope f cd A outer s H E).ex:=fun b z=>absurd (show b∈([]:List Addr) from z) (by simp)
 refine⟨⟨e0.mod,S.kind,rfl,rfl,Nat.le_refl _,fun y z c h1 h2=>?_,fun y hy=>?_,fun y c _ h=>?_,fun _=>hd,Around.frames_deeper e0.frames,.inr ⟨rfl,rfl⟩,fun b z=>absurd z (noA b),e0.bs,e0.bsz,fun b _ _=>noA b,fun b z=>absurd z (noA b),e0.funs,e0.frf⟩,
  rfl,e0.bare,Un.kept hk,⟨_,x.toInCall.ns,fun i y v h1 h2 h3=>?_⟩,fun y c h=>⟨_,x.cell y c h⟩,e0.hok.fresh (Nat.le_refl _),fun y c h=>?_,fun p hp=>absurd (show p∈([]:List (Addr×Obj)) from hp) (by simp),e0.hok.kept hk,?_⟩
 ·exact name_of_addr x.apart (PySem.mem_of_lookup h1) (PySem.mem_of_lookup h2)
 ·have hy:scope.names.lookup y=some .cell∨scope.names.lookup y=some .free:=hy
  rcases hy with hy | hy
  ·exact m8 hy
  ·exact absurd rfl (S.nofree _ (PySem.mem_of_lookup hy))
 ·exact Nat.le_of_lt (x.above y c (PySem.mem_of_lookup h))
 ·have hi:i<vs.length:=by
   unfold dl at h2
   by_cases hi:i<vs.length
   ·exact hi
   ·rw[List.getElem?_append_right (by simpa using hi)] at h2
    rw[List.getElem?_replicate] at h2
    split at h2<;>cases h2
  have ha:vs[i]?=some v:=by
   unfold dl at h2
   rw[List.getElem?_append_left (by simpa using hi),List.getElem?_map] at h2
   cases e:vs[i]? with
   | none=>rw[e] at h2;cases h2
   | some a=>rw[e] at h2;cases h2;rfl
  obtain⟨u,hu,rv⟩:=r.get ha
  have hp:ps[i]?=some y:=by
   rw[← S.pre,List.getElem?_take_of_lt (by lia)];exact h1
  have ndP:ps.Nodup:=by rw[← S.pre];exact S.nd.sublist (List.take_sublist _ _)
  refine⟨u,rv,?_⟩
  rcases S.par y (List.mem_of_getElem? hp) with k | k
  ·exact .inl ⟨k,m6 ndP hp hu k⟩
  ·obtain⟨c,e⟩:=m8 (n:=s.heap.objs.size+1) k
   refine .inr ⟨.inl k,c,e,?_⟩
   have q:=x.cell y c e
   rw[m7 ndP hp hu (by show scope.names.lookup y≠_;rw[k];decide)] at q
   exact q
 ·exact e0.hok.fresh (Nat.le_of_lt (x.above y c (PySem.mem_of_lookup h)))
 ·unfold dl
  show _=N.length
  rw[List.length_append,List.length_map,List.length_replicate]
  lia
theorem uG {CX:CXT}{P:Program}{w:World}{K:PySem.W.Frag}{mg:Str→Option Value}{base:Heap}{k:Nat}{f:Addr}{name qual:Str}{params:Arguments}{body:List Stmt}{scope:Scope}{dV kV doc pm cdv ct oc:Value}{an od:Option Addr}
  {osl:Array (Option Value)}{N ps:List Str}{sp:Sp} (lk:K.lookup f=some ⟨oc,od,.func (PySem.W.fnOf name qual params body scope dV kV doc pm an cdv ct),osl⟩) (hcd:PySem.W.codeIn K cdv qual=true) (S:FnScope N ps scope)
  (len:∀ vs H Q E,sp vs H Q E→vs.length=ps.length)
  (hbody:∀ (A:Around) (outer:List Env) (s:Shared) (H:Hp) (vs:List V) (Q:VK) (E:XK),Room k (A.deeper (envOfC qual scope s.heap.objs.size f cdv))→sp vs H Q E→
   ∃ t,PSs (fC CX P w K mg base N qual scope f cdv A outer s H E) body t∧t { nx:=fun _ H'=>Q .non H',rt:=Q } (dl N vs) H):
  FnOk P w K mg base CX (k+1) f (PySem.W.fnOf name qual params body scope dV kV doc pm an cdv ct) ps sp:=by
 refine⟨len,fun A outer s H args us vs Q E hr e0 hb r hsp=>?_⟩
 have hl:=len _ _ _ _ hsp
 have KX:K.In s.heap:=e0.mod.kin.keeps fun b o e=>(e0.bs b o e).1
 have lim:s.heap.NoLimit:=e0.mod.nolimit.keeps fun b o e=>(e0.bs b o e).1
 have hkind:∀ y∈ps.zip us,scope.names.lookup y.1=some .local∨(scope.names.lookup y.1=some .cell∧((cellsFrom (s.heap.objs.size+1) scope.names []).lookup y.1).isSome=true):=fun ⟨n,v⟩ hy=>by
  rcases S.par n (List.of_mem_zip hy).1 with q | q
  ·exact .inl q
  ·exact .inr ⟨q,PySem.W.cellsFrom_some _ _ _ (.inl q)⟩
 refine codeAny_call_function hr.depth (KX _ _ lk) rfl S.co S.gen rfl (PySem.W.codeRec_of KX hcd) (hb _ _ _ _ ?_)
 refine wpAny_newFunctionEnv_cells S.kind hkind fun env he s1 x=>?_
 subst he
 refine⟨lim.keeps x.toInCall.keep,codeAny_func ?_⟩
 obtain⟨t,ht,hq⟩:=hbody A outer s H vs Q E (hr.deeper _) hsp
 have I:Inv (fC CX P w K mg base N qual scope f cdv A outer s H E) [] (dl N vs) H s1:=uF S hr.hd e0 hl r x
 refine wpAny_mono (ht [] s1 (dl N vs) H _ I hq) (fun fl s' hs=>?_) fun e s' hs=>hs
 have fin:∀ {σ':St}{H':Hp}{v:V}{u:Value},Inv (fC CX P w K mg base N qual scope f cdv A outer s H E) [] σ' H' s'→ay v u→Q v H'→CE outer P w H s Q u s':=
  fun {σ' H' v u} J rv q=>⟨v,H',J.os,J.bare,J.base,J.hok,rv,q⟩
 cases fl with
 | ret u=>
  obtain⟨v,σ',H',J,rv,q⟩:=hs
  exact fin J rv q
 | next=>
  obtain⟨σ',H',J,q⟩:=hs
  exact fin (v:=V.non) (u:=Value.none) J rfl q
 | brk=>
  obtain⟨_,_,_,q⟩:=hs
  exact False.elim q
 | cont=>
  obtain⟨_,_,_,q⟩:=hs
  exact False.elim q
section
variable {X:Cx}{x:Str}{p pos:Pos}{e:Expr}{es:List Expr}{t:TA}{id T:String}{r:List V→Hp→VK→Prop}
noncomputable def tCB (r:List V→Hp→VK→Prop) (t:TA):TE:=fun σ H Q=>t σ H fun vs H1=>r vs H1 Q
theorem m9 (hc:bn X (.builtin id) r) (hg:Gl X x) (hm:X.mg x=none) (hv:bootBuiltins x=some (.builtin id)) (ha:PA X (e::es) t) (hn:x ≠ "__name__" := by decide) (hdb:(x == ("__debug__" : Str))=false:=by decide)
  (he:starEach (e::es) X.env=(false,eval e X.env)::starEach es X.env:=by rfl) (hpl:(backTo pos (starEach es X.env)).any (·.1)=false:=by rfl):PE X (.Call (.Name x p) (e::es) [] pos) (tCB r t):=by
 intro pins s σ H Q I h
 refine wpAny_Call_Name_kw (cl I hg hm hv ?_ hn hdb)
 exact PyProof.Rows.callWith_builtin1 (thn (ha pos pins s σ H _ I h) fun us s1 ⟨vs,H1,I1,r1,q1⟩=>hc pins s1 σ H1 vs us Q I1 r1 q1) he hpl
theorem uH (hc:bn X (.type T) r) (hg:Gl X x) (hm:X.mg x=none) (hv:bootBuiltins x=some (.type T)) (ha:PA X (e::es) t) (hn:x ≠ "__name__" := by decide) (hdb:(x == ("__debug__" : Str))=false:=by decide)
  (he:starEach (e::es) X.env=(false,eval e X.env)::starEach es X.env:=by rfl) (hpl:(backTo pos (starEach es X.env)).any (·.1)=false:=by rfl):PE X (.Call (.Name x p) (e::es) [] pos) (tCB r t):=by
 intro pins s σ H Q I h
 refine wpAny_Call_Name_kw (cl I hg hm hv ?_ hn hdb)
 exact PyProof.Rows.callWith_type1 (thn (ha pos pins s σ H _ I h) fun us s1 ⟨vs,H1,I1,r1,q1⟩=>hc pins s1 σ H1 vs us Q I1 r1 q1) he hpl
end
end L2
namespace HT
open PySem PyProof.Rows
section
open PySem.SeqAt
open PySem.AutoSeq1 (wpAny_loadPart')
open PySem.MeetsSeq PySem.MeetsSeq2 PySem.MeetsSeq3
end
section
variable {prog:Program}{w:World}{A:Around}{E:Value→Shared→Prop}{s:Shared}
theorem uI {t b:Addr}{vs ws:List Value}{Q:Value→Shared→Prop} (ht:IsTup s.heap t vs.toArray) (hb:IsTup s.heap b ws.toArray) (hv:vs≠[])
  (h1:ws=[]→Q (.ref t) s) (h2:ws≠[]→Q (.ref s.heap.objs.size) { s with heap:=s.heap.push { cls:=.type "tuple",data:=.seq (vs++ws).toArray } })
  (hsz:vs.length+ws.length≤sizeLine):wpAny (model prog w) A (binaryOp .Add (.ref t) (.ref b)) Q E s:=by
 obtain⟨⟨cls,dd,data,sl⟩,ho,hc,n,hd⟩:=id ht
 obtain⟨⟨cls2,dd2,data2,sl2⟩,ho2,hc2,n2,hd2⟩:=id hb
 simp only at hc hd hc2 hd2
 subst hc hd hc2 hd2
 have e:vs.toArray++ws.toArray=(vs++ws).toArray:=by simp
 by_cases hw:ws=[]
 ·exact concat_meets ⟨_,ho,rfl⟩ ⟨_,ho2,rfl⟩ noFill_tuple_add seq_tuple_add PySem.F.slot_tuple_add PySem.F.entry_tuple_add (PySem.F.args_tuple_add_2 _ _)
   (tuple_addW1 t b vs.toArray ws.toArray n n2 dd dd2 sl sl2 (by simpa using hv) (by simp[hw])) ⟨ho,ho2,h1 hw⟩
 ·refine concat_meets ⟨_,ho,rfl⟩ ⟨_,ho2,rfl⟩ noFill_tuple_add seq_tuple_add PySem.F.slot_tuple_add PySem.F.entry_tuple_add (PySem.F.args_tuple_add_2 _ _)
   (tuple_addW2 t b vs.toArray ws.toArray n n2 dd dd2 sl sl2 (by simpa using hv) (by simpa using hw) (by rw[List.size_toArray,List.size_toArray];exact hsz)) ⟨ho,ho2,?_⟩
  rw[e]
  exact h2 hw
noncomputable def sIx (n d:Nat):Option Int→Nat
 | none=>d
 | some v=>if v<0 then (v+(n:Int)).toNat else min v.toNat n
theorem ng (n d:Nat):sIx n d none=d:=rfl
theorem nh (n d k:Nat):sIx n d (some (k:Int))=min k n:=by
 show (if (k:Int)<0 then ((k:Int)+(n:Int)).toNat else min (k:Int).toNat n)=min k n
 rw[if_neg (by lia),Int.toNat_natCast]
theorem uJ (n d:Nat) (hd:d≤n) (o:Option Int):sIx n d o≤n:=by
 cases o with
 | none=>exact hd
 | some v=>
  show (if v<0 then (v+(n:Int)).toNat else min v.toNat n)≤n
  by_cases hv:v<0
  ·rw[if_pos hv];lia
  ·rw[if_neg hv];exact Nat.min_le_right _ _
theorem ni (v:Int) (n d:Nat):(if v<0 then max (v+(n:Int)) 0 else min v (n:Int))=((sIx n d (some v):Nat):Int):=by
 show (if v<0 then max (v+(n:Int)) 0 else min v (n:Int))=(((if v<0 then (v+(n:Int)).toNat else min v.toNat n):Nat):Int)
 by_cases hv:v<0
 ·simp only[if_pos hv];lia
 ·simp only[if_neg hv];lia
theorem uK (lo hi:Option Int) (n:Nat):Builtin.Slice.sliceAdjust lo hi 1 (n:Int)=(((sIx n 0 lo:Nat):Int),((sIx n n hi:Nat):Int)):=by
 have h1:¬ ((1:Int)<0):=by lia
 unfold Builtin.Slice.sliceAdjust
 simp only[h1,if_false]
 refine Prod.ext ?_ ?_
 ·cases lo with
  | none=>rfl
  | some v=>exact ni v n 0
 ·cases hi with
  | none=>rfl
  | some v=>exact ni v n n
theorem uL (i j:Nat):Builtin.Slice.slicePlaces (i:Int) (j:Int) 1=j - i:=by
 unfold Builtin.Slice.slicePlaces
 have h1:(1:Int) > 0:=by lia
 simp only[h1,if_true,Int.ediv_one]
 split<;>lia
theorem nj {v:Value}{o:Option Int}{Q:Option Int→Shared→Prop} (p:IsPart v o) (h:Q o s):wpAny (model prog w) A (Builtin.Slice.slicePartIndex v) Q E s:=by
 cases p with
 | none=>exact slicePart_none h
 | int i t=>exact slicePart_int h
theorem nk {sl:Addr}{vl vu:Value}{lo hi:Option Int}{n:Nat}{Q:Int×Int×Nat→Shared→Prop} (hs:s.heap.IsSliceOf sl vl vu .none) (pl:IsPart vl lo) (pu:IsPart vu hi)
  (h:Q (((sIx n 0 lo:Nat):Int),1,sIx n n hi - sIx n 0 lo) s):wpAny (model prog w) A (Builtin.Slice.sliceApplied (.ref sl) (pure (n:Int))) Q E s:=by
 obtain⟨os,hos,hcs,hds⟩:=id hs
 unfold Builtin.Slice.sliceApplied Builtin.Slice.sliceFields
 refine wpAny_bind (wpAny_bind (wpAny_field hos hds (x:=vl) rfl (wpAny_bind (wpAny_field hos hds (x:=vu) rfl (wpAny_bind (wpAny_field hos hds (x:=.none) rfl (wpAny_pure ?_)))))))
 refine wpAny_bind (slicePart_none ?_)
 show wpAny _ _ (if ((1:Int) == 0)=true then _ else _) _ _ s
 rw[if_neg (by decide)]
 refine wpAny_bind (nj pl (wpAny_bind (nj pu (wpAny_bind (wpAny_pure ?_)))))
 show wpAny _ _ (match Builtin.Slice.sliceAdjust lo hi 1 (n:Int) with | (lo,hi)=>pure (lo,(1:Int),Builtin.Slice.slicePlaces lo hi 1)) _ _ s
 rw[uK lo hi n]
 show wpAny _ _ (pure (((sIx n 0 lo:Nat):Int),(1:Int),Builtin.Slice.slicePlaces ((sIx n 0 lo:Nat):Int) ((sIx n n hi:Nat):Int) 1)) _ _ s
 rw[uL]
 exact wpAny_pure h
theorem uM (xs:Array Value) (i k:Nat):((List.range k).filterMap fun (m:Nat)=>xs[((i:Int)+(m:Int) * 1).toNat]?).toArray=((xs.toList.drop i).take k).toArray:=by
 have e:(fun (m:Nat)=>xs[((i:Int)+(m:Int) * 1).toNat]?)=fun m=>xs[i+m]?:=by
  funext m
  have:((i:Int)+(m:Int) * 1).toNat=i+m:=by lia
  rw[this]
 rw[e]
 have:=pick_run xs i k
 rw[List.filterMap_map] at this
 have e2:((fun x=>xs[x]?) ∘ fun x=>i+x)=fun m=>xs[i+m]?:=rfl
 rw[e2] at this
 rw[this]
theorem uN {t sl:Addr}{items:Array Value}{vl vu:Value}{lo hi:Option Int}{Q:Value→Shared→Prop} (ht:IsTup s.heap t items) (hs:s.heap.IsSliceOf sl vl vu .none) (pl:IsPart vl lo) (pu:IsPart vu hi)
  (hw:¬ (sIx items.size 0 lo=0∧sIx items.size items.size hi=items.size))
  (h:Q (.ref s.heap.objs.size) { s with heap:=s.heap.push { cls:=.type "tuple",data:=.seq ((items.toList.drop (sIx items.size 0 lo)).take (sIx items.size items.size hi - sIx items.size 0 lo)).toArray } })
  (hsz:items.size≤sizeLine):wpAny (model prog w) A (getItem (.ref t) (.ref sl)) Q E s:=by
 have htake:sizeOk (.seq ((items.toList.drop (sIx items.size 0 lo)).take (sIx items.size items.size hi - sIx items.size 0 lo)).toArray):=by
  show ((items.toList.drop (sIx items.size 0 lo)).take (sIx items.size items.size hi - sIx items.size 0 lo)).toArray.size≤sizeLine
  rw[List.size_toArray,List.length_take,List.length_drop,Array.length_toList]
  lia
 have hj:sIx items.size items.size hi≤items.size:=uJ _ _ (Nat.le_refl _) hi
 obtain⟨os,hos,hcs,hds⟩:=id hs
 have hTs:s.TypeIs (.ref sl) "slice" := ⟨os,hos,hcs⟩
 unfold getItem
 try with_reducible refine wpAny_holding ?_
 first | refine wpAny_bind (wpAny_pure ?_) | skip
 refine wpAny_bind (wpAny_sequenceKey ht.typeIs (by decide) ?_)
 refine wpAny_bind (wpAny_callSpecial?_slot (name:=Str.ofString "__getitem__") ht.typeIs PyProof.Rows.slot_tuple_getitem
  (wpAny_call_entry PyProof.Rows.slot_tuple_getitem ht.typeIs entry_tuple_getitem ?_ (args_tuple_getitem _ _)))
 show wpAny _ _ (Builtin.Tuple.tupleItemsOf (.ref t) >>= _) _ _ s
 refine wpAny_bind (tupleItemsOf_ ht ?_)
 refine wpAny_bind (wpAny_typeOf hTs ?_)
 rw[if_pos (by decide)]
 refine wpAny_bind (nk hs pl pu ?_)
 have hno:¬ ((((sIx items.size 0 lo:Nat):Int) == 0 && (1:Int) == 1 && (sIx items.size items.size hi - sIx items.size 0 lo) == items.size)=true):=by
  intro q
  rw[Bool.and_eq_true,Bool.and_eq_true] at q
  have q1:((sIx items.size 0 lo:Nat):Int)=0:=eq_of_beq q.1.1
  have q2:sIx items.size items.size hi - sIx items.size 0 lo=items.size:=eq_of_beq q.2
  exact hw ⟨by lia,by lia⟩
 show wpAny _ _ (if (((sIx items.size 0 lo:Nat):Int) == 0 && (1:Int) == 1 && (sIx items.size items.size hi - sIx items.size 0 lo) == items.size)=true then _ else _) _ _ s
 rw[if_neg hno,uM]
 first
  | exact wpAny_bind (m:=Builtin.Tuple.tupleExact _) (wpAny_newObj_type (wpAny_pure ⟨_,rfl,wpAny_pure h⟩) htake)
  | exact wpAny_bind (m:=Builtin.Tuple.tupleExact _) (wpAny_newObj_type (wpAny_bind (wpAny_pure (wpAny_pure ⟨_,rfl,wpAny_pure h⟩))) htake)
  | exact wpAny_bind (wpAny_bind (m:=Builtin.Tuple.tupleExact _) (wpAny_newObj_type (wpAny_pure (wpAny_pure ⟨_,rfl,wpAny_pure h⟩)) htake))
  | exact wpAny_bind (wpAny_bind (m:=Builtin.Tuple.tupleExact _) (wpAny_newObj_type (wpAny_pure ⟨_,rfl,wpAny_pure h⟩) htake))
end
end HT
namespace L2
open PySem PySem.Spec PyProof.Rows
noncomputable abbrev TO:=St→Hp→(Option Int→Hp→Prop)→Prop
noncomputable def PO (X:Cx) (e:Option Expr) (t:TO):Prop:=
 ∀ (pins:List (Addr×Obj)) (s:Shared) (σ:St) (H:Hp) (Q:Option Int→Hp→Prop),Inv X pins σ H s→t σ H Q→
  wpAny (model X.prog X.w) X.A (evalPart e X.env) (fun u s'=>∃ o H',Inv X pins σ H' s'∧IsPart u o∧Q o H') X.xe s
noncomputable def tNoPart:TO:=fun _ H Q=>Q none H
noncomputable def uO (t:TE):TO:=fun σ H Q=>t σ H fun x H1=>∃ i,x=.int i∧Q (some i) H1
section
variable {X:Cx}{e:Expr}{te:TE}{lo hi:Option Expr}{tl th:TO}{pos p2:Pos}
theorem uP:PO X none tNoPart:=by
 intro pins s σ H Q I h
 rw[evalPart_none]
 exact wpAny_pure ⟨none,H,I,.none,h⟩
theorem uQ (h:PE X e te):PO X (some e) (uO te):=by
 intro pins s σ H Q I hw
 rw[evalPart_some]
 refine thn (h pins s σ H _ I hw) fun u s1 ⟨x,H1,I1,r1,q1⟩=>?_
 obtain⟨i,rfl,q⟩:=q1
 obtain⟨t,rfl⟩:=r1
 exact⟨some i,H1,I1,.int i t,q⟩
noncomputable def SlR (X:Cx) (r:V→Option Int→Option Int→Hp→VK→Prop):Prop:=
 ∀ (pins:List (Addr×Obj)) (s:Shared) (σ:St) (H:Hp) (x:V) (v vl vu:Value) (lo hi:Option Int) (sl:Addr) (Q:VK),Inv X pins σ H s→ay x v→s.heap.IsSliceOf sl vl vu .none→IsPart vl lo→IsPart vu hi→r x lo hi H Q→
  ∃ T id,typeLookup (.type T) "__getitem__" = pure (some (.builtin id))∧s.TypeIs v T∧wpAny (model X.prog X.w) X.A (getItem v (.ref sl)) (EP X pins σ Q) X.xe s
noncomputable def tSl (r:V→Option Int→Option Int→Hp→VK→Prop) (te:TE) (tl th:TO):TE:=fun σ H Q=>te σ H fun x H1=>tl σ H1 fun l H2=>th σ H2 fun u H3=>r x l u H3 Q
theorem uR {r:V→Option Int→Option Int→Hp→VK→Prop} (hr:SlR X r) (he:PE X e te) (hl:PO X lo tl) (hu:PO X hi th):PE X (.Subscript e (.Slice lo hi none p2) pos) (tSl r te tl th):=by
 intro pins s σ H Q I h
 refine Subscript_ (thn (he pins s σ H _ I h) fun v s1 ⟨x,H1,I1,r1,q1⟩=>?_)
 refine wpAny_Slice (thn (hl pins s1 σ H1 _ I1 q1) fun vl s2 ⟨l,H2,I2,pl,q2⟩=>thn (hu pins s2 σ H2 _ I2 q2) fun vu s3 ⟨u,H3,I3,pu,q3⟩=>?_)
 rw[evalPart_none]
 refine wpAny_pure ?_
 have I4:Inv X pins σ H3 { s3 with heap:=s3.heap.push { cls:=.type "slice",data:=.fields #[vl,vu,.none] } }:=I3.kept (t':=s3.toks) fun b ob q=>Heap.get?_push_of_some _ q
 obtain⟨T,id,hT,ht,hg⟩:=hr pins { s3 with heap:=s3.heap.push { cls:=.type "slice",data:=.fields #[vl,vu,.none] } } σ H3 x v vl vu l u s3.heap.objs.size Q I4 r1 (Heap.IsSliceOf.new ..) pl pu q3
 show wpAny (model X.prog X.w) X.A (subscriptTail e (.Slice lo hi none p2) v (.ref s3.heap.objs.size)) (EP X pins σ Q) X.xe { s3 with heap:=s3.heap.push { cls:=.type "slice",data:=.fields #[vl,vu,.none] } }
 exact tail_any (ops:=[.ref s3.heap.objs.size,v]) ht hT hg (by with_unfolding_all rfl)
noncomputable def ee (xs:List V) (lo hi:Option Int):List V:=(xs.drop (HT.sIx xs.length 0 lo)).take (HT.sIx xs.length xs.length hi - HT.sIx xs.length 0 lo)
theorem nn (xs:List V) (lo hi:Option Int):(ee xs lo hi).length≤xs.length:=by
 unfold ee
 rw[List.length_take,List.length_drop]
 lia
noncomputable def uS (K:PySem.W.Frag):V→Option Int→Option Int→Hp→VK→Prop:=fun x lo hi H Q=>∃ a xs,x=.ref a∧SqT K H a xs∧
 ¬ (HT.sIx xs.length 0 lo=0∧HT.sIx xs.length xs.length hi=xs.length)∧∀ p,H p=none→Q (.ref p) (upd H p (.tup (ee xs lo hi)))
theorem uT:SlR X (uS X.K):=by
 intro pins s σ H x v vl vu lo hi sl Q I rx hs pl pu h
 obtain⟨a,xs,rfl,hx,hw,q⟩:=h
 cases rx
 obtain⟨its,r,ht,hz⟩:=I.tuple hx
 have hlen:its.toArray.size=xs.length:=by rw[List.size_toArray];exact r.length.symm
 refine⟨"tuple",_,PyProof.Rows.slot_tuple_getitem.lookup,ht.typeIs,?_⟩
 refine HT.uN ht hs pl pu (by rw[hlen];exact hw) ?_ (by rw[hlen];exact hz)
 rw[hlen]
 refine⟨.ref s.heap.objs.size,_,I.laid (t':=s.toks) (o:=.tup (ee xs lo hi)) (fun b ob q=>Heap.get?_push_of_some _ q) (Nat.le_refl _) ?_,rfl,q _ (I.hok.fresh (Nat.le_refl _))⟩
 exact⟨Nat.le_trans (nn xs lo hi) hz,_,(r.drop (HT.sIx xs.length 0 lo)).take (HT.sIx xs.length xs.length hi - HT.sIx xs.length 0 lo),IsTup.new _ _⟩
noncomputable def uU (K:PySem.W.Frag):R2:=fun x y H Q=>∃ a b xs ys,x=.ref a∧y=.ref b∧SqT K H a xs∧SqT K H b ys∧xs≠[]∧xs.length+ys.length≤sizeLine∧
 (ys=[]→Q (.ref a) H)∧(ys≠[]→∀ p,H p=none→Q (.ref p) (upd H p (.tup (xs++ys))))
theorem am.nil_iff {xs:List V}{us:List Value} (r:am xs us):us=[]↔xs=[]:=by
 cases r with
 | nil=>simp
 | cons _ _=>simp
theorem uV:OpR X (binaryOp .Add) (uU X.K):=by
 intro pins s σ H x y v u Q I rx ry h
 obtain⟨a,b,xs,ys,rfl,rfl,ha,hb,hx,hz,q1,q2⟩:=h
 cases rx
 cases ry
 obtain⟨its,r1,p1,_⟩:=I.tuple ha
 obtain⟨its2,r2,p2,_⟩:=I.tuple hb
 refine HT.uI p1 p2 (fun z=>hx (r1.nil_iff.mp z)) (fun z=>⟨.ref a,H,I,rfl,q1 (r2.nil_iff.mp z)⟩) (fun z=>?_) (by rw[← r1.length,← r2.length];exact hz)
 refine⟨.ref s.heap.objs.size,_,I.laid (t':=s.toks) (o:=.tup (xs++ys)) (fun b ob q=>Heap.get?_push_of_some _ q) (Nat.le_refl _) ?_,rfl,q2 (fun w=>z (r2.nil_iff.mpr w)) _ (I.hok.fresh (Nat.le_refl _))⟩
 exact⟨by rw[List.length_append];exact hz,_,r1.append r2,IsTup.new _ _⟩
end
noncomputable def ixN (n:Nat) (i:Int):Option Nat:=if 0≤i then (if i<n then some i.toNat else none) else if -(n:Int)≤i then some (i+n).toNat else none
noncomputable def atI {α:Type} (xs:List α) (i:Int):Option α:=(ixN xs.length i).bind fun j=>xs[j]?
theorem nt {n:Nat}{i:Int}{j:Nat} (h:ixN n i=some j):seqIndex? i n=some j∧j<n ∧ -(n:Int)≤i∧i<n:=by
 unfold ixN at h
 by_cases h0:0≤i
 ·rw[if_pos h0] at h
  by_cases h1:i<n
  ·rw[if_pos h1] at h
   have e:i.toNat=j:=Option.some.inj h
   exact⟨by rw[seqIndex_of h0 h1,e],by lia,by lia,h1⟩
  ·rw[if_neg h1] at h;cases h
 ·rw[if_neg h0] at h
  by_cases h1 : -(n:Int)≤i
  ·rw[if_pos h1] at h
   have e:(i+n).toNat=j:=Option.some.inj h
   exact⟨by rw[seqIndex_neg (by lia) h1,e],by lia,h1,by lia⟩
  ·rw[if_neg h1] at h;cases h
theorem nu {α:Type}{xs:List α}{i:Int}{v:α} (h:atI xs i=some v):∃ j,seqIndex? i xs.length=some j∧xs[j]?=some v∧j<xs.length ∧ -(xs.length:Int)≤i∧i<xs.length:=by
 unfold atI at h
 cases e:ixN xs.length i with
 | none=>rw[e] at h;cases h
 | some j=>
  rw[e] at h
  obtain⟨h1,h2,h3,h4⟩:=nt e
  exact⟨j,h1,h,h2,h3,h4⟩
noncomputable def nv (b:Expr):Prop:=∀ o i,subscripted b false o i=operate [o,i] (getItem o i)
noncomputable def IxR (X:Cx) (r:R2):Prop:=
 ∀ (value slice:Expr) (pins:List (Addr×Obj)) (s:Shared) (σ:St) (H:Hp) (x y:V) (v u:Value) (Q:VK),Inv X pins σ H s→ay x v→ay y u→r x y H Q→
  subscripted slice false v u=operate [v,u] (getItem v u)→wpAny (model X.prog X.w) X.A (subscriptTail value slice v u) (EP X pins σ Q) X.xe s
noncomputable def MtR (X:Cx) (id:String) (r:V→List V→Hp→VK→Prop):Prop:=
 ∀ (pins:List (Addr×Obj)) (s:Shared) (σ:St) (H:Hp) (x:V) (xs:List V) (v:Value) (us:List Value) (Q:VK),Inv X pins σ H s→ay x v→am xs us→r x xs H Q→
  wpAny (model X.prog X.w) X.A (call (.builtin id) (v::us)) (EP X pins σ Q) X.xe s
section
variable {X:Cx}{a b:Expr}{ta tb:TE}{pos:Pos}
theorem IxR.or {r r':R2} (h:IxR X r) (h':IxR X r'):IxR X (fun x y H Q=>r x y H Q∨r' x y H Q):=by
 intro value slice pins s σ H x y v u Q I rx ry q hs
 rcases q with q | q
 ·exact h value slice pins s σ H x y v u Q I rx ry q hs
 ·exact h' value slice pins s σ H x y v u Q I rx ry q hs
theorem uW {r:R2} (hr:IxR X r) (ha:PE X a ta) (hb:PE X b tb) (hs:nv b):PE X (.Subscript a b pos) (tOp r ta tb):=by
 intro pins s σ H Q I h
 exact Subscript_ (kt ha hb I h fun v u s2 x y H2 I2 rx ry q=>hr a b pins s2 σ H2 x y v u Q I2 rx ry q (hs _ _))
noncomputable def uX (K:PySem.W.Frag):R2:=fun x y H Q=>∃ p xs i v,x=.ref p∧y=.int i∧SqL K H p xs∧atI xs i=some v∧Q v H
noncomputable def uY (K:PySem.W.Frag):R2:=fun x y H Q=>∃ p xs i v,x=.ref p∧y=.int i∧SqT K H p xs∧atI xs i=some v∧Q v H
theorem uZ:IxR X (uX X.K):=by
 intro value slice pins s σ H x y v u Q I rx ry h hs
 obtain⟨p,xs,i,z,rfl,rfl,hq,he,q⟩:=h
 cases rx
 obtain⟨t,rfl⟩:=ry
 obtain⟨its,r,pl,hz⟩:=I.list hq
 obtain⟨j,h1,h2,h3,h4,h5⟩:=nu he
 obtain⟨w,ew,rw'⟩:=r.get h2
 have hl:=r.length
 have hn:=fA
 have fin:EP X pins σ Q w s:=⟨z,H,I,rw',q⟩
 by_cases h0:0≤i
 ·have hj:i.toNat=j:=by
   rw[seqIndex_of h0 h5] at h1
   exact Option.some.inj h1
  exact item_listR pl.isList h0 (by lia) (by rw[hj];simpa using ew) fin hs
 ·have hj:(i+(its.toArray.size:Int)).toNat=j:=by
   rw[seqIndex_neg (by lia) h4] at h1
   rw[List.size_toArray,← hl]
   exact Option.some.inj h1
  exact subscriptTail_builtinR (x:=w) pl.isList.typeIs slot_list_getitem.lookup
   (wpAny_getItem_list_neg (Q:=fun r s'=>r=w∧EP X pins σ Q r s') pl.isList (by lia) (by rw[List.size_toArray]<;>lia) (by lia) (by rw[hj];simpa using ew) ⟨rfl,fin⟩) hs
theorem u5:IxR X (uY X.K):=by
 intro value slice pins s σ H x y v u Q I rx ry h hs
 obtain⟨p,xs,i,z,rfl,rfl,hq,he,q⟩:=h
 cases rx
 obtain⟨t,rfl⟩:=ry
 obtain⟨its,r,pl,hz⟩:=I.tuple hq
 obtain⟨j,h1,h2,h3,h4,h5⟩:=nu he
 obtain⟨w,ew,rw'⟩:=r.get h2
 have hl:=r.length
 have hn:=fA
 have fin:EP X pins σ Q w s:=⟨z,H,I,rw',q⟩
 exact subscriptTail_builtinR (x:=w) pl.typeIs slot_tuple_getitem.lookup
  (getItem_tuple (j:=j) (Q:=fun r s'=>r=w∧EP X pins σ Q r s') pl (by lia) (by lia) (by rw[List.size_toArray,← hl];exact h1) (by simpa using ew) ⟨rfl,fin⟩) hs
theorem u6 (its:List Value) (n j:Nat) (u:Value):Obj.mapSeq (·.setIfInBounds j u) { cls:=.type "list",data:=.seq its.toArray n }={ cls:=.type "list",data:=.seq (its.set j u).toArray n }:=by
 simp[Obj.mapSeq]
theorem Inv.lst {pins:List (Addr×Obj)}{σ:St}{H:Hp}{s:Shared}{p:Addr}{xs:List V} (I:Inv X pins σ H s) (h:H p=some (.lst xs)):
  ∃ (its:List Value) (n:Nat),am xs its∧s.heap.get? p=some { cls:=.type "list",data:=.seq its.toArray n }∧xs.length≤sizeLine:=by
 obtain⟨z,its,n,r,e⟩:=I.hok p _ h
 exact⟨its,n,r,e,z⟩
theorem Inv.lstUpd {pins:List (Addr×Obj)}{σ:St}{H:Hp}{s:Shared}{p:Addr}{xs ys:List V}{its its':List Value}{n n':Nat}{f:Obj→Obj} (I:Inv X pins σ H s) (h:H p=some (.lst xs))
  (ho:s.heap.get? p=some { cls:=.type "list",data:=.seq its.toArray n }) (hf:f { cls:=.type "list",data:=.seq its.toArray n }={ cls:=.type "list",data:=.seq its'.toArray n' }) (r:am ys its') (hz:ys.length≤sizeLine) (t:Nat):
  Inv X pins σ (upd H p (.lst ys)) { s with heap:=s.heap.update p f,toks:=t }:=by
 have e:(s.heap.update p f).get? p=some { cls:=.type "list",data:=.seq its'.toArray n' }:=by
  rw[Heap.get?_update_self f ho (by rw[hf]<;>rfl),hf]
 refine I.write (x:=p) (e:=p) (by rw[h];trivial) (.inl rfl) (fun b u hb q=>(Heap.get?_update_other _ _ (Ne.symm hb)).trans q) ⟨_,e⟩ ?_
 exact⟨hz,its',n',r,e⟩
noncomputable def rSetL:V→V→V→Hp→(Hp→Prop)→Prop:=fun o i v H Q=>∃ p xs k j,o=.ref p∧i=.int k∧H p=some (.lst xs)∧ixN xs.length k=some j∧Q (upd H p (.lst (xs.set j v)))
theorem u7:km X rSetL:=by
 intro pins s σ H o i v ov iv u Q I ro ri rv h
 obtain⟨p,xs,k,j,rfl,rfl,hp,hj,q⟩:=h
 cases ro
 obtain⟨t,rfl⟩:=ri
 obtain⟨its,n,r,ho,hz⟩:=I.lst hp
 obtain⟨h1,h2,h3,h4⟩:=nt hj
 have hl:=r.length
 have hn:=fA
 have I':Inv X pins σ (upd H p (.lst (xs.set j v))) { s with heap:=s.heap.update p (Obj.mapSeq (·.setIfInBounds j u)) }:=
  I.lstUpd hp ho (u6 its n j u) (r.set rv j) (by rw[List.length_set];exact hz) s.toks
 by_cases h0:0≤k
 ·have hk:k.toNat=j:=by
   rw[seqIndex_of h0 h4] at h1
   exact Option.some.inj h1
  exact PySem.W.ki_setAt ho h0 (by lia) (by rw[List.size_toArray,← hl];exact h4) (by rw[hk];exact⟨_,I',q⟩)
 ·have hk:(k+(its.toArray.size:Int)).toNat=j:=by
   rw[seqIndex_neg (by lia) h3] at h1
   rw[List.size_toArray,← hl]
   exact Option.some.inj h1
  exact PySem.W.ki_setBack ho (by lia) (by rw[List.size_toArray,← hl];exact h3) (by lia) (by rw[hk];exact⟨_,I',q⟩)
theorem u8 (lo hi:Option Int) (n:Nat):(sliceBounds lo hi none n).1=((HT.sIx n 0 lo:Nat):Int)∧(sliceBounds lo hi none n).2.1=((HT.sIx n n hi:Nat):Int)∧(sliceBounds lo hi none n).2.2=1:=by
 refine⟨?_,?_,rfl⟩
 ·cases lo with
  | none=>simp[sliceBounds,HT.sIx]
  | some i=>
   simp only[sliceBounds,HT.sIx,Option.getD_none,show (1:Int) > 0 by decide,if_true]
   by_cases h:i<0
   ·simp only[h,if_true]<;>lia
   ·simp only[h,if_false]<;>lia
 ·cases hi with
  | none=>simp[sliceBounds,HT.sIx]
  | some i=>
   simp only[sliceBounds,HT.sIx,Option.getD_none,show (1:Int) > 0 by decide,if_true]
   by_cases h:i<0
   ·simp only[h,if_true]<;>lia
   ·simp only[h,if_false]<;>lia
theorem u9 (its:List Value) (lo hi:Option Int):slicePick its.toArray lo hi none=((its.drop (HT.sIx its.length 0 lo)).take (HT.sIx its.length its.length hi - HT.sIx its.length 0 lo)).toArray:=by
 obtain⟨h1,h2,h3⟩:=u8 lo hi its.toArray.size
 unfold slicePick
 rw[h1,h2,h3]
 simp only[sliceRange_one,pick_run,List.size_toArray]<;>rfl
noncomputable def va (K:PySem.W.Frag):V→Option Int→Option Int→Hp→VK→Prop:=fun x lo hi H Q=>∃ a xs,x=.ref a∧SqL K H a xs∧∀ p,H p=none→Q (.ref p) (upd H p (.lst (ee xs lo hi)))
theorem nw:SlR X (va X.K):=by
 intro pins s σ H x v vl vu lo hi sl Q I rx hs pl pu h
 obtain⟨a,xs,rfl,hx,q⟩:=h
 cases rx
 obtain⟨its,r,ht,hz⟩:=I.list hx
 have hlen:=r.length
 refine⟨"list",_,slot_list_getitem.lookup,ht.isList.typeIs,?_⟩
 refine wpAny_getItem_list_slice ht.isList hs pl pu .none (by simp) ?_ (by rw[List.size_toArray]<;>lia)
 rw[u9,← hlen]
 refine⟨.ref s.heap.objs.size,_,I.laid (t':=s.toks) (o:=.lst (ee xs lo hi)) (fun b ob q=>Heap.get?_push_of_some _ q) (Nat.le_refl _) ?_,rfl,q _ (I.hok.fresh (Nat.le_refl _))⟩
 exact⟨Nat.le_trans (nn xs lo hi) hz,_,0,(r.drop (HT.sIx xs.length 0 lo)).take (HT.sIx xs.length xs.length hi - HT.sIx xs.length 0 lo),Heap.get?_push_size _ rfl⟩
theorem vb:bn X (.builtin "len") (fun xs H Q=>∃ p ys,xs=[.ref p]∧(SqL X.K H p ys∨SqT X.K H p ys)∧Q (.int ys.length) H):=by
 intro pins s σ H xs us Q I r h
 obtain⟨p,ys,rfl,hq,q⟩:=h
 obtain⟨u,rfl,rx⟩:=c5 r
 cases rx
 have hn:=fA
 rcases hq with hq | hq
 ·obtain⟨its,r',pl,hz⟩:=I.list hq
  have hlen:=r'.length
  exact Calls.call_len_list pl.isList (by simp only[List.size_toArray]<;>lia) ⟨.int ys.length,H,I.tok _,⟨s.toks+1,by rw[List.size_toArray,hlen]⟩,q⟩
 ·obtain⟨its,r',pl,hz⟩:=I.tuple hq
  have hlen:=r'.length
  exact len_tuple pl (by simp only[List.size_toArray]<;>lia) ⟨.int ys.length,H,I.tok _,⟨s.toks+1,by rw[List.size_toArray,hlen]⟩,q⟩
theorem vc:bn X (.builtin "len") (fun xs H Q=>∃ z,xs=[.str z]∧z.length≤sizeLine∧Q (.int z.length) H):=by
 intro pins s σ H xs us Q I r h
 obtain⟨z,rfl,hz,q⟩:=h
 obtain⟨u,rfl,t,rfl⟩:=c5 r
 have hn:=fA
 exact len_str (by lia) ⟨.int z.length,H,I.tok _,⟨_,rfl⟩,q⟩
theorem bn.or {f:Value}{r r':List V→Hp→VK→Prop} (h:bn X f r) (h':bn X f r'):bn X f (fun xs H Q=>r xs H Q∨r' xs H Q):=by
 intro pins s σ H xs us Q I rs q
 rcases q with q | q
 ·exact h pins s σ H xs us Q I rs q
 ·exact h' pins s σ H xs us Q I rs q
theorem vd:bn X (.type "tuple") (fun xs H Q=>∃ p ys,xs=[.ref p]∧((SqL X.K H p ys∧∀ l,H l=none→Q (.ref l) (upd H l (.tup ys)))∨(SqT X.K H p ys∧Q (.ref p) H))):=by
 intro pins s σ H xs us Q I r h
 obtain⟨p,ys,rfl,h⟩:=h
 obtain⟨u,rfl,rx⟩:=c5 r
 cases rx
 rcases h with ⟨hq,q⟩ | ⟨hq,q⟩
 ·obtain⟨its,r',pl,hz⟩:=I.list hq
  have hlen:=r'.length
  refine call_tuple_list pl.isList (fun h' kp=>?_) (by simp only[List.size_toArray]<;>lia)
  have I1:Inv X pins σ H { s with heap:=h' }:=I.kept (t':=s.toks) kp
  have I2:Inv X pins σ (upd H h'.objs.size (.tup ys)) { s with heap:=h'.push { cls:=.type "tuple",data:=.seq its.toArray } }:=
   I1.laid (t':=s.toks) (fun b o e=>Heap.get?_push_of_some _ e) (Nat.le_refl _) (show bE X.prog X.w _ _ _ (.tup ys) from ⟨hz,its,r',IsTup.new _ _⟩)
  exact⟨.ref h'.objs.size,_,I2,rfl,q _ (I1.hok.fresh (Nat.le_refl _))⟩
 ·obtain⟨its,r',pl,hz⟩:=I.tuple hq
  exact call_tuple_same pl ⟨.ref p,H,I,rfl,q⟩
noncomputable def tyV (K:PySem.W.Frag) (T:String) (x:V) (H:Hp):Prop:=match x with
 | .str _=>T = "str"
 | .int _=>T = "int"
 | .ref p=>(T = "list" ∧ ∃ xs,SqL K H p xs)∨(T = "tuple" ∧ ∃ o,K.lookup p=some o∧o.cls=.type "tuple" ∧ o.dict=none)∨
   (T = "dict" ∧ ((∃ kvs,H p=some (.dK kvs))∨∃ kvs,H p=some (.dT kvs)))∨(T = "set" ∧ ∃ S n,H p=some (.set S n))
 | _=>False
theorem ve {pins:List (Addr×Obj)}{σ:St}{H:Hp}{s:Shared}{T:String}{x:V}{v:Value} (I:Inv X pins σ H s) (r:ay x v) (ty:tyV X.K T x H):
  s.TypeIs v T∧∀ a,v=.ref a→∃ ob,s.heap.get? a=some ob∧ob.dict=none:=by
 cases x with
 | str z=>
  obtain⟨t,rfl⟩:=r
  cases (show T = "str" from ty)
  exact⟨typeIs_str s z t,fun _ e=>nomatch e⟩
 | int i=>
  obtain⟨t,rfl⟩:=r
  cases (show T = "int" from ty)
  exact⟨typeIs_int s i t,fun _ e=>nomatch e⟩
 | ref p=>
  cases r
  rcases ty with ⟨rfl,xs,hq⟩ | ⟨rfl,o,hk,hc,hd⟩ | ⟨rfl,hk⟩ | ⟨rfl,S,n,hk⟩
  ·obtain⟨its,_,pl,_⟩:=I.list hq
   refine⟨pl.isList.typeIs,fun a e=>?_⟩
   cases e
   obtain⟨o,n,e,c,hd,_⟩:=pl
   exact⟨o,e,hd⟩
  ·refine⟨⟨o,I.kIn p o hk,hc⟩,fun a e=>?_⟩
   cases e
   exact⟨o,I.kIn _ o hk,hd⟩
  ·have z:∃ o,s.heap.get? p=some o∧o.ExactDict:=by
    rcases hk with ⟨kvs,hk⟩ | ⟨kvs,hk⟩
    ·obtain⟨_,_,_,_,o,_,_,e,ex,_⟩:=I.hok p _ hk
     exact⟨o,e,ex⟩
    ·obtain⟨_,_,_,_,o,_,_,e,ex,_⟩:=I.hok p _ hk
     exact⟨o,e,ex⟩
   obtain⟨o,e,ex⟩:=z
   refine⟨⟨o,e,ex.1⟩,fun a e2=>?_⟩
   cases e2
   exact⟨o,e,ex.2.1⟩
  ·obtain⟨o,_,_,_,e,ex,_⟩:=I.hok p _ hk
   refine⟨⟨o,e,ex.1⟩,fun a e2=>?_⟩
   cases e2
   exact⟨o,e,ex.2.1⟩
 | _=>exact False.elim ty
noncomputable def tBM (K:PySem.W.Frag) (T:String) (r:V→List V→Hp→VK→Prop) (to:TE) (t:TA):TE:=fun σ H Q=>to σ H fun x H1=>tyV K T x H1∧t σ H1 fun xs H2=>r x xs H2 Q
variable {o e:Expr}{es:List Expr}{to:TE}{t:TA}{name:Str}{apos cpos:Pos}{T id:String}{r:V→List V→Hp→VK→Prop}
theorem vf (pa:PlainAttrs T) (slot:Slot T name id) (hty:typeOf (.builtin id)=pure (.type "method_descriptor")) (hm:MtR X id r) (ho:PE X o to) (ha:PA X (e::es) t)
  (hbase:attributeBase o name X.env (eval o X.env)=eval o X.env:=by rfl)
  (hfew:((backTo cpos (starEach (e::es) X.env)).all (fun x=>!x.1) && (backToKw cpos (keywordEach [] X.env)).all (fun x=>x.1.isSome)
   && decide ((e::es).length+([]:List Keyword).length+(if ([]:List Keyword).isEmpty then 0 else 1)<30))=true:=by rfl)
  (hline:(apos.endLine == cpos.line)=true:=by rfl) (hs:starEach (e::es) X.env=(false,eval e X.env)::starEach es X.env:=by rfl) (hplain:(backTo cpos (starEach es X.env)).any (·.1)=false:=by rfl):
  PE X (.Call (.Attribute o name apos) (e::es) [] cpos) (tBM X.K T r to t):=by
 intro pins s σ H Q I h
 refine wpAny_Call_method_late hbase hfew hline rfl (thn (ho pins s σ H _ I h) fun v s1 ⟨x,H1,I1,r1,ty,q1⟩=>?_)
 obtain⟨h1,h2⟩:=ve I1 r1 ty
 refine⟨T,id,pa,slot,hty,h1,h2,?_⟩
 have hA:=ha cpos pins s1 σ H1 _ I1 q1
 rw[hs] at hA ⊢
 refine Calls.callWith_builtin (by show (false || (backTo cpos (starEach es X.env)).any (·.1))=false;rw[hplain]<;>rfl) (Calls.evalArgs_plain ?_)
 exact thn hA fun us s2 ⟨vs,H2,I2,r2,q2⟩=>hm pins s2 σ H2 x vs v us Q I2 r1 r2 q2
/- xs.append(e),list.index on a module's tuple .. are MtR facts of 06m -/
end
noncomputable def MtM (X:Cx) (id:String) (r:V→List V→Hp→VK→Prop):Prop:=
 ∀ (pins:List (Addr×Obj)) (s:Shared) (σ:St) (H:Hp) (x:V) (xs:List V) (v:Value) (us:List Value) (Q:VK),Inv X pins σ H s→ay x v→am xs us→r x xs H Q→
  wpAny (model X.prog X.w) X.A (call (.builtin id) (v::us)) (EP X pins σ Q) X.xe s
theorem am.one:∀ {x:V}{us:List Value},am [x] us→∃ u,us=[u]∧ay x u
 | _,_,.cons r .nil=>⟨_,rfl,r⟩
theorem am.eraseIdx:∀ {xs:List V}{us:List Value} (i:Nat),am xs us→am (xs.eraseIdx i) (us.eraseIdx i)
 | _,_,_,.nil=>.nil
 | _,_,0,.cons _ t=>t
 | _,_,i+1,.cons r t=>.cons r (am.eraseIdx i t)
theorem ny {α:Type}:∀ (l:List α) (i:Nat),(l.eraseIdx i).length≤l.length
 | [],_=>Nat.le_refl _
 | _::_,0=>Nat.le_succ _
 | _::r,i+1=>Nat.succ_le_succ (ny r i)
section
variable {X:Cx}{pins:List (Addr×Obj)}{σ:St}{H:Hp}{s:Shared}{l b:Addr}{xs ys zs:List V}
theorem Inv.lset {its its':List Value}{n:Nat}{f:Array Value→Array Value}{t':Nat} (I:Inv X pins σ H s) (hH:H l=some (.lst xs))
  (e:s.heap.get? l=some { cls:=.type "list",data:=.seq its.toArray n }) (hf:f its.toArray=its'.toArray) (hv:am ys its') (hz:ys.length≤sizeLine):
  Inv X pins σ (upd H l (.lst ys)) { s with heap:=s.heap.update l (Obj.mapSeq f),toks:=t' }:=by
 have q:=PySem.IsL.update e f
 rw[hf] at q
 refine I.write (x:=l) (e:=l) (by rw[hH];exact trivial) (.inl rfl) (fun b' u hb hu=>(Heap.get?_update_other s.heap (Obj.mapSeq f) (Ne.symm hb)).trans hu) ⟨_,q⟩ ?_
 exact⟨hz,its',_,hv,q⟩
theorem Inv.lnew {its:List Value}{t':Nat} (I:Inv X pins σ H s) (hv:am ys its) (hz:ys.length≤sizeLine):
  Inv X pins σ (upd H s.heap.objs.size (.lst ys)) { s with heap:=s.heap.push { cls:=.type "list",data:=.seq its.toArray },toks:=t' }:=
 I.laid (fun _ _ q=>Heap.get?_push_of_some _ q) (Nat.le_refl _) ⟨hz,its,0,hv,Heap.get?_push_size _ rfl⟩
theorem Inv.fresh (I:Inv X pins σ H s):H s.heap.objs.size=none:=I.hok.fresh (Nat.le_refl _)
theorem Inv.lstM (I:Inv X pins σ H s) (hH:H l=some (.lst xs)):xs.length≤sizeLine∧∃ (its:List Value) (n:Nat),am xs its∧xs.length=its.length∧s.heap.get? l=some { cls:=.type "list",data:=.seq its.toArray n }:=by
 obtain⟨z,its,n,r,e⟩:=I.hok l _ hH
 exact⟨z,its,n,r,r.length,e⟩
theorem vg {n:Nat} (h:n≤sizeLine):Builtin.List.listTooLong n=false:=by
 unfold Builtin.List.listTooLong
 exact decide_eq_false (by lia)
end
section
variable {X:Cx}
noncomputable def rAppend:V→List V→Hp→VK→Prop:=fun x vs H Q=>∃ l xs y,x=.ref l∧vs=[y]∧H l=some (.lst xs)∧xs.length<sizeLine∧Q .non (upd H l (.lst (xs++[y])))
theorem vh:MtM X "list.append" rAppend:=by
 intro pins s σ H x vs v us Q I rx rv h
 obtain⟨l,xs,y,rfl,rfl,hH,hz,q⟩:=h
 cases rx
 obtain⟨u,rfl,ru⟩:=rv.one
 obtain⟨z,its,n,r,hl,e⟩:=I.lstM hH
 refine call_meets F.slot_list_append ⟨_,e,rfl⟩ F.entry_list_append (F.args_list_append_2 _ _) (PySem.list_append l its.toArray n u (by rw[List.size_toArray];lia)) ⟨e,?_⟩
 refine⟨.non,_,I.lset (its':=its++[u]) hH e (by simp) (r.append (.cons ru .nil)) ?_,rfl,q⟩
 rw[List.length_append,List.length_singleton]
 lia
noncomputable def rExtend:V→List V→Hp→VK→Prop:=fun x vs H Q=>∃ l b xs zs,x=.ref l∧vs=[.ref b]∧H l=some (.lst xs)∧H b=some (.lst zs)∧xs.length+zs.length≤sizeLine∧Q .non (upd H l (.lst (xs++zs)))
theorem vi:MtM X "list.extend" rExtend:=by
 intro pins s σ H x vs v us Q I rx rv h
 obtain⟨l,b,xs,zs,rfl,rfl,hH,hB,hz,q⟩:=h
 cases rx
 obtain⟨u,rfl,ru⟩:=rv.one
 cases ru
 obtain⟨z,its,n,r,hl,e⟩:=I.lstM hH
 obtain⟨z2,its2,n2,r2,hl2,e2⟩:=I.lstM hB
 have hsz:its.toArray.size+its2.toArray.size≤sizeLine:=by rw[List.size_toArray,List.size_toArray];lia
 have hlong:¬ (!its.toArray.isEmpty && Builtin.List.listTooLong (its.toArray.size+its2.toArray.size))=true:=by
  rw[vg hsz,Bool.and_false]
  exact Bool.false_ne_true
 refine call_meets F.slot_list_extend ⟨_,e,rfl⟩ F.entry_list_extend (F.args_list_extend_2 _ _)
  (AutoSeq1.list_extend_list_list_0 l its.toArray n b its2.toArray n2 hlong (by rw[List.size_toArray];lia) (by lia)) ⟨e,e2,?_⟩
 refine⟨.non,_,I.lset (its':=its++its2) hH e (by simp) (r.append r2) ?_,rfl,q⟩
 rw[List.length_append]
 lia
noncomputable def rPopAt:V→List V→Hp→VK→Prop:=fun x vs H Q=>∃ l xs i k y,x=.ref l∧vs=[.int i]∧H l=some (.lst xs) ∧ -(2 ^ 63)≤i∧i<2 ^ 63∧seqIndex? i xs.length=some k∧xs[k]?=some y∧Q y (upd H l (.lst (xs.eraseIdx k)))
theorem vj:MtM X "list.pop" rPopAt:=by
 intro pins s σ H x vs v us Q I rx rv h
 obtain⟨l,xs,i,k,y,rfl,rfl,hH,h1,h2,hk,hy,q⟩:=h
 cases rx
 obtain⟨u,rfl,ru⟩:=rv.one
 obtain⟨t,rfl⟩:=ru
 obtain⟨z,its,n,r,hl,e⟩:=I.lstM hH
 obtain⟨w,hw,rw'⟩:=r.get hy
 refine call_meets F.slot_list_pop ⟨_,e,rfl⟩ F.entry_list_pop (F.args_list_pop_2 _ _)
  (MeetsSeq.list_pop_at l its.toArray n i t k w (fitsIndex_both h1 h2) (by rw[List.size_toArray,← hl];exact hk) (by rw[← Array.getElem?_toList];exact hw) (by rw[List.size_toArray];lia)) ⟨e,?_⟩
 refine⟨y,_,I.lset (its':=its.eraseIdx k) hH e ?_ (r.eraseIdx k) ?_,rw',q⟩
 ·show its.toArray.eraseIdxIfInBounds k=(its.eraseIdx k).toArray
  rw[List.eraseIdxIfInBounds_toArray]
 ·have:=ny xs k
  lia
noncomputable def rCat:R2:=fun x y H Q=>∃ l b xs zs,x=.ref l∧y=.ref b∧H l=some (.lst xs)∧H b=some (.lst zs)∧xs.length+zs.length≤sizeLine∧∀ p,H p=none→Q (.ref p) (upd H p (.lst (xs++zs)))
theorem vk:OpR X (binaryOp .Add) rCat:=by
 intro pins s σ H x y v u Q I rx ry h
 obtain⟨l,b,xs,zs,rfl,rfl,hH,hB,hz,q⟩:=h
 cases rx
 cases ry
 obtain⟨z,its,n,r,hl,e⟩:=I.lstM hH
 obtain⟨z2,its2,n2,r2,hl2,e2⟩:=I.lstM hB
 refine PySem.P.add_list e e2 ?_ (by rw[List.size_toArray,List.size_toArray];lia)
 have ea:its.toArray++its2.toArray=(its++its2).toArray:=by simp
 rw[ea]
 exact⟨.ref _,_,I.lnew (t':=s.toks) (r.append r2) (by rw[List.length_append];lia),rfl,q _ I.fresh⟩
end
section
variable {prog:Program}{w:World}{A:Around}{E:Value→Shared→Prop}{s:Shared}
end
section
variable {X:Cx}
end
section
variable {κ:Type} [DecidableEq κ]
noncomputable def cn (kvs:List (κ×V)) (k:κ):Option V:=(kvs.find? fun kv=>decide (kv.1=k)).map (·.2)
theorem kA {p:κ×V}{r:List (κ×V)}{k:κ} (e:p.1=k):cn (p::r) k=some p.2:=by simp[cn,List.find?_cons,e]
theorem kC {p:κ×V}{r:List (κ×V)}{k:κ} (e:¬ p.1=k):cn (p::r) k=cn r k:=by simp[cn,List.find?_cons,e]
theorem KV.val {kvs:List (κ×V)}{vs:List (κ×Value)} (r:KV kvs vs) (k:κ):d9 (cn kvs k) (valueAt vs k):=by
 unfold KV at r
 induction r with
 | nil=>exact True.intro
 | @cons p q ps qs h t ih=>
  obtain⟨h1,h2⟩:=h
  by_cases e:p.1=k
  ·have e':q.1=k:=h1.symm.trans e
   have b:valueAt (q::qs) k=some q.2:=by simp[valueAt,List.find?_cons,e']
   rw[kA e,b];exact h2
  ·have e':¬ q.1=k:=fun z=>e (h1.trans z)
   have b:valueAt (q::qs) k=valueAt qs k:=by simp[valueAt,List.find?_cons,e']
   rw[kC e,b];exact ih
theorem KV.length {kvs:List (κ×V)}{vs:List (κ×Value)} (r:KV kvs vs):kvs.length=vs.length:=Paired.length r
end
theorem vm {P:Program}{w:World}{k:Key}{u:Value} (r:ay (kV k) u):(gj P w).is k u=true:=by
 cases k with
 | inl i=>obtain⟨t,e⟩:=(show ∃ t,u=Value.int i t from r);subst e;exact sq P w i t
 | inr x=>obtain⟨t,e⟩:=(show ∃ t,u=Value.str x t from r);subst e;exact sr P w x t
noncomputable abbrev KT (H:Hp):List (List Im×V)→List (List Im×Addr×Value)→Prop:=Paired fun p q=>p.1=q.1∧KAd H p.1 q.2.1∧ay p.2 q.2.2
theorem KT.val {H:Hp}{kvs:List (List Im×V)}{xs:List (List Im×Addr×Value)} (r:KT H kvs xs) (k:List Im):d9 (cn kvs k) ((atKey xs k).map (·.2)):=by
 induction r with
 | nil=>exact True.intro
 | @cons p q ps qs h t ih=>
  obtain⟨h1,_,h2⟩:=h
  by_cases e:p.1=k
  ·have e':q.1=k:=h1.symm.trans e
   have b:atKey (q::qs) k=some q.2:=by simp[atKey,List.find?_cons,e']
   rw[kA e,b];exact h2
  ·have e':¬ q.1=k:=fun z=>e (h1.trans z)
   have b:atKey (q::qs) k=atKey qs k:=by simp[atKey,List.find?_cons,e']
   rw[kC e,b];exact ih
section
variable {P:Program}{w:World}{H:Hp}{h:Heap}{a:Addr}
theorem nz {u:HO} (ok:HOk P w H h) (e:Rd H a u):bE P w H h a u:=e.ok ok
theorem kD {kvs:List (Key×V)} (ok:HOk P w H h) (e:Rd H a (.dK kvs)):kvs.length≤sizeLine∧(a == sysModules)=false∧∃ vs,KV kvs vs∧h.DictOf (gj P w) a vs:=
 show bE P w H h a (.dK kvs) from nz ok e
mutual
theorem IsI.imv (ok:HOk P w H h):∀ {d:Im}{v:V}{u:Value},IsI H d v→ay v u→ImV h d u
 | .non,_,_,e,r=>by cases (show _=V.non from e);exact r
 | .bl b,_,_,e,r=>by cases (show _=V.bl b from e);exact r
 | .int i,_,_,e,r=>by cases (show _=V.int i from e);exact r
 | .str x,_,_,e,r=>by cases (show _=V.str x from e);exact r
 | .fn a,_,_,e,r=>by cases (show _=V.ref a from e);exact r
 | .tup ds,_,_,e,r=>by
  obtain⟨a,xs,rfl,h1,h2⟩:=e
  cases r
  obtain⟨_,its,rv,o,g1,g2,n,g3⟩:=(show bE P w H h a (.tup xs) from ok a _ h1)
  exact⟨a,o,its.toArray,n,rfl,g1,g2,g3,by simpa using ak.imv ok h2 rv⟩
 | .fl ds,_,_,e,r=>by
  obtain⟨a,xs,o,rfl,h1,h2⟩:=e
  cases r
  exact⟨a,rfl⟩
theorem ak.imv (ok:HOk P w H h):∀ {ds:List Im}{vs:List V}{us:List Value},ak H ds vs→am vs us→bA h ds us
 | [],_,_,e,r=>by cases (show _=[] from e);cases r;rfl
 | d::ds,_,_,e,r=>by
  obtain⟨v,t,rfl,h1,h2⟩:=e
  cases r with
  | cons r1 r2=>exact⟨_,_,rfl,IsI.imv ok h1 r1,ak.imv ok h2 r2⟩
end
theorem nA {ks:List Im} (ok:HOk P w H h) (e:KAd H ks a):(hV P w).is h ks a:=⟨e.1,e.2.imv ok rfl⟩
theorem vn {P:Program}{w:World}{A:Around} (h:A.units+20<cLine):(hV P w).room A.in1:=show A.units+1+10<cLine by lia
theorem nE {kvs:List (List Im×V)} (ok:HOk P w H h) (e:Rd H a (.dT kvs)):kvs.length≤sizeLine∧(a == sysModules)=false∧
  ∃ xs,KT H kvs xs∧h.DictOfH (hV P w) a xs:=by
 obtain⟨z,y,xs,r,o,es,ep,h1,h2,h3,h4,h5⟩:=(show bE P w H h a (.dT kvs) from nz ok e)
 refine⟨z,y,xs,r,o,es,ep,h1,h2,h3,h4,fun x hx=>?_,h5⟩
 have all:∀ {l:List (List Im×V)}{m:List (List Im×Addr×Value)},KT H l m→∀ x∈m,(hV P w).is h x.1 x.2.1:=by
  intro l m q
  induction q with
  | nil=>intro x hx;exact nomatch hx
  | @cons p q ps qs hq t ih=>
   intro x hx
   rcases List.mem_cons.mp hx with e | hx
   ·subst e
    exact nA ok (by rw[← hq.1];exact hq.2.1)
   ·exact ih x hx
 exact all r x hx
end
noncomputable def dm (H:Hp) (a:Addr) (y:V) (r:Option V):Prop:=
 (∃ kvs k,Rd H a (.dK kvs)∧y=kV k∧r=cn kvs k)∨∃ kvs k b,Rd H a (.dT kvs)∧y=.ref b∧KAd H k b∧r=cn kvs k
theorem dm.k {H:Hp}{a:Addr}{kvs:List (Key×V)}{k:Key} (e:H a=some (.dK kvs)):dm H a (kV k) (cn kvs k):=.inl ⟨kvs,k,.inl e,rfl,rfl⟩
theorem dm.t {H:Hp}{a b:Addr}{kvs:List (List Im×V)}{k:List Im} (e:H a=some (.dT kvs)) (eb:KAd H k b):dm H a (.ref b) (cn kvs k):=.inr ⟨kvs,k,b,.inl e,rfl,eb,rfl⟩
section
variable {X:Cx}{pins:List (Addr×Obj)}{σ:St}{H:Hp}{s:Shared}{a:Addr}{y v:V}{u r:Value}{o:Option V}{A:Around}{E:Value→Shared→Prop}
theorem vo {Q:Value→Shared→Prop} (hu:A.units+20<cLine) (I:Inv X pins σ H s) (g:dm H a y (some v)) (ry:ay y u) (h:∀ w' s',Inv X pins σ H s'→ay v w'→Q w' s'):
  wpAny (model X.prog X.w) A (getItem (.ref a) u) Q E s:=by
 rcases g with ⟨kvs,k,e,ey,l⟩ | ⟨kvs,k,b,e,ey,eb,l⟩
 ·subst ey
  obtain⟨z,hd,vs,rel,dd⟩:=kD I.hok e
  obtain⟨w',hw,rw'⟩:=d9.some_of (v:=v) (o:=valueAt vs k) (by rw[l];exact rel.val k)
  exact wpAny_getItem_of (vm ry) dd.mapOf hw (h w' _ (I.tok _) rw')
 ·subst ey
  cases (show u=Value.ref b from ry)
  obtain⟨z,hd,xs,rel,dd⟩:=nE I.hok e
  obtain⟨w',hw,rw'⟩:=d9.some_of (v:=v) (o:=(atKey xs k).map (·.2)) (by rw[l];exact rel.val k)
  obtain⟨p,hp,hp2⟩:=Option.map_eq_some_iff.mp hw
  refine wpAny_getItem_heap (vn hu) (nA I.hok eb) dd hp ?_
  rw[hp2]
  exact h w' _ (I.tok _) rw'
end
section
variable {X:Cx}{pins:List (Addr×Obj)}{σ:St}{H:Hp}{s:Shared}{a:Addr}{kvs:List (Key×V)}{k:Key}{u:Value}{A:Around}{E:Value→Shared→Prop}
theorem vp {Q:Value→Shared→Prop} (I:Inv X pins σ H s) (e:Rd H a (.dK kvs)) (h:∀ t s',Inv X pins σ H s'→Q (.int kvs.length t) s'):wpAny (model X.prog X.w) A (call (.builtin "len") [.ref a]) Q E s:=by
 obtain⟨z,hd,vs,rel,dd⟩:=kD I.hok e
 refine call_len_dict hd dd (by rw[← rel.length];rw[sizeLine_eq] at z;lia) ?_
 rw[← rel.length]
 exact h _ _ (I.tok _)
end
theorem vq {X:Cx}{pins:List (Addr×Obj)}{σ:St}{H:Hp}{s:Shared}{a:Addr}{y:V}{o:Option V} (I:Inv X pins σ H s) (g:dm H a y o):s.TypeIs (.ref a) "dict" := by
 rcases g with ⟨kvs,k,e,_,_⟩ | ⟨kvs,k,b,e,_,_,_⟩
 ·obtain⟨_,_,vs,_,dd⟩:=kD I.hok e
  exact dd.typeIs
 ·obtain⟨_,_,xs,_,dd⟩:=nE I.hok e
  exact dd.typeIs
section
variable {X:Cx}{o i e value:Expr}{pos pos' tpos:Pos}{td ty tv:TE}
end
section
variable {X:Cx}{pos:Pos}
end
section
variable {X:Cx}{pins:List (Addr×Obj)}{σ:St}{H:Hp}{s:Shared}{a:Addr}{y d:V}{u r:Value}{o:Option V}{A:Around}{E:Value→Shared→Prop}
end
section
variable {X:Cx}{o e f:Expr}{apos cpos:Pos}{td ty tx:TE}
end
section
variable {X:Cx}{pins:List (Addr×Obj)}{σ:St}{H:Hp}{s:Shared}{a:Addr}{kvs:List (Key×V)}{A:Around}{E:Value→Shared→Prop}
end
section
variable {X:Cx}{pins:List (Addr×Obj)}{σ:St}{H:Hp}{s:Shared}{a:Addr}{y:V}{u:Value}{A:Around}{E:Value→Shared→Prop}
end
end L2
namespace Att
open PySem PySem.W PySem.Calls PyProof.Rows
theorem vv {P:Params}{h:Heap}:∀ (ns:List Int) (vs:List Value),WellAll P h vs (ns.map WData.int)→IntsAre vs ns:=by
 intro ns
 induction ns with
 | nil=>
  intro vs w
  rw[List.map_nil] at w
  cases w
  exact .nil
 | cons n ns ih=>
  intro vs w
  rw[List.map_cons] at w
  cases w with
  | cons a b=>
   cases a
   exact .cons _ _ (ih _ b)
theorem vw {l:OpenLaw}{n:Nat} (hn:l.most=some n) {P:Params}{h:Heap}{args:List WData}{vals:List Value}
  (hpre:l.row.toRowW.claim.pre args=true) (hwl:WellAll P h vals args):
  ∃ a vs ns,vals=[Value.ref a]∧args=[WData.list (ns.map WData.int)]∧h.get? a=some { cls:=.type "list",data:=.seq vs.toArray }∧IntsAre vs ns∧ns.length≤n:=by
 have hsh:WShape.hasAll [] args [.list .int]=true:=(pre_splitW hpre).1
 have hc:l.pre.holds [] { args:=args }=true:=(pre_splitW hpre).2
 obtain⟨d,r,rfl,h1,h2⟩:=hasAllW_cons hsh
 obtain rfl:=hasAllW_nil h2
 obtain⟨xs,rfl,h3⟩:=hasW_list h1
 obtain⟨ns,rfl⟩:=items_int h3
 have hlen:ns.length≤n:=by
  unfold OpenLaw.pre at hc
  have h4:(WTm.not (.lt (.lit (.int (n:Int))) (.len (.arg 0)))).holds [] { args:=[.list (ns.map .int)] }=true:=by
   have h4:=(holds_andW hc).1
   rw[hn] at h4
   exact h4
  have h5:=condW_of h4 (w_not (w_lt w_lit (w_len_list (w_arg rfl))))
  rw[List.length_map] at h5
  refine Nat.le_of_not_lt fun q=>?_
  have q':(n:Int)<((ns.length:Nat):Int):=by lia
  first
   | (rw[decide_eq_true q'] at h5;exact absurd h5 (by decide))
   | (simp at h5;lia)
 cases hwl with
 | cons w1 w2=>
  cases w2
  cases w1 with
  | list ho hall=>exact⟨_,_,ns,rfl,rfl,ho,vv ns _ hall,hlen⟩
theorem vx (l:OpenLaw) (args:List WData):l.row.toRowW.claim.post args (.bool true) args=true:=
 postW_of (r:=l.row.toRowW) (X:=(true == true))
  (show WShape.has [] (.bool true) .bool=true by first | rfl | decide | simp[WShape.has,WShape.arms,WShape.armsAll])
  (show (WTm.eq .res (.lit (.bool true))).value [] { args:=args,res:=some (.bool true),after:=args }=some (.bool (true == true)) from w_eq_bool (w_res rfl) w_lit) rfl
theorem attach_call {l:OpenLaw}{n:Nat}{q:Program}{loose:List Str}{XP:(Str→Option Value)→Heap→Prop}{YP:World→Heap→Prop}{d:DefRec}
  (hn:l.most=some n) (hdf:d.params.defaults=[])
  (call:∀ (w:World) (s₀ s₁:Shared) (mg mb:Str→Option Value) (fa:Addr) (o:Obj) (pm cd doc:Value) (a:Addr) (vs:List Value) (ns:List Int),
   Ground q loose [] XP w s₀ mg mb s₁.heap→YP w s₁.heap→
   s₁.heap.get? fa=some o→o.data=.func (docDef d.name d.params d.body d.scope pm cd doc)→s₁.heap.CodeRec cd d.name→mg d.name=some (.ref fa)→
   s₁.heap.get? a=some { cls:=.type "list",data:=.seq vs.toArray }→IntsAre vs ns→ns.length≤n→s₁.gens=#[]→
   codeAny (model l.prog w) callerA (.call (.ref fa) ⟨[.ref a],[]⟩) (fun r s'=>r=.ok (.ret (.bool true))∧OldK s₁.heap s'.heap∧s'.os=s₁.os∧AllBare s'.gens) s₁):
  WalkO q loose XP YP l.row.toRowW d [] (fun f vs=>PySem.call f vs):=by
 intro w s₀ s₁ mg mb G Y fa o pm cd doc dV kV ho hd hcd hD hmg hg args vals as hpre hlay hrd hwl hlo
 obtain rfl:dV=.none:=Dflts.none hD hdf
 obtain rfl:kV=.none:=Dflts.noKw hD
 obtain⟨a,vs,ns,rfl,rfl,hobj,hints,hlen⟩:=vw hn hpre hwl
 refine enter_call (codeAny_mono (call w s₀ s₁ mg mb fa o pm cd doc a vs ns G Y ho (fd_plain hd) hcd hmg hobj hints hlen hg) fun r s' hq=>?_)
 obtain⟨rfl,h2,h3,h4⟩:=hq
 exact⟨.inl ⟨.bool true,.bool true,[],rfl,fun _=>rfl,.bool true,vx l _,fun _=>⟨List.Pairwise.nil,fun _ hm=>(nomatch hm)⟩⟩,h2,h3,h4⟩
section
variable {prog:Program}{w:World}{A:Around}{E:Value→Shared→Prop}{s:Shared}{K:Frag}
end
end Att
namespace L2
open PySem PySem.Spec PyProof.Rows
theorem nF:∀ {vs:List Value}{ns:List Int},IntsAre vs ns→am (ns.map V.int) vs
 | _,_,.nil=>.nil
 | _,_,.cons n t h=>.cons ⟨t,rfl⟩ (nF h)
noncomputable def i9 (H:Hp):Prop:=∀ b,H b=none∨∃ o xs,H b=some (.frz o (.lst xs))
theorem vy {P:Program}{w:World}{K:PySem.W.Frag}{mg mb:Str→Option Value}{CX:CXT}{k:Nat}{fa a:Addr}{fd:FuncData}{x:Str}{sp:Sp}{s₁:Shared}{vs:List Value}{ns:List Int}
  (KX:K.In s₁.heap) (hns:s₁.heap.Ns mainGlobals mg) (hb:s₁.heap.Ns builtinsNs mb) (hbb:∀ x:Str,x ≠ "__name__" → mb x=bootBuiltins x) (hlim:s₁.heap.NoLimit) (hg:s₁.gens=#[])
  (ha:s₁.heap.get? a=some { cls:=.type "list",data:=.seq vs.toArray }) (hi:IntsAre vs ns) (hl:ns.length≤sizeLine) (hr:Room k callerA)
  (F:∀ base:Heap,K.In base→base.Ns mainGlobals mg→FnOk P w K mg base CX k fa fd [x] sp) (hbind:∀ (s:Shared) (u:Value),BindsTo s fd ⟨[u],[]⟩ [(x,u)])
  (hsp:∀ H:Hp,i9 H→SqL K H a (ns.map V.int)→sp [.ref a] H (fun v _=>v=.bl true) fun _ _ _=>False)
  (hCX:∀ H e s',CX [] H s₁ (fun _ _ _=>False) e s'→False):
  codeAny (model P w) callerA (.call (.ref fa) ⟨[.ref a],[]⟩) (fun r s'=>r=.ok (.ret (.bool true))∧OldK s₁.heap s'.heap∧s'.os=s₁.os∧AllBare s'.gens) s₁:=by
 have rv:=nF hi
 have lenV:=hi.length
 -- from an abstract heap in which nothing but the script may be tracked
 have core:∀ H:Hp,i9 H→SqL K H a (ns.map V.int)→HOk P w H s₁.heap→(∀ b,H b≠none→b=a)→(H a≠none→K.lookup a=none)→
   codeAny (model P w) callerA (.call (.ref fa) ⟨[.ref a],[]⟩) (fun r s'=>r=.ok (.ret (.bool true))∧OldK s₁.heap s'.heap∧s'.os=s₁.os∧AllBare s'.gens) s₁:=by
  intro H hO hS hok hA hK
  have base_of:∀ {b:Addr}{o:Obj},s₁.heap.get? b=some o→H b=none→(dL s₁.heap H).get? b=some o:=fun e n=>su e n
  have noA:∀ {b:Addr}{o:Obj}{es:Array DictEntry}{ep:Nat},s₁.heap.get? b=some o→o.data=.dict es ep→H b=none:=fun {b o es ep} e d=>by
   cases q:H b with
   | none=>rfl
   | some u=>
    have e':b=a:=hA b (by rw[q];simp)
    subst e'
    rw[ha] at e;cases e
    have d':Data.seq vs.toArray _=Data.dict es ep:=d
    cases d'
  have nsK:∀ {b:Addr}{m:Str→Option Value},s₁.heap.Ns b m→(dL s₁.heap H).Ns b m:=fun {b m} ⟨o,es,ep,e,d,r⟩=>⟨o,es,ep,base_of e (noA e d),d,r⟩
  have hKb:K.In (dL s₁.heap H):=fun b o e=>base_of (KX b o e) (by
   cases q:H b with
   | none=>rfl
   | some u=>
    have e':b=a:=hA b (by rw[q];simp)
    subst e'
    rw[hK (by rw[q];simp)] at e;cases e)
  have hM:Mod K mg (dL s₁.heap H):=⟨hKb,nsK hns,⟨mb,nsK hb,hbb⟩,let ⟨mc,h1,h2⟩:=hlim;⟨mc,nsK h1,h2⟩⟩
  have e0:Env0 P w K mg (dL s₁.heap H) callerA [] s₁ H:=⟨rfl,hM,fun b o e=>sv e,Nat.le_of_eq (ss _ _),trivial,fun b hb=>absurd (show b∈([]:List Addr) from hb) (by simp),hok,.of_eq hg⟩
  refine codeAny_mono ((F _ hKb (nsK hns)).run callerA [] s₁ H ⟨[.ref a],[]⟩ [.ref a] [.ref a] _ _ hr e0 (hbind s₁ (.ref a)) (.cons rfl .nil) (hsp H hO hS)) fun r s' h=>?_
  cases r with
  | error e=>exact (hCX H e s' h).elim
  | ok fl=>
   cases fl with
   | next=>exact False.elim h
   | brk=>exact False.elim h
   | cont=>exact False.elim h
   | ret u=>
    obtain⟨v,H',os,bare,un,hok',r',q⟩:=h
    have q':v=.bl true:=q
    subst q'
    obtain rfl:u=Value.bool true:=r'
    refine⟨rfl,OldK.of_keep fun b o e=>?_,os,bare⟩
    cases q:H b with
    | none=>exact un.keep b o e q (by intro z;exact absurd (show b∈([]:List Addr) from z) (by simp)) (by simp)
    | some u=>
     rcases hO b with z | ⟨ob,xs,z⟩
     ·rw[q] at z;cases z
     ·have z2:=un.frzs b ob _ z
      obtain⟨e1,_⟩:=hok b _ z
      obtain⟨e2,_⟩:=hok' b _ z2
      rw[e] at e1;cases e1
      exact e2
 cases hk:K.lookup a with
 | some o=>
  -- the script is one of the module's own objects
  have e:=KX a o hk
  rw[ha] at e
  cases e
  refine core (fun _=>none) (fun _=>.inl rfl) (.inr ⟨_,vs.toArray,_,hk,rfl,rfl,rfl,by rw[List.size_toArray,lenV];exact hl,by simpa using rv⟩) (fun b u z=>by have z':(none:Option HO)=some u:=z;cases z') (fun b z=>absurd rfl z) fun z=>absurd rfl z
 | none=>
  refine core (fun b=>if b=a then some (.frz { cls:=.type "list",data:=.seq vs.toArray } (.lst (ns.map V.int))) else none) (fun b=>?_) (.inl (.inr ⟨{ cls:=.type "list",data:=.seq vs.toArray },if_pos rfl⟩)) (fun b u z=>?_) (fun b z=>?_) fun _=>hk
  ·by_cases hb:b=a
   ·exact .inr ⟨_,_,if_pos hb⟩
   ·exact .inl (if_neg hb)
  ·by_cases hb:b=a
   ·have z':=(if_pos hb).symm.trans z
    cases z'
    subst hb
    exact⟨ha,by rw[List.length_map];exact hl,vs,_,rv,ha⟩
   ·have z':=(if_neg hb).symm.trans z
    cases z'
  ·by_cases hb:b=a
   ·exact hb
   ·exact absurd (if_neg hb) z
theorem vz {l:PySem.W.OpenLaw}{n k:Nat}{q:Program}{loose:List Str}{XP:(Str→Option Value)→Heap→Prop}{YP:World→Heap→Prop}{d:DefRec}{K:Params→PySem.W.Frag}{CX:World→CXT}{sp:World→Sp}{x:Str}
  (hn:l.most=some n) (hn2:n≤sizeLine) (hdf:d.params.defaults=[]) (hr:Room k callerA)
  (hY:∀ (w:World) (h:Heap),YP w h→(K w.params).In h)
  (F:∀ (w:World) (mg:Str→Option Value) (fa:Addr) (h:Heap),(K w.params).In h→h.Ns mainGlobals mg→mg d.name=some (.ref fa)→
   ∃ fd:FuncData,(∀ (s:Shared) (u:Value),BindsTo s fd ⟨[u],[]⟩ [(x,u)])∧
    ∀ base:Heap,(K w.params).In base→base.Ns mainGlobals mg→FnOk l.prog w (K w.params) mg base (CX w) k fa fd [x] (sp w))
  (hsp:∀ (w:World) (H:Hp) (a:Addr) (ns:List Int),ns.length≤n→i9 H→SqL (K w.params) H a (ns.map V.int)→sp w [.ref a] H (fun v _=>v=.bl true) fun _ _ _=>False)
  (hCX:∀ (w:World) (H:Hp) (s:Shared) (e:Value) (s':Shared),CX w [] H s (fun _ _ _=>False) e s'→False):
  PySem.W.WalkO q loose XP YP l.row.toRowW d [] (fun f vs=>PySem.call f vs):=by
 refine Att.attach_call hn hdf fun w s₀ s₁ mg mb fa o pm cd doc a vs ns G Y ho hd hcd hmg hobj hints hlen hg=>?_
 have KX:=hY w _ Y
 obtain⟨fd,hb,hF⟩:=F w mg fa _ KX G.T.g hmg
 exact vy KX G.T.g G.T.b G.T.builtins G.T.nolimit hg hobj hints (Nat.le_trans hlen hn2) hr hF hb (fun H hO hS=>hsp w H a ns hlen hO hS) fun H e s'=>hCX w H s₁ e s'
noncomputable def aR (s:Stmt):Arguments:=match s with
 | .FunctionDef _ a _ _ _ _ _ _ _ _=>a
 | _=>{ posonlyargs:=[],args:=[],vararg:=none,kwonlyargs:=[],kw_defaults:=[],kwarg:=none,defaults:=[] }
noncomputable def aP (s:Stmt):List Stmt:=match s with
 | .FunctionDef _ _ b _ _ _ _ _ _ _=>b
 | _=>[]
noncomputable def ao (s:Stmt):Scope:=match s with
 | .FunctionDef _ _ _ _ _ _ sc _ _ _=>sc
 | _=>{ kind:=.function,names:=[],isGenerator:=false,isCoroutine:=false }
noncomputable abbrev CX0:CXT:=fun _ _ _ _ _ _=>False
noncomputable abbrev E0:XK:=fun _ _ _=>False
theorem nG {X:Cx}:i8 CX0 X E0:=fun _ _ _ _ _ _ _ h=>h.elim
structure Fun (K:PySem.W.Frag) (x qual:Str) (st:Stmt) (f:Addr) (fd:FuncData):Prop where
 ex:∃ (oc:Value) (od:Option Addr) (kV doc pm:Value) (an:Option Addr) (cdv ct:Value) (osl:Array (Option Value)),
  fd=PySem.W.fnOf x qual (aR st) (aP st) (ao st) .none kV doc pm an cdv ct∧K.lookup f=some ⟨oc,od,.func fd,osl⟩∧PySem.W.codeIn K cdv qual=true
 kp:PySem.W.keepIn K (.ref f)=true
section
variable {P:Program}{w:World}{K:PySem.W.Frag}{mg:Str→Option Value}{base:Heap}
theorem Fun.ok {x qual:Str}{st:Stmt}{f:Addr}{fd:FuncData}{N ps:List Str}{k:Nat}{sp:Sp} (F:Fun K x qual st f fd) (S:FnScope N ps (ao st)) (len:∀ vs H Q E,sp vs H Q E→vs.length=ps.length)
  (hbody:∀ (cdv:Value) (A:Around) (outer:List Env) (s:Shared) (H:Hp) (vs:List V) (Q:VK) (E:XK),Room k (A.deeper (envOfC qual (ao st) s.heap.objs.size f cdv))→sp vs H Q E→
   ∃ t,PSs (fC CX0 P w K mg base N qual (ao st) f cdv A outer s H E).nox (aP st) t∧t { nx:=fun _ H'=>Q .non H',rt:=Q } (dl N vs) H):FnOk P w K mg base CX0 (k+1) f fd ps sp:=by
 obtain⟨oc,od,kV,doc,pm,an,cdv,ct,osl,rfl,lk,hcd⟩:=F.ex
 refine uG lk hcd S len fun A outer s H vs Q E hr hsp=>?_
 obtain⟨t,h,q⟩:=hbody cdv A outer s H vs Q E hr hsp
 exact⟨t,h.nox,q⟩
theorem Fun.binds {x qual:Str}{st:Stmt}{f:Addr}{fd:FuncData}{ps:List Str} (F:Fun K x qual st f fd)
  (h:∀ (kV doc pm:Value) (an:Option Addr) (cdv ct:Value) (us:List Value),us.length=ps.length→bindArgs (PySem.W.fnOf x qual (aR st) (aP st) (ao st) .none kV doc pm an cdv ct) ⟨us,[]⟩=pure (ps.zip us)):az K fd ps []:=by
 obtain⟨oc,od,kV,doc,pm,an,cdv,ct,osl,rfl,lk,hcd⟩:=F.ex
 exact .all (h kV doc pm an cdv ct)
theorem bo {x qual:Str}{st:Stmt}{f:Addr}{oc:Value}{od an:Option Addr}{osl:Array (Option Value)}{kV doc pm cdv ct:Value} (l:K.lookup f=some ⟨oc,od,.func (PySem.W.fnOf x qual (aR st) (aP st) (ao st) .none kV doc pm an cdv ct),osl⟩)
  (c:PySem.W.codeIn K cdv qual=true) (k:PySem.W.keepIn K (.ref f)=true):Fun K x qual st f (PySem.W.fnOf x qual (aR st) (aP st) (ao st) .none kV doc pm an cdv ct):=⟨⟨oc,od,kV,doc,pm,an,cdv,ct,osl,rfl,l,c⟩,k⟩
end
section
variable {X:Cx}
theorem pv (i:Nat) {x:Str}{pos:Pos} (hN:X.N[i]?=some x:=by rfl) (hv:Vis X.env.scope x:=by first | exact Or.inl rfl | exact Or.inr (Or.inl rfl) | exact Or.inr (Or.inr rfl)) (hd:(x == ("__debug__" : Str))=false:=by decide)
  (hcd:(x == ("__classdict__" : Str))=false:=by decide):PE X (.Name x pos) (fy i):=sy hN hv hd hcd
end
noncomputable def ap (H H':Hp):Prop:=∀ b o,H b=some o→H' b=some o
theorem ap.refl (H:Hp):ap H H:=fun _ _ h=>h
theorem ap.trans {H H1 H2:Hp} (a:ap H H1) (b:ap H1 H2):ap H H2:=fun c o h=>b c o (a c o h)
end L2
namespace L2
section
variable {X:Cx}
theorem vA:bn X (.builtin "len") (fun xs H Q=>∃ a kvs,xs=[V.ref a]∧H a=some (.dK kvs)∧Q (.int kvs.length) H):=by
 intro pins s σ H xs us Q I r h
 obtain⟨a,kvs,rfl,ha,q⟩:=h
 obtain⟨u,rfl,ru⟩:=c5 r
 cases ru
 exact vp I (.inl ha) fun t s' I'=>⟨.int kvs.length,H,I',⟨t,rfl⟩,q⟩
end
section
variable {κ:Type} [DecidableEq κ]
end
end L2
namespace L2
open PySem PySem.Spec PyProof.Rows
theorem vB {prog:Program}{w:World}{A:Around}{R:Result→Shared→Prop}{s:Shared}{elt target iter:Expr}{ifs:List Expr}{scope:Scope}{pos:Pos}{it acc:Value}{env:Env} (I:Nat→Shared→Prop)
  (turn:∀ n s,I n s→wpAny (model prog w) A (pyNext it) (fun r s₁=>match r with
   | none=>R (.ok .next) s₁
   | some v=>wpAny (model prog w) A (letOwnedTupleGo target it v) (fun _ s₁=>wpAny (model prog w) A (assign target env v) (fun _ s₂=>
     wpAny (model prog w) A (forIn ifs true fun c r=>if r=true then do let ok ← isTrue c env (eval c env);pure (ForInStep.yield ok) else pure (ForInStep.yield r)) (fun ok s₃=>
      if ok=true then wpAny (model prog w) A (eval elt env) (fun x s₄=>
       wpAny (model prog w) A (call (.builtin "list.append") [acc,x]) (fun _ s₅=>∃ m,m<n∧I m s₅) (fun _ _=>False) s₄) (fun _ _=>False) s₃
      else ∃ m,m<n∧I m s₃) (fun _ _=>False) s₂) (fun _ _=>False) s₁) (fun _ _=>False) s₁) (fun _ _=>False) s)
  (n:Nat) (h:I n s):
  codeAny (model prog w) A (.compLoop (.ListComp elt [⟨target,iter,ifs,0⟩] scope pos) 0 it acc env) R s:=by
 refine codeAny_loop rfl I (fun n s hI=>?_) n h
 show wpAny _ A ((compTurn (.ListComp elt [⟨target,iter,ifs,0⟩] scope pos) 0 it acc env).onRaise (fun x=>do noteFrame x env;theTreesLotGoes x)) _ _ s
 refine wpAny_noted ?_
 rw[compTurn_list]
 refine wpAny_bind (wpAny_standAt (wpAny_bind (wpAny_mono (turn n s hI) (fun r s₁ h₁=>?_) fun _ _ h'=>h'.elim)))
 cases r with
 | none=>exact wpAny_pure h₁
 | some v=>
  refine wpAny_bind (wpAny_mono h₁ (fun _ s₁ h₁=>?_) fun _ _ h'=>h'.elim)
  refine wpAny_bind (wpAny_mono h₁ (fun _ s₂ h₂=>wpAny_bind (wpAny_mono h₂ (fun ok s₃ h₃=>?_) fun _ _ h'=>h'.elim)) fun _ _ h'=>h'.elim)
  cases ok with
  | false=>exact wpAny_pure ⟨rfl,h₃⟩
  | true=>
   exact wpAny_bind (wpAny_bind (wpAny_mono h₃ (fun x s₄ h₄=>wpAny_bind (wpAny_mono h₄ (fun _ s₅ h₅=>wpAny_pure (wpAny_pure ⟨rfl,h₅⟩)) fun _ _ h'=>h'.elim)) fun _ _ h'=>h'.elim))
noncomputable def fD (env:Env) (names:List (Str×NameKind)):List (Str×Addr):=names.foldl (fun cs y=>if y.2 == .free then (y.1,(env.cells.lookup y.1).getD 0)::cs else cs) []
theorem kE {env:Env}:∀ (names:List (Str×NameKind)) (cs:List (Str×Addr)),(∀ y∈names,y.2=.free→∃ c,env.cells.lookup y.1=some c)→
  (forIn names cs fun (y:Str×NameKind) cs=>if y.2 == .free then (do let c ← cellOf env y.1;pure (ForInStep.yield ((y.1,c)::cs))) else pure (ForInStep.yield cs):Sem _)=
   pure (names.foldl (fun cs y=>if y.2 == .free then (y.1,(env.cells.lookup y.1).getD 0)::cs else cs) cs)
 | [],cs,_=>rfl
 | y::r,cs,h=>by
  rw[List.forIn_cons,List.foldl_cons]
  by_cases hy:y.2=.free
  ·obtain⟨c,hc⟩:=h y List.mem_cons_self hy
   have e:(y.2 == NameKind.free)=true:=by simp[hy]
   rw[if_pos e,if_pos e]
   have ec:cellOf env y.1=pure c:=by unfold cellOf;rw[hc]
   rw[ec,hc]
   show (forIn r ((y.1,c)::cs) _:Sem _)=_
   exact kE r _ fun z hz=>h z (List.mem_cons_of_mem _ hz)
  ·have e:¬ (y.2 == NameKind.free)=true:=by simp[hy]
   rw[if_neg e,if_neg e]
   show (forIn r cs _:Sem _)=_
   exact kE r _ fun z hz=>h z (List.mem_cons_of_mem _ hz)
theorem vC {env:Env}{scope:Scope} (h:∀ y∈scope.names,y.2=.free→∃ c,env.cells.lookup y.1=some c):closureFor scope env=pure (fD env scope.names):=by
 have:=kE (env:=env) scope.names [] h
 unfold closureFor
 dsimp only
 have e:(forIn scope.names ([]:List (Str×Addr)) (fun (x:Str×NameKind) (r:List (Str×Addr))=>(if x.2 == .free then (do let c ← cellOf env x.1;pure (ForInStep.yield ((x.1,c)::r))) else pure (ForInStep.yield r):Sem (ForInStep (List (Str×Addr))))))=pure (fD env scope.names):=this
 rw[e]
 rfl
theorem nH {env:Env}:∀ (names:List (Str×NameKind)) (cs:List (Str×Addr)) (x:Str) (c:Addr),
  (names.foldl (fun cs y=>if y.2 == .free then (y.1,(env.cells.lookup y.1).getD 0)::cs else cs) cs).lookup x=some c→
  (c=(env.cells.lookup x).getD 0∧(x,NameKind.free)∈names)∨cs.lookup x=some c
 | [],cs,x,c,h=>.inr h
 | y::r,cs,x,c,h=>by
  rw[List.foldl_cons] at h
  rcases nH r _ x c h with ⟨e,m⟩ | h
  ·exact .inl ⟨e,List.mem_cons_of_mem _ m⟩
  ·by_cases hy:y.2=.free
   ·rw[if_pos (by simp[hy])] at h
    rw[List.lookup_cons] at h
    by_cases hx:x=y.1
    ·subst hx
     rw[beq_self_eq_true] at h
     refine .inl ⟨(Option.some.inj h).symm,?_⟩
     rw[← hy]
     exact List.mem_cons_self
    ·have:(x == y.1)=false:=by simpa using hx
     rw[this] at h
     exact .inr h
   ·rw[if_neg (by simp[hy])] at h
    exact .inr h
theorem kF {env:Env}:∀ (names:List (Str×NameKind)) (cs:List (Str×Addr)) (x:Str),(x,NameKind.free)∈names∨(∃ c,cs.lookup x=some c)→
  ∃ c,(names.foldl (fun cs y=>if y.2 == .free then (y.1,(env.cells.lookup y.1).getD 0)::cs else cs) cs).lookup x=some c
 | [],cs,x,h=>by
  rcases h with h | h
  ·cases h
  ·exact h
 | y::r,cs,x,h=>by
  rw[List.foldl_cons]
  apply kF r _ x
  rcases h with h | ⟨c,h⟩
  ·rcases List.mem_cons.mp h with e | h
   ·right
    subst e
    rw[if_pos (by rfl),List.lookup_cons,beq_self_eq_true]
    exact⟨_,rfl⟩
   ·exact .inl h
  ·right
   by_cases hy:(y.2 == NameKind.free)=true
   ·rw[if_pos hy,List.lookup_cons]
    cases x == y.1
    ·exact⟨c,h⟩
    ·exact⟨_,rfl⟩
   ·rw[if_neg hy]
    exact⟨c,h⟩
structure Blk where
 C:Addr
 s:Shared
 H:Hp
 fp:List Addr
noncomputable def Cx.blk (X : Cx) (N' : List Str) (scope : Scope) (Y : Blk) : Cx :=
  { prog := X.prog, w := X.w, K := X.K, mg := X.mg, base := X.base, A := X.A, N := N', s₀ := Y.s, H₀ := Y.H, env := compEnvC scope (fD X.env scope.names) Y.C X.env, outer := X.stack, stack := X.stack,
    ex := Y.fp, fn := fun _ => false, calm := X.calm, pn := [], xe := fun _ _ => False }
theorem kG {env:Env}:∀ {names:List (Str×NameKind)}{x:Str}{k:NameKind},
  (names.map fun (n,k)=>if (k == NameKind.free && env.scope.kind == .function && env.kindOf n == some .cell) then (n,NameKind.cell) else (n,k)).lookup x=some k→
  (k=.cell∨k=.free)→(∀ y∈names,y.2≠.cell)→(x,NameKind.free)∈names
 | [],x,k,h,_,_=>by simp at h
 | (n,k')::r,x,k,h,hk,hc=>by
  rw[List.map_cons] at h
  dsimp only at h
  by_cases hx:x=n
  ·subst hx
   by_cases hf:(k' == NameKind.free && env.scope.kind == .function && env.kindOf x == some .cell)=true
   ·have:k'=NameKind.free:=by
     simp only[Bool.and_eq_true] at hf
     exact by simpa using hf.1.1
    subst this
    exact List.mem_cons_self
   ·simp only[hf] at h
    have e:k'=k:=by simpa [List.lookup_cons] using h
    subst e
    rcases hk with hk | hk
    ·exact absurd hk (hc (x,k') List.mem_cons_self)
    ·rw[hk]
     exact List.mem_cons_self
  ·have hb:(x == n)=false:=by simpa using hx
   have h':(r.map fun (n,k)=>if (k == NameKind.free && env.scope.kind == .function && env.kindOf n == some .cell) then (n,NameKind.cell) else (n,k)).lookup x=some k:=by
    by_cases hf:(k' == NameKind.free && env.scope.kind == .function && env.kindOf n == some .cell)=true
    ·rw[if_pos hf,List.lookup_cons,hb] at h
     exact h
    ·rw[if_neg hf,List.lookup_cons,hb] at h
     exact h
   exact List.mem_cons_of_mem _ (kG h' hk fun y hy=>hc y (List.mem_cons_of_mem _ hy))
section
variable {X:Cx}
structure CompScope (X:Cx) (scope:Scope) (own:List Str) (caps:List Nat):Prop where
 kind:scope.kind=.function
 cell:∀ y∈scope.names,y.2≠.cell
 free:∀ y∈scope.names,y.2=.free→X.env.scope.names.lookup y.1=some .cell
 loc:∀ y∈scope.names,y.2=.local→scope.names.lookup y.1=some .local
 capF:∀ i∈caps,∃ x,X.N[i]?=some x∧(x,NameKind.free)∈scope.names∧scope.names.lookup x=some .free
noncomputable def bI (X:Cx) (own:List Str) (caps:List Nat):List Str:=own++caps.map fun i=>X.N.getD i ""
noncomputable def c6 (own:List Str) (caps:List Nat) (σ:St):St:=own.map (fun _=>none)++caps.map fun i=>σ.getD i none
theorem CompScope.cells {scope:Scope}{own:List Str}{caps:List Nat} (S:CompScope X scope own caps) (ok:X.Ok):∀ y∈scope.names,y.2=.free→∃ c,X.env.cells.lookup y.1=some c:=
 fun y hy hf=>ok.has y.1 (.inl (S.free y hy hf))
theorem CompScope.sub {scope:Scope}{own:List Str}{caps:List Nat} (S:CompScope X scope own caps) (ok:X.Ok) {x:Str}{c:Addr} (h:(fD X.env scope.names).lookup x=some c):X.env.cells.lookup x=some c∧(x,NameKind.free)∈scope.names:=by
 rcases nH scope.names [] x c h with ⟨e,m⟩ | h
 ·obtain⟨c',e'⟩:=S.cells ok (x,.free) m rfl
  rw[show (List.lookup x X.env.cells)=some c' from e'] at e
  refine⟨?_,m⟩
  rw[e]
  exact e'
 ·simp at h
theorem nJ {scope:Scope}{own:List Str}{caps:List Nat}{pins:List (Addr×Obj)}{σ:St}{H:Hp}{s:Shared}{C:Addr}{fp:List Addr} (S:CompScope X scope own caps) (I:Inv X pins σ H s) (hC:s.heap.objs.size≤C)
  (hf:∀ b∈fp,bH X pins H b) (hlt:∀ b∈fp,b<s.heap.objs.size):(X.blk (bI X own caps) scope ⟨C,s,H,fp⟩).Ok where
 mod:=I.ok.mod
 kind:=S.kind
 glob:=I.ok.glob
 blt:=I.ok.blt
 above:=hC
 inj:=fun x y c h1 h2=>I.ok.inj x y c (S.sub I.ok h1).1 (S.sub I.ok h2).1
 has:=fun x hx=>by
  have m:(x,NameKind.free)∈scope.names:=by
   rcases hx with hx | hx
   ·exact kG hx (.inl rfl) S.cell
   ·exact kG hx (.inr rfl) S.cell
  exact kF scope.names [] x (.inl m)
 cab:=fun x c h _=>nomatch h
 hd:=I.ok.hd
 frames:=I.ok.frames
 stk:=.inl rfl
 exf:=fun b hb=>⟨Nat.ne_of_lt (Nat.lt_of_lt_of_le (hlt b hb) hC),fun x c h=>(hf b hb).2.2.2.2.1 x c (S.sub I.ok h).1⟩
 bs:=I.bs
 bsz:=Nat.le_trans I.ok.bsz I.sz
 noex:=fun b o e hb=>by
  rcases (hf b hb).2.2.2.1 with z | z
  ·exact I.ok.noex b o e z
  ·exact absurd (Nat.lt_of_lt_of_le (Heap.lt_size e) (Nat.le_trans I.ok.bsz z)) (Nat.lt_irrefl _)
 exfs:=fun b hb z=>by
  rcases List.mem_cons.mp (I.stkSub b z) with e | e
  ·exact (hf b hb).2.1 e
  ·exact (hf b hb).2.2.1 e
 funs:=I.stack
 frf:=I.stkFree
theorem vD {scope:Scope}{own:List Str}{caps:List Nat}{pins:List (Addr×Obj)}{σ:St}{H:Hp}{s:Shared}{C:Addr}{fp:List Addr}{h1:Heap}{tk:Nat}{m:Str→Option Value} (S:CompScope X scope own caps) (I:Inv X pins σ H s)
  (hC:s.heap.objs.size≤C) (hf:∀ b∈fp,bH X pins H b) (hlt:∀ b∈fp,b<s.heap.objs.size) (old:∀ b o,s.heap.get? b=some o→h1.get? b=some o) (hn:h1.Ns C m):
  Inv (X.blk (bI X own caps) scope ⟨C,s,H,fp⟩) [] (c6 own caps σ) H { s with heap:=h1,toks:=tk } where
 ok:=nJ S I hC hf hlt
 os:=rfl
 bare:=I.bare
 base:=Un.kept old
 loc:=by
  obtain⟨m0,hn0,hl0⟩:=I.loc
  refine⟨m,hn,fun j x v e1 e2 hv=>?_⟩
  have e1:(own++caps.map fun i=>X.N.getD i "")[j]?=some x:=e1
  have e2:(own.map (fun _=>(none:Option V))++caps.map fun i=>σ.getD i none)[j]?=some (some v):=e2
  by_cases hj:j<own.length
  ·rw[List.getElem?_append_left (by rw[List.length_map];exact hj),List.getElem?_map] at e2
   cases q:own[j]? with
   | none=>rw[q] at e2;cases e2
   | some z=>rw[q] at e2;cases e2
  ·rw[List.getElem?_append_right (by lia),List.getElem?_map] at e1
   rw[List.getElem?_append_right (by rw[List.length_map];lia),List.getElem?_map,List.length_map] at e2
   cases q:caps[j - own.length]? with
   | none=>rw[q] at e1;cases e1
   | some i=>
    rw[q] at e1 e2
    have e1:X.N.getD i "" = x:=Option.some.inj e1
    have e2:σ.getD i none=some v:=Option.some.inj e2
    obtain⟨x',hx',hm,hlk⟩:=S.capF i (List.mem_of_getElem? q)
    have ex:x'=x:=by
     rw[← e1,List.getD_eq_getElem?_getD,hx']
     rfl
    subst ex
    have hs:σ[i]?=some (some v):=by
     rw[List.getD_eq_getElem?_getD] at e2
     cases q2:σ[i]? with
     | none=>rw[q2] at e2;cases e2
     | some z=>rw[q2] at e2;rw[show z=some v from e2]
    have hcel:=S.free (x',.free) hm rfl
    obtain⟨u,r,lk⟩:=hl0 i x' v hx' hs (.inr (.inl hcel))
    refine⟨u,r,.inr ⟨?_,?_⟩⟩
    ·rcases hv with hv | hv | hv
     ·-- local in the block: it is free
      exfalso
      have:∀ {names:List (Str×NameKind)},names.lookup x'=some .free→(names.map fun (n,k)=>if (k == NameKind.free && X.env.scope.kind == .function && X.env.kindOf n == some .cell) then (n,NameKind.cell) else (n,k)).lookup x'≠some .local:=by
       intro names
       induction names with
       | nil=>intro h;simp at h
       | cons y r ih=>
        obtain⟨n,k⟩:=y
        intro h
        rw[List.map_cons]
        dsimp only
        by_cases hx:x'=n
        ·subst hx
         have ek:k=.free:=by simpa [List.lookup_cons] using h
         subst ek
         by_cases hq:(NameKind.free == NameKind.free && X.env.scope.kind == ScopeKind.function && X.env.kindOf x' == some NameKind.cell)=true
         ·rw[if_pos hq];simp[List.lookup_cons]
         ·rw[if_neg hq];simp[List.lookup_cons]
        ·have hb:(x' == n)=false:=by simpa using hx
         rw[List.lookup_cons,hb] at h
         by_cases hq:(k == NameKind.free && X.env.scope.kind == ScopeKind.function && X.env.kindOf n == some NameKind.cell)=true
         ·rw[if_pos hq,List.lookup_cons,hb];exact ih h
         ·rw[if_neg hq,List.lookup_cons,hb];exact ih h
      exact this hlk hv
     ·exact .inl hv
     ·exact .inr hv
    ·rcases lk with ⟨hk,_⟩ | ⟨_,c,hc,hcell⟩
     ·exact absurd (hk.symm.trans hcel) (by simp)
     ·obtain⟨c',hc'⟩:=kF (env:=X.env) scope.names [] x' (.inl hm)
      have:=(S.sub I.ok hc').1
      rw[hc] at this
      cases this
      obtain⟨o,ho,hd⟩:=hcell
      exact⟨c,hc',o,old _ _ ho,hd⟩
 cell:=fun x c h=>by
  obtain⟨v,o,ho,hd⟩:=I.cell x c (S.sub I.ok h).1
  exact⟨v,o,old _ _ ho,hd⟩
 free:=I.hok.fresh hC
 freeC:=fun x c h=>I.freeC x c (S.sub I.ok h).1
 pin:=fun p hp=>nomatch hp
 hok:=I.hok.kept old
 len:=by simp[c6,bI,Cx.blk]
end
section
variable {X:Cx}
noncomputable def PTs (X:Cx) (ifs:List Expr) (t:TT):Prop:=
 ∀ (pins:List (Addr×Obj)) (s:Shared) (σ:St) (H:Hp) (Q:Bool→Hp→Prop),Inv X pins σ H s→t σ H Q→
  wpAny (model X.prog X.w) X.A (forIn ifs true fun c r=>if r=true then do let ok ← isTrue c X.env (eval c X.env);pure (ForInStep.yield ok) else pure (ForInStep.yield r)) (TP X pins σ Q) X.xe s
noncomputable def tYes:TT:=fun _ H Q=>Q true H
theorem vE:PTs X [] tYes:=fun pins s σ H Q I h=>wpAny_tests_nil ⟨H,I,h⟩
theorem vF {c:Expr}{t:TT} (h:PT X c t):PTs X [c] t:=fun pins s σ H Q I hw=>wpAny_tests_one (h pins s σ H Q I hw)
noncomputable def vG (own:List Str) (caps:List Nat) (g:TG) (tt:TT) (te:TE) (σ:St) (N:List V→Hp→Prop) (ys:List V) (x:V) (H':Hp):Prop:=
 g x (c6 own caps σ) H' fun σ2 H2=>(∀ (j:Nat) (v:V),(c6 own caps σ)[j]?=some (some v)→σ2[j]?=some (some v))∧tt σ2 H2 fun b H3=>if b=true then te σ2 H3 fun v H4=>ys.length<sizeLine∧N (ys++[v]) H4 else N ys H3
noncomputable def vH (J:It) (own:List Str) (caps:List Nat) (g:TG) (tt:TT) (te:TE) (σ:St) (H1:Hp) (Q:VK):Prop:=
 ∃ W:Nat→Nat→List V→Hp→Prop,(∃ m,W 0 m [] H1)∧∀ i m ys H,W i m ys H→(J.stop i H∧∀ D,H D=none→Q (.ref D) (upd H D (.lst ys)))∨
  (J.go i H∧∃ N:List V→Hp→Prop,(∀ ys' H',N ys' H'→∃ m',m'<m∧W (i+1) m' ys' H')∧∀ x H',J.yld i H x H'→vG own caps g tt te σ N ys x H')
noncomputable def ja (own:List Str) (caps:List Nat) (wi:TI) (g:Blk→TG) (tt:Blk→TT) (te:Blk→TE):TE:=fun σ H Q=>wi σ H fun J H1=>∀ Y:Blk,vH J own caps (g Y) (tt Y) (te Y) σ H1 Q
noncomputable def nK (sc:Scope) (N:List Str) (scope:Scope) (caps:List Nat):Bool:=
 scope.kind == .function && scope.names.all (fun y=>y.2 != .cell) && scope.names.all (fun y=>y.2 != .free || sc.names.lookup y.1 == some .cell) && scope.names.all (fun y=>y.2 != .local || scope.names.lookup y.1 == some .local) &&
  caps.all (fun i=>match N[i]? with | some x=>scope.names.lookup x == some .free | none=>false)
theorem mem_of_lookup:∀ {l:List (Str×NameKind)}{x:Str}{k:NameKind},l.lookup x=some k→(x,k)∈l
 | [],_,_,h=>by simp at h
 | (n,k')::r,x,k,h=>by
  rw[List.lookup_cons] at h
  by_cases hx:x=n
  ·subst hx
   rw[beq_self_eq_true] at h
   cases h
   exact List.mem_cons_self
  ·rw[show (x == n)=false by simpa using hx] at h
   exact List.mem_cons_of_mem _ (mem_of_lookup h)
theorem cF {X:Cx}{scope:Scope}{own:List Str}{caps:List Nat} (sc:Scope) (N:List Str) (h:nK sc N scope caps=true) (e:X.env.scope=sc:=by rfl) (eN:X.N=N:=by rfl):CompScope X scope own caps:=by
 unfold nK at h
 simp only[Bool.and_eq_true,List.all_eq_true,bne_iff_ne,ne_eq,Bool.or_eq_true,beq_iff_eq] at h
 obtain⟨⟨⟨⟨h1,h2⟩,h3⟩,h4⟩,h5⟩:=h
 refine⟨h1,h2,fun y hy hf=>?_,fun y hy hf=>?_,fun i hi=>?_⟩
 ·rw[e]
  exact (h3 y hy).resolve_left fun z=>z hf
 ·exact (h4 y hy).resolve_left fun z=>z hf
 ·have:=h5 i hi
  rw[eN]
  cases q:N[i]? with
  | none=>rw[q] at this;cases this
  | some x=>
   rw[q] at this
   have hl:scope.names.lookup x=some .free:=by simpa using this
   exact⟨x,rfl,mem_of_lookup hl,hl⟩
theorem nL {tg iter elt:Expr}{ifs:List Expr}{scope:Scope}{pos p2:Pos}{own:List Str}{caps:List Nat}{wi:TI}{g:Blk→TG}{tt:Blk→TT}{te:Blk→TE}{use:Option (Value→Sem Unit)}{Qp:Value→Shared→Prop}{Qv:VK}{pins:List (Addr×Obj)}{s:Shared}{σ:St}{H:Hp}
  (hc:X.calm=true) (S:CompScope X scope own caps) (hi:PI X tg iter wi)
  (hg:∀ Y,PG (X.blk (bI X own caps) scope Y) tg (g Y)) (ht:∀ Y,PTs (X.blk (bI X own caps) scope Y) ifs (tt Y)) (he:∀ Y,PE (X.blk (bI X own caps) scope Y) elt (te Y))
  (hs:∀ x,foldedSetIterable iter X.env x=pure x) (I:Inv X pins σ H s) (h:ja own caps wi g tt te σ H Qv)
  (hend:∀ (D C:Addr) (H4:Hp) (s4:Shared) (m:Str→Option Value),Inv X pins σ H4 s4→s4.heap.Ns C m→H4 C=none→X.env.locals≠C→(∀ x c,X.env.cells.lookup x=some c→c≠C)→X.s₀.heap.objs.size≤C→(∀ p∈X.pn++pins,p.1≠C)→Qv (.ref D) H4→compPost (model X.prog X.w) X.A X.xe use Qp (.ref D) C (.ok .next) s4):
  wpAny (model X.prog X.w) X.A (comprehension (.ListComp elt [⟨tg,iter,ifs,0⟩] scope pos) scope X.env p2 (newList []) false (eval iter X.env) use) Qp X.xe s:=by
 refine wpAny_comprehension_free (use:=use) rfl hs (vC (S.cells I.ok)) S.kind S.loc (thn (hi pins s σ H _ I h) fun v s1 h1=>thn h1 fun itv s2 h2=>?_)
 obtain⟨it,fp,tn,J,H2,e,I2,T,st2,f2,hW⟩:=h2
 subst e
 have hlt:∀ b∈fp,b<s2.heap.objs.size:=fun b hb=>by
  obtain⟨o,e,_⟩:=T.obj _ _ st2 b hb
  exact Heap.lt_size e
 refine wpAny_newObj_type (wpAny_newFunctionEnv S.cell (by intro y hy;simp at hy) (fun h₁ hns₁ hsb₁=>?_) S.kind)
 dsimp only at hns₁ hsb₁ ⊢
 generalize hHq:s2.heap.push { cls:=.type "list",dict:=none,data:=.seq ([]:List Value).toArray }=Hq at hns₁ hsb₁ ⊢
 have hC:Hq.objs.size=s2.heap.objs.size+1:=by rw[← hHq,Heap.size_push]
 have hDC:s2.heap.objs.size≠Hq.objs.size:=by rw[hC];exact Nat.ne_of_lt (Nat.lt_succ_self _)
 have hCle:s2.heap.objs.size≤Hq.objs.size:=by rw[hC];exact Nat.le_succ _
 have old:∀ b o,s2.heap.get? b=some o→h₁.get? b=some o:=fun b o e=>
  hsb₁.extBut b o (by rw[hC];exact Nat.ne_of_lt (Nat.lt_succ_of_lt (Heap.lt_size e))) (Heap.get?_push_of_some _ (hHq ▸ Heap.get?_push_of_some _ e))
 have hacc:h₁.get? s2.heap.objs.size=some { cls:=.type "list",data:=.seq ([]:List Value).toArray 0 }:=hsb₁.extBut _ _ hDC (Heap.get?_push_of_some _ (hHq ▸ Heap.get?_push_size _ rfl))
 generalize hCq:Hq.objs.size=C at hns₁ hsb₁ hC hDC hCle ⊢
 generalize hDq:s2.heap.objs.size=D at hacc hC hDC hCle ⊢
 have hCs:s2.heap.objs.size≤C:=by rw[hDq];exact hCle
 obtain⟨W,⟨m0,w0⟩,turn⟩:=hW ⟨C,s2,H2,fp⟩
 have hX':=fun (tk:Nat)=>vD (tk:=tk) S I2 hCs f2 hlt old hns₁
 have hgY:=hg ⟨C,s2,H2,fp⟩
 have htY:=ht ⟨C,s2,H2,fp⟩
 have heY:=he ⟨C,s2,H2,fp⟩
 have hok':=nJ S I2 hCs f2 hlt
 generalize hX'q:X.blk (bI X own caps) scope ⟨C,s2,H2,fp⟩=X' at hX' hgY htY heY hok'
 have eP:X'.prog=X.prog:=by rw[← hX'q];rfl
 have ew:X'.w=X.w:=by rw[← hX'q];rfl
 have eK:X'.K=X.K:=by rw[← hX'q];rfl
 have eA:X'.A=X.A:=by rw[← hX'q];rfl
 have ec:X'.calm=true:=by rw[← hX'q];exact hc
 have eL:X'.env.locals=C:=by rw[← hX'q];rfl
 have eex:X'.ex=fp:=by rw[← hX'q];rfl
 have es0:X'.s₀=s2:=by rw[← hX'q];rfl
 have eH0:X'.H₀=H2:=by rw[← hX'q];rfl
 have efs:X'.fs=frs X.stack:=by rw[← hX'q];rfl
 have epn:X'.pn=[]:=by rw[← hX'q];rfl
 have exe:X'.xe=fun _ _=>False:=by rw[← hX'q];rfl
 have eenv:X'.env=compEnvC scope (fD X.env scope.names) C X.env:=by rw[← hX'q];rfl
 have ecell:∀ x c,X'.env.cells.lookup x=some c→X.env.cells.lookup x=some c:=fun x c h=>(S.sub I2.ok (by rw[eenv] at h;exact h)).1
 -- a cell is no new thing
 have nD:∀ x c,X'.env.cells.lookup x=some c→c≠D:=fun x c h z=>by
  obtain⟨v,o,ho,_⟩:=I2.cell x c (ecell x c h)
  have:=Heap.lt_size ho
  rw[z,← hDq] at this
  exact Nat.lt_irrefl _ this
 have fpD:∀ b∈fp,b≠D:=fun b hb z=>by
  have:=hlt b hb
  rw[z,← hDq] at this
  exact Nat.lt_irrefl _ this
 have fsD:D∉X'.fs:=fun z=>by
  obtain⟨_,o,ho,_⟩:=hok'.funs.mem z
  rw[es0] at ho
  have:=Heap.lt_size ho
  rw[hDq] at this
  exact Nat.lt_irrefl _ this
 have fpo:∀ (H':Hp) (o:Obj),(∀ b∈fp,H' b=none)→∀ b∈fp,bH X' [(D,o)] H' b:=fun H' o hn b hb=>by
  refine⟨hn b hb,?_,?_,.inl (by rw[eex];exact hb),fun x c h=>(f2 b hb).2.2.2.2.1 x c (ecell x c h),fun p hp=>?_⟩
  ·rw[eL]
   exact Nat.ne_of_lt (Nat.lt_of_lt_of_le (hlt b hb) hCs)
  ·exact hok'.exfs b (by rw[eex];exact hb)
  ·rw[epn] at hp
   have:p=(D,o):=by simpa using hp
   rw[this]
   exact Ne.symm (fpD b hb)
 have loop:∀ s₃:Shared,s₃={ s2 with heap:=h₁,toks:=s2.toks+([]:List (Str×Value)).length }→
   codeAny (model X.prog X.w) X.A (.compLoop (.ListComp elt [⟨tg,iter,ifs,0⟩] scope pos) 0 (.ref it) (.ref D) X'.env)
    (compPost (model X.prog X.w) X.A X.xe use Qp (.ref D) C) s₃:=by
  rintro s₃ rfl
  refine vB (fun n s'=>∃ (i:Nat) (ys:List V) (H':Hp) (its:List Value) (k:Nat),Inv X' [(D,{ cls:=.type "list",data:=.seq its.toArray k })] (c6 own caps σ) H' s'∧am ys its∧ys.length≤sizeLine∧tn i s'.heap∧
   (∀ b∈fp,H' b=none)∧W i n ys H') ?_ m0 ?_
  ·rintro n s3 ⟨i,ys,H3,its,k,I3,rv,hz,st3,fr3,w3⟩
   rcases turn i n ys H3 w3 with ⟨stop,qn⟩ | ⟨go,N,hN,step⟩
   ·have:=T.done X' eP ew eK ec i _ s3 _ H3 (fun _ _=>False) I3 (fpo H3 _ fr3) st3 stop
    rw[eA] at this
    refine thn this fun r s4 ⟨hr,I4⟩=>?_
    subst hr
    obtain⟨m,hn,_⟩:=I4.loc
    have hnC:s4.heap.Ns C m:=by rw[← eL];exact hn
    have hp:=I4.pin (D,{ cls:=.type "list",data:=.seq its.toArray k }) (by rw[epn];simp)
    have hD0:H3 D=none:=hp.2.1
    have kp:∀ b,b≠C→s4.heap.get? b=s4.heap.get? b:=fun b hb=>rfl
    have nC:∀ b o,s2.heap.get? b=some o→b≠C:=fun b o e=>Nat.ne_of_lt (Nat.lt_of_lt_of_le (Heap.lt_size e) hCs)
    have nDs:∀ b o,s2.heap.get? b=some o→b≠D:=fun b o e=>by rw[← hDq];exact Nat.ne_of_lt (Heap.lt_size e)
    have ub:Un (frs X.stack) fp H2 H3 s2.heap s4.heap:=by
     have:=I4.base
     rw[efs,eex,eH0,es0] at this
     exact this
    have u:Un (frs X.stack) fp H2 (upd H3 D (.lst ys)) s2.heap s4.heap:=
     ⟨fun b o e n hb hx=>(kp b (nC b o e)).trans (ub.keep b o e n hb hx),
      fun b o e n hb hx=>by
      obtain⟨sl,q⟩:=ub.slot b o e n hb hx
      exact⟨sl,(kp b (nC b o e)).trans q⟩,
      fun b o e n hx=>by rw[aI (nDs b o e)];exact ub.free b o e n hx,
      fun b o e hx=>by
      obtain⟨o',q⟩:=ub.there b o e hx
      exact⟨o',(kp b (nC b o e)).trans q⟩,
      fun b xs e=>by rw[aI (bS (ub.tups b xs e) hD0)];exact ub.tups b xs e,
      fun b o xs e=>by rw[aI (bS (ub.frzs b o xs e) hD0)];exact ub.frzs b o xs e,
      fun b ps e=>by
      obtain⟨more,q⟩:=ub.tbls b ps e
      exact⟨more,by rw[aI (bS q hD0)];exact q⟩⟩
    have hokC:∀ b o,H3 b=some o→b≠C:=fun b o e z=>by
     have:=I4.free
     rw[eL,← z,e] at this
     cases this
    have hk:HOk X.prog X.w (upd H3 D (.lst ys)) s4.heap:=fun a o e=>by
     by_cases ha:a=D
     ·subst ha
      rw[bD] at e
      cases e
      exact⟨hz,its,k,rv,(kp _ hDC).trans hp.1⟩
     ·rw[aI ha] at e
      have:=I4.hok a o e
      rw[eP,ew] at this
      refine this.stay (fun b u hb q=>(kp b ?_).trans q) (fun b q=>by rw[aI (bS q hD0)];exact q) fun b xs q=>by rw[aI (bS q hD0)];exact q
      rcases hb with z | z
      ·rw[z];exact hokC a o e
      ·exact hokC b _ z
    have I4':Inv X pins σ (upd H3 D (.lst ys)) s4:=I2.call' (s':=s4) (ch:=fp) (by have:=I4.os;rw[es0] at this;exact this) u hk I4.bare fun b hb=>⟨(f2 b hb).2.2.2.1,(f2 b hb).2.1,(f2 b hb).2.2.2.2.1,(f2 b hb).2.2.2.2.2⟩
    have nLC:X.env.locals≠C:=by
     obtain⟨m2,hn2,_⟩:=I2.loc
     obtain⟨o,_,_,ho,_⟩:=hn2
     exact nC _ _ ho
    have nCC:∀ x c,X.env.cells.lookup x=some c→c≠C:=fun x c h=>by
     obtain⟨v,o,ho,_⟩:=I2.cell x c h
     exact nC _ _ ho
    refine hend D C _ s4 m I4' hnC ?_ nLC nCC ?_ (fun p hp=>nC _ _ (I2.pin p hp).1) (qn D hD0)
    ·rw[aI (Ne.symm hDC)]
     have:=I4.free
     rwa [eL] at this
    ·exact Nat.le_trans I2.sz hCs
   ·have:=T.item X' eP ew eK ec i _ s3 _ H3 (fun _ _=>False) I3 (fpo H3 _ fr3) st3 go
    rw[eA] at this
    refine thn this fun r s4 ⟨u,hr,h4⟩=>?_
    subst hr
    refine thn h4 fun _ s5 ⟨x,H5,I5,r5,y5,st5,fr5⟩=>?_
    have I5':=I5.pinned (fpo H5 _ fr5) (T.obj _ _ st5)
    have a6:=hgY _ s5 _ H5 x u _ I5' r5 (step x H5 y5)
    rw[eP,ew,eA,exe] at a6
    refine thn a6 fun _ s6 ⟨σ6,H6,I6,keepσ,q6⟩=>?_
    have a7:=htY _ s6 σ6 H6 _ I6 q6
    rw[eP,ew,eA,exe] at a7
    refine thn a7 fun b s7 ⟨H7,I7,q7⟩=>?_
    -- the next turn's state
    have keep2:∀ {σ':St}{H':Hp}{s':Shared},Inv X' ([(D,{ cls:=.type "list",data:=.seq its.toArray k })]++ed fp s5.heap) σ' H' s'→(∀ b∈fp,H' b=none)∧tn (i+1) s'.heap:=fun {σ' H' s'} I'=>by
     refine⟨fun b hb=>?_,T.keep _ _ _ st5 fun b hb o e=>(I'.pin (b,o) (List.mem_append_right _ (List.mem_append_right _ (i5 hb e)))).1⟩
     obtain⟨o,e,_⟩:=T.obj _ _ st5 b hb
     exact (I'.pin (b,o) (List.mem_append_right _ (List.mem_append_right _ (i5 hb e)))).2.1
    have wk:∀ {pins':List (Addr×Obj)}{H':Hp}{s':Shared},Inv X' pins' σ6 H' s'→Inv X' pins' (c6 own caps σ) H' s':=fun {pins' H' s'} I'=>
     I'.weak (by rw[I'.len,I3.len]) keepσ
    cases b with
    | false=>
     rw[if_neg Bool.false_ne_true] at q7
     obtain⟨m',hm,w7⟩:=hN _ _ q7
     rw[if_neg Bool.false_ne_true]
     obtain⟨k1,k2⟩:=keep2 I7
     exact⟨m',hm,i+1,ys,H7,its,k,wk (I7.pins_of fun p hp=>I7.pin p (by
      rw[epn]
      simp at hp ⊢
      exact .inl hp)),rv,hz,k2,k1,w7⟩
    | true=>
     rw[if_pos rfl] at q7 ⊢
     have a8:=heY _ s7 σ6 H7 _ I7 q7
     rw[eP,ew,eA,exe] at a8
     refine thn a8 fun uv s8 ⟨v8,H8,I8,r8,hz8,n8⟩=>?_
     obtain⟨m',hm,w8⟩:=hN _ _ n8
     have hp:=I8.pin (D,{ cls:=.type "list",data:=.seq its.toArray k }) (List.mem_append_right _ (List.mem_append_left _ (by simp)))
     have eD:=hp.1
     refine call_meets F.slot_list_append ⟨_,eD,rfl⟩ F.entry_list_append (F.args_list_append_2 _ _) (PySem.list_append D its.toArray k uv (by rw[List.size_toArray,← rv.length];lia)) ⟨eD,?_⟩
     have q:=PySem.IsL.update eD (fun a=>a.push uv)
     obtain⟨k1,k2⟩:=keep2 I8
     have I8':Inv X' (ed fp s5.heap) σ6 H8 s8:=I8.pins_of fun p hp=>I8.pin p (List.mem_append_right _ (List.mem_append_right _ hp))
     have oth:∀ b o,b≠D→s8.heap.get? b=some o→(s8.heap.update D (Obj.mapSeq fun a=>a.push uv)).get? b=some o:=fun b o hb e=>(Heap.get?_update_other s8.heap _ (Ne.symm hb)).trans e
     have I9:Inv X' (ed fp s5.heap) σ6 H8 { s8 with heap:=s8.heap.update D (Obj.mapSeq fun a=>a.push uv),toks:=s8.toks }:=
      I8'.turned (it:=D) oth hp.2.1 (by rw[eL];exact hDC) (.inr (by rw[es0,hDq];exact Nat.le_refl _)) nD fun p hp'=>by
       rw[epn] at hp'
       obtain⟨hb,_⟩:=mT (show p∈ed fp s5.heap by simpa using hp')
       exact fpD _ hb
     refine⟨m',hm,i+1,ys++[v8],H8,its++[uv],k+1,wk (I9.pins_of fun p hp'=>?_),rv.append (.cons r8 .nil),?_,?_,k1,w8⟩
     ·have e:p=(D,{ cls:=.type "list",data:=.seq (its++[uv]).toArray (k+1) }):=by simpa using hp'
      subst e
      refine⟨?_,hp.2.1,hp.2.2.1,hp.2.2.2.1,fun v z=>by cases z⟩
      have e2:its.toArray.push uv=(its++[uv]).toArray:=by simp
      rw[← e2]
      have q':IsL (s8.heap.update D (Obj.mapSeq fun a=>a.push uv)) D (its.toArray.push uv) (if (its.toArray.push uv).size == its.toArray.size then k else k+1):=q
      rw[if_neg (by simp)] at q'
      exact q'
     ·rw[List.length_append,List.length_singleton]
      lia
     ·refine T.keep _ _ _ k2 fun b hb o e=>oth b o (fpD b hb) e
  ·refine⟨0,[],H2,[],0,?_,.nil,Nat.zero_le _,T.keep _ _ _ st2 fun b _ o e=>old b o e,fun b hb=>(f2 b hb).1,w0⟩
   refine (hX' _).pins_of fun p hp=>?_
   have e:p=(D,{ cls:=.type "list",data:=.seq ([]:List Value).toArray 0 }):=by simpa using hp
   subst e
   exact⟨hacc,I2.hok.fresh (by rw[hDq];exact Nat.le_refl _),by rw[eL];exact hDC,fsD,fun v z=>by cases z⟩
 have eenv':compEnvC scope (fD X.env scope.names) C X.env=X'.env:=eenv.symm
 show codeAny (model X.prog X.w) X.A (.compStart _ 0 (.ref it) (.ref D) (compEnvC scope (fD X.env scope.names) C X.env)) _ _
 rw[eenv']
 exact codeAny_compStart_list (loop _ rfl) (T.self X.A 0 _ _ _ (T.keep _ _ _ st2 fun b _ o e=>old b o e) (loop _ rfl))
theorem vI {tg iter elt:Expr}{ifs:List Expr}{scope:Scope}{pos:Pos}{own:List Str}{caps:List Nat}{wi:TI}{g:Blk→TG}{tt:Blk→TT}{te:Blk→TE}
  (hc:X.calm=true) (S:CompScope X scope own caps) (hi:PI X tg iter wi)
  (hg:∀ Y,PG (X.blk (bI X own caps) scope Y) tg (g Y)) (ht:∀ Y,PTs (X.blk (bI X own caps) scope Y) ifs (tt Y)) (he:∀ Y,PE (X.blk (bI X own caps) scope Y) elt (te Y))
  (hs:∀ x,foldedSetIterable iter X.env x=pure x:=by intro _;rfl):PE X (.ListComp elt [⟨tg,iter,ifs,0⟩] scope pos) (ja own caps wi g tt te):=by
 intro pins s σ H Q I h
 show wpAny _ X.A (comprehension (.ListComp elt [⟨tg,iter,ifs,0⟩] scope pos) scope X.env _ (newList []) false (eval iter X.env) none) _ _ s
 refine nL (use:=none) (Qp:=EP X pins σ Q) hc S hi hg ht he hs I h fun D C H4 s4 m I4 hn f l c z p q=>?_
 show ∃ m,s4.heap.Ns C m∧∀ h',Heap.SameBut C s4.heap h'→EP X pins σ Q (.ref D) { s4 with heap:=h' }
 refine⟨m,hn,fun h' sb=>⟨.ref D,H4,?_,rfl,q⟩⟩
 exact I4.turned (it:=C) (t':=s4.toks) (fun b o hb e=>(sb.2 b hb).trans e) f (Ne.symm l) (.inr z) c p
end
section
variable {prog:Program}{w:World}{A:Around}{E:Value→Shared→Prop}{s:Shared}
end
end L2
namespace L2
open PySem PySem.Spec PyProof.Rows PySem.W
section
variable {n:Nat}{key:Nat→Int}{cmp:Nat→Nat→(Bool→Shared→Prop)→Shared→Prop}
noncomputable def kyA (key:Nat→Int) (p:Array Nat) (i:Nat):Int:=key (p.getD i 0)
noncomputable def Up (key:Nat→Int) (p:Array Nat) (m:Nat):Prop:=∀ i j,i≤j→j<m→kyA key p i≤kyA key p j
noncomputable def bp (n:Nat) (key:Nat→Int) (cmp:Nat→Nat→(Bool→Shared→Prop)→Shared→Prop) (s:Shared):Prop:=∀ i j C,i<n→j<n→C (decide (key i<key j)) s→cmp i j C s
noncomputable def Rg (n:Nat) (p:Array Nat):Prop:=p.toList.Perm (List.range n)
theorem Rg.size {p:Array Nat} (h:Rg n p):p.size=n:=by
 have:=h.length_eq
 simpa using this
theorem Rg.lt {p:Array Nat} (h:Rg n p) {i:Nat} (hi:i<n):p.getD i 0<n:=by
 have hs:=h.size
 have e:p.getD i 0=p[i]:=by simp[Array.getD,hs,hi]
 rw[e]
 have:p[i]∈p.toList:=by simp
 exact List.mem_range.mp (h.mem_iff.mp this)
theorem Rg.ne {p:Array Nat} (h:Rg n p) (inj:∀ i j,i<n→j<n→key i=key j→i=j) {i j:Nat} (hij:i<j) (hj:j<n):kyA key p i≠kyA key p j:=by
 intro e
 have hs:=h.size
 have e':=inj _ _ (h.lt (by lia)) (h.lt hj) e
 have e1:p.getD i 0=p[i]:=by simp[Array.getD,hs,show i<n by lia]
 have e2:p.getD j 0=p[j]:=by simp[Array.getD,hs,hj]
 rw[e1,e2] at e'
 have nd:p.toList.Nodup:=h.nodup_iff.mpr List.nodup_range
 have e3:p.toList[i]'(by simpa [hs] using (show i<n by lia))=p.toList[j]'(by simpa [hs] using hj):=by simpa using e'
 have:=(List.getElem_inj nd).mp e3
 lia
theorem c7 {p q:Array Nat}{i j:Nat} (e:p[i]?=q[j]?):kyA key p i=kyA key q j:=by
 unfold kyA
 rw[Array.getD_eq_getD_getElem?,Array.getD_eq_getD_getElem?,e]
theorem Rg.rev {p:Array Nat} (h:Rg n p) (i j:Nat):Rg n (kas_rev p i j):=(Array.perm_iff_toList_perm.mp (mirror_perm p i j _)).trans h
theorem Rg.bub {p:Array Nat} (h:Rg n p) (i j:Nat):Rg n (bubble p i j):=(Array.perm_iff_toList_perm.mp (bubble_perm p i j)).trans h
theorem jb {s:Shared} (hc:bp n key cmp s) {p:Array Nat} (hp:Rg n p) {Q:Nat→Shared→Prop}:∀ (f m:Nat),1≤m→m+f≤n→
  (∀ m',m≤m'→m'≤m+f→(∀ j,m≤j→j<m'→kyA key p (j - 1)≤kyA key p j)→(m'=m+f∨kyA key p m'<kyA key p (m' - 1))→Q m' s)→(kas_asc p f m).kasWp cmp Q s
 | 0,m,h1,hn,h=>h m (Nat.le_refl _) (Nat.le_refl _) (fun j a b=>by lia) (.inl rfl)
 | f+1,m,h1,hn,h=>by
  show cmp (p.getD m 0) (p.getD (m - 1) 0) (fun b s'=>KasT.kasWp cmp (if b=true then .ret m else kas_asc p f (m+1)) Q s') s
  refine hc _ _ _ (hp.lt (by lia)) (hp.lt (by lia)) ?_
  by_cases hb:key (p.getD m 0)<key (p.getD (m - 1) 0)
  ·rw[decide_eq_true hb,if_pos rfl]
   exact h m (Nat.le_refl _) (by lia) (fun j a b=>by lia) (.inr hb)
  ·rw[decide_eq_false hb,if_neg Bool.false_ne_true]
   refine jb hc hp f (m+1) (by lia) (by lia) fun m' a b c d=>h m' (by lia) (by lia) (fun j x y=>?_) (by rcases d with d | d;exact .inl (by lia);exact .inr d)
   by_cases e:j=m
   ·subst e
    have:¬ kyA key p j<kyA key p (j - 1):=hb
    lia
   ·exact c j (by lia) y
theorem jc {p : Array Nat} {m : Nat} (h : ∀ j, 1 ≤ j → j < m → kyA key p (j - 1) ≤ kyA key p j) : Up key p m := by
  intro i j hij hj
  induction j with
  | zero => have : i = 0 := by lia
            subst this; exact Int.le_refl _
  | succ j ih =>
    by_cases e : i = j + 1
    · subst e; exact Int.le_refl _
    · have h1 := ih (by lia) (by lia)
      have h2 := h (j + 1) (by lia) hj
      rw [Nat.add_sub_cancel] at h2
      exact Int.le_trans h1 h2
theorem nM {s:Shared} (hc:bp n key cmp s) (inj:∀ i j,i<n→j<n→key i=key j→i=j) {p:Array Nat} (hp:Rg n p) {Q:Array Nat×Nat×Nat→Shared→Prop}:∀ (f m:Nat),1≤m→m+f≤n→
  (∀ m',m≤m'→m'≤m+f→(∀ j,m≤j→j<m'→kyA key p j<kyA key p (j - 1))→Q (p,m',0) s)→(kas_desc f p m 0).kasWp cmp Q s
 | 0,m,h1,hn,h=>h m (Nat.le_refl _) (Nat.le_refl _) (fun j a b=>by lia)
 | f+1,m,h1,hn,h=>by
  show cmp (p.getD m 0) (p.getD (m - 1) 0) (fun b s'=>KasT.kasWp cmp (if b=true then (if 0 > 0 then kas_desc f (kas_rev p (m - (0+1)) m) (m+1) 0 else kas_desc f p (m+1) 0)
   else .ask (p.getD (m - 1) 0) (p.getD m 0) fun d=>if d=true then .ret (p,m,0) else kas_desc f p (m+1) (0+1)) Q s') s
  refine hc _ _ _ (hp.lt (by lia)) (hp.lt (by lia)) ?_
  by_cases hb:key (p.getD m 0)<key (p.getD (m - 1) 0)
  ·rw[decide_eq_true hb,if_pos rfl,if_neg (by lia)]
   refine nM hc inj hp f (m+1) (by lia) (by lia) fun m' a b c=>h m' (by lia) (by lia) fun j x y=>?_
   by_cases e:j=m
   ·subst e;exact hb
   ·exact c j (by lia) y
  ·rw[decide_eq_false hb,if_neg Bool.false_ne_true]
   refine hc _ _ _ (hp.lt (by lia)) (hp.lt (by lia)) ?_
   have h2:key (p.getD (m - 1) 0)<key (p.getD m 0):=by
    have:=hp.ne inj (show m - 1<m by lia) (by lia)
    unfold kyA at this
    lia
   rw[decide_eq_true h2]
   dsimp only
   rw[if_pos rfl]
   exact h m (Nat.le_refl _) (by lia) fun j a b=>by lia
theorem vJ {s:Shared} (hc:bp n key cmp s) (inj:∀ i j,i<n→j<n→key i=key j→i=j) {p:Array Nat} (hp:Rg n p) {Q:Nat×Array Nat→Shared→Prop} (hn:1≤n)
  (h:∀ m p',1≤m→m≤n→Rg n p'→Up key p' m→Q (m,p') s):(kas_count n p).kasWp cmp Q s:=by
 unfold kas_count
 rw[KasT.kasWp_bind]
 refine jb hc hp (n - 1) 1 (Nat.le_refl _) (by lia) fun m a b c d=>?_
 have up:Up key p m:=jc c
 by_cases e:m=n
 ·subst e
  rw[if_pos (by simp)]
  exact h m p a (Nat.le_refl _) hp up
 ·rw[if_neg (by simpa using e)]
  by_cases e1:m > 1
  ·rw[if_pos e1]
   refine hc _ _ _ (hp.lt (by lia)) (hp.lt (by lia)) ?_
   have h2:key (p.getD 0 0)<key (p.getD (m - 1) 0):=by
    have x:=hp.ne inj (show 0<m - 1 by lia) (by lia)
    have y:=up 0 (m - 1) (by lia) (by lia)
    unfold kyA at x y
    lia
   rw[decide_eq_true h2]
   dsimp only
   rw[if_pos rfl]
   exact h m p a (by lia) hp up
  ·rw[if_neg e1]
   have e2:m=1:=by lia
   subst e2
   have d:kyA key p 1<kyA key p 0:=by
    rcases d with d | d
    ·lia
    ·exact d
   unfold kas_descPart
   rw[KasT.kasWp_bind]
   refine nM hc inj hp (n - (1+1)) (1+1) (by lia) (by lia) fun k a1 b1 c1=>?_
   dsimp only
   rw[if_neg (by lia)]
   unfold kas_tail3
   rw[KasT.kasWp_bind]
   have hp':=hp.rev 0 k
   have ky:∀ i,kyA key (kas_rev p 0 k) i=if i<k then kyA key p (k - 1 - i) else kyA key p i:=fun i=>by
    by_cases hi:i<k
    ·rw[if_pos hi]
     exact c7 (by unfold kas_rev;rw[getElem?_mirror_all (by rw[hp.size];lia),if_pos ⟨Nat.zero_le _,hi⟩];congr 1;lia)
    ·rw[if_neg hi]
     exact c7 (by unfold kas_rev;rw[getElem?_mirror_all (by rw[hp.size];lia),if_neg (by lia)])
   have dn:∀ j,1≤j→j<k→kyA key p j<kyA key p (j - 1):=fun j x y=>by
    by_cases z:j=1
    ·subst z;exact d
    ·exact c1 j (by lia) y
   refine jb hc hp' (n - k) k (by lia) (by lia) fun m' a2 b2 c2 _=>?_
   refine h m' (kas_rev p 0 k) (by lia) (by lia) hp' (jc fun j x y=>?_)
   by_cases z:j<k
   ·rw[ky,ky,if_pos (by lia),if_pos z]
    have:=dn (k - 1 - (j - 1)) (by lia) (by lia)
    rw[show k - 1 - (j - 1) - 1=k - 1 - j by lia] at this
    exact Int.le_of_lt this
   ·exact c2 j (by lia) y
theorem kJ {s:Shared} (hc:bp n key cmp s) {p:Array Nat} (hp:Rg n p) {k:Nat} (hk:k<n) (up:Up key p k) {Q:Nat→Shared→Prop}:∀ (f l r:Nat),l≤r→r≤k→r - l≤f→
  (∀ i,i<l→kyA key p i≤kyA key p k)→(∀ i,r≤i→i<k→kyA key p k≤kyA key p i)→
  (∀ l',l'≤k→(∀ i,i<l'→kyA key p i≤kyA key p k)→(∀ i,l'≤i→i<k→kyA key p k≤kyA key p i)→Q l' s)→(kas_place p k f l r).kasWp cmp Q s
 | 0,l,r,h1,h2,h3,a,b,h=>h l (by lia) a fun i x y=>b i (by lia) y
 | f+1,l,r,h1,h2,h3,a,b,h=>by
  by_cases e:l ≥ r
  ·show KasT.kasWp cmp (if l ≥ r then .ret l else _) Q s
   rw[if_pos e]
   exact h l (by lia) a fun i x y=>b i (by lia) y
  ·show KasT.kasWp cmp (if l ≥ r then .ret l else .ask (p.getD k 0) (p.getD ((l+r) / 2) 0) fun c=>if c=true then kas_place p k f l ((l+r) / 2) else kas_place p k f ((l+r) / 2+1) r) Q s
   rw[if_neg e]
   refine hc _ _ _ (hp.lt hk) (hp.lt (by lia)) ?_
   have m1:l≤(l+r) / 2:=by lia
   have m2:(l+r) / 2<r:=by lia
   generalize (l+r) / 2=mid at m1 m2 ⊢
   by_cases hb:key (p.getD k 0)<key (p.getD mid 0)
   ·rw[decide_eq_true hb]
    dsimp only
    rw[if_pos rfl]
    refine kJ hc hp hk up f l mid m1 (by lia) (by lia) a (fun i x y=>?_) h
    have:=up mid i x y
    have hb:kyA key p k<kyA key p mid:=hb
    lia
   ·rw[decide_eq_false hb]
    dsimp only
    rw[if_neg Bool.false_ne_true]
    refine kJ hc hp hk up f (mid+1) r (by lia) h2 (by lia) (fun i x=>?_) b h
    have:=up i mid (by lia) (by lia)
    have hb:¬ kyA key p k<kyA key p mid:=hb
    lia
theorem nN {s:Shared} (hc:bp n key cmp s) {Q:Array Nat→Shared→Prop}:∀ (f k:Nat) (p:Array Nat),Rg n p→Up key p k→k+f≤n→(∀ p',Rg n p'→Up key p' (k+f)→Q p' s)→(kas_bin f p k).kasWp cmp Q s
 | 0,k,p,hp,up,hn,h=>h p hp up
 | f+1,k,p,hp,up,hn,h=>by
  show KasT.kasWp cmp ((kas_place p k k 0 k).bind fun l=>kas_bin f (bubble p k (k - l)) (k+1)) Q s
  rw[KasT.kasWp_bind]
  refine kJ hc hp (by lia) up k 0 k (Nat.zero_le _) (Nat.le_refl _) (by lia) (fun i x=>by lia) (fun i x y=>by lia) fun l hl a b=>?_
  have ky:∀ i,kyA key (bubble p k (k - l)) i=if i=l then kyA key p k else if l<i∧i≤k then kyA key p (i - 1) else kyA key p i:=fun i=>by
   have g:=getElem?_bubble (xs:=p) (src:=k) (by rw[hp.size];lia) (k - l) (by lia) i
   rw[show k - (k - l)=l by lia] at g
   by_cases e:i=l
   ·rw[if_pos e] at g ⊢;exact c7 g
   ·rw[if_neg e] at g ⊢
    by_cases e2:l<i∧i≤k
    ·rw[if_pos e2] at g ⊢;exact c7 g
    ·rw[if_neg e2] at g ⊢;exact c7 g
  refine nN hc f (k+1) _ (hp.bub _ _) (jc fun j x y=>?_) (by lia) fun p' r1 r2=>h p' r1 (by rw[show k+(f+1)=k+1+f by lia];exact r2)
  rw[ky,ky]
  by_cases c1:j - 1=l
  ·rw[if_pos c1,if_neg (by lia),if_pos (by lia)]
   exact b (j - 1) (by lia) (by lia)
  ·rw[if_neg c1]
   by_cases c2:j=l
   ·rw[if_pos c2,if_neg (by lia)]
    exact a (j - 1) (by lia)
   ·rw[if_neg c2]
    by_cases c3:l<j - 1
    ·rw[if_pos (by lia),if_pos (by lia)]
     exact up _ _ (by lia) (by lia)
    ·rw[if_neg (by lia),if_neg (by lia)]
     exact up _ _ (by lia) (by lia)
theorem vK {s:Shared} (hc:bp n key cmp s) (inj:∀ i j,i<n→j<n→key i=key j→i=j) {Q:Array Nat→Shared→Prop} (hn:1≤n) (h:∀ p',Rg n p'→Up key p' n→Q p' s):(kas_sort n).kasWp cmp Q s:=by
 unfold kas_sort
 rw[KasT.kasWp_bind]
 refine vJ hc inj (p:=(List.range n).toArray) (List.Perm.refl _) hn fun m p' a b c d=>?_
 by_cases e:m<n
 ·show KasT.kasWp cmp (if m<n then kas_bin (n - max m 1) p' (max m 1) else .ret p') Q s
  rw[if_pos e]
  refine nN hc _ _ p' c (by rw[show max m 1=m by lia];exact d) (by lia) fun p'' r1 r2=>h p'' r1 (by rw[show max m 1+(n - max m 1)=n by lia] at r2;exact r2)
 ·show KasT.kasWp cmp (if m<n then kas_bin (n - max m 1) p' (max m 1) else .ret p') Q s
  rw[if_neg e]
  have:m=n:=by lia
  subst this
  exact h p' c d
end
theorem nO:∀ (f n r:Nat),minRun' f n r≤n+r
 | 0,n,r=>Nat.le_refl _
 | f+1,n,r=>by
  rw[minRun'_succ]
  by_cases h:n<64
  ·rw[if_pos h]
   exact Nat.le_refl _
  ·rw[if_neg h]
   have:=nO f (n / 2) (max r (n % 2))
   lia
section
variable {prog:Program}{w:World}{A:Around}{E:Value→Shared→Prop}{κ:SortKind}{it:Array Keyed}{key:Nat→Int}
theorem vL {n:Nat}{Q:Unit→SortSt→Shared→Prop}{s:Shared} (hc:bp n key (kas_cmp prog w A κ it) s) (inj:∀ i j,i<n→j<n→key i=key j→i=j) (h2:2≤n) (up:∀ j,1≤j→j<n→key (j - 1)≤key j)
  (hG:∀ p' st',Rg n p'→Up key p' n→arrOf st'=p'.map (kas_item it)→failedOf st'=none→Q () st' s):kasC (model prog w) A E sortRuns' Q (kas_st κ it (List.range n).toArray) s:=by
 obtain⟨r,rfl⟩:∃ r,n=r+2:=⟨n - 2,by lia⟩
 have hr:Rg (r+2) (List.range (r+2)).toArray:=List.Perm.refl _
 have ky:∀ j,j<r+2→kyA key (List.range (r+2)).toArray j=key j:=fun j hj=>by
  unfold kyA
  simp[Array.getD,hj]
 have cw:(kas_count (r+2) (List.range (r+2)).toArray).kasWp (kas_cmp prog w A κ it) (fun q s'=>s'=s∧q=(r+2,(List.range (r+2)).toArray)) s:=by
  unfold kas_count
  rw[KasT.kasWp_bind]
  refine jb hc hr (r+2 - 1) 1 (Nat.le_refl _) (by lia) fun m a b c d=>?_
  have e:m=r+2:=by
   rcases d with d | d
   ·lia
   ·by_cases hm:m<r+2
    ·rw[ky m hm,ky (m - 1) (by lia)] at d
     have:=up m a hm
     lia
    ·lia
  subst e
  rw[if_pos (by simp)]
  exact⟨rfl,rfl⟩
 rw[sortRuns'_eq]
 apply kasC_bind
 apply kasC_get
 dsimp only
 have hsz:(arrOf (kas_st κ it (List.range (r+2)).toArray)).size=r+2:=by
  show ((List.range (r+2)).toArray.map (kas_item it)).size=r+2
  simp
 simp only[hsz]
 apply kasC_bind
 apply kasC_range
 show kasC _ _ _ (forIn (0::1::List.range' 2 r) _ _) _ _ _
 apply kasC_cons
 dsimp only
 rw[if_neg (by lia)]
 simp only[Nat.sub_zero,Nat.zero_add]
 apply kasC_bind
 refine kas_count_ (by lia) (by simp) (fun m p' s' _ _ _ hg=>?_) cw
 obtain⟨rfl,hg⟩:=hg
 cases hg
 dsimp only
 rw[if_neg (by have:=nO (r+2) (r+2) 0;lia)]
 apply kasC_bind
 apply kasC_get
 rw[show (pendingOf (kas_st κ it (List.range (r+2)).toArray)).back?=none from rfl]
 dsimp only
 refine kasC_bind (kasC_modify (kasC_pure ?_))
 show kasC _ _ _ (forIn (1::List.range' 2 r) _ _) _ _ _
 apply kasC_cons
 dsimp only
 rw[if_pos (Nat.le_refl _)]
 apply kasC_pure
 dsimp only
 apply kasC_bind
 apply kasC_range
 show kasC _ _ _ (forIn (0::1::List.range' 2 r) _ _) _ _ _
 apply kasC_cons
 apply kasC_bind
 apply kasC_get
 rw[if_pos (show (pendingOf (setPending (kas_st κ it (List.range (r+2)).toArray) ((pendingOf (kas_st κ it (List.range (r+2)).toArray)).push (0,r+2,0)))).size≤1 from Nat.le_refl 1)]
 apply kasC_pure
 dsimp only
 apply kasC_pure
 exact hG (List.range (r+2)).toArray _ hr (fun i j hij hj=>by
  rw[ky i (by lia),ky j hj]
  have:=jc (key:=key) (p:=(List.range (r+2)).toArray) (m:=r+2) (fun j x y=>by rw[ky _ (by lia),ky _ y];exact up j x y) i j hij hj
  rw[ky i (by lia),ky j hj] at this
  exact this) rfl rfl
theorem Ap {n:Nat}{Q:Unit→SortSt→Shared→Prop}{s:Shared} (hc:bp n key (kas_cmp prog w A κ it) s) (inj:∀ i j,i<n→j<n→key i=key j→i=j) (h2:2≤n) (up:n<64∨∀ j,1≤j→j<n→key (j - 1)≤key j)
  (hG:∀ p' st',Rg n p'→Up key p' n→arrOf st'=p'.map (kas_item it)→failedOf st'=none→Q () st' s):kasC (model prog w) A E sortRuns' Q (kas_st κ it (List.range n).toArray) s:=by
 rcases up with h | up
 ·exact kas_runs (G:=fun p' s'=>s'=s∧Rg n p'∧Up key p' n) h2 h (fun p' st' s' _ a b ⟨e,c,d⟩=>by subst e;exact hG p' st' c d a b) (vK hc inj (by lia) fun p' a b=>⟨rfl,a,b⟩)
 ·exact vL hc inj h2 up hG
end
section
variable {prog:Program}{w:World}{A:Around}{E:Value→Shared→Prop}{κ:SortKind}{it:Array Keyed}{key:Nat→Int}{n:Nat}{s:Shared}
noncomputable def jd:Bool→Keyed→Array Keyed→Nat→Nat→Nat→StateT SortSt Sem (Option Nat):=sortPriv% PySem.Builtin.gallop
theorem hZ (hc:bp n key (kas_cmp prog w A κ it) s) {i j:Nat} (hi:i<n) (hj:j<n) {st:SortSt} (hk:kindOf st=κ) {Q:Option Bool→SortSt→Shared→Prop} (h:Q (some (decide (key i<key j))) st s):
  kasC (model prog w) A E (lt' (kas_item it i) (kas_item it j)) Q st s:=by
 rw[lt'_eq]
 apply kasC_bind
 apply kasC_get
 have:=hc i j (fun c s'=>s'=s∧c=decide (key i<key j)) hi hj ⟨rfl,rfl⟩
 unfold kas_cmp at this
 rw[hk]
 refine kasC_bind (kasC_lift (wpAny_attempt (wpAny_mono this (fun c s' hcs=>?_) fun _ _ hF=>hF.elim)))
 obtain⟨rfl,rfl⟩:=hcs
 exact kasC_pure h
theorem bJ {σ β:Type}{M:Model}{f:Nat→β→StateT σ Sem (ForInStep β)}{Q:β→σ→Shared→Prop} (I:Nat→β→σ→Shared→Prop)
  (step:∀ x c st s',I x c st s'→kasC M A E (f x c) (fun r st2 s2=>match r with | .yield c'=>I (x+1) c' st2 s2 | .done c'=>Q c' st2 s2) st s'):∀ (m a:Nat) (c:β) (st:σ) (s':Shared),(∀ c st s',I (a+m) c st s'→Q c st s')→I a c st s'→
   kasC M A E (forIn (List.range' a m) c f) Q st s'
 | 0,a,c,st,s',fin,h=>by
  show kasC M A E (forIn ([]:List Nat) c f) Q st s'
  exact kasC_nil (fin c st s' h)
 | m+1,a,c,st,s',fin,h=>by
  show kasC M A E (forIn (a::List.range' (a+1) m) c f) Q st s'
  refine kasC_cons (wpAny_mono (step a c st s' h) (fun r s2 h'=>?_) fun _ _ e=>e)
  obtain⟨r,st2⟩:=r
  cases r with
  | done c'=>exact h'
  | yield c'=>exact bJ I step m (a+1) c' st2 s2 (fun c st s' hi=>fin c st s' (by rw[show a+(m+1)=a+1+m by lia];exact hi)) h'
noncomputable def bey (key:Nat→Int) (left:Bool) (k:Nat) (pa:Array Nat) (base i:Nat):Bool:=if left=true then decide (key (pa.getD (base+i) 0)<key k) else !decide (key k<key (pa.getD (base+i) 0))
set_option maxHeartbeats 2000000 in
theorem nP (hc:bp n key (kas_cmp prog w A κ it) s) {left:Bool}{k:Nat} (hk:k<n) {pa:Array Nat} (hpa:∀ i,i<pa.size→pa.getD i 0<n) {base m hint:Nat} (hb:base+m≤pa.size) (hh:hint<m)
  (mono:∀ i j,i≤j→j<m→bey key left k pa base j=true→bey key left k pa base i=true) {st:SortSt} (hkind:kindOf st=κ) {Q:Option Nat→SortSt→Shared→Prop}
  (h:∀ r,r≤m→(∀ i,i<r→bey key left k pa base i=true)→(∀ i,r≤i→i<m→bey key left k pa base i=false)→Q (some r) st s):
  kasC (model prog w) A E (jd left (kas_item it k) (pa.map (kas_item it)) base m hint) Q st s:=by
 have el:∀ i,i<m→(pa.map (kas_item it))[base+i]?=some (kas_item it (pa.getD (base+i) 0)):=fun i hi=>by
  have:base+i<pa.size:=by lia
  simp[Array.getD,this]
 have ask:∀ i,i<m→∀ Q':Option Bool→SortSt→Shared→Prop,Q' (some (bey key left k pa base i)) st s→
   kasC (model prog w) A E (do let x ← elem' (pa.map (kas_item it)) (base+i);if left=true then lt' x (kas_item it k) else do let r ← lt' (kas_item it k) x;pure (r.map fun x=>!x)) Q' st s:=fun i hi Q' hq=>by
  rw[elem'_eq,el i hi]
  apply kasC_bind
  apply kasC_pure
  have hx:=hpa (base+i) (by lia)
  unfold bey at hq
  cases left with
  | true=>
   rw[if_pos rfl] at hq ⊢
   exact hZ hc hx hk hkind hq
  | false=>
   rw[if_neg Bool.false_ne_true] at hq ⊢
   exact kasC_bind (hZ hc hk hx hkind (kasC_pure hq))
 unfold jd
 with_unfolding_all refine kasC_bind ?_
 refine ask hint hh _ ?_
 dsimp only
 cases hB0:bey key left k pa base hint with
 | true=>
  rw[if_pos rfl]
  apply kasC_bind
  apply kasC_range
  have nxt:∀ last ofs,last<ofs→hint+last<m→bey key left k pa base (hint+last)=true→(ofs ≥ m - hint∨bey key left k pa base (hint+ofs)=false)→
    hint+last+1≤hint+min ofs (m - hint)∧hint+min ofs (m - hint)≤m∧(∀ i,i<hint+last+1→bey key left k pa base i=true)∧(∀ i,hint+min ofs (m - hint)≤i→i<m→bey key left k pa base i=false)∧hint+min ofs (m - hint) - (hint+last+1)≤m - 0:=fun last ofs a1 a2 a3 a4=>by
   refine⟨by lia,by lia,fun i hi=>mono i (hint+last) (by lia) a2 a3,fun i h1 h2=>?_,by lia⟩
   rcases a4 with a4 | a4
   ·lia
   ·cases hi2:bey key left k pa base i with
    | false=>rfl
    | true=>rw[mono (hint+ofs) i (by lia) h2 hi2] at a4;cases a4
  refine bJ (fun x c st' s'=>st'=st∧s'=s∧∃ last ofs,c=(none,last,ofs)∧last<ofs∧x<ofs∧hint+last<m∧bey key left k pa base (hint+last)=true) ?_ _ 0 _ _ _ ?_ ⟨rfl,rfl,0,1,rfl,by lia,by lia,by lia,hB0⟩
  ·rintro x c st' s' ⟨e1,e2,last,ofs,rfl,h1,h2,h3,h4⟩
   rw[e1,e2]
   dsimp only
   by_cases ho:ofs ≥ m - hint
   ·rw[if_pos ho]
    apply kasC_pure
    dsimp only
    have LH:=nxt last ofs h1 h3 h4 (.inl ho)
    apply kasC_bind
    apply kasC_range
    refine bJ (fun x c st' s'=>st'=st∧s'=s∧∃ lo hi,c=(none,lo,hi)∧lo≤hi∧hi≤m∧(∀ i,i<lo→bey key left k pa base i=true)∧(∀ i,hi≤i→i<m→bey key left k pa base i=false)∧hi - lo≤m - x) ?_ _ 0 _ _ _ ?_ ⟨rfl,rfl,_,_,rfl,LH⟩
    ·rintro x c st' s' ⟨e1,e2,lo,hi,rfl,h1,h2,h3,h4,h5⟩
     rw[e1,e2]
     dsimp only
     by_cases hlh:lo ≥ hi
     ·rw[if_pos hlh]
      apply kasC_pure
      dsimp only
      have e:lo=hi:=by lia
      subst e
      exact kasC_pure (h lo h2 h3 h4)
     ·rw[if_neg hlh]
      have m1:lo≤lo+(hi - lo) / 2:=by lia
      have m2:lo+(hi - lo) / 2<hi:=by lia
      generalize lo+(hi - lo) / 2=mid at m1 m2 ⊢
      refine kasC_bind (ask mid (by lia) _ ?_)
      dsimp only
      cases hB:bey key left k pa base mid with
      | true=>
       rw[if_pos rfl]
       exact kasC_pure ⟨rfl,rfl,mid+1,hi,rfl,by lia,h2,fun i hi'=>mono i mid (by lia) (by lia) hB,h4,by lia⟩
      | false=>
       rw[if_neg Bool.false_ne_true]
       refine kasC_pure ⟨rfl,rfl,lo,mid,rfl,by lia,by lia,h3,fun i a b=>?_,by lia⟩
       cases hi2:bey key left k pa base i with
       | false=>rfl
       | true=>rw[mono mid i a b hi2] at hB;cases hB
    ·rintro c st' s' ⟨e1,e2,lo,hi,rfl,h1,h2,h3,h4,h5⟩
     rw[e1,e2]
     dsimp only
     have e:lo=hi:=by lia
     subst e
     exact kasC_pure (h lo h2 h3 h4)
   ·rw[if_neg ho]
    refine kasC_bind (ask (hint+ofs) (by lia) _ ?_)
    dsimp only
    cases hB:bey key left k pa base (hint+ofs) with
    | true=>
     simp only[Bool.not_true,Bool.false_eq_true,if_false]
     exact kasC_pure ⟨rfl,rfl,ofs,2 * ofs+1,rfl,by lia,by lia,by lia,hB⟩
    | false=>
     simp only[Bool.not_false,if_true]
     apply kasC_pure
     dsimp only
     have LH:=nxt last ofs h1 h3 h4 (.inr hB)
     apply kasC_bind
     apply kasC_range
     refine bJ (fun x c st' s'=>st'=st∧s'=s∧∃ lo hi,c=(none,lo,hi)∧lo≤hi∧hi≤m∧(∀ i,i<lo→bey key left k pa base i=true)∧(∀ i,hi≤i→i<m→bey key left k pa base i=false)∧hi - lo≤m - x) ?_ _ 0 _ _ _ ?_ ⟨rfl,rfl,_,_,rfl,LH⟩
     ·rintro x c st' s' ⟨e1,e2,lo,hi,rfl,h1,h2,h3,h4,h5⟩
      rw[e1,e2]
      dsimp only
      by_cases hlh:lo ≥ hi
      ·rw[if_pos hlh]
       apply kasC_pure
       dsimp only
       have e:lo=hi:=by lia
       subst e
       exact kasC_pure (h lo h2 h3 h4)
      ·rw[if_neg hlh]
       have m1:lo≤lo+(hi - lo) / 2:=by lia
       have m2:lo+(hi - lo) / 2<hi:=by lia
       generalize lo+(hi - lo) / 2=mid at m1 m2 ⊢
       refine kasC_bind (ask mid (by lia) _ ?_)
       dsimp only
       cases hB:bey key left k pa base mid with
       | true=>
        rw[if_pos rfl]
        exact kasC_pure ⟨rfl,rfl,mid+1,hi,rfl,by lia,h2,fun i hi'=>mono i mid (by lia) (by lia) hB,h4,by lia⟩
       | false=>
        rw[if_neg Bool.false_ne_true]
        refine kasC_pure ⟨rfl,rfl,lo,mid,rfl,by lia,by lia,h3,fun i a b=>?_,by lia⟩
        cases hi2:bey key left k pa base i with
        | false=>rfl
        | true=>rw[mono mid i a b hi2] at hB;cases hB
     ·rintro c st' s' ⟨e1,e2,lo,hi,rfl,h1,h2,h3,h4,h5⟩
      rw[e1,e2]
      dsimp only
      have e:lo=hi:=by lia
      subst e
      exact kasC_pure (h lo h2 h3 h4)
  ·rintro c st' s' ⟨e1,e2,last,ofs,rfl,h1,h2,h3,h4⟩
   rw[e1,e2]
   dsimp only
   have LH:=nxt last ofs h1 h3 h4 (.inl (by lia))
   apply kasC_bind
   apply kasC_range
   refine bJ (fun x c st' s'=>st'=st∧s'=s∧∃ lo hi,c=(none,lo,hi)∧lo≤hi∧hi≤m∧(∀ i,i<lo→bey key left k pa base i=true)∧(∀ i,hi≤i→i<m→bey key left k pa base i=false)∧hi - lo≤m - x) ?_ _ 0 _ _ _ ?_ ⟨rfl,rfl,_,_,rfl,LH⟩
   ·rintro x c st' s' ⟨e1,e2,lo,hi,rfl,h1,h2,h3,h4,h5⟩
    rw[e1,e2]
    dsimp only
    by_cases hlh:lo ≥ hi
    ·rw[if_pos hlh]
     apply kasC_pure
     dsimp only
     have e:lo=hi:=by lia
     subst e
     exact kasC_pure (h lo h2 h3 h4)
    ·rw[if_neg hlh]
     have m1:lo≤lo+(hi - lo) / 2:=by lia
     have m2:lo+(hi - lo) / 2<hi:=by lia
     generalize lo+(hi - lo) / 2=mid at m1 m2 ⊢
     refine kasC_bind (ask mid (by lia) _ ?_)
     dsimp only
     cases hB:bey key left k pa base mid with
     | true=>
      rw[if_pos rfl]
      exact kasC_pure ⟨rfl,rfl,mid+1,hi,rfl,by lia,h2,fun i hi'=>mono i mid (by lia) (by lia) hB,h4,by lia⟩
     | false=>
      rw[if_neg Bool.false_ne_true]
      refine kasC_pure ⟨rfl,rfl,lo,mid,rfl,by lia,by lia,h3,fun i a b=>?_,by lia⟩
      cases hi2:bey key left k pa base i with
      | false=>rfl
      | true=>rw[mono mid i a b hi2] at hB;cases hB
   ·rintro c st' s' ⟨e1,e2,lo,hi,rfl,h1,h2,h3,h4,h5⟩
    rw[e1,e2]
    dsimp only
    have e:lo=hi:=by lia
    subst e
    exact kasC_pure (h lo h2 h3 h4)
 | false=>
  rw[if_neg Bool.false_ne_true]
  apply kasC_bind
  apply kasC_range
  have nxt:∀ last ofs,last<ofs→last≤hint→bey key left k pa base (hint - last)=false→(ofs ≥ hint+1∨bey key left k pa base (hint - ofs)=true)→
    hint+1 - min ofs (hint+1)≤hint - last∧hint - last≤m∧(∀ i,i<hint+1 - min ofs (hint+1)→bey key left k pa base i=true)∧(∀ i,hint - last≤i→i<m→bey key left k pa base i=false)∧hint - last - (hint+1 - min ofs (hint+1))≤m - 0:=fun last ofs a1 a2 a3 a4=>by
   refine⟨by lia,by lia,fun i hi=>?_,fun i h1 h2=>?_,by lia⟩
   ·rcases a4 with a4 | a4
    ·lia
    ·exact mono i (hint - ofs) (by lia) (by lia) a4
   ·cases hi2:bey key left k pa base i with
    | false=>rfl
    | true=>rw[mono (hint - last) i (by lia) h2 hi2] at a3;cases a3
  refine bJ (fun x c st' s'=>st'=st∧s'=s∧∃ last ofs,c=(none,last,ofs)∧last<ofs∧x<ofs∧last≤hint∧bey key left k pa base (hint - last)=false) ?_ _ 0 _ _ _ ?_ ⟨rfl,rfl,0,1,rfl,by lia,by lia,by lia,hB0⟩
  ·rintro x c st' s' ⟨e1,e2,last,ofs,rfl,h1,h2,h3,h4⟩
   rw[e1,e2]
   dsimp only
   by_cases ho:ofs ≥ hint+1
   ·rw[if_pos ho]
    apply kasC_pure
    dsimp only
    have LH:=nxt last ofs h1 h3 h4 (.inl ho)
    apply kasC_bind
    apply kasC_range
    refine bJ (fun x c st' s'=>st'=st∧s'=s∧∃ lo hi,c=(none,lo,hi)∧lo≤hi∧hi≤m∧(∀ i,i<lo→bey key left k pa base i=true)∧(∀ i,hi≤i→i<m→bey key left k pa base i=false)∧hi - lo≤m - x) ?_ _ 0 _ _ _ ?_ ⟨rfl,rfl,_,_,rfl,LH⟩
    ·rintro x c st' s' ⟨e1,e2,lo,hi,rfl,h1,h2,h3,h4,h5⟩
     rw[e1,e2]
     dsimp only
     by_cases hlh:lo ≥ hi
     ·rw[if_pos hlh]
      apply kasC_pure
      dsimp only
      have e:lo=hi:=by lia
      subst e
      exact kasC_pure (h lo h2 h3 h4)
     ·rw[if_neg hlh]
      have m1:lo≤lo+(hi - lo) / 2:=by lia
      have m2:lo+(hi - lo) / 2<hi:=by lia
      generalize lo+(hi - lo) / 2=mid at m1 m2 ⊢
      refine kasC_bind (ask mid (by lia) _ ?_)
      dsimp only
      cases hB:bey key left k pa base mid with
      | true=>
       rw[if_pos rfl]
       exact kasC_pure ⟨rfl,rfl,mid+1,hi,rfl,by lia,h2,fun i hi'=>mono i mid (by lia) (by lia) hB,h4,by lia⟩
      | false=>
       rw[if_neg Bool.false_ne_true]
       refine kasC_pure ⟨rfl,rfl,lo,mid,rfl,by lia,by lia,h3,fun i a b=>?_,by lia⟩
       cases hi2:bey key left k pa base i with
       | false=>rfl
       | true=>rw[mono mid i a b hi2] at hB;cases hB
    ·rintro c st' s' ⟨e1,e2,lo,hi,rfl,h1,h2,h3,h4,h5⟩
     rw[e1,e2]
     dsimp only
     have e:lo=hi:=by lia
     subst e
     exact kasC_pure (h lo h2 h3 h4)
   ·rw[if_neg ho]
    refine kasC_bind (ask (hint - ofs) (by lia) _ ?_)
    dsimp only
    cases hB:bey key left k pa base (hint - ofs) with
    | false=>
     rw[if_neg Bool.false_ne_true]
     exact kasC_pure ⟨rfl,rfl,ofs,2 * ofs+1,rfl,by lia,by lia,by lia,hB⟩
    | true=>
     rw[if_pos rfl]
     apply kasC_pure
     dsimp only
     have LH:=nxt last ofs h1 h3 h4 (.inr hB)
     apply kasC_bind
     apply kasC_range
     refine bJ (fun x c st' s'=>st'=st∧s'=s∧∃ lo hi,c=(none,lo,hi)∧lo≤hi∧hi≤m∧(∀ i,i<lo→bey key left k pa base i=true)∧(∀ i,hi≤i→i<m→bey key left k pa base i=false)∧hi - lo≤m - x) ?_ _ 0 _ _ _ ?_ ⟨rfl,rfl,_,_,rfl,LH⟩
     ·rintro x c st' s' ⟨e1,e2,lo,hi,rfl,h1,h2,h3,h4,h5⟩
      rw[e1,e2]
      dsimp only
      by_cases hlh:lo ≥ hi
      ·rw[if_pos hlh]
       apply kasC_pure
       dsimp only
       have e:lo=hi:=by lia
       subst e
       exact kasC_pure (h lo h2 h3 h4)
      ·rw[if_neg hlh]
       have m1:lo≤lo+(hi - lo) / 2:=by lia
       have m2:lo+(hi - lo) / 2<hi:=by lia
       generalize lo+(hi - lo) / 2=mid at m1 m2 ⊢
       refine kasC_bind (ask mid (by lia) _ ?_)
       dsimp only
       cases hB:bey key left k pa base mid with
       | true=>
        rw[if_pos rfl]
        exact kasC_pure ⟨rfl,rfl,mid+1,hi,rfl,by lia,h2,fun i hi'=>mono i mid (by lia) (by lia) hB,h4,by lia⟩
       | false=>
        rw[if_neg Bool.false_ne_true]
        refine kasC_pure ⟨rfl,rfl,lo,mid,rfl,by lia,by lia,h3,fun i a b=>?_,by lia⟩
        cases hi2:bey key left k pa base i with
        | false=>rfl
        | true=>rw[mono mid i a b hi2] at hB;cases hB
     ·rintro c st' s' ⟨e1,e2,lo,hi,rfl,h1,h2,h3,h4,h5⟩
      rw[e1,e2]
      dsimp only
      have e:lo=hi:=by lia
      subst e
      exact kasC_pure (h lo h2 h3 h4)
  ·rintro c st' s' ⟨e1,e2,last,ofs,rfl,h1,h2,h3,h4⟩
   rw[e1,e2]
   dsimp only
   have LH:=nxt last ofs h1 h3 h4 (.inl (by lia))
   apply kasC_bind
   apply kasC_range
   refine bJ (fun x c st' s'=>st'=st∧s'=s∧∃ lo hi,c=(none,lo,hi)∧lo≤hi∧hi≤m∧(∀ i,i<lo→bey key left k pa base i=true)∧(∀ i,hi≤i→i<m→bey key left k pa base i=false)∧hi - lo≤m - x) ?_ _ 0 _ _ _ ?_ ⟨rfl,rfl,_,_,rfl,LH⟩
   ·rintro x c st' s' ⟨e1,e2,lo,hi,rfl,h1,h2,h3,h4,h5⟩
    rw[e1,e2]
    dsimp only
    by_cases hlh:lo ≥ hi
    ·rw[if_pos hlh]
     apply kasC_pure
     dsimp only
     have e:lo=hi:=by lia
     subst e
     exact kasC_pure (h lo h2 h3 h4)
    ·rw[if_neg hlh]
     have m1:lo≤lo+(hi - lo) / 2:=by lia
     have m2:lo+(hi - lo) / 2<hi:=by lia
     generalize lo+(hi - lo) / 2=mid at m1 m2 ⊢
     refine kasC_bind (ask mid (by lia) _ ?_)
     dsimp only
     cases hB:bey key left k pa base mid with
     | true=>
      rw[if_pos rfl]
      exact kasC_pure ⟨rfl,rfl,mid+1,hi,rfl,by lia,h2,fun i hi'=>mono i mid (by lia) (by lia) hB,h4,by lia⟩
     | false=>
      rw[if_neg Bool.false_ne_true]
      refine kasC_pure ⟨rfl,rfl,lo,mid,rfl,by lia,by lia,h3,fun i a b=>?_,by lia⟩
      cases hi2:bey key left k pa base i with
      | false=>rfl
      | true=>rw[mono mid i a b hi2] at hB;cases hB
   ·rintro c st' s' ⟨e1,e2,lo,hi,rfl,h1,h2,h3,h4,h5⟩
    rw[e1,e2]
    dsimp only
    have e:lo=hi:=by lia
    subst e
    exact kasC_pure (h lo h2 h3 h4)
end
section
variable {key:Nat→Int}
noncomputable def Srt (key:Nat→Int) (l:List Nat):Prop:=l.Pairwise fun x y=>key x≤key y
structure MLo (key:Nat→Int) (la lb:List Nat) (po:List Nat) (ia ib:Nat):Prop where
 perm:po.Perm (la.take ia++lb.take ib)
 sa:Srt key (po++la.drop ia)
 sb:Srt key (po++lb.drop ib)
 pa:ia+1<la.length
 pb:ib<lb.length
theorem br {l m:List Nat}:Srt key (l++m)↔Srt key l∧Srt key m∧∀ x∈l,∀ y∈m,key x≤key y:=List.pairwise_append
theorem gm (l:List Nat) (i k:Nat):l.take i++(l.drop i).take k=l.take (i+k):=by rw[List.take_add]
theorem fE {la lb po:List Nat}{ia ib:Nat} (k:Nat) (perm:po.Perm (la.take ia++lb.take ib)) (sa:Srt key (po++la.drop ia)) (sb:Srt key (po++lb.drop ib)) (h:∀ x∈(la.drop ia).take k,∀ y∈lb.drop ib,key x≤key y):
  (po++(la.drop ia).take k).Perm (la.take (ia+k)++lb.take ib)∧Srt key (po++(la.drop ia).take k++la.drop (ia+k))∧Srt key (po++(la.drop ia).take k++lb.drop ib):=by
 refine⟨?_,?_,?_⟩
 ·rw[← gm la ia k]
  refine (perm.append_right _).trans ?_
  rw[List.append_assoc,List.append_assoc]
  exact List.Perm.append_left _ List.perm_append_comm
 ·rw[List.append_assoc,← List.drop_drop,List.take_append_drop]
  exact sa
 ·rw[List.append_assoc]
  have s1:=br.mp sa
  have s2:=br.mp sb
  refine br.mpr ⟨s1.1,br.mpr ⟨s1.2.1.sublist (List.take_sublist _ _),s2.2.1,h⟩,fun x hx y hy=>?_⟩
  rcases List.mem_append.mp hy with hy | hy
  ·exact s1.2.2 x hx y (List.mem_of_mem_take hy)
  ·exact s2.2.2 x hx y hy
theorem ic {la lb po:List Nat}{ia ib:Nat} (k:Nat) (perm:po.Perm (la.take ia++lb.take ib)) (sa:Srt key (po++la.drop ia)) (sb:Srt key (po++lb.drop ib)) (h:∀ x∈(lb.drop ib).take k,∀ y∈la.drop ia,key x≤key y):
  (po++(lb.drop ib).take k).Perm (la.take ia++lb.take (ib+k))∧Srt key (po++(lb.drop ib).take k++la.drop ia)∧Srt key (po++(lb.drop ib).take k++lb.drop (ib+k)):=by
 have:=fE (la:=lb) (lb:=la) k (perm.trans List.perm_append_comm) sb sa h
 exact⟨this.1.trans List.perm_append_comm,this.2.2,this.2.1⟩
theorem bK {l:List Nat}{i:Nat} (h:i<l.length):(l.drop i).take 1=[l.getD i 0]:=by
 rw[List.drop_eq_getElem_cons h,List.getD_eq_getElem?_getD,List.getElem?_eq_getElem h]
 rfl
theorem bT {l:List Nat}{i y:Nat} (h:y∈l.drop i):∃ j,i≤j∧j<l.length∧y=l.getD j 0:=by
 obtain⟨j,hj,e⟩:=List.mem_iff_getElem.mp h
 have hl:=hj
 rw[List.length_drop] at hl
 exact⟨i+j,by lia,by lia,by rw[← e,List.getElem_drop];simp[List.getD,show i+j<l.length by lia]⟩
theorem fF {l:List Nat}{i k y:Nat} (h:y∈(l.drop i).take k):∃ j,j<k∧i+j<l.length∧y=l.getD (i+j) 0:=by
 obtain⟨j,hj,e⟩:=List.mem_iff_getElem.mp h
 have hl:=hj
 rw[List.length_take,List.length_drop] at hl
 exact⟨j,by lia,by lia,by rw[← e,List.getElem_take,List.getElem_drop];simp[List.getD,show i+j<l.length by lia]⟩
theorem fG {l:List Nat} (h:Srt key l) {i j:Nat} (hij:i≤j) (hj:j<l.length):key (l.getD i 0)≤key (l.getD j 0):=by
 rcases Nat.lt_or_eq_of_le hij with hlt | rfl
 ·have:=List.pairwise_iff_getElem.mp h i j (by lia) hj hlt
  simpa [List.getD,hj,show i<l.length by lia] using this
 ·exact Int.le_refl _
theorem nQ {l m:List Nat} (h:Srt key (l++m)):Srt key m:=(br.mp h).2.1
theorem ef {po l:List Nat}{i j k:Nat} (h:Srt key (po++l.drop i)) (hj:i≤j) (hjk:j≤k) (hk:k<l.length):key (l.getD j 0)≤key (l.getD k 0):=by
 have:=fG (nQ h) (i:=j - i) (j:=k - i) (by lia) (by rw[List.length_drop];lia)
 simpa [List.getD,List.getElem?_drop,show i+(j - i)=j by lia,show i+(k - i)=k by lia] using this
noncomputable def Mrg (key:Nat→Int) (it:Array Keyed) (la lb:List Nat) (out:Array Keyed):Prop:=∃ po:List Nat,out=(po.map (kas_item it)).toArray∧po.Perm (la++lb)∧Srt key po
theorem fH {it:Array Keyed}{la lb po:List Nat}{ia ib:Nat} (perm:po.Perm (la.take ia++lb.take ib)) (sa:Srt key (po++la.drop ia)) (sb:Srt key (po++lb.drop ib)) (hib:ib=lb.length∨ia=la.length):
  Mrg key it la lb ((po.map (kas_item it)).toArray++(la.map (kas_item it)).toArray.extract ia la.length++(lb.map (kas_item it)).toArray.extract ib lb.length):=by
 refine⟨po++la.drop ia++lb.drop ib,?_,?_,?_⟩
 ·apply Array.ext'
  simp[List.map_drop,List.take_of_length_le]
 ·rw[List.append_assoc]
  refine (perm.append_right _).trans ?_
  have:(la.take ia++lb.take ib++(la.drop ia++lb.drop ib)).Perm ((la.take ia++la.drop ia)++(lb.take ib++lb.drop ib)):=by
   rw[List.append_assoc,List.append_assoc]
   refine List.Perm.append_left _ ?_
   rw[← List.append_assoc,← List.append_assoc]
   exact List.Perm.append_right _ List.perm_append_comm
  rw[List.take_append_drop,List.take_append_drop] at this
  exact this
 ·rcases hib with e | e
  ·rw[e,List.drop_length,List.append_nil]
   exact sa
  ·rw[e,List.drop_length,List.append_nil]
   exact sb
theorem fI {it:Array Keyed}{la lb po:List Nat}{ia ib:Nat} (perm:po.Perm (la.take ia++lb.take ib)) (sa:Srt key (po++la.drop ia)) (sb:Srt key (po++lb.drop ib)) (hia:ia+1=la.length) (top:∀ x∈lb,key x≤key (la.getD (la.length - 1) 0)):
  Mrg key it la lb ((po.map (kas_item it)).toArray++(lb.map (kas_item it)).toArray.extract ib lb.length++(la.map (kas_item it)).toArray.extract ia la.length):=by
 refine⟨po++lb.drop ib++la.drop ia,?_,?_,?_⟩
 ·apply Array.ext'
  simp[List.map_drop,List.take_of_length_le]
 ·rw[List.append_assoc]
  refine (perm.append_right _).trans ?_
  have:(la.take ia++lb.take ib++(lb.drop ib++la.drop ia)).Perm ((la.take ia++la.drop ia)++(lb.take ib++lb.drop ib)):=by
   rw[List.append_assoc,List.append_assoc]
   refine List.Perm.append_left _ ?_
   rw[← List.append_assoc]
   exact List.perm_append_comm
  rw[List.take_append_drop,List.take_append_drop] at this
  exact this
 ·refine br.mpr ⟨sb,nQ sa,fun x hx y hy=>?_⟩
  rcases List.mem_append.mp hx with hx | hx
  ·exact (br.mp sa).2.2 x hx y hy
  ·obtain⟨j,h1,h2,rfl⟩:=bT hy
   have:j=la.length - 1:=by lia
   rw[this]
   exact top x (List.mem_of_mem_drop hx)
end
section
variable {prog:Program}{w:World}{A:Around}{E:Value→Shared→Prop}{κ:SortKind}{it:Array Keyed}{key:Nat→Int}{n:Nat}{s:Shared}
noncomputable def nR:Array Keyed→Array Keyed→StateT SortSt Sem (Array Keyed):=sortPriv% PySem.Builtin.mergeLo
structure SameSt (st0 st:SortSt):Prop where
 k:kindOf st=kindOf st0
 a:arrOf st=arrOf st0
 p:pendingOf st=pendingOf st0
 f:failedOf st=failedOf st0
theorem SameSt.refl (st:SortSt):SameSt st st:=⟨rfl,rfl,rfl,rfl⟩
theorem bU {σ α:Type}{M:Model}{m:StateT σ Sem α}{Q Q':α→σ→Shared→Prop}{st:σ}{s':Shared} (h:kasC M A E m Q' st s') (g:∀ a st s',Q' a st s'→Q a st s'):kasC M A E m Q st s':=
 wpAny_mono h (fun r s' x=>g r.1 r.2 s' x) fun _ _ e=>e
theorem aV {l:List Nat}{i:Nat} (hi:i<l.length) {st:SortSt}{Q:Keyed→SortSt→Shared→Prop} (h:Q (kas_item it (l.getD i 0)) st s):kasC (model prog w) A E (elem' (l.map (kas_item it)).toArray i) Q st s:=by
 rw[elem'_eq,show ((l.map (kas_item it)).toArray)[i]?=some (kas_item it (l.getD i 0)) by simp[List.getD,hi]]
 exact kasC_pure h
theorem cf {l:List Nat} (hl:∀ x∈l,x<n) {i:Nat} (hi:i<l.length):l.getD i 0<n:=by
 rw[List.getD_eq_getElem?_getD,List.getElem?_eq_getElem hi]
 exact hl _ (List.getElem_mem hi)
theorem dM (l:List Nat) (i:Nat):l.toArray.getD i 0=l.getD i 0:=by simp[Array.getD,List.getD];split<;>simp_all
theorem kK (hc:bp n key (kas_cmp prog w A κ it) s) {k:Nat} (hk:k<n) {l:List Nat} (hl:∀ x∈l,x<n) {base m hint:Nat} (hb:base+m≤l.length) (hh:hint<m)
  (mono:∀ i j,base≤i→i≤j→j<base+m→key (l.getD i 0)≤key (l.getD j 0)) {st:SortSt} (hkind:kindOf st=κ) {Q:Option Nat→SortSt→Shared→Prop}
  (h:∀ r,r≤m→(∀ i,base≤i→i<base+r→key (l.getD i 0)≤key k)→(∀ i,base+r≤i→i<base+m→key k<key (l.getD i 0))→Q (some r) st s):
  kasC (model prog w) A E (jd false (kas_item it k) (l.map (kas_item it)).toArray base m hint) Q st s:=by
 rw[← List.map_toArray]
 refine nP hc hk (fun i hi=>by rw[dM];exact cf hl (by simpa using hi)) (by simpa using hb) hh (fun i j hij hj hB=>?_) hkind fun r hr a b=>h r hr (fun i h1 h2=>?_) (fun i h1 h2=>?_)
 ·simp only[bey,dM,Bool.false_eq_true,if_false,Bool.not_eq_true',decide_eq_false_iff_not,Int.not_lt] at hB ⊢
  have:=mono (base+i) (base+j) (by lia) (by lia) (by lia)
  lia
 ·have:=a (i - base) (by lia)
  simp only[bey,dM,Bool.false_eq_true,if_false,Bool.not_eq_true',decide_eq_false_iff_not,Int.not_lt] at this
  rwa [show base+(i - base)=i by lia] at this
 ·have:=b (i - base) (by lia) (by lia)
  simp only[bey,dM,Bool.false_eq_true,if_false,Bool.not_eq_false',decide_eq_true_eq] at this
  rwa [show base+(i - base)=i by lia] at this
theorem ie (hc:bp n key (kas_cmp prog w A κ it) s) {k:Nat} (hk:k<n) {l:List Nat} (hl:∀ x∈l,x<n) {base m hint:Nat} (hb:base+m≤l.length) (hh:hint<m)
  (mono:∀ i j,base≤i→i≤j→j<base+m→key (l.getD i 0)≤key (l.getD j 0)) {st:SortSt} (hkind:kindOf st=κ) {Q:Option Nat→SortSt→Shared→Prop}
  (h:∀ r,r≤m→(∀ i,base≤i→i<base+r→key (l.getD i 0)<key k)→(∀ i,base+r≤i→i<base+m→key k≤key (l.getD i 0))→Q (some r) st s):
  kasC (model prog w) A E (jd true (kas_item it k) (l.map (kas_item it)).toArray base m hint) Q st s:=by
 rw[← List.map_toArray]
 refine nP hc hk (fun i hi=>by rw[dM];exact cf hl (by simpa using hi)) (by simpa using hb) hh (fun i j hij hj hB=>?_) hkind fun r hr a b=>h r hr (fun i h1 h2=>?_) (fun i h1 h2=>?_)
 ·simp only[bey,dM,if_true,decide_eq_true_eq] at hB ⊢
  have:=mono (base+i) (base+j) (by lia) (by lia) (by lia)
  lia
 ·have:=a (i - base) (by lia)
  simp only[bey,dM,if_true,decide_eq_true_eq] at this
  rwa [show base+(i - base)=i by lia] at this
 ·have:=b (i - base) (by lia) (by lia)
  simp only[bey,dM,if_true,decide_eq_false_iff_not,Int.not_lt] at this
  rwa [show base+(i - base)=i by lia] at this
theorem aW (po:List Nat) (y:Nat):(po.map (kas_item it)).toArray.push (kas_item it y)=((po++[y]).map (kas_item it)).toArray:=by simp
theorem bL (po l:List Nat) (i k:Nat):(po.map (kas_item it)).toArray++(l.map (kas_item it)).toArray.extract i (i+k)=((po++(l.drop i).take k).map (kas_item it)).toArray:=by
 apply Array.ext'
 simp[List.map_drop,List.map_take,List.drop_take]
end
section
variable {prog:Program}{w:World}{A:Around}{E:Value→Shared→Prop}{κ:SortKind}{it:Array Keyed}{key:Nat→Int}{n:Nat}{s:Shared}
noncomputable def JLo (key:Nat→Int) (it:Array Keyed) (la lb:List Nat) (out:Array Keyed) (ia ib:Nat):Prop:=∃ po:List Nat,out=(po.map (kas_item it)).toArray∧MLo key la lb po ia ib
theorem nU {M:Model}{A:Around}{E:Value→Shared→Prop}{σ α:Type}{c:Nat→Prop}{dc:∀ g,Decidable (c g)}{a P:Nat→StateT σ Sem α}{Q:α→σ→Shared→Prop}{st:σ}{s:Shared} (x:Nat→Nat) (ha:∀ g,a g=P (x g)) (H:∀ g,kasC M A E (P g) Q st s):∀ g,kasC M A E (if c g then a g else P g) Q st s:=by
 intro g
 rw[ha]
 split
 ·exact H _
 ·exact H _
noncomputable def LoA (key:Nat→Int) (it:Array Keyed) (la lb:List Nat) (st:SortSt) (s:Shared)  : Option (Array Keyed)×Array Keyed×Nat×Nat×Nat→SortSt→Shared→Prop:=fun c st' s'=>s=s'∧SameSt st st'∧∃ out' p q r g,c=(some out',p,q,r,g)∧Mrg key it la lb out'
noncomputable def LoI (key:Nat→Int) (it:Array Keyed) (la lb:List Nat) (st:SortSt) (s:Shared) (x:Nat):Option (Array Keyed)×Array Keyed×Nat×Nat×Nat→SortSt→Shared→Prop:=fun c st' s'=>s=s'∧SameSt st st'∧∃ o ia ib g,c=(none,o,ia,ib,g)∧JLo key it la lb o ia ib∧x+1≤ia+ib
noncomputable def LoB (key:Nat→Int) (it:Array Keyed) (la lb:List Nat) (st:SortSt) (s:Shared) (x:Nat):Option (Array Keyed)×Array Keyed×Nat×Nat×Nat×Nat→SortSt→Shared→Prop:=fun c st' s'=>s=s'∧SameSt st st'∧((∃ out' p q r ac bc,c=(some out',p,q,r,ac,bc)∧Mrg key it la lb out')∨∃ o ia ib ac bc,c=(none,o,ia,ib,ac,bc)∧JLo key it la lb o ia ib∧x+2≤ia+ib)
noncomputable def LoJ (key:Nat→Int) (it:Array Keyed) (la lb:List Nat) (st:SortSt) (s:Shared) (x y:Nat):Option (Array Keyed)×Array Keyed×Nat×Nat×Nat×Nat→SortSt→Shared→Prop:=fun c st' s'=>s=s'∧SameSt st st'∧∃ o ia ib ac bc,c=(none,o,ia,ib,ac,bc)∧JLo key it la lb o ia ib∧x+1+y≤ia+ib
noncomputable def LoC (key:Nat→Int) (it:Array Keyed) (la lb:List Nat) (st:SortSt) (s:Shared) (x:Nat):Option (Array Keyed)×Array Keyed×Nat×Nat×Nat×Nat×Nat→SortSt→Shared→Prop:=fun c st' s'=>s=s'∧SameSt st st'∧((∃ out' p q r g ac bc,c=(some out',p,q,r,g,ac,bc)∧Mrg key it la lb out')∨∃ o ia ib g ac bc,c=(none,o,ia,ib,g,ac,bc)∧JLo key it la lb o ia ib∧x+2≤ia+ib)
noncomputable def LoK (key:Nat→Int) (it:Array Keyed) (la lb:List Nat) (st:SortSt) (s:Shared) (x y:Nat):Option (Array Keyed)×Array Keyed×Nat×Nat×Nat×Nat×Nat→SortSt→Shared→Prop:=fun c st' s'=>s=s'∧SameSt st st'∧∃ o ia ib g ac bc,c=(none,o,ia,ib,g,ac,bc)∧JLo key it la lb o ia ib∧x+2≤ia+ib
theorem LoA.a {key:Nat→Int}{it:Array Keyed}{la lb:List Nat}{st st':SortSt}{s:Shared}{out:Array Keyed}{p:Array Keyed}{q r:Nat}{g:Nat} (h:SameSt st st') (m:Mrg key it la lb out):LoA key it la lb st s (some out,p,q,r,g) st' s:=⟨rfl,h,_,_,_,_,_,rfl,m⟩
theorem LoI.k {key:Nat→Int}{it:Array Keyed}{la lb:List Nat}{st st':SortSt}{s:Shared}{x:Nat}{o:Array Keyed}{ia ib:Nat}{g:Nat} (h:SameSt st st') (j:JLo key it la lb o ia ib) (e:x+1≤ia+ib):LoI key it la lb st s x (none,o,ia,ib,g) st' s:=⟨rfl,h,_,_,_,_,rfl,j,e⟩
theorem LoB.a {key:Nat→Int}{it:Array Keyed}{la lb:List Nat}{st st':SortSt}{s:Shared}{x:Nat}{out:Array Keyed}{p:Array Keyed}{q r:Nat}{g g2:Nat} (h:SameSt st st') (m:Mrg key it la lb out):LoB key it la lb st s x (some out,p,q,r,g,g2) st' s:=⟨rfl,h,.inl ⟨_,_,_,_,_,_,rfl,m⟩⟩
theorem LoB.b {key:Nat→Int}{it:Array Keyed}{la lb:List Nat}{st st':SortSt}{s:Shared}{x:Nat}{o:Array Keyed}{ia ib:Nat}{g g2:Nat} (h:SameSt st st') (j:JLo key it la lb o ia ib) (e:x+2≤ia+ib):LoB key it la lb st s x (none,o,ia,ib,g,g2) st' s:=⟨rfl,h,.inr ⟨_,_,_,_,_,rfl,j,e⟩⟩
theorem LoJ.k {key:Nat→Int}{it:Array Keyed}{la lb:List Nat}{st st':SortSt}{s:Shared}{x y:Nat}{o:Array Keyed}{ia ib:Nat}{g g2:Nat} (h:SameSt st st') (j:JLo key it la lb o ia ib) (e:x+1+y≤ia+ib):LoJ key it la lb st s x y (none,o,ia,ib,g,g2) st' s:=⟨rfl,h,_,_,_,_,_,rfl,j,e⟩
theorem LoC.a {key:Nat→Int}{it:Array Keyed}{la lb:List Nat}{st st':SortSt}{s:Shared}{x:Nat}{out:Array Keyed}{p:Array Keyed}{q r:Nat}{g g2 g3:Nat} (h:SameSt st st') (m:Mrg key it la lb out):LoC key it la lb st s x (some out,p,q,r,g,g2,g3) st' s:=⟨rfl,h,.inl ⟨_,_,_,_,_,_,_,rfl,m⟩⟩
theorem LoC.b {key:Nat→Int}{it:Array Keyed}{la lb:List Nat}{st st':SortSt}{s:Shared}{x:Nat}{o:Array Keyed}{ia ib:Nat}{g g2 g3:Nat} (h:SameSt st st') (j:JLo key it la lb o ia ib) (e:x+2≤ia+ib):LoC key it la lb st s x (none,o,ia,ib,g,g2,g3) st' s:=⟨rfl,h,.inr ⟨_,_,_,_,_,_,rfl,j,e⟩⟩
theorem LoK.k {key:Nat→Int}{it:Array Keyed}{la lb:List Nat}{st st':SortSt}{s:Shared}{x y:Nat}{o:Array Keyed}{ia ib:Nat}{g g2 g3:Nat} (h:SameSt st st') (j:JLo key it la lb o ia ib) (e:x+2≤ia+ib):LoK key it la lb st s x y (none,o,ia,ib,g,g2,g3) st' s:=⟨rfl,h,_,_,_,_,_,_,rfl,j,e⟩
theorem bq {a b:Nat} (h:a=b):(a == b)=true:=by simp[h]
theorem nbq {a b:Nat} (h:¬ a=b):¬ (a == b)=true:=by simp[h]
theorem vM (hc:bp n key (kas_cmp prog w A κ it) s) {la lb:List Nat} (hla:∀ x∈la,x<n) (hlb:∀ x∈lb,x<n) (sla:Srt key la) (slb:Srt key lb) (h0:0<la.length) (h1:0<lb.length)
  (first:∀ x∈la,key (lb.getD 0 0)≤key x) (top:∀ x∈lb,key x≤key (la.getD (la.length - 1) 0)) {st:SortSt} (hkind:kindOf st=κ) {Q:Array Keyed→SortSt→Shared→Prop}
  (h:∀ out st',Mrg key it la lb out→SameSt st st'→Q out st' s):
  kasC (model prog w) A E (nR (la.map (kas_item it)).toArray (lb.map (kas_item it)).toArray) Q st s:=by
 unfold nR
 with_unfolding_all refine kasC_bind (kasC_lift (wpAny_rule ?_))
 refine kasC_bind (aV h1 ?_)
 dsimp only
 generalize hza:(List.map (kas_item it) la).toArray.size=za
 obtain rfl:la.length=za:=by rw[← hza];simp
 generalize hzb:(List.map (kas_item it) lb).toArray.size=zb
 obtain rfl:lb.length=zb:=by rw[← hzb];simp
 have perm0:[lb.getD 0 0].Perm (la.take 0++lb.take 1):=by
  have:=bK (l:=lb) (i:=0) h1
  simp only[List.drop_zero] at this
  rw[this]
  exact List.Perm.refl _
 have sb0:Srt key ([lb.getD 0 0]++lb.drop 1):=by
  have:=bK (l:=lb) (i:=0) h1
  simp only[List.drop_zero] at this
  rw[← this,List.take_append_drop]
  exact slb
 have sa0:Srt key ([lb.getD 0 0]++la.drop 0):=br.mpr ⟨List.pairwise_singleton _ _,by rw[List.drop_zero];exact sla,fun x hx y hy=>by
  rw[List.mem_singleton.mp hx]
  exact first y (by rwa [List.drop_zero] at hy)⟩
 have e0:#[kas_item it (lb.getD 0 0)]=([lb.getD 0 0].map (kas_item it)).toArray:=rfl
 rw[e0]
 by_cases c1:1=lb.length
 ·rw[if_pos (bq c1)]
  exact kasC_pure (h _ _ (fH perm0 sa0 sb0 (.inl c1)) (SameSt.refl st))
 rw[if_neg (nbq c1)]
 by_cases c2:0+1=la.length
 ·rw[if_pos (bq c2)]
  exact kasC_pure (h _ _ (fI perm0 sa0 sb0 c2 top) (SameSt.refl st))
 rw[if_neg (nbq c2)]
 refine kasC_bind (kasC_get ?_)
 refine kasC_bind (bU (Q':=LoA key it la lb st s) (kasC_range (bJ (LoI key it la lb st s) ?step _ 0 _ _ _ ?fin (LoI.k (SameSt.refl st) ⟨_,rfl,perm0,sa0,sb0,by lia,by lia⟩ (by lia)))) ?after)
 case after=>
  rintro c st' s' ⟨rfl,hs,out',o,ia,ib,g,rfl,hm⟩
  exact kasC_pure (h _ _ hm hs)
 case fin=>
  rintro c st' s' ⟨rfl,hs,o,ia,ib,g,rfl,⟨po,rfl,m⟩,hx⟩
  have:=m.pa
  have:=m.pb
  lia
 case step=>
  rintro x c st' s' ⟨rfl,hs,o,ia,ib,g,rfl,hJ,hx⟩
  dsimp only
  refine kasC_bind (bU (Q':=LoB key it la lb st s x)
   (kasC_range (bJ (LoJ key it la lb st s x) ?step1 _ 0 _ _ _ ?fin1 (LoJ.k hs hJ (by lia)))) ?after1)
  case fin1=>
   rintro c st' s' ⟨rfl,hs,o,ia,ib,ac,bc,rfl,hJ,hx⟩
   exact LoB.b hs hJ (by lia)
  case step1=>
   rintro y c st' s' ⟨rfl,hs,o,ia,ib,ac,bc,rfl,⟨po,rfl,m⟩,hx⟩
   have m1:=m.pa
   have m2:=m.pb
   have hk':kindOf st'=κ:=hs.k.trans hkind
   dsimp only
   refine kasC_bind (aV m2 ?_)
   refine kasC_bind (aV (show ia<la.length by lia) ?_)
   refine kasC_bind (hZ hc (cf hlb m2) (cf hla (show ia<la.length by lia)) hk' ?_)
   dsimp only
   by_cases hw:key (lb.getD ib 0)<key (la.getD ia 0)
   ·rw[if_pos (by simpa using hw)]
    refine kasC_bind (aV m2 ?_)
    have b1:=ic 1 m.perm m.sa m.sb (fun x hx y hy=>by
     rw[bK m2,List.mem_singleton] at hx
     obtain⟨j,j1,j2,rfl⟩:=bT hy
     have:=ef m.sa (Nat.le_refl _) j1 j2
     rw[hx]
     lia)
    rw[bK m2] at b1
    rw[aW]
    try dsimp only
    by_cases hz:ib+1=lb.length
    ·rw[if_pos (bq hz)]
     exact kasC_pure (LoB.a hs (fH b1.1 b1.2.1 b1.2.2 (.inl hz)))
    ·rw[if_neg (nbq hz)]
     have J':JLo key it la lb ((po++[lb.getD ib 0]).map (kas_item it)).toArray ia (ib+1):=⟨_,rfl,b1.1,b1.2.1,b1.2.2,m1,by lia⟩
     by_cases hg:bc+1 ≥ g
     ·rw[if_pos hg]
      exact kasC_pure (LoB.b hs J' (by lia))
     ·rw[if_neg hg]
      exact kasC_pure (LoJ.k hs J' (by lia))
   ·rw[if_neg (by simpa using hw)]
    refine kasC_bind (aV (show ia<la.length by lia) ?_)
    have b1:=fE 1 m.perm m.sa m.sb (fun x hx y hy=>by
     rw[bK (show ia<la.length by lia),List.mem_singleton] at hx
     obtain⟨j,j1,j2,rfl⟩:=bT hy
     have:=ef m.sb (Nat.le_refl _) j1 j2
     rw[hx]
     lia)
    rw[bK (show ia<la.length by lia)] at b1
    rw[aW]
    try dsimp only
    by_cases hz:ia+1+1=la.length
    ·rw[if_pos (bq hz)]
     exact kasC_pure (LoB.a hs (fI b1.1 b1.2.1 b1.2.2 hz top))
    ·rw[if_neg (nbq hz)]
     have J':JLo key it la lb ((po++[la.getD ia 0]).map (kas_item it)).toArray (ia+1) ib:=⟨_,rfl,b1.1,b1.2.1,b1.2.2,by lia,m2⟩
     by_cases hg:ac+1 ≥ g
     ·rw[if_pos hg]
      exact kasC_pure (LoB.b hs J' (by lia))
     ·rw[if_neg hg]
      exact kasC_pure (LoJ.k hs J' (by lia))
  case after1=>
   rintro c st' s' ⟨rfl,hs,⟨out',o,ia,ib,ac,bc,rfl,hm⟩ | ⟨o,ia,ib,ac,bc,rfl,hJ,hx⟩⟩
   ·exact kasC_pure (LoA.a hs hm)
   ·dsimp only
    refine kasC_bind (kasC_lift (wpAny_rule ?_))
    try dsimp only
    refine kasC_bind (bU (Q':=LoC key it la lb st s x)
     (kasC_range (bJ (LoK key it la lb st s x) ?step2 _ 0 _ _ _ ?fin2 (LoK.k hs hJ (by lia)))) ?after2)
    case fin2=>
     rintro c st' s' ⟨rfl,hs,o,ia,ib,g,ac,bc,rfl,hJ,hx⟩
     exact LoC.b hs hJ (by lia)
    case after2=>
     rintro c st' s' ⟨rfl,hs,⟨out',o,ia,ib,g,ac,bc,rfl,hm⟩ | ⟨o,ia,ib,g,ac,bc,rfl,hJ,hx⟩⟩
     ·exact kasC_pure (LoA.a hs hm)
     ·dsimp only
      refine kasC_bind (kasC_modify ?_)
      exact kasC_pure (LoI.k ⟨hs.k,hs.a,hs.p,hs.f⟩ hJ (by lia))
    case step2=>
     rintro y c st' s' ⟨rfl,hs,o,ia,ib,g,ac,bc,rfl,⟨po,rfl,m⟩,hx⟩
     have m1:=m.pa
     have m2:=m.pb
     dsimp only
     revert g
     refine nU (fun g=>g - 1) ?ha ?_
     case ha=>exact fun g=>rfl
     intro g
     refine kasC_bind (kasC_modify ?_)
     refine kasC_bind (aV m2 ?_)
     refine kasC_bind (kK hc (cf hlb m2) hla (base:=ia) (m:=la.length - ia) (hint:=0) (by lia) (by lia) (fun i j a b c=>ef m.sa a b (by lia)) (by exact hs.k.trans hkind) ?_)
     intro k hk1 lo1 hi1
     dsimp only
     by_cases hk0:k > 0
     ·rw[if_pos hk0]
      have p1:=fE k m.perm m.sa m.sb (fun x hx y hy=>by
       obtain⟨j,j0,j1,rfl⟩:=fF hx
       obtain⟨j',a1,a2,rfl⟩:=bT hy
       have:=lo1 (ia+j) (by lia) (by lia)
       have:=ef m.sb (Nat.le_refl _) a1 a2
       lia)
      by_cases hz:ia+k+1=la.length
      ·rw[if_pos (bq hz)]
       exact kasC_pure (LoC.a ⟨hs.k,hs.a,hs.p,hs.f⟩ (by rw[bL];exact fI p1.1 p1.2.1 p1.2.2 hz top))
      rw[if_neg (nbq hz)]
      by_cases hz2:ia+k=la.length
      ·rw[if_pos (bq hz2)]
       exact kasC_pure (LoC.a ⟨hs.k,hs.a,hs.p,hs.f⟩ (by rw[bL];exact fH p1.1 p1.2.1 p1.2.2 (.inr hz2)))
      rw[if_neg (nbq hz2)]
      have hiA:∀ i,ia+k≤i→i<la.length→key (lb.getD ib 0)<key (la.getD i 0):=fun i a b=>hi1 i a (by lia)
      refine kasC_bind (aV m2 ?_)
      have p2:=ic 1 p1.1 p1.2.1 p1.2.2 (fun x hx y hy=>by
       rw[bK m2,List.mem_singleton] at hx
       obtain⟨j,j1,j2,rfl⟩:=bT hy
       have:=hiA j j1 j2
       rw[hx]
       lia)
      rw[bK m2] at p2
      by_cases hz3:ib+1=lb.length
      ·rw[if_pos (bq hz3)]
       exact kasC_pure (LoC.a ⟨hs.k,hs.a,hs.p,hs.f⟩ (by rw[bL,aW];exact fH p2.1 p2.2.1 p2.2.2 (.inl hz3)))
      rw[if_neg (nbq hz3)]
      refine kasC_bind (aV (show ia+k<la.length by lia) ?_)
      refine kasC_bind (ie hc (cf hla (show ia+k<la.length by lia)) hlb (base:=ib+1) (m:=lb.length - (ib+1)) (hint:=0) (by lia) (by lia) (fun i j a b c=>ef p2.2.2 a b (by lia)) (by exact hs.k.trans hkind) ?_)
      intro k2 hk2 lo2 hi2
      dsimp only
      by_cases hk3:k2 > 0
      ·rw[if_pos hk3]
       have p3:=ic k2 p2.1 p2.2.1 p2.2.2 (fun x hx y hy=>by
        obtain⟨j,j0,j1,rfl⟩:=fF hx
        obtain⟨j',a1,a2,rfl⟩:=bT hy
        have:=lo2 (ib+1+j) (by lia) (by lia)
        have:=ef p2.2.1 (Nat.le_refl _) a1 a2
        lia)
       by_cases hz4:ib+1+k2=lb.length
       ·rw[if_pos (bq hz4)]
        exact kasC_pure (LoC.a ⟨hs.k,hs.a,hs.p,hs.f⟩ (by rw[bL,aW,bL];exact fH p3.1 p3.2.1 p3.2.2 (.inl hz4)))
       rw[if_neg (nbq hz4)]
       have hiB:∀ i,ib+1+k2≤i→i<lb.length→key (la.getD (ia+k) 0)≤key (lb.getD i 0):=fun i a b=>hi2 i a (by lia)
       refine kasC_bind (aV (show ia+k<la.length by lia) ?_)
       have p4:=fE 1 p3.1 p3.2.1 p3.2.2 (fun x hx y hy=>by
        rw[bK (show ia+k<la.length by lia),List.mem_singleton] at hx
        obtain⟨j,j1,j2,rfl⟩:=bT hy
        have:=hiB j j1 j2
        rw[hx]
        exact this)
       rw[bK (show ia+k<la.length by lia)] at p4
       by_cases hz5:ia+k+1+1=la.length
       ·rw[if_pos (bq hz5)]
        exact kasC_pure (LoC.a ⟨hs.k,hs.a,hs.p,hs.f⟩ (by rw[bL,aW,bL,aW];exact fI p4.1 p4.2.1 p4.2.2 hz5 top))
       rw[if_neg (nbq hz5)]
       by_cases hb:(decide (k<7) && decide (k2<7))=true
       ·rw[if_pos hb]
        exact kasC_pure (LoC.b ⟨hs.k,hs.a,hs.p,hs.f⟩ ⟨_,by rw[bL,aW,bL,aW],p4.1,p4.2.1,p4.2.2,by lia,by lia⟩ (by lia))
       ·rw[if_neg hb]
        exact kasC_pure (LoK.k ⟨hs.k,hs.a,hs.p,hs.f⟩ ⟨_,by rw[bL,aW,bL,aW],p4.1,p4.2.1,p4.2.2,by lia,by lia⟩ (by lia))
      ·rw[if_neg hk3]
       have p3:=p2
       have hiB:∀ i,ib+1≤i→i<lb.length→key (la.getD (ia+k) 0)≤key (lb.getD i 0):=fun i a b=>hi2 i (by lia) (by lia)
       refine kasC_bind (aV (show ia+k<la.length by lia) ?_)
       have p4:=fE 1 p3.1 p3.2.1 p3.2.2 (fun x hx y hy=>by
        rw[bK (show ia+k<la.length by lia),List.mem_singleton] at hx
        obtain⟨j,j1,j2,rfl⟩:=bT hy
        have:=hiB j j1 j2
        rw[hx]
        exact this)
       rw[bK (show ia+k<la.length by lia)] at p4
       by_cases hz5:ia+k+1+1=la.length
       ·rw[if_pos (bq hz5)]
        exact kasC_pure (LoC.a ⟨hs.k,hs.a,hs.p,hs.f⟩ (by rw[bL,aW,aW];exact fI p4.1 p4.2.1 p4.2.2 hz5 top))
       rw[if_neg (nbq hz5)]
       by_cases hb:(decide (k<7) && decide (k2<7))=true
       ·rw[if_pos hb]
        exact kasC_pure (LoC.b ⟨hs.k,hs.a,hs.p,hs.f⟩ ⟨_,by rw[bL,aW,aW],p4.1,p4.2.1,p4.2.2,by lia,by lia⟩ (by lia))
       ·rw[if_neg hb]
        exact kasC_pure (LoK.k ⟨hs.k,hs.a,hs.p,hs.f⟩ ⟨_,by rw[bL,aW,aW],p4.1,p4.2.1,p4.2.2,by lia,by lia⟩ (by lia))
     ·rw[if_neg hk0]
      have p1:po.Perm (la.take ia++lb.take ib)∧Srt key (po++la.drop ia)∧Srt key (po++lb.drop ib):=⟨m.perm,m.sa,m.sb⟩
      have hiA:∀ i,ia≤i→i<la.length→key (lb.getD ib 0)<key (la.getD i 0):=fun i a b=>hi1 i (by lia) (by lia)
      refine kasC_bind (aV m2 ?_)
      have p2:=ic 1 p1.1 p1.2.1 p1.2.2 (fun x hx y hy=>by
       rw[bK m2,List.mem_singleton] at hx
       obtain⟨j,j1,j2,rfl⟩:=bT hy
       have:=hiA j j1 j2
       rw[hx]
       lia)
      rw[bK m2] at p2
      by_cases hz3:ib+1=lb.length
      ·rw[if_pos (bq hz3)]
       exact kasC_pure (LoC.a ⟨hs.k,hs.a,hs.p,hs.f⟩ (by rw[aW];exact fH p2.1 p2.2.1 p2.2.2 (.inl hz3)))
      rw[if_neg (nbq hz3)]
      refine kasC_bind (aV (show ia<la.length by lia) ?_)
      refine kasC_bind (ie hc (cf hla (show ia<la.length by lia)) hlb (base:=ib+1) (m:=lb.length - (ib+1)) (hint:=0) (by lia) (by lia) (fun i j a b c=>ef p2.2.2 a b (by lia)) (by exact hs.k.trans hkind) ?_)
      intro k2 hk2 lo2 hi2
      dsimp only
      by_cases hk3:k2 > 0
      ·rw[if_pos hk3]
       have p3:=ic k2 p2.1 p2.2.1 p2.2.2 (fun x hx y hy=>by
        obtain⟨j,j0,j1,rfl⟩:=fF hx
        obtain⟨j',a1,a2,rfl⟩:=bT hy
        have:=lo2 (ib+1+j) (by lia) (by lia)
        have:=ef p2.2.1 (Nat.le_refl _) a1 a2
        lia)
       by_cases hz4:ib+1+k2=lb.length
       ·rw[if_pos (bq hz4)]
        exact kasC_pure (LoC.a ⟨hs.k,hs.a,hs.p,hs.f⟩ (by rw[aW,bL];exact fH p3.1 p3.2.1 p3.2.2 (.inl hz4)))
       rw[if_neg (nbq hz4)]
       have hiB:∀ i,ib+1+k2≤i→i<lb.length→key (la.getD (ia) 0)≤key (lb.getD i 0):=fun i a b=>hi2 i a (by lia)
       refine kasC_bind (aV (show ia<la.length by lia) ?_)
       have p4:=fE 1 p3.1 p3.2.1 p3.2.2 (fun x hx y hy=>by
        rw[bK (show ia<la.length by lia),List.mem_singleton] at hx
        obtain⟨j,j1,j2,rfl⟩:=bT hy
        have:=hiB j j1 j2
        rw[hx]
        exact this)
       rw[bK (show ia<la.length by lia)] at p4
       by_cases hz5:ia+1+1=la.length
       ·rw[if_pos (bq hz5)]
        exact kasC_pure (LoC.a ⟨hs.k,hs.a,hs.p,hs.f⟩ (by rw[aW,bL,aW];exact fI p4.1 p4.2.1 p4.2.2 hz5 top))
       rw[if_neg (nbq hz5)]
       by_cases hb:(decide (k<7) && decide (k2<7))=true
       ·rw[if_pos hb]
        exact kasC_pure (LoC.b ⟨hs.k,hs.a,hs.p,hs.f⟩ ⟨_,by rw[aW,bL,aW],p4.1,p4.2.1,p4.2.2,by lia,by lia⟩ (by lia))
       ·rw[if_neg hb]
        exact kasC_pure (LoK.k ⟨hs.k,hs.a,hs.p,hs.f⟩ ⟨_,by rw[aW,bL,aW],p4.1,p4.2.1,p4.2.2,by lia,by lia⟩ (by lia))
      ·rw[if_neg hk3]
       have p3:=p2
       have hiB:∀ i,ib+1≤i→i<lb.length→key (la.getD (ia) 0)≤key (lb.getD i 0):=fun i a b=>hi2 i (by lia) (by lia)
       refine kasC_bind (aV (show ia<la.length by lia) ?_)
       have p4:=fE 1 p3.1 p3.2.1 p3.2.2 (fun x hx y hy=>by
        rw[bK (show ia<la.length by lia),List.mem_singleton] at hx
        obtain⟨j,j1,j2,rfl⟩:=bT hy
        have:=hiB j j1 j2
        rw[hx]
        exact this)
       rw[bK (show ia<la.length by lia)] at p4
       by_cases hz5:ia+1+1=la.length
       ·rw[if_pos (bq hz5)]
        exact kasC_pure (LoC.a ⟨hs.k,hs.a,hs.p,hs.f⟩ (by rw[aW,aW];exact fI p4.1 p4.2.1 p4.2.2 hz5 top))
       rw[if_neg (nbq hz5)]
       by_cases hb:(decide (k<7) && decide (k2<7))=true
       ·rw[if_pos hb]
        exact kasC_pure (LoC.b ⟨hs.k,hs.a,hs.p,hs.f⟩ ⟨_,by rw[aW,aW],p4.1,p4.2.1,p4.2.2,by lia,by lia⟩ (by lia))
       ·rw[if_neg hb]
        exact kasC_pure (LoK.k ⟨hs.k,hs.a,hs.p,hs.f⟩ ⟨_,by rw[aW,aW],p4.1,p4.2.1,p4.2.2,by lia,by lia⟩ (by lia))
end
section
variable {prog:Program}{w:World}{A:Around}{E:Value→Shared→Prop}{κ:SortKind}{it:Array Keyed}{key:Nat→Int}{n:Nat}{s:Shared}
noncomputable def nV:Array Keyed→Array Keyed→StateT SortSt Sem (Array Keyed):=sortPriv% PySem.Builtin.mergeHi
theorem kL {l:List Nat}{i j:Nat} (hij:i≤j) (hj:j≤l.length):l.drop i=(l.take j).drop i++l.drop j:=by
 have e:l.drop i=(l.take j++l.drop j).drop i:=by rw[List.take_append_drop]
 rw[e,List.drop_append_of_le_length (by rw[List.length_take];lia)]
theorem vN {l:List Nat}{i j:Nat} (hij:i≤j):l.take i++(l.take j).drop i=l.take j:=by
 have:=List.take_append_drop i (l.take j)
 rwa [List.take_take,Nat.min_eq_left hij] at this
theorem fJ {la lb ro:List Nat}{na nb:Nat} (k:Nat) (hk:k≤na) (hna:na≤la.length) (perm:ro.Perm (la.drop na++lb.drop nb)) (sa:Srt key (la.take na++ro)) (sb:Srt key (lb.take nb++ro)) (h:∀ x∈(la.take na).drop k,∀ y∈lb.take nb,key y≤key x):
  ((la.take na).drop k++ro).Perm (la.drop k++lb.drop nb)∧Srt key (la.take k++((la.take na).drop k++ro))∧Srt key (lb.take nb++((la.take na).drop k++ro)):=by
 refine⟨?_,?_,?_⟩
 ·rw[kL hk hna,List.append_assoc]
  exact List.Perm.append_left _ perm
 ·rw[← List.append_assoc,vN hk]
  exact sa
 ·have s1:=br.mp sa
  have s2:=br.mp sb
  refine br.mpr ⟨s2.1,br.mpr ⟨s1.1.sublist (List.drop_sublist _ _),s2.2.1,fun x hx y hy=>s1.2.2 x (List.mem_of_mem_drop hx) y hy⟩,fun x hx y hy=>?_⟩
  rcases List.mem_append.mp hy with hy | hy
  ·exact h y hy x hx
  ·exact s2.2.2 x hx y hy
theorem ig {la lb ro:List Nat}{na nb:Nat} (k:Nat) (hk:k≤nb) (hnb:nb≤lb.length) (perm:ro.Perm (la.drop na++lb.drop nb)) (sa:Srt key (la.take na++ro)) (sb:Srt key (lb.take nb++ro)) (h:∀ x∈(lb.take nb).drop k,∀ y∈la.take na,key y≤key x):
  ((lb.take nb).drop k++ro).Perm (la.drop na++lb.drop k)∧Srt key (la.take na++((lb.take nb).drop k++ro))∧Srt key (lb.take k++((lb.take nb).drop k++ro)):=by
 have:=fJ (la:=lb) (lb:=la) k hk hnb (perm.trans List.perm_append_comm) sb sa h
 exact⟨this.1.trans List.perm_append_comm,this.2.2,this.2.1⟩
theorem bO {l:List Nat}{i:Nat} (h0:0<i) (h:i≤l.length):(l.take i).drop (i - 1)=[l.getD (i - 1) 0]:=by
 rw[List.drop_take,show i - (i - 1)=1 by lia]
 exact bK (by lia)
theorem ci {l:List Nat}{i y:Nat} (h:y∈l.take i):∃ j,j<i∧j<l.length∧y=l.getD j 0:=by
 have:=fF (i:=0) (k:=i) (y:=y) (l:=l) (by rwa [List.drop_zero])
 obtain⟨j,a,b,e⟩:=this
 exact⟨j,a,by lia,by rw[e];congr 1;lia⟩
theorem kM {l:List Nat}{i k y:Nat} (h:y∈(l.take k).drop i):∃ j,i≤j∧j<k∧j<l.length∧y=l.getD j 0:=by
 rw[List.drop_take] at h
 obtain⟨j,a,b,e⟩:=fF h
 exact⟨i+j,by lia,by lia,b,e⟩
theorem eg {l ro:List Nat}{i j k:Nat} (h:Srt key (l.take i++ro)) (hjk:j≤k) (hk:k<i) (hl:k<l.length):key (l.getD j 0)≤key (l.getD k 0):=by
 have:=fG (br.mp h).1 (i:=j) (j:=k) hjk (by rw[List.length_take];lia)
 simpa [List.getD,List.getElem?_take,show j<i by lia,hk] using this
theorem dN {la lb ro:List Nat}{na nb:Nat} (perm:ro.Perm (la.drop na++lb.drop nb)) (sa:Srt key (la.take na++ro)) (sb:Srt key (lb.take nb++ro)) (hz:na=0∨nb=0):
  Mrg key it la lb ((la.map (kas_item it)).toArray.extract 0 na++(lb.map (kas_item it)).toArray.extract 0 nb++(ro.reverse.map (kas_item it)).toArray.reverse):=by
 refine⟨la.take na++lb.take nb++ro,?_,?_,?_⟩
 ·apply Array.ext'
  simp[List.map_take]
 ·refine (List.Perm.append_left _ perm).trans ?_
  have:(la.take na++lb.take nb++(la.drop na++lb.drop nb)).Perm ((la.take na++la.drop na)++(lb.take nb++lb.drop nb)):=by
   rw[List.append_assoc,List.append_assoc]
   refine List.Perm.append_left _ ?_
   rw[← List.append_assoc,← List.append_assoc]
   exact List.Perm.append_right _ List.perm_append_comm
  rw[List.take_append_drop,List.take_append_drop] at this
  exact this
 ·rcases hz with e | e
  ·rw[e,List.take_zero,List.nil_append]
   exact sb
  ·rw[e,List.take_zero,List.append_nil]
   exact sa
theorem gn {la lb ro:List Nat}{na nb:Nat} (perm:ro.Perm (la.drop na++lb.drop nb)) (sa:Srt key (la.take na++ro)) (sb:Srt key (lb.take nb++ro)) (hz:nb=1) (first:∀ x∈la,key (lb.getD 0 0)≤key x):
  Mrg key it la lb ((lb.map (kas_item it)).toArray.extract 0 nb++(la.map (kas_item it)).toArray.extract 0 na++(ro.reverse.map (kas_item it)).toArray.reverse):=by
 refine⟨lb.take nb++la.take na++ro,?_,?_,?_⟩
 ·apply Array.ext'
  simp[List.map_take]
 ·refine (List.Perm.append_left _ perm).trans ?_
  have:(lb.take nb++la.take na++(la.drop na++lb.drop nb)).Perm ((la.take na++la.drop na)++(lb.take nb++lb.drop nb)):=by
   rw[List.append_assoc,← List.append_assoc (la.take na),← List.append_assoc (la.take na++la.drop na)]
   rw[← List.append_assoc (lb.take nb)]
   exact List.Perm.append_right _ List.perm_append_comm
  rw[List.take_append_drop,List.take_append_drop] at this
  exact this
 ·rw[List.append_assoc]
  refine br.mpr ⟨(br.mp sb).1,sa,fun x hx y hy=>?_⟩
  rcases List.mem_append.mp hy with hy | hy
  ·obtain⟨j,h1,h2,rfl⟩:=ci hx
   have:j=0:=by lia
   rw[this]
   exact first y (List.mem_of_mem_take hy)
  ·exact (br.mp sb).2.2 x hx y hy
theorem aS (ro:List Nat) (y:Nat):(ro.reverse.map (kas_item it)).toArray.push (kas_item it y)=(([y]++ro).reverse.map (kas_item it)).toArray:=by simp
theorem bF (ro l:List Nat) (i k:Nat):(ro.reverse.map (kas_item it)).toArray++((l.map (kas_item it)).toArray.extract i k).reverse=(((l.take k).drop i++ro).reverse.map (kas_item it)).toArray:=by
 apply Array.ext'
 simp[List.map_drop,List.map_take,List.drop_take]
structure MHi (key:Nat→Int) (la lb:List Nat) (ro:List Nat) (na nb:Nat):Prop where
 perm:ro.Perm (la.drop na++lb.drop nb)
 sa:Srt key (la.take na++ro)
 sb:Srt key (lb.take nb++ro)
 pa:0<na
 pb:1<nb
 qa:na≤la.length
 qb:nb≤lb.length
noncomputable def JHi (key:Nat→Int) (it:Array Keyed) (la lb:List Nat) (out:Array Keyed) (na nb:Nat):Prop:=∃ ro:List Nat,out=(ro.reverse.map (kas_item it)).toArray∧MHi key la lb ro na nb
end
section
variable {prog:Program}{w:World}{A:Around}{E:Value→Shared→Prop}{κ:SortKind}{it:Array Keyed}{key:Nat→Int}{n:Nat}{s:Shared}
noncomputable def HiA (key:Nat→Int) (it:Array Keyed) (la lb:List Nat) (st:SortSt) (s:Shared)  : Option (Array Keyed)×Nat×Nat×Array Keyed×Nat→SortSt→Shared→Prop:=fun c st' s'=>s=s'∧SameSt st st'∧∃ out' p q r g,c=(some out',p,q,r,g)∧Mrg key it la lb out'
noncomputable def HiI (key:Nat→Int) (it:Array Keyed) (la lb:List Nat) (st:SortSt) (s:Shared) (x:Nat):Option (Array Keyed)×Nat×Nat×Array Keyed×Nat→SortSt→Shared→Prop:=fun c st' s'=>s=s'∧SameSt st st'∧∃ na nb o g,c=(none,na,nb,o,g)∧JHi key it la lb o na nb∧na+nb+x+1≤la.length+lb.length
noncomputable def HiB (key:Nat→Int) (it:Array Keyed) (la lb:List Nat) (st:SortSt) (s:Shared) (x:Nat):Option (Array Keyed)×Nat×Nat×Array Keyed×Nat×Nat→SortSt→Shared→Prop:=fun c st' s'=>s=s'∧SameSt st st'∧((∃ out' p q r ac bc,c=(some out',p,q,r,ac,bc)∧Mrg key it la lb out')∨∃ na nb o ac bc,c=(none,na,nb,o,ac,bc)∧JHi key it la lb o na nb∧na+nb+x+2≤la.length+lb.length)
noncomputable def HiJ (key:Nat→Int) (it:Array Keyed) (la lb:List Nat) (st:SortSt) (s:Shared) (x y:Nat):Option (Array Keyed)×Nat×Nat×Array Keyed×Nat×Nat→SortSt→Shared→Prop:=fun c st' s'=>s=s'∧SameSt st st'∧∃ na nb o ac bc,c=(none,na,nb,o,ac,bc)∧JHi key it la lb o na nb∧na+nb+x+1+y≤la.length+lb.length
noncomputable def HiC (key:Nat→Int) (it:Array Keyed) (la lb:List Nat) (st:SortSt) (s:Shared) (x:Nat):Option (Array Keyed)×Nat×Nat×Array Keyed×Nat×Nat×Nat→SortSt→Shared→Prop:=fun c st' s'=>s=s'∧SameSt st st'∧((∃ out' p q r g ac bc,c=(some out',p,q,r,g,ac,bc)∧Mrg key it la lb out')∨∃ na nb o g ac bc,c=(none,na,nb,o,g,ac,bc)∧JHi key it la lb o na nb∧na+nb+x+2≤la.length+lb.length)
noncomputable def HiK (key:Nat→Int) (it:Array Keyed) (la lb:List Nat) (st:SortSt) (s:Shared) (x y:Nat):Option (Array Keyed)×Nat×Nat×Array Keyed×Nat×Nat×Nat→SortSt→Shared→Prop:=fun c st' s'=>s=s'∧SameSt st st'∧∃ na nb o g ac bc,c=(none,na,nb,o,g,ac,bc)∧JHi key it la lb o na nb∧na+nb+x+2≤la.length+lb.length
theorem HiA.a {key:Nat→Int}{it:Array Keyed}{la lb:List Nat}{st st':SortSt}{s:Shared}{out:Array Keyed}{p q:Nat}{r:Array Keyed}{g:Nat} (h:SameSt st st') (m:Mrg key it la lb out):HiA key it la lb st s (some out,p,q,r,g) st' s:=⟨rfl,h,_,_,_,_,_,rfl,m⟩
theorem HiI.k {key:Nat→Int}{it:Array Keyed}{la lb:List Nat}{st st':SortSt}{s:Shared}{x:Nat}{na nb:Nat}{o:Array Keyed}{g:Nat} (h:SameSt st st') (j:JHi key it la lb o na nb) (e:na+nb+x+1≤la.length+lb.length):HiI key it la lb st s x (none,na,nb,o,g) st' s:=⟨rfl,h,_,_,_,_,rfl,j,e⟩
theorem HiB.a {key:Nat→Int}{it:Array Keyed}{la lb:List Nat}{st st':SortSt}{s:Shared}{x:Nat}{out:Array Keyed}{p q:Nat}{r:Array Keyed}{g g2:Nat} (h:SameSt st st') (m:Mrg key it la lb out):HiB key it la lb st s x (some out,p,q,r,g,g2) st' s:=⟨rfl,h,.inl ⟨_,_,_,_,_,_,rfl,m⟩⟩
theorem HiB.b {key:Nat→Int}{it:Array Keyed}{la lb:List Nat}{st st':SortSt}{s:Shared}{x:Nat}{na nb:Nat}{o:Array Keyed}{g g2:Nat} (h:SameSt st st') (j:JHi key it la lb o na nb) (e:na+nb+x+2≤la.length+lb.length):HiB key it la lb st s x (none,na,nb,o,g,g2) st' s:=⟨rfl,h,.inr ⟨_,_,_,_,_,rfl,j,e⟩⟩
theorem HiJ.k {key:Nat→Int}{it:Array Keyed}{la lb:List Nat}{st st':SortSt}{s:Shared}{x y:Nat}{na nb:Nat}{o:Array Keyed}{g g2:Nat} (h:SameSt st st') (j:JHi key it la lb o na nb) (e:na+nb+x+1+y≤la.length+lb.length):HiJ key it la lb st s x y (none,na,nb,o,g,g2) st' s:=⟨rfl,h,_,_,_,_,_,rfl,j,e⟩
theorem HiC.a {key:Nat→Int}{it:Array Keyed}{la lb:List Nat}{st st':SortSt}{s:Shared}{x:Nat}{out:Array Keyed}{p q:Nat}{r:Array Keyed}{g g2 g3:Nat} (h:SameSt st st') (m:Mrg key it la lb out):HiC key it la lb st s x (some out,p,q,r,g,g2,g3) st' s:=⟨rfl,h,.inl ⟨_,_,_,_,_,_,_,rfl,m⟩⟩
theorem HiC.b {key:Nat→Int}{it:Array Keyed}{la lb:List Nat}{st st':SortSt}{s:Shared}{x:Nat}{na nb:Nat}{o:Array Keyed}{g g2 g3:Nat} (h:SameSt st st') (j:JHi key it la lb o na nb) (e:na+nb+x+2≤la.length+lb.length):HiC key it la lb st s x (none,na,nb,o,g,g2,g3) st' s:=⟨rfl,h,.inr ⟨_,_,_,_,_,_,rfl,j,e⟩⟩
theorem HiK.k {key:Nat→Int}{it:Array Keyed}{la lb:List Nat}{st st':SortSt}{s:Shared}{x y:Nat}{na nb:Nat}{o:Array Keyed}{g g2 g3:Nat} (h:SameSt st st') (j:JHi key it la lb o na nb) (e:na+nb+x+2≤la.length+lb.length):HiK key it la lb st s x y (none,na,nb,o,g,g2,g3) st' s:=⟨rfl,h,_,_,_,_,_,_,rfl,j,e⟩
theorem vO (hc:bp n key (kas_cmp prog w A κ it) s) {la lb:List Nat} (hla:∀ x∈la,x<n) (hlb:∀ x∈lb,x<n) (sla:Srt key la) (slb:Srt key lb) (h0:0<la.length) (h1:0<lb.length)
  (first:∀ x∈la,key (lb.getD 0 0)≤key x) (top:∀ x∈lb,key x≤key (la.getD (la.length - 1) 0)) {st:SortSt} (hkind:kindOf st=κ) {Q:Array Keyed→SortSt→Shared→Prop}
  (h:∀ out st',Mrg key it la lb out→SameSt st st'→Q out st' s):
  kasC (model prog w) A E (nV (la.map (kas_item it)).toArray (lb.map (kas_item it)).toArray) Q st s:=by
 unfold nV
 with_unfolding_all refine kasC_bind (kasC_lift (wpAny_rule ?_))
 dsimp only
 generalize hza:(List.map (kas_item it) la).toArray.size=za
 obtain rfl:la.length=za:=by rw[← hza];simp
 generalize hzb:(List.map (kas_item it) lb).toArray.size=zb
 obtain rfl:lb.length=zb:=by rw[← hzb];simp
 refine kasC_bind (aV (show la.length - 1<la.length by lia) ?_)
 try dsimp only
 have l1:=bO h0 (Nat.le_refl _)
 rw[List.take_length] at l1
 have perm0:[la.getD (la.length - 1) 0].Perm (la.drop (la.length - 1)++lb.drop lb.length):=by
  rw[l1,List.drop_length]
  exact List.Perm.refl _
 have sa0:Srt key (la.take (la.length - 1)++[la.getD (la.length - 1) 0]):=by
  rw[← l1,List.take_append_drop]
  exact sla
 have sb0:Srt key (lb.take lb.length++[la.getD (la.length - 1) 0]):=br.mpr ⟨by rw[List.take_length];exact slb,List.pairwise_singleton _ _,fun x hx y hy=>by
  rw[List.mem_singleton.mp hy]
  exact top x (by rwa [List.take_length] at hx)⟩
 have e0:#[kas_item it (la.getD (la.length - 1) 0)]=([la.getD (la.length - 1) 0].reverse.map (kas_item it)).toArray:=rfl
 rw[e0]
 by_cases c1:la.length - 1=0
 ·rw[if_pos (bq c1)]
  exact kasC_pure (h _ _ (dN perm0 sa0 sb0 (.inl c1)) (SameSt.refl st))
 rw[if_neg (nbq c1)]
 by_cases c2:lb.length=1
 ·rw[if_pos (bq c2)]
  exact kasC_pure (h _ _ (gn perm0 sa0 sb0 c2 first) (SameSt.refl st))
 rw[if_neg (nbq c2)]
 refine kasC_bind (kasC_get ?_)
 refine kasC_bind (bU (Q':=HiA key it la lb st s) (kasC_range (bJ (HiI key it la lb st s) ?step _ 0 _ _ _ ?fin (HiI.k (SameSt.refl st) ⟨_,rfl,perm0,sa0,sb0,by lia,by lia,by lia,by lia⟩ (by lia)))) ?after)
 case after=>
  rintro c st' s' ⟨rfl,hs,out',o,ia,ib,g,rfl,hm⟩
  exact kasC_pure (h _ _ hm hs)
 case fin=>
  rintro c st' s' ⟨rfl,hs,na,nb,o,g,rfl,⟨po,rfl,m⟩,hx⟩
  have:=m.pa
  have:=m.pb
  lia
 case step=>
  rintro x c st' s' ⟨rfl,hs,na,nb,o,g,rfl,hJ,hx⟩
  dsimp only
  refine kasC_bind (bU (Q':=HiB key it la lb st s x)
   (kasC_range (bJ (HiJ key it la lb st s x) ?step1 _ 0 _ _ _ ?fin1 (HiJ.k hs hJ (by lia)))) ?after1)
  case fin1=>
   rintro c st' s' ⟨rfl,hs,na,nb,o,ac,bc,rfl,hJ,hx⟩
   exact HiB.b hs hJ (by lia)
  case step1=>
   rintro y c st' s' ⟨rfl,hs,na,nb,o,ac,bc,rfl,⟨po,rfl,m⟩,hx⟩
   have m1:=m.pa
   have m2:=m.pb
   have m3:=m.qa
   have m4:=m.qb
   have hk':kindOf st'=κ:=hs.k.trans hkind
   dsimp only
   refine kasC_bind (aV (show nb - 1<lb.length by lia) ?_)
   refine kasC_bind (aV (show na - 1<la.length by lia) ?_)
   refine kasC_bind (hZ hc (cf hlb (show nb - 1<lb.length by lia)) (cf hla (show na - 1<la.length by lia)) hk' ?_)
   dsimp only
   by_cases hw:key (lb.getD (nb - 1) 0)<key (la.getD (na - 1) 0)
   ·rw[if_pos (by simpa using hw)]
    refine kasC_bind (aV (show na - 1<la.length by lia) ?_)
    have b1:=fJ (na - 1) (by lia) m3 m.perm m.sa m.sb (fun x hx y hy=>by
     rw[bO m1 m3,List.mem_singleton] at hx
     obtain⟨j,j1,j2,rfl⟩:=ci hy
     have:=eg m.sb (show j≤nb - 1 by lia) (by lia) (by lia)
     rw[hx]
     lia)
    rw[bO m1 m3] at b1
    rw[aS]
    try dsimp only
    by_cases hz:na - 1=0
    ·rw[if_pos (bq hz)]
     exact kasC_pure (HiB.a hs (dN b1.1 b1.2.1 b1.2.2 (.inl hz)))
    ·rw[if_neg (nbq hz)]
     have J':JHi key it la lb (([la.getD (na - 1) 0]++po).reverse.map (kas_item it)).toArray (na - 1) nb:=⟨_,rfl,b1.1,b1.2.1,b1.2.2,by lia,m2,by lia,m4⟩
     by_cases hg:ac+1 ≥ g
     ·rw[if_pos hg]
      exact kasC_pure (HiB.b hs J' (by lia))
     ·rw[if_neg hg]
      exact kasC_pure (HiJ.k hs J' (by lia))
   ·rw[if_neg (by simpa using hw)]
    refine kasC_bind (aV (show nb - 1<lb.length by lia) ?_)
    have b1:=ig (nb - 1) (by lia) m4 m.perm m.sa m.sb (fun x hx y hy=>by
     rw[bO (by lia) m4,List.mem_singleton] at hx
     obtain⟨j,j1,j2,rfl⟩:=ci hy
     have:=eg m.sa (show j≤na - 1 by lia) (by lia) (by lia)
     rw[hx]
     lia)
    rw[bO (by lia) m4] at b1
    rw[aS]
    try dsimp only
    by_cases hz:nb - 1=1
    ·rw[if_pos (bq hz)]
     exact kasC_pure (HiB.a hs (gn b1.1 b1.2.1 b1.2.2 hz first))
    ·rw[if_neg (nbq hz)]
     have J':JHi key it la lb (([lb.getD (nb - 1) 0]++po).reverse.map (kas_item it)).toArray na (nb - 1):=⟨_,rfl,b1.1,b1.2.1,b1.2.2,m1,by lia,m3,by lia⟩
     by_cases hg:bc+1 ≥ g
     ·rw[if_pos hg]
      exact kasC_pure (HiB.b hs J' (by lia))
     ·rw[if_neg hg]
      exact kasC_pure (HiJ.k hs J' (by lia))
  case after1=>
   rintro c st' s' ⟨rfl,hs,⟨out',o,ia,ib,ac,bc,rfl,hm⟩ | ⟨na,nb,o,ac,bc,rfl,hJ,hx⟩⟩
   ·exact kasC_pure (HiA.a hs hm)
   ·try dsimp only
    refine kasC_bind (kasC_lift (wpAny_rule ?_))
    try dsimp only
    refine kasC_bind (bU (Q':=HiC key it la lb st s x)
     (kasC_range (bJ (HiK key it la lb st s x) ?step2 _ 0 _ _ _ ?fin2 (HiK.k hs hJ (by lia)))) ?after2)
    case fin2=>
     rintro c st' s' ⟨rfl,hs,na,nb,o,g,ac,bc,rfl,hJ,hx⟩
     exact HiC.b hs hJ (by lia)
    case after2=>
     rintro c st' s' ⟨rfl,hs,⟨out',o,ia,ib,g,ac,bc,rfl,hm⟩ | ⟨na,nb,o,g,ac,bc,rfl,hJ,hx⟩⟩
     ·exact kasC_pure (HiA.a hs hm)
     ·try dsimp only
      refine kasC_bind (kasC_modify ?_)
      exact kasC_pure (HiI.k ⟨hs.k,hs.a,hs.p,hs.f⟩ hJ (by lia))
    case step2=>
     rintro y c st' s' ⟨rfl,hs,na,nb,o,g,ac,bc,rfl,⟨po,rfl,m⟩,hx⟩
     have m1:=m.pa
     have m2:=m.pb
     have m3:=m.qa
     have m4:=m.qb
     dsimp only
     revert g
     refine nU (fun g=>g - 1) ?ha ?_
     case ha=>exact fun g=>rfl
     intro g
     refine kasC_bind (kasC_modify ?_)
     refine kasC_bind (aV (show nb - 1<lb.length by lia) ?_)
     refine kasC_bind (kK hc (cf hlb (show nb - 1<lb.length by lia)) hla (base:=0) (m:=na) (hint:=na - 1) (by lia) (by lia) (fun i j a b c=>eg m.sa b (by lia) (by lia)) (by exact hs.k.trans hkind) ?_)
     intro k hk1 lo1 hi1
     dsimp only
     by_cases hk0:na - k > 0
     ·rw[if_pos hk0]
      have p1:=fJ k (by lia) m3 m.perm m.sa m.sb (fun x hx y hy=>by
       obtain⟨j,j0,j1,j2,rfl⟩:=kM hx
       obtain⟨j',a1,a2,rfl⟩:=ci hy
       have:=hi1 j (by lia) (by lia)
       have:=eg m.sb (show j'≤nb - 1 by lia) (by lia) (by lia)
       lia)
      by_cases hz:k=0
      ·rw[if_pos (bq hz)]
       exact kasC_pure (HiC.a ⟨hs.k,hs.a,hs.p,hs.f⟩ (by rw[bF];exact dN p1.1 p1.2.1 p1.2.2 (.inl hz)))
      rw[if_neg (nbq hz)]
      have hiA:∀ i,i<k→key (la.getD i 0)≤key (lb.getD (nb - 1) 0):=fun i a=>lo1 i (by lia) (by lia)
      refine kasC_bind (aV (show nb - 1<lb.length by lia) ?_)
      have p2:=ig (nb - 1) (by lia) m4 p1.1 p1.2.1 p1.2.2 (fun x hx y hy=>by
       rw[bO (by lia) m4,List.mem_singleton] at hx
       obtain⟨j,j1,j2,rfl⟩:=ci hy
       have:=hiA j j1
       rw[hx]
       lia)
      rw[bO (by lia) m4] at p2
      by_cases hz3:nb - 1=1
      ·rw[if_pos (bq hz3)]
       exact kasC_pure (HiC.a ⟨hs.k,hs.a,hs.p,hs.f⟩ (by rw[bF,aS];exact gn p2.1 p2.2.1 p2.2.2 hz3 first))
      rw[if_neg (nbq hz3)]
      refine kasC_bind (aV (show k - 1<la.length by lia) ?_)
      refine kasC_bind (ie hc (cf hla (show k - 1<la.length by lia)) hlb (base:=0) (m:=nb - 1) (hint:=nb - 1 - 1) (by lia) (by lia) (fun i j a b c=>eg p2.2.2 b (by lia) (by lia)) (by exact hs.k.trans hkind) ?_)
      intro k2 hk2 lo2 hi2
      dsimp only
      by_cases hk3:nb - 1 - k2 > 0
      ·rw[if_pos hk3]
       have p3:=ig k2 (by lia) (show nb - 1≤lb.length by lia) p2.1 p2.2.1 p2.2.2 (fun x hx y hy=>by
        obtain⟨j,j0,j1,j2,rfl⟩:=kM hx
        obtain⟨j',a1,a2,rfl⟩:=ci hy
        have:=hi2 j (by lia) (by lia)
        have:=eg p2.2.1 (show j'≤k - 1 by lia) (by lia) (by lia)
        lia)
       by_cases hz4:k2=1
       ·rw[if_pos (bq hz4)]
        exact kasC_pure (HiC.a ⟨hs.k,hs.a,hs.p,hs.f⟩ (by rw[bF,aS,bF];exact gn p3.1 p3.2.1 p3.2.2 hz4 first))
       rw[if_neg (nbq hz4)]
       by_cases hz6:k2=0
       ·rw[if_pos (bq hz6)]
        exact kasC_pure (HiC.a ⟨hs.k,hs.a,hs.p,hs.f⟩ (by rw[bF,aS,bF];exact dN p3.1 p3.2.1 p3.2.2 (.inr hz6)))
       rw[if_neg (nbq hz6)]
       have hiB:∀ i,i<k2→key (lb.getD i 0)<key (la.getD (k - 1) 0):=fun i a=>lo2 i (by lia) (by lia)
       refine kasC_bind (aV (show k - 1<la.length by lia) ?_)
       have p4:=fJ (k - 1) (by lia) (show k≤la.length by lia) p3.1 p3.2.1 p3.2.2 (fun x hx y hy=>by
        rw[bO (by lia) (show k≤la.length by lia),List.mem_singleton] at hx
        obtain⟨j,j1,j2,rfl⟩:=ci hy
        have:=hiB j j1
        rw[hx]
        lia)
       rw[bO (by lia) (show k≤la.length by lia)] at p4
       by_cases hz5:k - 1=0
       ·rw[if_pos (bq hz5)]
        exact kasC_pure (HiC.a ⟨hs.k,hs.a,hs.p,hs.f⟩ (by rw[bF,aS,bF,aS];exact dN p4.1 p4.2.1 p4.2.2 (.inl hz5)))
       rw[if_neg (nbq hz5)]
       by_cases hb:(decide (na - k<7) && decide (nb - 1 - k2<7))=true
       ·rw[if_pos hb]
        exact kasC_pure (HiC.b ⟨hs.k,hs.a,hs.p,hs.f⟩ ⟨_,by rw[bF,aS,bF,aS],p4.1,p4.2.1,p4.2.2,by lia,by lia,by lia,by lia⟩ (by lia))
       ·rw[if_neg hb]
        exact kasC_pure (HiK.k ⟨hs.k,hs.a,hs.p,hs.f⟩ ⟨_,by rw[bF,aS,bF,aS],p4.1,p4.2.1,p4.2.2,by lia,by lia,by lia,by lia⟩ (by lia))
      ·rw[if_neg hk3]
       have p3:=p2
       have hiB:∀ i,i<nb - 1→key (lb.getD i 0)<key (la.getD (k - 1) 0):=fun i a=>lo2 i (by lia) (by lia)
       refine kasC_bind (aV (show k - 1<la.length by lia) ?_)
       have p4:=fJ (k - 1) (by lia) (show k≤la.length by lia) p3.1 p3.2.1 p3.2.2 (fun x hx y hy=>by
        rw[bO (by lia) (show k≤la.length by lia),List.mem_singleton] at hx
        obtain⟨j,j1,j2,rfl⟩:=ci hy
        have:=hiB j j1
        rw[hx]
        lia)
       rw[bO (by lia) (show k≤la.length by lia)] at p4
       by_cases hz5:k - 1=0
       ·rw[if_pos (bq hz5)]
        exact kasC_pure (HiC.a ⟨hs.k,hs.a,hs.p,hs.f⟩ (by rw[bF,aS,aS];exact dN p4.1 p4.2.1 p4.2.2 (.inl hz5)))
       rw[if_neg (nbq hz5)]
       by_cases hb:(decide (na - k<7) && decide (nb - 1 - k2<7))=true
       ·rw[if_pos hb]
        exact kasC_pure (HiC.b ⟨hs.k,hs.a,hs.p,hs.f⟩ ⟨_,by rw[bF,aS,aS],p4.1,p4.2.1,p4.2.2,by lia,by lia,by lia,by lia⟩ (by lia))
       ·rw[if_neg hb]
        exact kasC_pure (HiK.k ⟨hs.k,hs.a,hs.p,hs.f⟩ ⟨_,by rw[bF,aS,aS],p4.1,p4.2.1,p4.2.2,by lia,by lia,by lia,by lia⟩ (by lia))
     ·rw[if_neg hk0]
      have p1:po.Perm (la.drop na++lb.drop nb)∧Srt key (la.take na++po)∧Srt key (lb.take nb++po):=⟨m.perm,m.sa,m.sb⟩
      have hiA:∀ i,i<na→key (la.getD i 0)≤key (lb.getD (nb - 1) 0):=fun i a=>lo1 i (by lia) (by lia)
      refine kasC_bind (aV (show nb - 1<lb.length by lia) ?_)
      have p2:=ig (nb - 1) (by lia) m4 p1.1 p1.2.1 p1.2.2 (fun x hx y hy=>by
       rw[bO (by lia) m4,List.mem_singleton] at hx
       obtain⟨j,j1,j2,rfl⟩:=ci hy
       have:=hiA j j1
       rw[hx]
       lia)
      rw[bO (by lia) m4] at p2
      by_cases hz3:nb - 1=1
      ·rw[if_pos (bq hz3)]
       exact kasC_pure (HiC.a ⟨hs.k,hs.a,hs.p,hs.f⟩ (by rw[aS];exact gn p2.1 p2.2.1 p2.2.2 hz3 first))
      rw[if_neg (nbq hz3)]
      refine kasC_bind (aV (show na - 1<la.length by lia) ?_)
      refine kasC_bind (ie hc (cf hla (show na - 1<la.length by lia)) hlb (base:=0) (m:=nb - 1) (hint:=nb - 1 - 1) (by lia) (by lia) (fun i j a b c=>eg p2.2.2 b (by lia) (by lia)) (by exact hs.k.trans hkind) ?_)
      intro k2 hk2 lo2 hi2
      dsimp only
      by_cases hk3:nb - 1 - k2 > 0
      ·rw[if_pos hk3]
       have p3:=ig k2 (by lia) (show nb - 1≤lb.length by lia) p2.1 p2.2.1 p2.2.2 (fun x hx y hy=>by
        obtain⟨j,j0,j1,j2,rfl⟩:=kM hx
        obtain⟨j',a1,a2,rfl⟩:=ci hy
        have:=hi2 j (by lia) (by lia)
        have:=eg p2.2.1 (show j'≤na - 1 by lia) (by lia) (by lia)
        lia)
       by_cases hz4:k2=1
       ·rw[if_pos (bq hz4)]
        exact kasC_pure (HiC.a ⟨hs.k,hs.a,hs.p,hs.f⟩ (by rw[aS,bF];exact gn p3.1 p3.2.1 p3.2.2 hz4 first))
       rw[if_neg (nbq hz4)]
       by_cases hz6:k2=0
       ·rw[if_pos (bq hz6)]
        exact kasC_pure (HiC.a ⟨hs.k,hs.a,hs.p,hs.f⟩ (by rw[aS,bF];exact dN p3.1 p3.2.1 p3.2.2 (.inr hz6)))
       rw[if_neg (nbq hz6)]
       have hiB:∀ i,i<k2→key (lb.getD i 0)<key (la.getD (na - 1) 0):=fun i a=>lo2 i (by lia) (by lia)
       refine kasC_bind (aV (show na - 1<la.length by lia) ?_)
       have p4:=fJ (na - 1) (by lia) (show na≤la.length by lia) p3.1 p3.2.1 p3.2.2 (fun x hx y hy=>by
        rw[bO (by lia) (show na≤la.length by lia),List.mem_singleton] at hx
        obtain⟨j,j1,j2,rfl⟩:=ci hy
        have:=hiB j j1
        rw[hx]
        lia)
       rw[bO (by lia) (show na≤la.length by lia)] at p4
       by_cases hz5:na - 1=0
       ·rw[if_pos (bq hz5)]
        exact kasC_pure (HiC.a ⟨hs.k,hs.a,hs.p,hs.f⟩ (by rw[aS,bF,aS];exact dN p4.1 p4.2.1 p4.2.2 (.inl hz5)))
       rw[if_neg (nbq hz5)]
       by_cases hb:(decide (na - k<7) && decide (nb - 1 - k2<7))=true
       ·rw[if_pos hb]
        exact kasC_pure (HiC.b ⟨hs.k,hs.a,hs.p,hs.f⟩ ⟨_,by rw[aS,bF,aS],p4.1,p4.2.1,p4.2.2,by lia,by lia,by lia,by lia⟩ (by lia))
       ·rw[if_neg hb]
        exact kasC_pure (HiK.k ⟨hs.k,hs.a,hs.p,hs.f⟩ ⟨_,by rw[aS,bF,aS],p4.1,p4.2.1,p4.2.2,by lia,by lia,by lia,by lia⟩ (by lia))
      ·rw[if_neg hk3]
       have p3:=p2
       have hiB:∀ i,i<nb - 1→key (lb.getD i 0)<key (la.getD (na - 1) 0):=fun i a=>lo2 i (by lia) (by lia)
       refine kasC_bind (aV (show na - 1<la.length by lia) ?_)
       have p4:=fJ (na - 1) (by lia) (show na≤la.length by lia) p3.1 p3.2.1 p3.2.2 (fun x hx y hy=>by
        rw[bO (by lia) (show na≤la.length by lia),List.mem_singleton] at hx
        obtain⟨j,j1,j2,rfl⟩:=ci hy
        have:=hiB j j1
        rw[hx]
        lia)
       rw[bO (by lia) (show na≤la.length by lia)] at p4
       by_cases hz5:na - 1=0
       ·rw[if_pos (bq hz5)]
        exact kasC_pure (HiC.a ⟨hs.k,hs.a,hs.p,hs.f⟩ (by rw[aS,aS];exact dN p4.1 p4.2.1 p4.2.2 (.inl hz5)))
       rw[if_neg (nbq hz5)]
       by_cases hb:(decide (na - k<7) && decide (nb - 1 - k2<7))=true
       ·rw[if_pos hb]
        exact kasC_pure (HiC.b ⟨hs.k,hs.a,hs.p,hs.f⟩ ⟨_,by rw[aS,aS],p4.1,p4.2.1,p4.2.2,by lia,by lia,by lia,by lia⟩ (by lia))
       ·rw[if_neg hb]
        exact kasC_pure (HiK.k ⟨hs.k,hs.a,hs.p,hs.f⟩ ⟨_,by rw[aS,aS],p4.1,p4.2.1,p4.2.2,by lia,by lia,by lia,by lia⟩ (by lia))
end
section
variable {prog:Program}{w:World}{A:Around}{E:Value→Shared→Prop}{κ:SortKind}{it:Array Keyed}{key:Nat→Int}{n:Nat}{s:Shared}
theorem vP {σ:Type}{M:Model}{Q:PUnit→σ→Shared→Prop}{st st2:σ}{s:Shared} (h:Q ⟨⟩ st2 s):kasC M A E (set st2:StateT σ Sem PUnit) Q st s:=by
 unfold kasC;rw[StateT.run_set];exact wpAny_pure h
theorem kN {α:Type}:∀ (l:List α) (arr:List α) (q j0 s0:Nat),q+l.length≤arr.length→q=s0+j0→((l.zipIdx j0).foldl (fun (a:Array α) (x:α×Nat)=>a.setIfInBounds (s0+x.2) x.1) arr.toArray)=(arr.take q++l++arr.drop (q+l.length)).toArray
 | [],arr,q,j0,s0,h,e=>by simp
 | x::l,arr,q,j0,s0,h,e=>by
  rw[List.length_cons] at h
  rw[List.zipIdx_cons,List.foldl_cons]
  dsimp only
  rw[← e,List.setIfInBounds_toArray,kN l (arr.set q x) (q+1) (j0+1) s0 (by rw[List.length_set];lia) (by lia)]
  congr 1
  have e1:(arr.set q x).take (q+1)=arr.take q++[x]:=by
   apply List.ext_getElem?
   intro i
   rw[List.getElem?_take,List.getElem?_append,List.length_take,List.getElem?_take,List.getElem?_set]
   by_cases h1:i<q
   ·rw[if_pos (by lia),if_neg (by lia),if_pos (by lia),if_pos h1]
   ·by_cases h2:i=q
    ·subst h2
     rw[if_pos (by lia),if_pos rfl,if_pos (by lia),if_neg (by lia)]
     simp[show i - min i arr.length=0 by lia]
    ·rw[if_neg (by lia),if_neg (by lia)]
     rw[List.getElem?_eq_none]
     rw[List.length_singleton]
     lia
  have e2:(arr.set q x).drop (q+1+l.length)=arr.drop (q+(l.length+1)):=by
   apply List.ext_getElem?
   intro i
   rw[List.getElem?_drop,List.getElem?_drop,List.getElem?_set,if_neg (by lia)]
   congr 1
   lia
  rw[e1,e2,List.length_cons,List.append_assoc,List.append_assoc,List.append_assoc]
  rfl
theorem nW {LA LB po:List Nat}{k m:Nat} (sA:Srt key LA) (sB:Srt key LB) (hb:0<LB.length) (ha:0<LA.length) (h1:∀ x∈LA.take k,key x≤key (LB.getD 0 0)) (h4:∀ x∈LB.drop m,key (LA.getD (LA.length - 1) 0)≤key x)
  (hp:po.Perm (LA.drop k++LB.take m)) (sp:Srt key po):Srt key (LA.take k++po++LB.drop m)∧(LA.take k++po++LB.drop m).Perm (LA++LB):=by
 have b0:∀ y∈LB,key (LB.getD 0 0)≤key y:=fun y hy=>by
  obtain⟨j,_,hj,rfl⟩:=bT (i:=0) (l:=LB) (by rwa [List.drop_zero])
  exact fG sB (Nat.zero_le _) hj
 have aL:∀ x∈LA,key x≤key (LA.getD (LA.length - 1) 0):=fun x hx=>by
  obtain⟨j,_,hj,rfl⟩:=bT (i:=0) (l:=LA) (by rwa [List.drop_zero])
  exact fG sA (by lia) (by lia)
 have cA:Srt key (LA.take k++LA.drop k):=by rwa [List.take_append_drop]
 have cB:Srt key (LB.take m++LB.drop m):=by rwa [List.take_append_drop]
 have cA:=br.mp cA
 have cB:=br.mp cB
 refine⟨br.mpr ⟨br.mpr ⟨cA.1,sp,fun x hx y hy=>?_⟩,cB.2.1,fun x hx y hy=>?_⟩,?_⟩
 ·rcases List.mem_append.mp (hp.mem_iff.mp hy) with hy | hy
  ·exact cA.2.2 x hx y hy
  ·exact Int.le_trans (h1 x hx) (b0 y (List.mem_of_mem_take hy))
 ·rcases List.mem_append.mp hx with hx | hx
  ·exact Int.le_trans (h1 x hx) (b0 y (List.mem_of_mem_drop hy))
  ·rcases List.mem_append.mp (hp.mem_iff.mp hx) with hx | hx
   ·exact Int.le_trans (aL x (List.mem_of_mem_drop hx)) (h4 y hy)
   ·exact cB.2.2 x hx y hy
 ·refine (List.Perm.append_right _ (List.Perm.append_left _ hp)).trans ?_
  rw[← List.append_assoc,List.take_append_drop,List.append_assoc,List.take_append_drop]
theorem vQ (hc:bp n key (kas_cmp prog w A κ it) s) {lp:List Nat} (hlp:∀ x∈lp,x<n) {i sa na nb pw pw2:Nat}{st:SortSt} (hkind:PyProof.Rows.kindOf st=κ) (harr:arrOf st=(lp.map (kas_item it)).toArray) (hf:failedOf st=none)
  (hi:(pendingOf st)[i]?=some (sa,na,pw)) (hj:(pendingOf st)[i+1]?=some (sa+na,nb,pw2)) (ha:0<na) (hb:0<nb) (hz:sa+na+nb≤lp.length)
  (sA:Srt key ((lp.drop sa).take na)) (sB:Srt key ((lp.drop (sa+na)).take nb)) {Q:Bool→SortSt→Shared→Prop}
  (h:∀ mid st',PyProof.Rows.kindOf st'=κ→failedOf st'=none→pendingOf st'=((pendingOf st).setIfInBounds i (sa,na+nb,pw)).eraseIdxIfInBounds (i+1)→mid.Perm ((lp.drop sa).take (na+nb))→Srt key mid→
   arrOf st'=((lp.take sa++mid++lp.drop (sa+(na+nb))).map (kas_item it)).toArray→Q true st' s):
  kasC (model prog w) A E (mergeAt' i) Q st s:=by
 have lA:((lp.drop sa).take na).length=na:=by rw[List.length_take,List.length_drop];lia
 have lB:((lp.drop (sa+na)).take nb).length=nb:=by rw[List.length_take,List.length_drop];lia
 have gtA:∀ j,j<na→((lp.drop sa).take na).getD j 0=lp.getD (sa+j) 0:=fun j hj=>by simp[List.getD,List.getElem?_take,List.getElem?_drop,hj]
 have gtB:∀ j,j<nb→((lp.drop (sa+na)).take nb).getD j 0=lp.getD (sa+na+j) 0:=fun j hj=>by simp[List.getD,List.getElem?_take,List.getElem?_drop,hj]
 have eW:(lp.drop sa).take na++(lp.drop (sa+na)).take nb=(lp.drop sa).take (na+nb):=by rw[← List.drop_drop,gm]
 have eAll:lp.take sa++(lp.drop sa).take (na+nb)++lp.drop (sa+(na+nb))=lp:=by rw[gm,List.take_append_drop]
 have gA:∀ i j,sa≤i→i≤j→j<sa+na→key (lp.getD i 0)≤key (lp.getD j 0):=fun i j a b c=>by
  have:=fG sA (i:=i - sa) (j:=j - sa) (by lia) (by lia)
  rwa [gtA _ (by lia),gtA _ (by lia),show sa+(i - sa)=i by lia,show sa+(j - sa)=j by lia] at this
 have gB:∀ i j,sa+na≤i→i≤j→j<sa+na+nb→key (lp.getD i 0)≤key (lp.getD j 0):=fun i j a b c=>by
  have:=fG sB (i:=i - (sa+na)) (j:=j - (sa+na)) (by lia) (by lia)
  rwa [gtB _ (by lia),gtB _ (by lia),show sa+na+(i - (sa+na))=i by lia,show sa+na+(j - (sa+na))=j by lia] at this
 have mA:∀ x∈(lp.drop sa).take na,∃ j,sa≤j∧j<sa+na∧x=lp.getD j 0:=fun x hx=>by
  obtain⟨j,j0,j1,rfl⟩:=fF hx
  exact⟨sa+j,by lia,by lia,rfl⟩
 have mB:∀ x∈(lp.drop (sa+na)).take nb,∃ j,sa+na≤j∧j<sa+na+nb∧x=lp.getD j 0:=fun x hx=>by
  obtain⟨j,j0,j1,rfl⟩:=fF hx
  exact⟨sa+na+j,by lia,by lia,rfl⟩
 unfold mergeAt'
 with_unfolding_all refine kasC_bind (kasC_get ?_)
 simp only[hi,hj,harr]
 refine kasC_bind (vP ?_)
 refine kasC_bind (aV (show sa+na<lp.length by lia) ?_)
 refine kasC_bind (kK hc (cf hlp (show sa+na<lp.length by lia)) hlp (base:=sa) (m:=na) (hint:=0) (by lia) ha gA (by exact hkind) ?_)
 intro k hk1 lo1 hi1
 dsimp only
 by_cases c1:na - k=0
 ·rw[if_pos (by simpa using c1)]
  refine kasC_pure (h _ _ (by exact hkind) (by exact hf) rfl (List.Perm.refl _) ?_ ?_)
  ·rw[← eW]
   refine br.mpr ⟨sA,sB,fun x hx y hy=>?_⟩
   obtain⟨j,j1,j2,rfl⟩:=mA x hx
   obtain⟨j',j3,j4,rfl⟩:=mB y hy
   have:=lo1 j j1 (by lia)
   have:=gB (sa+na) j' (by lia) j3 j4
   lia
  ·rw[eAll]
 rw[if_neg (by simpa using c1)]
 rw[show sa+k+(na - k) - 1=sa+na - 1 by lia]
 refine kasC_bind (aV (show sa+na - 1<lp.length by lia) ?_)
 refine kasC_bind (ie hc (cf hlp (show sa+na - 1<lp.length by lia)) hlp (base:=sa+na) (m:=nb) (hint:=nb - 1) (by lia) (by lia) gB (by exact hkind) ?_)
 intro nb' hk2 lo2 hi2
 dsimp only
 by_cases c2:nb'=0
 ·rw[if_pos (by simpa using c2)]
  refine kasC_pure (h _ _ (by exact hkind) (by exact hf) rfl (List.Perm.refl _) ?_ ?_)
  ·rw[← eW]
   refine br.mpr ⟨sA,sB,fun x hx y hy=>?_⟩
   obtain⟨j,j1,j2,rfl⟩:=mA x hx
   obtain⟨j',j3,j4,rfl⟩:=mB y hy
   have:=hi2 j' (by lia) j4
   have:=gA j (sa+na - 1) j1 (by lia) (by lia)
   lia
  ·rw[eAll]
 rw[if_neg (by simpa using c2)]
 have eX:(lp.map (kas_item it)).toArray.extract (sa+k) (sa+na)=((((lp.drop sa).take na).drop k).map (kas_item it)).toArray:=by
  apply Array.ext'
  simp only[List.extract_toArray,List.extract_eq_drop_take,List.map_drop,List.map_take]
  rw[List.drop_take,List.drop_drop,show sa+na - (sa+k)=na - k by lia]
 have eY:(lp.map (kas_item it)).toArray.extract (sa+na) (sa+na+nb')=((((lp.drop (sa+na)).take nb).take nb').map (kas_item it)).toArray:=by
  apply Array.ext'
  simp only[List.extract_toArray,List.extract_eq_drop_take,List.map_drop,List.map_take]
  rw[List.take_take,Nat.min_eq_left hk2,show sa+na+nb' - (sa+na)=nb' by lia]
 rw[eX,eY]
 have h1:∀ x∈((lp.drop sa).take na).take k,key x≤key (((lp.drop (sa+na)).take nb).getD 0 0):=fun x hx=>by
  rw[gtB 0 hb]
  obtain⟨j,j0,j1,rfl⟩:=ci hx
  rw[gtA j (by lia)]
  exact lo1 _ (by lia) (by lia)
 have h4:∀ x∈((lp.drop (sa+na)).take nb).drop nb',key (((lp.drop sa).take na).getD (((lp.drop sa).take na).length - 1) 0)≤key x:=fun x hx=>by
  rw[lA,gtA _ (by lia)]
  obtain⟨j,j0,j1,rfl⟩:=bT hx
  rw[gtB j (by lia),show sa+(na - 1)=sa+na - 1 by lia]
  exact hi2 _ (by lia) (by lia)
 have f1:∀ x∈((lp.drop sa).take na).drop k,key ((((lp.drop (sa+na)).take nb).take nb').getD 0 0)≤key x:=fun x hx=>by
  rw[show (((lp.drop (sa+na)).take nb).take nb').getD 0 0=((lp.drop (sa+na)).take nb).getD 0 0 by simp only[List.getD,List.getElem?_take,if_pos (show 0<nb' by lia)],gtB 0 hb]
  obtain⟨j,j0,j1,rfl⟩:=bT hx
  rw[gtA j (by lia)]
  have:=hi1 (sa+j) (by lia) (by lia)
  rw[Nat.add_zero]
  lia
 have l2:(((lp.drop sa).take na).drop k).length=na - k:=by rw[List.length_drop,lA]
 have l3:(((lp.drop (sa+na)).take nb).take nb').length=nb':=by rw[List.length_take,lB];lia
 have f2:∀ x∈((lp.drop (sa+na)).take nb).take nb',key x≤key ((((lp.drop sa).take na).drop k).getD ((((lp.drop sa).take na).drop k).length - 1) 0):=fun x hx=>by
  rw[l2,show (((lp.drop sa).take na).drop k).getD (na - k - 1) 0=((lp.drop sa).take na).getD (na - 1) 0 by simp only[List.getD,List.getElem?_drop,show k+(na - k - 1)=na - 1 by lia],gtA _ (by lia),show sa+(na - 1)=sa+na - 1 by lia]
  obtain⟨j,j0,j1,rfl⟩:=ci hx
  rw[gtB j (by lia)]
  have:=lo2 (sa+na+j) (by lia) (by lia)
  lia
 have u1:∀ x∈((lp.drop sa).take na).drop k,x<n:=fun x hx=>hlp x (List.mem_of_mem_drop (List.mem_of_mem_take (List.mem_of_mem_drop hx)))
 have u2:∀ x∈((lp.drop (sa+na)).take nb).take nb',x<n:=fun x hx=>hlp x (List.mem_of_mem_drop (List.mem_of_mem_take (List.mem_of_mem_take hx)))
 by_cases c3:na - k≤nb'
 ·rw[if_pos c3]
  refine kasC_bind (vM hc u1 u2 (sA.sublist (List.drop_sublist _ _)) (sB.sublist (List.take_sublist _ _)) (by lia) (by lia) f1 f2 (by exact hkind) ?_)
  intro out st' hM hss
  obtain⟨po,rfl,hperm,hsrt⟩:=hM
  have hmid:=nW (key:=key) sA sB (by lia) (by lia) h1 h4 hperm hsrt
  refine kasC_bind (kasC_modify ?_)
  refine kasC_bind (kasC_get ?_)
  refine kasC_pure ?_
  have e:failedOf st'=none:=hss.f.trans hf
  show Q (failedOf st').isNone _ s
  rw[e]
  refine h (((lp.drop sa).take na).take k++po++((lp.drop (sa+na)).take nb).drop nb') _ (hss.k.trans hkind) (by first | rfl | exact e) (by exact hss.p) (by rw[← eW];exact hmid.2) hmid.1 ?_
  have ea:arrOf st'=(lp.map (kas_item it)).toArray:=hss.a
  have pl:po.length=na - k+nb':=by rw[hperm.length_eq,List.length_append,l2,l3]
  have sA':=kN (po.map (kas_item it)) (lp.map (kas_item it)) (sa+k) 0 (sa+k) (by rw[List.length_map,List.length_map,pl];lia) rfl
  show List.foldl (fun a x=>a.setIfInBounds (sa+k+x.2) x.1) (arrOf st') (po.map (kas_item it)).toArray.toList.zipIdx=_
  rw[ea]
  refine sA'.trans ?_
  rw[List.length_map,pl,← List.map_take,← List.map_drop,← List.map_append,← List.map_append]
  congr 2
  have q1:lp.take (sa+k)=lp.take sa++((lp.drop sa).take na).take k:=by
   rw[List.take_take,Nat.min_eq_left hk1,gm]
  have q2:lp.drop (sa+k+(na - k+nb'))=((lp.drop (sa+na)).take nb).drop nb'++lp.drop (sa+(na+nb)):=by
   have:=kL (l:=lp.drop (sa+na)) (i:=nb') (j:=nb) hk2 (by rw[List.length_drop];lia)
   rw[List.drop_drop,List.drop_drop] at this
   rw[show sa+k+(na - k+nb')=sa+na+nb' by lia,this,show sa+na+nb=sa+(na+nb) by lia]
  rw[q1,q2]
  simp only[List.append_assoc]
 ·rw[if_neg c3]
  refine kasC_bind (vO hc u1 u2 (sA.sublist (List.drop_sublist _ _)) (sB.sublist (List.take_sublist _ _)) (by lia) (by lia) f1 f2 (by exact hkind) ?_)
  intro out st' hM hss
  obtain⟨po,rfl,hperm,hsrt⟩:=hM
  have hmid:=nW (key:=key) sA sB (by lia) (by lia) h1 h4 hperm hsrt
  refine kasC_bind (kasC_modify ?_)
  refine kasC_bind (kasC_get ?_)
  refine kasC_pure ?_
  have e:failedOf st'=none:=hss.f.trans hf
  show Q (failedOf st').isNone _ s
  rw[e]
  refine h (((lp.drop sa).take na).take k++po++((lp.drop (sa+na)).take nb).drop nb') _ (hss.k.trans hkind) (by first | rfl | exact e) (by exact hss.p) (by rw[← eW];exact hmid.2) hmid.1 ?_
  have ea:arrOf st'=(lp.map (kas_item it)).toArray:=hss.a
  have pl:po.length=na - k+nb':=by rw[hperm.length_eq,List.length_append,l2,l3]
  have sA':=kN (po.map (kas_item it)) (lp.map (kas_item it)) (sa+k) 0 (sa+k) (by rw[List.length_map,List.length_map,pl];lia) rfl
  show List.foldl (fun a x=>a.setIfInBounds (sa+k+x.2) x.1) (arrOf st') (po.map (kas_item it)).toArray.toList.zipIdx=_
  rw[ea]
  refine sA'.trans ?_
  rw[List.length_map,pl,← List.map_take,← List.map_drop,← List.map_append,← List.map_append]
  congr 2
  have q1:lp.take (sa+k)=lp.take sa++((lp.drop sa).take na).take k:=by
   rw[List.take_take,Nat.min_eq_left hk1,gm]
  have q2:lp.drop (sa+k+(na - k+nb'))=((lp.drop (sa+na)).take nb).drop nb'++lp.drop (sa+(na+nb)):=by
   have:=kL (l:=lp.drop (sa+na)) (i:=nb') (j:=nb) hk2 (by rw[List.length_drop];lia)
   rw[List.drop_drop,List.drop_drop] at this
   rw[show sa+k+(na - k+nb')=sa+na+nb' by lia,this,show sa+na+nb=sa+(na+nb) by lia]
  rw[q1,q2]
  simp only[List.append_assoc]
end
section
variable {prog:Program}{w:World}{A:Around}{E:Value→Shared→Prop}{κ:SortKind}{it:Array Keyed}{key:Nat→Int}{n:Nat}{s:Shared}{pend:Array (Nat×Nat×Nat)}
structure Hd (κ:SortKind) (it:Array Keyed) (pend:Array (Nat×Nat×Nat)) (st:SortSt) (p:Array Nat):Prop where
 k:PyProof.Rows.kindOf st=κ
 a:arrOf st=p.map (kas_item it)
 p:pendingOf st=pend
 f:failedOf st=none
theorem ij (hc:bp n key (kas_cmp prog w A κ it) s) {p:Array Nat} (hp:Rg n p) {i j:Nat} (hi:i<n) (hj:j<n) {st:SortSt} (H:Hd κ it pend st p) {Q:Option Bool→SortSt→Shared→Prop} (h:Q (some (decide (kyA key p i<kyA key p j))) st s):
  kasC (model prog w) A E (ltAt' i j) Q st s:=by
 have el:∀ i,i<n→(p.map (kas_item it))[i]?=some (kas_item it (p.getD i 0)):=fun i hi=>by
  have:i<p.size:=by rw[hp.size];exact hi
  simp[Array.getD,this]
 rw[ltAt'_eq]
 refine kasC_bind (kasC_get ?_)
 rw[H.a]
 dsimp only
 rw[elem'_eq,elem'_eq,el i hi,el j hj]
 refine kasC_bind (kasC_pure ?_)
 refine kasC_bind (kasC_pure ?_)
 exact hZ hc (hp.lt hi) (hp.lt hj) H.k h
theorem vR {p:Array Nat}{st:SortSt} (H:Hd κ it pend st p) {i j:Nat}{Q:Unit→SortSt→Shared→Prop} (h:∀ st',Hd κ it pend st' (kas_rev p i j)→Q () st' s):kasC (model prog w) A E (reverseSlice' i j) Q st s:=by
 rw[reverseSlice'_eq]
 refine kasC_modify (h _ ⟨H.k,?_,H.p,H.f⟩)
 show mirror (arrOf st) i j ((j - i) / 2)=_
 rw[H.a]
 exact kas_swaps_map (kas_item it) (fun k=>i+k) (fun k=>j - 1 - k) _ p
theorem vS {p:Array Nat}{st:SortSt} (H:Hd κ it pend st p) {i j:Nat}{Q:Unit→SortSt→Shared→Prop} (h:∀ st',Hd κ it pend st' (bubble p i (i - j))→Q () st' s):kasC (model prog w) A E (moveDown' i j) Q st s:=by
 rw[moveDown'_eq]
 refine kasC_modify (h _ ⟨H.k,?_,H.p,H.f⟩)
 show bubble (arrOf st) i (i - j)=_
 rw[H.a]
 exact kas_swaps_map (kas_item it) (fun k=>i - k) (fun k=>i - k - 1) _ p
theorem ik {σ β:Type}{M:Model}{f:Nat→β→StateT σ Sem (ForInStep β)}{Q:β→σ→Shared→Prop} (I:Nat→β→σ→Shared→Prop) (B:Nat)
  (step:∀ x c st s',x<B→I x c st s'→kasC M A E (f x c) (fun r st2 s2=>match r with | .yield c'=>I (x+1) c' st2 s2 | .done c'=>Q c' st2 s2) st s'):∀ (m a:Nat) (c:β) (st:σ) (s':Shared),a+m≤B→(∀ c st s',I (a+m) c st s'→Q c st s')→I a c st s'→
   kasC M A E (forIn (List.range' a m) c f) Q st s'
 | 0,a,c,st,s',hB,fin,h=>by
  show kasC M A E (forIn ([]:List Nat) c f) Q st s'
  exact kasC_nil (fin c st s' h)
 | m+1,a,c,st,s',hB,fin,h=>by
  show kasC M A E (forIn (a::List.range' (a+1) m) c f) Q st s'
  refine kasC_cons (wpAny_mono (step a c st s' (by lia) h) (fun r s2 h'=>?_) fun _ _ e=>e)
  obtain⟨r,st2⟩:=r
  cases r with
  | done c'=>exact h'
  | yield c'=>exact ik I B step m (a+1) c' st2 s2 (by lia) (fun c st s' hi=>fin c st s' (by rw[show a+(m+1)=a+1+m by lia];exact hi)) h'
theorem vT (hc:bp n key (kas_cmp prog w A κ it) s) (inj:∀ i j,i<n→j<n→key i=key j→i=j) {p:Array Nat} (hp:Rg n p) {lo nrem:Nat} (h1:1≤nrem) (hz:lo+nrem≤n) {st:SortSt} (H:Hd κ it pend st p) {Q:Option Nat→SortSt→Shared→Prop}
  (h:∀ m p' st',1≤m→m≤nrem→Rg n p'→Hd κ it pend st' p'→(∀ i,i<lo→p'[i]?=p[i]?)→(∀ j,lo+1≤j→j<lo+m→kyA key p' (j - 1)≤kyA key p' j)→Q (some m) st' s):
  kasC (model prog w) A E (countRun' lo nrem) Q st s:=by
 unfold countRun'
 have asc:∀ (q:Array Nat) (st1:SortSt) (a:Nat),Rg n q→Hd κ it pend st1 q→1≤a→a≤nrem→(∀ j,lo+1≤j→j<lo+a→kyA key q (j - 1)≤kyA key q j)→
   kasC (model prog w) A E (forIn [a:nrem] ((none:Option (Option Nat)),a) fun x c=>do
    let r ← ltAt' (lo+c.2) (lo+c.2 - 1)
    match r with
    | some smaller=>if smaller=true then pure (ForInStep.done (none,c.2)) else pure (ForInStep.yield (none,c.2+1))
    | x=>pure (ForInStep.done (some none,c.2)))
    (fun c st' s'=>s=s'∧st1=st'∧∃ m,c=(none,m)∧a≤m∧m≤nrem∧(∀ j,lo+1≤j→j<lo+m→kyA key q (j - 1)≤kyA key q j)∧(m=nrem∨kyA key q (lo+m)<kyA key q (lo+m - 1))) st1 s:=fun q st1 a hq H1 a1 a2 a3=>by
  refine kasC_range (ik (fun x c st' s'=>s=s'∧st1=st'∧c=(none,x)∧a≤x∧∀ j,lo+1≤j→j<lo+x→kyA key q (j - 1)≤kyA key q j) nrem ?_ _ _ _ _ _ (by lia) ?_ ⟨rfl,rfl,rfl,Nat.le_refl _,a3⟩)
  ·rintro x c st' s' hx ⟨rfl,rfl,rfl,x1,x2⟩
   dsimp only
   refine kasC_bind (ij hc hq (by lia) (by lia) H1 ?_)
   dsimp only
   by_cases hk:kyA key q (lo+x)<kyA key q (lo+x - 1)
   ·rw[if_pos (by simpa using hk)]
    exact kasC_pure ⟨rfl,rfl,x,rfl,x1,by lia,x2,.inr hk⟩
   ·rw[if_neg (by simpa using hk)]
    refine kasC_pure ⟨rfl,rfl,rfl,by lia,fun j j1 j2=>?_⟩
    by_cases e:j=lo+x
    ·subst e
     lia
    ·exact x2 j j1 (by lia)
  ·rintro c st' s' ⟨rfl,rfl,rfl,x1,x2⟩
   rw[show a+(nrem - a)=nrem by lia] at x2 ⊢
   exact⟨rfl,rfl,nrem,rfl,by lia,Nat.le_refl _,x2,.inl rfl⟩
 with_unfolding_all refine kasC_bind (bU (asc p st 1 hp H (Nat.le_refl _) h1 fun j a b=>by lia) ?_)
 rintro c st' s' ⟨rfl,rfl,m,rfl,m1,m2,m3,m4⟩
 dsimp only
 by_cases e:m=nrem
 ·rw[if_pos (by simpa using e)]
  exact kasC_pure (h m p _ m1 m2 hp H (fun _ _=>rfl) m3)
 rw[if_neg (by simpa using e)]
 have lt1:kyA key p (lo+m)<kyA key p (lo+m - 1):=m4.resolve_left e
 by_cases e1:m > 1
 ·rw[if_pos e1]
  refine kasC_bind (ij hc hp (by lia) (by lia) H ?_)
  dsimp only
  have:∀ d,1≤d→d<m→kyA key p lo<kyA key p (lo+d):=fun d=>by
   induction d with
   | zero=>intro x;lia
   | succ d ih=>
    intro _ hd
    have a:=m3 (lo+(d+1)) (by lia) (by lia)
    rw[show lo+(d+1) - 1=lo+d by lia] at a
    have b:=hp.ne inj (show lo+d<lo+(d+1) by lia) (by lia)
    by_cases z:d=0
    ·subst z
     rw[Nat.add_zero] at a b
     lia
    ·have:=ih (by lia) (by lia)
     lia
  have hr:=this (m - 1) (by lia) (by lia)
  rw[show lo+(m - 1)=lo+m - 1 by lia] at hr
  rw[if_pos (by simpa using hr)]
  exact kasC_pure (h m p _ m1 m2 hp H (fun _ _=>rfl) m3)
 rw[if_neg e1]
 obtain rfl:m=1:=by lia
 refine kasC_bind (kasC_lift (wpAny_rule ?_))
 refine kasC_bind (bU (Q':=fun c st' s'=>s=s'∧st=st'∧∃ m,c=(none,m,0)∧2≤m∧m≤nrem∧∀ j,lo+1≤j→j<lo+m→kyA key p j<kyA key p (j - 1))
  (kasC_range (ik (fun x c st' s'=>s=s'∧st=st'∧c=(none,x,0)∧2≤x∧∀ j,lo+1≤j→j<lo+x→kyA key p j<kyA key p (j - 1)) nrem ?d1 _ _ _ _ _ (by lia) ?d2 ⟨rfl,rfl,rfl,Nat.le_refl _,fun j j1 j2=>by
   obtain rfl:j=lo+1:=by lia
   exact lt1⟩)) ?d3)
 case d1=>
  rintro x c st' s' hx ⟨rfl,rfl,rfl,x1,x2⟩
  dsimp only
  refine kasC_bind (ij hc hp (by lia) (by lia) H ?_)
  dsimp only
  by_cases hk:kyA key p (lo+x)<kyA key p (lo+x - 1)
  ·rw[if_pos (by simpa using hk),if_neg (by lia)]
   refine kasC_pure ⟨rfl,rfl,rfl,by lia,fun j j1 j2=>?_⟩
   by_cases e:j=lo+x
   ·subst e
    exact hk
   ·exact x2 j j1 (by lia)
  ·rw[if_neg (by simpa using hk)]
   refine kasC_bind (ij hc hp (by lia) (by lia) H ?_)
   dsimp only
   have b:=hp.ne inj (show lo+x - 1<lo+x by lia) (by lia)
   rw[if_pos (by rw[decide_eq_true_eq];lia)]
   exact kasC_pure ⟨rfl,rfl,x,rfl,x1,by lia,x2⟩
 case d2=>
  rintro c st' s' ⟨rfl,rfl,rfl,x1,x2⟩
  rw[show 1+1+(nrem - (1+1))=nrem by lia] at x2 ⊢
  exact⟨rfl,rfl,nrem,rfl,by lia,Nat.le_refl _,x2⟩
 case d3=>
  rintro c st' s' ⟨rfl,rfl,k,rfl,k1,k2,k3⟩
  dsimp only
  rw[if_neg (by lia)]
  refine kasC_bind (vR H ?_)
  intro st2 H2
  have hp':=hp.rev lo (lo+k)
  have g:∀ i,(kas_rev p lo (lo+k))[i]?=if lo≤i∧i<lo+k then p[lo+(lo+k) - 1 - i]? else p[i]?:=fun i=>by
   unfold kas_rev
   rw[getElem?_mirror_all (by rw[hp.size];lia)]
  have ky:∀ i,lo≤i→i<lo+k→kyA key (kas_rev p lo (lo+k)) i=kyA key p (lo+(lo+k) - 1 - i):=fun i a b=>c7 (by rw[g,if_pos ⟨a,b⟩])
  refine kasC_bind (bU (asc (kas_rev p lo (lo+k)) st2 k hp' H2 (by lia) k2 fun j j1 j2=>?_) ?_)
  ·rw[ky _ (by lia) (by lia),ky _ (by lia) (by lia)]
   have:=k3 (lo+(lo+k) - 1 - (j - 1)) (by lia) (by lia)
   rw[show lo+(lo+k) - 1 - (j - 1) - 1=lo+(lo+k) - 1 - j by lia] at this
   lia
  ·rintro c st' s' ⟨rfl,rfl,m',rfl,q1,q2,q3,q4⟩
   dsimp only
   exact kasC_pure (h m' _ _ (by lia) q2 hp' H2 (fun i hi=>by rw[g,if_neg (by lia)]) q3)
end
section
variable {prog:Program}{w:World}{A:Around}{E:Value→Shared→Prop}{κ:SortKind}{it:Array Keyed}{key:Nat→Int}{n:Nat}{s:Shared}{pend:Array (Nat×Nat×Nat)}
noncomputable def b9 (key:Nat→Int) (p:Array Nat) (lo m:Nat):Prop:=∀ i j,lo≤i→i≤j→j<lo+m→kyA key p i≤kyA key p j
theorem nX {p:Array Nat}{lo m:Nat} (h:∀ j,lo+1≤j→j<lo+m→kyA key p (j - 1)≤kyA key p j):b9 key p lo m:=by
 intro i j hi hij hj
 obtain⟨d,rfl⟩:∃ d,j=i+d:=⟨j - i,by lia⟩
 clear hij
 induction d with
 | zero=>exact Int.le_refl _
 | succ d ih=>
  have a:=ih (by lia)
  have b:=h (i+(d+1)) (by lia) hj
  rw[show i+(d+1) - 1=i+d by lia] at b
  lia
theorem vU (hc:bp n key (kas_cmp prog w A κ it) s) {p:Array Nat} (hp:Rg n p) {lo m okk:Nat} (hz:lo+m≤n) (h1:1≤okk) (hm:okk≤m) (up:b9 key p lo okk) {st:SortSt} (H:Hd κ it pend st p) {Q:Bool→SortSt→Shared→Prop}
  (h:∀ p' st',Rg n p'→Hd κ it pend st' p'→(∀ i,i<lo→p'[i]?=p[i]?)→b9 key p' lo m→Q true st' s):
  kasC (model prog w) A E (binarySort' lo m okk) Q st s:=by
 rw[binarySort'_eq]
 rw[show max okk 1=okk by lia]
 with_unfolding_all refine kasC_bind (bU (Q':=fun c st' s'=>s=s'∧c=(none,())∧∃ q,Rg n q∧Hd κ it pend st' q∧(∀ i,i<lo→q[i]?=p[i]?)∧b9 key q lo m)
  (kasC_range (ik (fun x c st' s'=>s=s'∧c=(none,())∧1≤x∧∃ q,Rg n q∧Hd κ it pend st' q∧(∀ i,i<lo→q[i]?=p[i]?)∧b9 key q lo x) m ?step _ _ _ _ _ (by lia) ?fin ⟨rfl,rfl,h1,p,hp,H,fun _ _=>rfl,up⟩)) ?after)
 case after=>
  rintro c st' s' ⟨rfl,rfl,q,q1,q2,q3,q4⟩
  exact kasC_pure (h q _ q1 q2 q3 q4)
 case fin=>
  rintro c st' s' ⟨rfl,rfl,x1,q,q1,q2,q3,q4⟩
  rw[show okk+(m - okk)=m by lia] at q4
  exact⟨rfl,rfl,q,q1,q2,q3,q4⟩
 case step=>
  rintro k c st' s' hk ⟨rfl,rfl,k1,q,hq,H',fr,up⟩
  dsimp only
  have L0:∀ i,lo≤i→i<lo+0→kyA key q i≤kyA key q (lo+k):=fun i a b=>by lia
  have R0:∀ i,lo+k≤i→i<lo+k→kyA key q (lo+k)≤kyA key q i:=fun i a b=>by lia
  refine kasC_bind (bU (Q':=fun c st2 s'=>s=s'∧st'=st2∧∃ l r,c=(none,l,r)∧l≤k∧(∀ i,lo≤i→i<lo+l→kyA key q i≤kyA key q (lo+k))∧(∀ i,lo+l≤i→i<lo+k→kyA key q (lo+k)≤kyA key q i))
   (kasC_range (ik (fun x c st2 s'=>s=s'∧st'=st2∧∃ l r,c=(none,l,r)∧l≤r∧r≤k∧r - l≤k - x∧(∀ i,lo≤i→i<lo+l→kyA key q i≤kyA key q (lo+k))∧(∀ i,lo+r≤i→i<lo+k→kyA key q (lo+k)≤kyA key q i)) k ?s2 _ _ _ _ _ (by lia) ?f2 ⟨rfl,rfl,0,k,rfl,by lia,by lia,by lia,L0,R0⟩)) ?a2)
  case f2=>
   rintro c st2 s' ⟨rfl,rfl,l,r,rfl,b1,b2,b3,b4,b5⟩
   exact⟨rfl,rfl,l,r,rfl,by lia,b4,fun i x y=>b5 i (by lia) y⟩
  case s2=>
   rintro x c st2 s' hx ⟨rfl,rfl,l,r,rfl,b1,b2,b3,b4,b5⟩
   dsimp only
   by_cases e:l ≥ r
   ·rw[if_pos e]
    exact kasC_pure ⟨rfl,rfl,l,r,rfl,by lia,b4,fun i x y=>b5 i (by lia) y⟩
   rw[if_neg e]
   have m1:l≤(l+r) / 2:=by lia
   have m2:(l+r) / 2<r:=by lia
   have m3:(l+r) / 2 - l≤k - (x+1):=by lia
   have m4:r - ((l+r) / 2+1)≤k - (x+1):=by lia
   generalize (l+r) / 2=mid at m1 m2 m3 m4 ⊢
   refine kasC_bind (ij hc hq (by lia) (by lia) H' ?_)
   dsimp only
   by_cases hk2:kyA key q (lo+k)<kyA key q (lo+mid)
   ·rw[if_pos (by simpa using hk2)]
    refine kasC_pure ⟨rfl,rfl,l,mid,rfl,m1,by lia,m3,b4,fun i x y=>?_⟩
    have:=up (lo+mid) i (by lia) x y
    lia
   ·rw[if_neg (by simpa using hk2)]
    refine kasC_pure ⟨rfl,rfl,mid+1,r,rfl,by lia,b2,m4,fun i x y=>?_,b5⟩
    have:=up i (lo+mid) x (by lia) (by lia)
    lia
  case a2=>
   rintro c st2 s' ⟨rfl,rfl,l,r,rfl,b1,b4,b5⟩
   dsimp only
   refine kasC_bind (vS H' ?_)
   intro st3 H3
   have g:∀ i,(bubble q (lo+k) (lo+k - (lo+l)))[i]?=if i=lo+l then q[lo+k]? else if lo+l<i∧i≤lo+k then q[i - 1]? else q[i]?:=fun i=>by
    have:=getElem?_bubble (xs:=q) (src:=lo+k) (by rw[hq.size];lia) (lo+k - (lo+l)) (by lia) i
    rwa [show lo+k - (lo+k - (lo+l))=lo+l by lia] at this
   have ky:∀ i,kyA key (bubble q (lo+k) (lo+k - (lo+l))) i=if i=lo+l then kyA key q (lo+k) else if lo+l<i∧i≤lo+k then kyA key q (i - 1) else kyA key q i:=fun i=>by
    have g:=g i
    by_cases e:i=lo+l
    ·rw[if_pos e] at g ⊢;exact c7 g
    ·rw[if_neg e] at g ⊢
     by_cases e2:lo+l<i∧i≤lo+k
     ·rw[if_pos e2] at g ⊢;exact c7 g
     ·rw[if_neg e2] at g ⊢;exact c7 g
   refine kasC_pure ⟨rfl,rfl,by lia,_,hq.bub _ _,H3,fun i hi=>by rw[g,if_neg (by lia),if_neg (by lia)];exact fr i hi,nX fun j x y=>?_⟩
   rw[ky,ky]
   by_cases c1:j - 1=lo+l
   ·rw[if_pos c1,if_neg (by lia),if_pos (by lia)]
    exact b5 (j - 1) (by lia) (by lia)
   ·rw[if_neg c1]
    by_cases c2:j=lo+l
    ·rw[if_pos c2,if_neg (by lia)]
     exact b4 (j - 1) (by lia) (by lia)
    ·rw[if_neg c2]
     by_cases c3:lo+l<j - 1
     ·rw[if_pos (by lia),if_pos (by lia)]
      exact up _ _ (by lia) (by lia) (by lia)
     ·rw[if_neg (by lia),if_neg (by lia)]
      exact up _ _ (by lia) (by lia) (by lia)
end
section
variable {prog:Program}{w:World}{A:Around}{E:Value→Shared→Prop}{κ:SortKind}{it:Array Keyed}{key:Nat→Int}{n:Nat}{s:Shared}{pend:Array (Nat×Nat×Nat)}
noncomputable def aQ (key:Nat→Int) (p:Array Nat):Nat→List (Nat×Nat×Nat)→Nat→Prop
 | a,[],b=>a=b
 | a,(x,l,_)::t,b=>x=a∧0<l∧b9 key p x l∧aQ key p (a+l) t b
theorem aQ.le {p:Array Nat}:∀ {t:List (Nat×Nat×Nat)}{a b:Nat},aQ key p a t b→a+t.length≤b
 | [],a,b,h=>by rw[show b=a from h.symm];exact Nat.le_refl _
 | (x,l,_)::t,a,b,h=>by
  have:=h.2.2.2.le
  have:=h.2.1
  rw[List.length_cons]
  lia
theorem aQ.congr {p q:Array Nat}:∀ {t:List (Nat×Nat×Nat)}{a b:Nat},aQ key p a t b→(∀ i,a≤i→i<b→kyA key q i=kyA key p i)→aQ key q a t b
 | [],a,b,h,_=>h
 | (x,l,_)::t,a,b,h,g=>by
  have:=h.2.2.2.le
  obtain⟨rfl,h2,h3,h4⟩:=h
  refine⟨rfl,h2,fun i j hi hij hj=>?_,h4.congr fun i a b=>g i (by lia) b⟩
  rw[g i hi (by lia),g j (by lia) (by lia)]
  exact h3 i j hi hij hj
theorem aQ.app {p:Array Nat}:∀ {t u:List (Nat×Nat×Nat)}{a b:Nat},aQ key p a (t++u) b↔∃ c,aQ key p a t c∧aQ key p c u b
 | [],u,a,b=>⟨fun h=>⟨a,rfl,h⟩,fun ⟨c,e,h⟩=>by rw[show a=c from e];exact h⟩
 | (x,l,z)::t,u,a,b=>by
  show (x=a∧0<l∧b9 key p x l∧aQ key p (a+l) (t++u) b)↔_
  rw[aQ.app]
  constructor
  ·rintro⟨h1,h2,h3,c,h4,h5⟩
   exact⟨c,⟨h1,h2,h3,h4⟩,h5⟩
  ·rintro⟨c,⟨h1,h2,h3,h4⟩,h5⟩
   exact⟨h1,h2,h3,c,h4,h5⟩
theorem vV {α:Type}{l:List α}{i:Nat} (h:i+1<l.length):∃ l1 x y l2,l=l1++x::y::l2∧l1.length=i:=by
 refine⟨l.take i,l[i]'(by lia),l[i+1],l.drop (i+2),?_,by rw[List.length_take];lia⟩
 have e1:=List.drop_eq_getElem_cons (l:=l) (i:=i) (by lia)
 have e2:=List.drop_eq_getElem_cons (l:=l) (i:=i+1) h
 rw[← e2,← e1,List.take_append_drop]
theorem kyT (l:List Nat) (i:Nat):kyA key l.toArray i=key (l.getD i 0):=by unfold kyA;rw[dM]
theorem kO (hc:bp n key (kas_cmp prog w A κ it) s) {p:Array Nat} (hp:Rg n p) {st:SortSt} (H:Hd κ it pend st p) {lo i:Nat} (hi:i+1<pend.size) (R:aQ key p 0 pend.toList lo) (hlo:lo≤n) {Q:Bool→SortSt→Shared→Prop}
  (h:∀ pend' p' st',Rg n p'→Hd κ it pend' st' p'→pend'.size+1=pend.size→aQ key p' 0 pend'.toList lo→(∀ i,lo≤i→kyA key p' i=kyA key p i)→Q true st' s):kasC (model prog w) A E (mergeAt' i) Q st s:=by
 obtain⟨l1,⟨sa,na,pw⟩,⟨sb,nb,pw2⟩,l2,e,rfl⟩:=vV (l:=pend.toList) (i:=i) (by simpa using hi)
 rw[e] at R
 obtain⟨c,R1,rfl,na0,A1,rfl,nb0,A2,R2⟩:=aQ.app.mp R
 have b2:=R2.le
 have pe:pend=(l1++(sa,na,pw)::(sa+na,nb,pw2)::l2).toArray:=by rw[← e]
 have psz:p.size=n:=hp.size
 have plt:∀ x∈p.toList,x<n:=fun x hx=>List.mem_range.mp (hp.mem_iff.mp hx)
 have gk:∀ i,kyA key p i=key (p.toList.getD i 0):=fun i=>kyT p.toList i
 have pl:p.toList.length=n:=by rw[Array.length_toList,psz]
 have srtOf:∀ a m,a+m≤n→b9 key p a m→Srt key ((p.toList.drop a).take m):=fun a m hz h=>by
  refine List.pairwise_iff_getElem.mpr fun i j hi hj hij=>?_
  have hi':=hi
  have hj':=hj
  rw[List.length_take,List.length_drop,pl] at hi' hj'
  have:=h (a+i) (a+j) (by lia) (by lia) (by lia)
  rw[gk,gk] at this
  rw[List.getElem_take,List.getElem_drop,List.getElem_take,List.getElem_drop]
  rw[List.getD_eq_getElem?_getD,List.getD_eq_getElem?_getD,List.getElem?_eq_getElem (by lia),List.getElem?_eq_getElem (by lia)] at this
  exact this
 refine vQ hc (lp:=p.toList) plt (i:=l1.length) (sa:=sa) (na:=na) (nb:=nb) (pw:=pw) (pw2:=pw2) H.k (by rw[H.a];apply Array.ext';simp) H.f (by rw[H.p,pe];simp) (by rw[H.p,pe];simp) na0 nb0 (by lia) (srtOf _ _ (by lia) A1) (srtOf _ _ (by lia) A2) ?_
 intro mid st' k1 f1 p1 m1 m2 a1
 have ml:mid.length=na+nb:=by rw[m1.length_eq,List.length_take,List.length_drop,pl];lia
 have eAll:p.toList.take sa++(p.toList.drop sa).take (na+nb)++p.toList.drop (sa+(na+nb))=p.toList:=by rw[gm,List.take_append_drop]
 have hp':Rg n (p.toList.take sa++mid++p.toList.drop (sa+(na+nb))).toArray:=by
  show (p.toList.take sa++mid++p.toList.drop (sa+(na+nb))).Perm (List.range n)
  refine List.Perm.trans (List.Perm.append_right _ (List.Perm.append_left _ m1)) ?_
  rw[eAll]
  exact hp
 have tl:(p.toList.take sa).length=sa:=by rw[List.length_take,pl];lia
 have k1':∀ i,i<sa→kyA key (p.toList.take sa++mid++p.toList.drop (sa+(na+nb))).toArray i=kyA key p i:=fun i hi=>by
  rw[kyT,gk]
  congr 1
  rw[List.getD_eq_getElem?_getD,List.getD_eq_getElem?_getD,List.append_assoc,List.getElem?_append_left (by lia),List.getElem?_take,if_pos hi]
 have k2':∀ i,sa+(na+nb)≤i→kyA key (p.toList.take sa++mid++p.toList.drop (sa+(na+nb))).toArray i=kyA key p i:=fun i hi=>by
  rw[kyT,gk]
  congr 1
  rw[List.getD_eq_getElem?_getD,List.getD_eq_getElem?_getD,List.getElem?_append_right (by rw[List.length_append];lia),List.getElem?_drop,List.length_append,tl,ml]
  congr 2
  lia
 have k3':∀ i,sa≤i→i<sa+(na+nb)→kyA key (p.toList.take sa++mid++p.toList.drop (sa+(na+nb))).toArray i=key (mid.getD (i - sa) 0):=fun i h1 h2=>by
  rw[kyT]
  congr 1
  rw[List.getD_eq_getElem?_getD,List.getD_eq_getElem?_getD,List.append_assoc,List.getElem?_append_right (by lia),tl,List.getElem?_append_left (by lia)]
 have pe':((l1++(sa,na,pw)::(sa+na,nb,pw2)::l2).toArray.setIfInBounds l1.length (sa,na+nb,pw)).eraseIdxIfInBounds (l1.length+1)=(l1++(sa,na+nb,pw)::l2).toArray:=by
  rw[List.setIfInBounds_toArray,List.set_append_right _ _ (Nat.le_refl _),Nat.sub_self,List.set_cons_zero]
  rw[List.eraseIdxIfInBounds_toArray,List.eraseIdx_append_of_length_le (by lia),show l1.length+1 - l1.length=1 by lia]
  rfl
 refine h ((l1++(sa,na+nb,pw)::l2).toArray) _ st' hp' ⟨k1,by rw[a1];apply Array.ext';simp,by rw[p1,H.p,pe,pe'],f1⟩ (by rw[pe];simp;lia) ?_ (fun i hi=>k2' i (by lia))
 have R2':aQ key p (sa+(na+nb)) l2 lo:=by rw[← Nat.add_assoc];exact R2
 refine aQ.app.mpr ⟨sa,R1.congr fun i _ b=>k1' i b,rfl,by lia,fun i j h1 h2 h3=>?_,R2'.congr fun i a b=>k2' i a⟩
 ·rw[k3' i h1 (by lia),k3' j (by lia) h3]
  exact fG m2 (by lia) (by lia)
end
section
variable {prog:Program}{w:World}{A:Around}{E:Value→Shared→Prop}{κ:SortKind}{it:Array Keyed}{key:Nat→Int}{n:Nat}{s:Shared}{pend:Array (Nat×Nat×Nat)}
theorem aQ.same {p:Array Nat}:∀ {t u:List (Nat×Nat×Nat)}{a b:Nat},aQ key p a t b→(t.map fun x=>(x.1,x.2.1))=(u.map fun x=>(x.1,x.2.1))→aQ key p a u b
 | [],[],a,b,h,_=>h
 | [],_::_,a,b,h,e=>by cases e
 | _::_,[],a,b,h,e=>by cases e
 | (x,l,z)::t,(x',l',z')::u,a,b,h,e=>by
  rw[List.map_cons,List.map_cons] at e
  injection e with e1 e2
  injection e1 with e3 e4
  dsimp only at e3 e4
  subst e3
  subst e4
  exact⟨h.1,h.2.1,h.2.2.1,h.2.2.2.same e2⟩
theorem nY (xs:Array (Nat×Nat×Nat)) (i z:Nat):(xs.toList.map fun x=>(x.1,x.2.1))=((xs.modify i fun x=>(x.1,x.2.1,z)).toList.map fun x=>(x.1,x.2.1)):=by
 apply List.ext_getElem?
 intro j
 rw[List.getElem?_map,List.getElem?_map,Array.getElem?_toList,Array.getElem?_toList,Array.getElem?_modify]
 split
 ·rw[Option.map_map]
  rfl
 ·rfl
theorem b9.congr {p q:Array Nat}{lo m:Nat} (h:b9 key p lo m) (g:∀ i,lo≤i→kyA key q i=kyA key p i):b9 key q lo m:=fun i j a b c=>by
 rw[g i a,g j (by lia)]
 exact h i j a b c
theorem vW {Q:Unit→SortSt→Shared→Prop} (hc:bp n key (kas_cmp prog w A κ it) s) (inj:∀ i j,i<n→j<n→key i=key j→i=j) (h2:2≤n)
  (hG:∀ p' st',Rg n p'→Up key p' n→arrOf st'=p'.map (kas_item it)→failedOf st'=none→Q () st' s):kasC (model prog w) A E sortRuns' Q (kas_st κ it (List.range n).toArray) s:=by
 rw[sortRuns'_eq]
 refine kasC_bind (kasC_get ?_)
 dsimp only
 have hsz:(arrOf (kas_st κ it (List.range n).toArray)).size=n:=by
  show ((List.range n).toArray.map (kas_item it)).size=n
  simp
 simp only[hsz]
 refine kasC_bind (bU (Q':=fun c st' s'=>s=s'∧c=(none,n)∧∃ pend p,Rg n p∧Hd κ it pend st' p∧aQ key p 0 pend.toList n)
  (kasC_range (bJ (fun x c st' s'=>s=s'∧∃ lo pend p,c=(none,lo)∧x≤lo∧lo≤n∧Rg n p∧Hd κ it pend st' p∧aQ key p 0 pend.toList lo) ?step _ 0 _ _ _ ?fin ⟨rfl,0,#[],(List.range n).toArray,rfl,Nat.le_refl _,by lia,List.Perm.refl _,⟨rfl,rfl,rfl,rfl⟩,rfl⟩)) ?after)
 case fin=>
  rintro c st' s' ⟨rfl,lo,pend,p,rfl,a,b,d,e,f⟩
  have:lo=n:=by lia
  subst this
  exact⟨rfl,rfl,pend,p,d,e,f⟩
 case after=>
  rintro c st' s' ⟨rfl,rfl,pend,p,hp,H,R⟩
  dsimp only
  refine kasC_bind (bU (Q':=fun c st' s'=>s=s'∧c=(none,())∧∃ p,Rg n p∧Up key p n∧arrOf st'=p.map (kas_item it)∧failedOf st'=none)
   (kasC_range (bJ (fun x c st' s'=>s=s'∧c=(none,())∧∃ pend p,Rg n p∧Hd κ it pend st' p∧aQ key p 0 pend.toList n∧pend.size+x≤n) ?s2 _ 0 _ _ _ ?f2 ⟨rfl,rfl,pend,p,hp,H,R,by have:=R.le;rw[Array.length_toList] at this;lia⟩)) ?a2)
  case a2=>
   rintro c st' s' ⟨rfl,rfl,p,a,b,c,d⟩
   exact kasC_pure (hG p _ a b c d)
  case f2=>
   rintro c st' s' ⟨rfl,rfl,pend,p,hp,H,R,hx⟩
   have e:pend.toList=[]:=List.eq_nil_of_length_eq_zero (by rw[Array.length_toList];lia)
   rw[e] at R
   have:0=n:=R
   lia
  case s2=>
   rintro x c st' s' ⟨rfl,rfl,pend,p,hp,H,R,hx⟩
   refine kasC_bind (kasC_get ?_)
   by_cases e:(pendingOf st').size≤1
   ·rw[if_pos e]
    refine kasC_pure ⟨rfl,rfl,p,hp,?_,H.a,H.f⟩
    rw[H.p] at e
    have el:pend.toList.length≤1:=by rw[Array.length_toList];exact e
    match hl:pend.toList,el with
    | [],_=>
     rw[hl] at R
     have:0=n:=R
     lia
    | [(x,l,z)],_=>
     rw[hl] at R
     obtain⟨rfl,_,a3,a4⟩:=R
     have:0+l=n:=a4
     exact fun i j hij hj=>a3 i j (Nat.zero_le _) hij (by lia)
    | _::_::_,h=>exact absurd h (by simp)
   ·rw[if_neg e]
    rw[H.p] at e
    have stp:∀ idx,idx+1<pend.size→kasC (model prog w) A E (mergeAt' idx) (fun b st2 s2=>b=true∧s=s2∧∃ pend p,Rg n p∧Hd κ it pend st2 p∧aQ key p 0 pend.toList n∧pend.size+(x+1)≤n) st' s:=fun idx hidx=>
     kO hc hp H hidx R (Nat.le_refl _) fun pend' p' st'' a b c d fr=>⟨rfl,rfl,pend',p',a,b,d,by lia⟩
    refine kasC_bind (bU (stp _ ?_) ?_)
    ·rw[H.p]
     have:∀ (c:Prop) [Decidable c],(if c then pend.size - 2 - 1 else pend.size - 2)+1<pend.size:=fun c _=>by split<;>lia
     exact this _
    ·rintro b st2 s2 ⟨rfl,rfl,hh⟩
     rw[if_neg (by decide)]
     exact kasC_pure ⟨rfl,rfl,hh⟩
 case step=>
  rintro x c st' s' ⟨rfl,lo,pend,p,rfl,x1,x2,hp,H,R⟩
  dsimp only
  by_cases c1:lo ≥ n
  ·rw[if_pos c1]
   have:lo=n:=by lia
   subst this
   exact kasC_pure ⟨rfl,rfl,pend,p,hp,H,R⟩
  rw[if_neg c1]
  refine kasC_bind (vT hc inj hp (by lia) (by lia) H ?_)
  intro m p1 st1 m1 m2 hp1 H1 fr1 A1
  have A1:=nX A1
  have R1:aQ key p1 0 pend.toList lo:=R.congr fun i _ b=>c7 (fr1 i b)
  dsimp only
  by_cases c2:m<minRun' n n 0
  ·rw[if_pos c2]
   refine kasC_bind (kasC_lift (wpAny_rule ?_))
   have mm:m≤min (n - lo) (minRun' n n 0):=by lia
   have mn:min (n - lo) (minRun' n n 0)≤n - lo:=by lia
   generalize min (n - lo) (minRun' n n 0)=force at mm mn ⊢
   refine kasC_bind (vU hc hp1 (by lia) m1 mm A1 H1 ?_)
   intro p2 st2 hp2 H2 fr2 A2
   have R2:aQ key p2 0 pend.toList lo:=R1.congr fun i _ b=>c7 (fr2 i b)
   rw[if_neg (by decide)]
   refine kasC_bind (kasC_get ?_)
   rcases hbk:(pendingOf st2).back? with _ | ⟨s1,n1,z1⟩
   ·dsimp only
    refine kasC_bind (kasC_modify ?_)
    refine kasC_pure ⟨rfl,lo+force,pend.push (lo,force,0),p2,rfl,by lia,by lia,hp2,⟨H2.k,H2.a,by show (pendingOf st2).push _=_;rw[H2.p],H2.f⟩,?_⟩
    rw[Array.toList_push]
    exact aQ.app.mpr ⟨lo,R2,rfl,by lia,A2,rfl⟩
   ·dsimp only
    refine kasC_bind (bU (Q':=fun c st' s'=>s=s'∧c=(none,())∧∃ pend p,Rg n p∧Hd κ it pend st' p∧aQ key p 0 pend.toList lo∧b9 key p lo (force))
     (kasC_range (bJ (fun x c st' s'=>s=s'∧c=(none,())∧∃ pend p,Rg n p∧Hd κ it pend st' p∧aQ key p 0 pend.toList lo∧b9 key p lo (force)) ?_ _ 0 _ _ _ (fun _ _ _ z=>z) ⟨rfl,rfl,pend,p2,hp2,H2,R2,A2⟩)) ?_)
    ·rintro y c st' s' ⟨rfl,rfl,pend,p,hp,H,R,A⟩
     refine kasC_bind (kasC_get ?_)
     by_cases e:(pendingOf st').size > 1
     ·rw[if_pos e]
      rcases hg:(pendingOf st')[(pendingOf st').size - 2]? with _ | ⟨a,b,older⟩
      ·dsimp only
       exact kasC_pure ⟨rfl,rfl,pend,p,hp,H,R,A⟩
      ·dsimp only
       split
       ·exact kasC_pure ⟨rfl,rfl,pend,p,hp,H,R,A⟩
       ·refine kasC_bind (kO hc hp H (by rw[H.p] at e ⊢;lia) R (by lia) ?_)
        intro pend' p' st'' a b c d fr
        rw[if_neg (by decide)]
        exact kasC_pure ⟨rfl,rfl,pend',p',a,b,d,A.congr fr⟩
     ·rw[if_neg e]
      dsimp only
      exact kasC_pure ⟨rfl,rfl,pend,p,hp,H,R,A⟩
    ·rintro c st' s' ⟨rfl,rfl,pend,p,hp,H,R,A⟩
     dsimp only
     refine kasC_bind (kasC_modify ?_)
     refine kasC_bind (kasC_modify ?_)
     refine kasC_pure ⟨rfl,lo+force,(pend.modify (pend.size - 1) _).push (lo,force,0),p,rfl,by lia,by lia,hp,⟨H.k,H.a,by show ((pendingOf st').modify ((pendingOf st').size - 1) _).push _=_;rw[H.p],H.f⟩,?_⟩
     rw[Array.toList_push]
     exact aQ.app.mpr ⟨lo,R.same (nY _ _ _),rfl,by lia,A,rfl⟩
  ·rw[if_neg c2]
   have hp2:=hp1
   have H2:=H1
   have R2:=R1
   have A2:=A1
   revert hp2 H2 R2 A2
   generalize p1=p2
   generalize st1=st2
   intro hp2 H2 R2 A2
   refine kasC_bind (kasC_get ?_)
   rcases hbk:(pendingOf st2).back? with _ | ⟨s1,n1,z1⟩
   ·dsimp only
    refine kasC_bind (kasC_modify ?_)
    refine kasC_pure ⟨rfl,lo+m,pend.push (lo,m,0),p2,rfl,by lia,by lia,hp2,⟨H2.k,H2.a,by show (pendingOf st2).push _=_;rw[H2.p],H2.f⟩,?_⟩
    rw[Array.toList_push]
    exact aQ.app.mpr ⟨lo,R2,rfl,by lia,A2,rfl⟩
   ·dsimp only
    refine kasC_bind (bU (Q':=fun c st' s'=>s=s'∧c=(none,())∧∃ pend p,Rg n p∧Hd κ it pend st' p∧aQ key p 0 pend.toList lo∧b9 key p lo (m))
     (kasC_range (bJ (fun x c st' s'=>s=s'∧c=(none,())∧∃ pend p,Rg n p∧Hd κ it pend st' p∧aQ key p 0 pend.toList lo∧b9 key p lo (m)) ?_ _ 0 _ _ _ (fun _ _ _ z=>z) ⟨rfl,rfl,pend,p2,hp2,H2,R2,A2⟩)) ?_)
    ·rintro y c st' s' ⟨rfl,rfl,pend,p,hp,H,R,A⟩
     refine kasC_bind (kasC_get ?_)
     by_cases e:(pendingOf st').size > 1
     ·rw[if_pos e]
      rcases hg:(pendingOf st')[(pendingOf st').size - 2]? with _ | ⟨a,b,older⟩
      ·dsimp only
       exact kasC_pure ⟨rfl,rfl,pend,p,hp,H,R,A⟩
      ·dsimp only
       split
       ·exact kasC_pure ⟨rfl,rfl,pend,p,hp,H,R,A⟩
       ·refine kasC_bind (kO hc hp H (by rw[H.p] at e ⊢;lia) R (by lia) ?_)
        intro pend' p' st'' a b c d fr
        rw[if_neg (by decide)]
        exact kasC_pure ⟨rfl,rfl,pend',p',a,b,d,A.congr fr⟩
     ·rw[if_neg e]
      dsimp only
      exact kasC_pure ⟨rfl,rfl,pend,p,hp,H,R,A⟩
    ·rintro c st' s' ⟨rfl,rfl,pend,p,hp,H,R,A⟩
     dsimp only
     refine kasC_bind (kasC_modify ?_)
     refine kasC_bind (kasC_modify ?_)
     refine kasC_pure ⟨rfl,lo+m,(pend.modify (pend.size - 1) _).push (lo,m,0),p,rfl,by lia,by lia,hp,⟨H.k,H.a,by show ((pendingOf st').modify ((pendingOf st').size - 1) _).push _=_;rw[H.p],H.f⟩,?_⟩
     rw[Array.toList_push]
     exact aQ.app.mpr ⟨lo,R.same (nY _ _ _),rfl,by lia,A,rfl⟩
theorem vX {Q:Unit→SortSt→Shared→Prop} (hc:bp n key (kas_cmp prog w A κ it) s) (inj:∀ i j,i<n→j<n→key i=key j→i=j) (h2:2≤n) (up:n<1001∨∀ j,1≤j→j<n→key (j - 1)≤key j)
  (hG:∀ p' st',Rg n p'→Up key p' n→arrOf st'=p'.map (kas_item it)→failedOf st'=none→Q () st' s):kasC (model prog w) A E sortRuns' Q (kas_st κ it (List.range n).toArray) s:=vW hc inj h2 hG
end
end L2
namespace L2
open PySem PySem.Spec PyProof.Rows
section
variable {X:Cx}{pins:List (Addr×Obj)}{σ:St}{H:Hp}{s:Shared}{h':Heap}
theorem Inv.turnT {ch:List Addr}{T:Addr}{xs:List V}{t':Nat} (I:Inv X pins σ H s) (hch:∀ b∈ch,bH X pins H b) (k:∀ b o,b∉ch→s.heap.get? b=some o→h'.get? b=some o) (hT:s.heap.objs.size≤T)
  (new:bE X.prog X.w (upd H T (.tup xs)) h' T (.tup xs)):Inv X pins σ (upd H T (.tup xs)) { s with heap:=h',toks:=t' }:=by
 have fT:H T=none:=I.hok.fresh hT
 have nT:∀ b o,s.heap.get? b=some o→b≠T:=fun b o e=>Nat.ne_of_lt (Nat.lt_of_lt_of_le (Heap.lt_size e) hT)
 have nc:∀ b u,H b=some u→b∉ch:=fun b u e z=>by rw[(hch b z).1] at e;cases e
 refine I.step (g':=s.gens) (d':=s.drawn) (ch:=ch) (fun b hb=>⟨(hch b hb).2.2.2.1,(hch b hb).2.1,(hch b hb).2.2.2.2.1,(hch b hb).2.2.2.2.2⟩) (fun b o _ _ hc e _=>k b o hc e) (fun b o _ _ hc e _=>⟨o.slots,k b o hc e⟩)
  (fun b o _ e n=>by rw[aI (nT b o e)];exact n) (fun b o hc e=>⟨o,k b o hc e⟩) (fun b ys e=>by rw[aI (bS e fT)];exact e) (fun b o u e=>by rw[aI (bS e fT)];exact e)
  (fun b ps e=>⟨#[],by rw[aI (bS e fT),e];simp⟩) (fun m hm=>?_) (fun a o e=>?_) I.bare
 ·obtain⟨o,es,ep,ho,r⟩:=hm
  exact⟨o,es,ep,k _ o (fun z=>(hch _ z).2.1 rfl) ho,r⟩
 ·by_cases ha:a=T
  ·subst ha
   rw[bD] at e
   cases e
   exact new
  ·rw[aI ha] at e
   refine (I.hok a o e).stay (fun b u hb q=>k b u ?_ q) (fun b q=>by rw[aI (bS q fT)];exact q) fun b ys q=>by rw[aI (bS q fT)];exact q
   rcases hb with z | z
   ·rw[z];exact nc a o e
   ·exact nc b _ z
theorem Inv.turnL {ch:List Addr}{t':Nat} (I:Inv X pins σ H s) (hch:∀ b∈ch,bH X pins H b) (k:∀ b o,b∉ch→s.heap.get? b=some o→h'.get? b=some o):Inv X pins σ H { s with heap:=h',toks:=t' }:=by
 have nc:∀ b u,H b=some u→b∉ch:=fun b u e z=>by rw[(hch b z).1] at e;cases e
 refine I.step (g':=s.gens) (d':=s.drawn) (ch:=ch) (fun b hb=>⟨(hch b hb).2.2.2.1,(hch b hb).2.1,(hch b hb).2.2.2.2.1,(hch b hb).2.2.2.2.2⟩) (fun b o _ _ hc e _=>k b o hc e) (fun b o _ _ hc e _=>⟨o.slots,k b o hc e⟩)
  (fun b o _ _ n=>n) (fun b o hc e=>⟨o,k b o hc e⟩) (fun b ys e=>e) (fun b o u e=>e) (fun b ps e=>⟨#[],by rw[e];simp⟩) (fun m hm=>?_) (fun a o e=>?_) I.bare
 ·obtain⟨o,es,ep,ho,r⟩:=hm
  exact⟨o,es,ep,k _ o (fun z=>(hch _ z).2.1 rfl) ho,r⟩
 ·refine (I.hok a o e).stay (fun b u hb q=>k b u ?_ q) (fun b q=>q) fun b ys q=>q
  rcases hb with z | z
  ·rw[z];exact nc a o e
  ·exact nc b _ z
end
section
variable {prog:Program}{w:World}{A:Around}{E:Value→Shared→Prop}{s:Shared}
theorem je {it t:Addr}{i:Nat}{items:Array Value}{x:Value}{Q:Value→Shared→Prop} (hit:s.heap.IsTupleIter it t i) (ht:s.heap.IsTuple t items) (hx:items[i]?=some x)
  (q:∀ h',h'.IsTupleIter it t (i+1)→Heap.SameBut it s.heap h'→Q x { s with heap:=h' }):wpAny (model prog w) A (Builtin.SmallTypes.nextOf (.ref it)) Q E s:=by
 obtain⟨o,f1,f2,f3⟩:=id hit
 obtain⟨ol,g1,_,nl,g2⟩:=ht
 unfold Builtin.SmallTypes.nextOf
 refine wpAny_bind (wpAny_callSpecial?_slot (name:=Str.ofString "__next__") hit.typeIs F.slot_tuple_iterator_next (wpAny_call_entry F.slot_tuple_iterator_next hit.typeIs F.entry_tuple_iterator_next ?z (F.args_tuple_iterator_next_1 _)))
 case z=>
  show wpAny _ _ (field (.ref it) 0 >>= _) _ _ s
  refine wpAny_bind (wpAny_field f1 f3 (x:=.ref t) rfl ?_)
  show wpAny _ _ (if (Value.ref t == Value.none)=true then _ else _) _ _ s
  rw[if_neg (show ¬ (Value.ref t == Value.none)=true by intro z;cases z)]
  show wpAny _ _ (field (.ref it) 1 >>= _) _ _ s
  refine wpAny_bind (wpAny_field f1 f3 (x:=.int i 0) rfl ?_)
  show wpAny _ _ (seqItems? (.ref t) >>= _) _ _ s
  refine wpAny_bind (wpAny_seqItems g1 g2 ?_)
  simp only[Int.toNat_natCast,hx]
  refine wpAny_bind (wpAny_setField f1 f3 (by simp) (wpAny_pure ⟨x,rfl,wpAny_pure (q _ ⟨_,Heap.get?_update_self _ f1 (Obj.isFreed_of_fields (Obj.data_mapFields f3 _)),(Obj.cls_mapFields ..).trans f2,by rw[Obj.data_mapFields f3];simp[rawInt]⟩ (Heap.SameBut.update ..))⟩))
theorem kP {it t:Addr}{i:Nat}{items:Array Value}{Q:Value→Shared→Prop} (hh:A.handled=none) (hit:s.heap.IsTupleIter it t i) (ht:s.heap.IsTuple t items) (hx:items[i]?=none)
  (q:∀ h' e,Heap.ExtBut it s.heap h'→(∃ o,h'.get? e=some o∧o.cls=.type "StopIteration")→E (.ref e) { s with heap:=h' }):wpAny (model prog w) A (Builtin.SmallTypes.nextOf (.ref it)) Q E s:=by
 obtain⟨o,f1,f2,f3⟩:=id hit
 obtain⟨ol,g1,_,nl,g2⟩:=ht
 unfold Builtin.SmallTypes.nextOf
 refine wpAny_bind (wpAny_callSpecial?_slot (name:=Str.ofString "__next__") hit.typeIs F.slot_tuple_iterator_next (wpAny_call_entry F.slot_tuple_iterator_next hit.typeIs F.entry_tuple_iterator_next ?z (F.args_tuple_iterator_next_1 _)))
 case z=>
  show wpAny _ _ (field (.ref it) 0 >>= _) _ _ s
  refine wpAny_bind (wpAny_field f1 f3 (x:=.ref t) rfl ?_)
  show wpAny _ _ (if (Value.ref t == Value.none)=true then _ else _) _ _ s
  rw[if_neg (show ¬ (Value.ref t == Value.none)=true by intro z;cases z)]
  show wpAny _ _ (field (.ref it) 1 >>= _) _ _ s
  refine wpAny_bind (wpAny_field f1 f3 (x:=.int i 0) rfl ?_)
  show wpAny _ _ (seqItems? (.ref t) >>= _) _ _ s
  refine wpAny_bind (wpAny_seqItems g1 g2 ?_)
  simp only[Int.toNat_natCast,hx]
  refine wpAny_bind (wpAny_rule (wpAny_bind (wpAny_setField f1 f3 (by simp) ?_)))
  show wpAny _ _ (newExc (.type "StopIteration") [] >>= _) _ _ _
  apply wpAny_bind
  simp only[newExc,newTuple]
  refine wpAny_bind (wpAny_newObj_type (wpAny_bind (m:=firstArgMember _ _) (wpAny_of_eq (a:=Value.none) (by first | rfl | (simp only[firstArgMember];rfl)) (wpAny_newObj_type ?_ (by size_fits)))) (by size_fits))
  simp only[raiseNew]
  apply wpAny_bind
  apply wpAny_handled
  rw[show A.in1.handled=none from hh]
  refine wpAny_bind (m:=pure _) (wpAny_pure (wpAny_throw ?_))
  exact q _ _ (((Heap.SameBut.update ..).extBut.push _).push _) ⟨_,Heap.get?_push_size _ rfl,rfl⟩
end
section
variable {prog:Program}{w:World}{A:Around}{E:Value→Shared→Prop}{s:Shared}
theorem cq {h h':Heap}{a t:Addr}{i:Nat} (x:h.IsTupleIter a t i) (k:∀ o,h.get? a=some o→h'.get? a=some o):h'.IsTupleIter a t i:=let ⟨o,e,r⟩:=x;⟨o,k o e,r⟩
theorem gq {h h':Heap}{a:Addr}{xs:Array Value} (x:h.IsTuple a xs) (k:∀ o,h.get? a=some o→h'.get? a=some o):h'.IsTuple a xs:=let ⟨o,e,r⟩:=x;⟨o,k o e,r⟩
theorem vY {z TI TO i1 i2 l1 l2:Addr}{k1 k2:Nat}{xs ys:Array Value}{x y a b:Value}{Q:Value→Shared→Prop} (D:ZipApart z TI TO i1 i2 l1 l2)
  (hz:IsZip s.heap z TI TO .none) (hTI:IsPair s.heap TI (.ref i1) (.ref i2)) (hTO:IsPair s.heap TO a b)
  (h1:s.heap.IsTupleIter i1 l1 k1) (h2:s.heap.IsTupleIter i2 l2 k2) (hl1:s.heap.IsTuple l1 xs) (hl2:s.heap.IsTuple l2 ys) (hx:xs[k1]?=some x) (hy:ys[k2]?=some y)
  (hQ:∀ h',IsZip h' z TI TO (rawInt s.heap.objs.size)→IsPair h' TO x y→h'.IsTupleIter i1 l1 (k1+1)→h'.IsTupleIter i2 l2 (k2+1)→IsPair h' s.heap.objs.size x y→
   (∀ c o,c≠z→c≠TO→c≠i1→c≠i2→s.heap.get? c=some o→h'.get? c=some o)→Q (.ref s.heap.objs.size) { s with heap:=h' }):
  wpAny (model prog w) A (Builtin.«zip.__next__» ⟨[.ref z],[]⟩) (fun fin s'=>∃ v,fin=.done (.ret v)∧Q v s') E s:=by
 show wpAny _ _ (field (.ref z) 2 >>= _) _ _ _
 refine wpAny_bind (wpAny_field hz rfl (x:=.bool false) rfl ?_)
 show wpAny _ _ (field (.ref z) 3 >>= _) _ _ _
 refine wpAny_bind (wpAny_field hz rfl (x:=.ref TI) rfl (wpAny_bind (wpAny_seqItems hTI rfl ?_)))
 show wpAny _ _ (Builtin.SmallTypes.ownedTupleIsFree (.ref z) >>= _) _ _ _
 apply wpAny_bind
 unfold Builtin.SmallTypes.ownedTupleIsFree
 refine wpAny_bind (wpAny_field hz rfl (x:=.none) rfl (wpAny_pure ?_))
 simp only[if_true]
 refine wpAny_bind (wpAny_rule (wpAny_bind (wpAny_field hz rfl (x:=.ref TO) rfl (wpAny_bind (wpAny_setField_rec hz (by simp) fun j1 z1 s1=>?_)))))
 replace z1:IsZip j1 z TI TO .ellipsis:=z1
 apply wpAny_bind
 simp only[List.zipIdx_cons,List.zipIdx_nil,List.forIn_cons,List.forIn_nil]
 refine wpAny_bind (wpAny_bind (wpAny_onRaise ?_))
 show wpAny _ _ (Builtin.SmallTypes.nextOf (.ref i1) >>= _) _ _ _
 refine wpAny_bind (je (s:={ s with heap:=j1 }) (cq h1 fun o e=>s1.extBut _ o D.i1z e) (gq hl1 fun o e=>s1.extBut _ o D.l1z e) hx fun j2 a2 s2=>wpAny_pure ?_)
 have o2:IsPair j2 TO a b:=s2.extBut _ _ D.TOi1 (s1.extBut _ _ D.TOz hTO)
 refine wpAny_bind (wpAny_seqItems (s:={ s with heap:=j2 }) o2 rfl (wpAny_bind (wpAny_updateSeq_pair (s:={ s with heap:=j2 }) o2 fun j3 o3 s3=>?_)))
 replace o3:IsPair j3 TO x b:=o3
 refine wpAny_bind (wpAny_letGo (wpAny_pure (wpAny_bind (wpAny_bind (wpAny_onRaise ?_)))))
 show wpAny _ _ (Builtin.SmallTypes.nextOf (.ref i2) >>= _) _ _ _
 refine wpAny_bind (je (s:={ s with heap:=j3 }) (cq h2 fun o e=>s3.extBut _ o D.TOi2.symm (s2.extBut _ o D.i12.symm (s1.extBut _ o D.i2z e))) (gq hl2 fun o e=>s3.extBut _ o D.l2TO (s2.extBut _ o D.l2i1 (s1.extBut _ o D.l2z e))) hy fun j4 a4 s4=>wpAny_pure ?_)
 have o4:IsPair j4 TO x b:=s4.extBut _ _ D.TOi2 o3
 refine wpAny_bind (wpAny_seqItems (s:={ s with heap:=j4 }) o4 rfl (wpAny_bind (wpAny_updateSeq_pair (s:={ s with heap:=j4 }) o4 fun j5 o5 s5=>?_)))
 replace o5:IsPair j5 TO x y:=o5
 refine wpAny_bind (wpAny_letGo (wpAny_pure (wpAny_pure (wpAny_bind (wpAny_seqItems (s:={ s with heap:=j5 }) o5 rfl (wpAny_bind (wpAny_newTuple ?_)))))))
 have hsz:j5.objs.size=s.heap.objs.size:=by rw[s5.1,s4.1,s3.1,s2.1,s1.1]
 have z5:IsZip j5 z TI TO .ellipsis:=s5.extBut _ _ D.TOz.symm (s4.extBut _ _ D.i2z.symm (s3.extBut _ _ D.TOz.symm (s2.extBut _ _ D.i1z.symm z1)))
 have k5:∀ c o,c≠z→c≠TO→c≠i1→c≠i2→s.heap.get? c=some o→j5.get? c=some o:=fun c o c1 c2 c3 c4 e=>s5.extBut _ _ c2 (s4.extBut _ _ c4 (s3.extBut _ _ c2 (s2.extBut _ _ c3 (s1.extBut _ _ c1 e))))
 have b1:j5.IsTupleIter i1 l1 (k1+1):=cq a2 fun o e=>s5.extBut _ o D.TOi1.symm (s4.extBut _ o D.i12 (s3.extBut _ o D.TOi1.symm e))
 have b2:j5.IsTupleIter i2 l2 (k2+1):=cq a4 fun o e=>s5.extBut _ o D.TOi2.symm e
 have zlt:z<j5.objs.size:=Heap.lt_size z5
 show wpAny _ _ (Builtin.SmallTypes.ownedTupleHandOut (.ref z) (.ref j5.objs.size) >>= _) _ _ _
 apply wpAny_bind
 unfold Builtin.SmallTypes.ownedTupleHandOut
 have z6:IsZip (j5.push { cls:=.type "tuple",data:=.seq #[x,y] }) z TI TO .ellipsis:=Heap.get?_push_of_some _ z5
 refine wpAny_bind (wpAny_setField_rec z6 (by simp) fun j7 z7 s7=>?_)
 replace z7:IsZip j7 z TI TO (rawInt j5.objs.size):=z7
 refine wpAny_setField_rec z7 (by simp) fun j8 z8 s8=>?_
 replace z8:IsZip j8 z TI TO (rawInt j5.objs.size):=z8
 have up:∀ c o,c≠z→j5.get? c=some o→j8.get? c=some o:=fun c o c1 e=>s8.extBut _ _ c1 (s7.extBut _ _ c1 (Heap.get?_push_of_some _ e))
 have t8:IsPair j8 j5.objs.size x y:=s8.extBut _ _ (Nat.ne_of_gt zlt) (s7.extBut _ _ (Nat.ne_of_gt zlt) (Heap.get?_push_size _ rfl))
 rw[hsz] at z8 t8
 refine wpAny_pure ⟨_,rfl,?_⟩
 show Q (.ref j5.objs.size) _
 rw[hsz]
 exact hQ j8 z8 (up _ _ D.TOz o5) (cq b1 fun o e=>up _ o D.i1z e) (cq b2 fun o e=>up _ o D.i2z e) t8 fun c o c1 c2 c3 c4 e=>up c o c1 (k5 c o c1 c2 c3 c4 e)
theorem vZ {z TI TO i1 i2 l1 l2:Addr}{k1 k2:Nat}{xs ys:Array Value}{a b:Value}{Q:PySem.Fin→Shared→Prop} (hh:A.handled=none) (D:ZipApart z TI TO i1 i2 l1 l2)
  (hz:IsZip s.heap z TI TO .none) (hTI:IsPair s.heap TI (.ref i1) (.ref i2)) (hTO:IsPair s.heap TO a b)
  (h1:s.heap.IsTupleIter i1 l1 k1) (h2:s.heap.IsTupleIter i2 l2 k2) (hl1:s.heap.IsTuple l1 xs) (hl2:s.heap.IsTuple l2 ys) (hend:xs[k1]?=none∨ys[k2]?=none)
  (hE:∀ h' e,(∀ c o,c≠z→c≠TO→c≠i1→c≠i2→s.heap.get? c=some o→h'.get? c=some o)→(∃ o,h'.get? e=some o∧o.cls=.type "StopIteration")→E (.ref e) { s with heap:=h' }):
  wpAny (model prog w) A (Builtin.«zip.__next__» ⟨[.ref z],[]⟩) Q E s:=by
 show wpAny _ _ (field (.ref z) 2 >>= _) _ _ _
 refine wpAny_bind (wpAny_field hz rfl (x:=.bool false) rfl ?_)
 show wpAny _ _ (field (.ref z) 3 >>= _) _ _ _
 refine wpAny_bind (wpAny_field hz rfl (x:=.ref TI) rfl (wpAny_bind (wpAny_seqItems hTI rfl ?_)))
 show wpAny _ _ (Builtin.SmallTypes.ownedTupleIsFree (.ref z) >>= _) _ _ _
 apply wpAny_bind
 unfold Builtin.SmallTypes.ownedTupleIsFree
 refine wpAny_bind (wpAny_field hz rfl (x:=.none) rfl (wpAny_pure ?_))
 simp only[if_true]
 refine wpAny_bind (wpAny_rule (wpAny_bind (wpAny_field hz rfl (x:=.ref TO) rfl (wpAny_bind (wpAny_setField_rec hz (by simp) fun j1 z1 s1=>?_)))))
 replace z1:IsZip j1 z TI TO .ellipsis:=z1
 apply wpAny_bind
 simp only[List.zipIdx_cons,List.zipIdx_nil,List.forIn_cons,List.forIn_nil]
 refine wpAny_bind (wpAny_bind (wpAny_onRaise ?_))
 show wpAny _ _ (Builtin.SmallTypes.nextOf (.ref i1) >>= _) _ _ _
 cases hx:xs[k1]? with
 | none=>
  refine wpAny_bind (kP (s:={ s with heap:=j1 }) hh (cq h1 fun o e=>s1.extBut _ o D.i1z e) (gq hl1 fun o e=>s1.extBut _ o D.l1z e) hx fun j2 e s2 ⟨oe,e1,e2⟩=>?_)
  have z2:IsZip j2 z TI TO .ellipsis:=s2 _ _ D.i1z.symm z1
  have ez:e≠z:=fun q=>by subst q;rw[z2] at e1;cases e1;simp at e2
  refine wpAny_setField_rec z2 (by simp) fun j3 _ s3=>hE j3 e (fun c o c1 _ c3 _ q=>s3.extBut _ _ c1 (s2 _ _ c3 (s1.extBut _ _ c1 q))) ⟨oe,s3.extBut _ _ ez e1,e2⟩
 | some x=>
  have hy:ys[k2]?=none:=by
   rcases hend with h | h
   ·rw[hx] at h;cases h
   ·exact h
  refine wpAny_bind (je (s:={ s with heap:=j1 }) (cq h1 fun o e=>s1.extBut _ o D.i1z e) (gq hl1 fun o e=>s1.extBut _ o D.l1z e) hx fun j2 a2 s2=>wpAny_pure ?_)
  have o2:IsPair j2 TO a b:=s2.extBut _ _ D.TOi1 (s1.extBut _ _ D.TOz hTO)
  refine wpAny_bind (wpAny_seqItems (s:={ s with heap:=j2 }) o2 rfl (wpAny_bind (wpAny_updateSeq_pair (s:={ s with heap:=j2 }) o2 fun j3 o3 s3=>?_)))
  refine wpAny_bind (wpAny_letGo (wpAny_pure (wpAny_bind (wpAny_bind (wpAny_onRaise ?_)))))
  show wpAny _ _ (Builtin.SmallTypes.nextOf (.ref i2) >>= _) _ _ _
  refine wpAny_bind (kP (s:={ s with heap:=j3 }) hh (cq h2 fun o e=>s3.extBut _ o D.TOi2.symm (s2.extBut _ o D.i12.symm (s1.extBut _ o D.i2z e))) (gq hl2 fun o e=>s3.extBut _ o D.l2TO (s2.extBut _ o D.l2i1 (s1.extBut _ o D.l2z e))) hy fun j4 e s4 ⟨oe,e1,e2⟩=>?_)
  have z4:IsZip j4 z TI TO .ellipsis:=s4 _ _ D.i2z.symm (s3.extBut _ _ D.TOz.symm (s2.extBut _ _ D.i1z.symm z1))
  have ez:e≠z:=fun q=>by subst q;rw[z4] at e1;cases e1;simp at e2
  refine wpAny_setField_rec z4 (by simp) fun j5 _ s5=>hE j5 e (fun c o c1 c2 c3 c4 q=>s5.extBut _ _ c1 (s4 _ _ c4 (s3.extBut _ _ c2 (s2.extBut _ _ c3 (s1.extBut _ _ c1 q))))) ⟨oe,s5.extBut _ _ ez e1,e2⟩
end
noncomputable def ztH (h:Heap) (l1 l2:Addr):Heap:=((((h.push { cls:=.type "tuple_iterator",data:=.fields #[.ref l1,.int 0 0] }).push { cls:=.type "tuple_iterator",data:=.fields #[.ref l2,.int 0 0] }).push
 { cls:=.type "tuple",data:=.seq #[.ref h.objs.size,.ref (h.push { cls:=.type "tuple_iterator",data:=.fields #[.ref l1,.int 0 0] }).objs.size] }).push { cls:=.type "tuple",data:=.seq #[.none,.none] })
theorem v3 (l1 l2 : Addr) (xs ys : Array Value) :
    Meets (Builtin.«zip.__new__» ⟨[.type "zip", .ref l1, .ref l2], []⟩) (fun _ R s => s.heap.IsTuple l1 xs ∧ s.heap.IsTuple l2 ys ∧
      R (.ok (.ret (.ref (ztH s.heap l1 l2).objs.size))) { s with heap := (ztH s.heap l1 l2).push { cls := .type "zip", data := .fields #[.none, .bool false, .bool false, .ref ((s.heap.push { cls := .type "tuple_iterator", data := .fields #[.ref l1, .int 0 0] }).push { cls := .type "tuple_iterator", data := .fields #[.ref l2, .int 0 0] }).objs.size,
        .ref (((s.heap.push { cls := .type "tuple_iterator", data := .fields #[.ref l1, .int 0 0] }).push { cls := .type "tuple_iterator", data := .fields #[.ref l2, .int 0 0] }).push
  { cls := .type "tuple", data := .seq #[.ref s.heap.objs.size, .ref (s.heap.push { cls := .type "tuple_iterator", data := .fields #[.ref l1, .int 0 0] }).objs.size] }).objs.size] } }) :=
  .of_wp fun prog w A R s h => by
    obtain ⟨hp, g, d, tk, os⟩ := s
    obtain ⟨q1, q2, h⟩ := h
    have hsub := sub_zip
    have m1 : Heap.IsTuple (Shared.heap ⟨hp, g, d, tk, os⟩) l1 xs := q1
    have m2 : Heap.IsTuple (Shared.heap ⟨hp.push { cls := .type "tuple_iterator", data := .fields #[.ref l1, .int 0 0] }, g, d, tk, os⟩) l2 ys := gq q2 fun o e => Heap.get?_push_of_some _ e
    wp_walk using wpAny_pyIter_tuple m1, wpAny_pyIter_tuple m2
    exact ⟨_, rfl, h⟩
noncomputable def Itz (K:PySem.W.Frag) (a b:Addr):It:=
 ⟨fun i H=>∃ xs ys x y,SqT K H a xs∧SqT K H b ys∧xs[i]?=some x∧ys[i]?=some y,
  fun i H v H'=>∃ T x y,H T=none∧v=.ref T∧H'=upd H T (.tup [x,y])∧(∀ xs,SqT K H a xs→xs[i]?=some x)∧(∀ ys,SqT K H b ys→ys[i]?=some y),
  fun i H=>∃ xs ys,SqT K H a xs∧SqT K H b ys∧(xs.length≤i∨ys.length≤i)⟩
noncomputable def nZ (a b z TI TO i1 i2:Addr) (i:Nat) (h:Heap):Prop:=IsZip h z TI TO .none∧IsPair h TI (.ref i1) (.ref i2)∧(∃ p q,IsPair h TO p q)∧h.IsTupleIter i1 a i∧h.IsTupleIter i2 b i
theorem v4 {P:Program}{w:World}{K:PySem.W.Frag}{es:List Expr}{ek:Nat}{pos:Pos} (a b z TI TO i1 i2:Addr) (D:ZipApart z TI TO i1 i2 a b):
  Turn P w K (.Tuple es ek pos) (Itz K a b) [z,TI,TO,i1,i2] z (nZ a b z TI TO i1 i2) where
 mem:=by simp
 obj:=fun i h st c hc=>by
  obtain⟨h1,h2,⟨p,q,h3⟩,⟨o4,e4,_,d4⟩,⟨o5,e5,_,d5⟩⟩:=st
  simp only[List.mem_cons,List.mem_nil_iff,or_false] at hc
  rcases hc with rfl | rfl | rfl | rfl | rfl
  ·exact⟨_,h1,fun v e=>by cases e⟩
  ·exact⟨_,h2,fun v e=>by cases e⟩
  ·exact⟨_,h3,fun v e=>by cases e⟩
  ·exact⟨_,e4,fun v e=>by rw[d4] at e;cases e⟩
  ·exact⟨_,e5,fun v e=>by rw[d5] at e;cases e⟩
 keep:=fun i h h' st k=>by
  obtain⟨h1,h2,⟨p,q,h3⟩,h4,h5⟩:=st
  exact⟨k z (by simp) _ h1,k TI (by simp) _ h2,⟨p,q,k TO (by simp) _ h3⟩,cq h4 fun o e=>k i1 (by simp) o e,cq h5 fun o e=>k i2 (by simp) o e⟩
 item:=by
  intro X hP hw hK hc i pins s σ H E I hf st hg
  subst hP hw hK
  obtain⟨xs,ys,x,y,q1,q2,x1,y1⟩:=hg
  obtain⟨its,rv,p,hz⟩:=I.tuple q1
  obtain⟨its2,rv2,p2,hz2⟩:=I.tuple q2
  obtain⟨u,hu,ru⟩:=rv.get x1
  obtain⟨u2,hu2,ru2⟩:=rv2.get y1
  have there:=st
  obtain⟨h1,h2,⟨pa,pb,h3⟩,h4,h5⟩:=st
  have hT:s.TypeIs (.ref z) "zip" := ⟨_,h1,rfl⟩
  unfold pyNext
  refine wpAny_bind (wpAny_attempt (wpAny_callSpecial?_slot (name:=Str.ofString "__next__") hT F.slot_zip_next (wpAny_call_entry F.slot_zip_next hT F.entry_zip_next
   (vY (Q:=fun v s'=>wpAny (model X.prog X.w) X.A (pure (some v)) (fun r s1=>∃ u,r=some u∧wpAny (model X.prog X.w) X.A (letOwnedTupleGo (.Tuple es ek pos) (.ref z) u) (fun _ s2=>∃ x H',Inv X pins σ H' s2∧ay x u∧(Itz X.K a b).yld i H x H'∧nZ a b z TI TO i1 i2 (i+1) s2.heap∧∀ b∈[z,TI,TO,i1,i2],H' b=none) E s1) E s')
    D h1 h2 h3 h4 h5 (show s.heap.IsTuple a its.toArray from p) (show s.heap.IsTuple b its2.toArray from p2) (x:=u) (y:=u2) (by simpa using hu) (by simpa using hu2) fun h' g1 g2 g3 g4 g5 kk=>wpAny_pure ⟨_,rfl,?_⟩) (F.args_zip_next_1 _))))
  refine wpAny_letOwnedTupleGo_zip g1 fun h2' g1' sb=>?_
  have lt:∀ c∈[z,TI,TO,i1,i2],c<s.heap.objs.size:=fun c hc=>by
   obtain⟨h1,h2,⟨p,q,h3⟩,⟨o4,e4,_⟩,⟨o5,e5,_⟩⟩:=there
   simp only[List.mem_cons,List.mem_nil_iff,or_false] at hc
   rcases hc with rfl | rfl | rfl | rfl | rfl
   ·exact Heap.lt_size h1
   ·exact Heap.lt_size h2
   ·exact Heap.lt_size h3
   ·exact Heap.lt_size e4
   ·exact Heap.lt_size e5
  have kp:∀ c o,c∉[z,TI,TO,i1,i2]→s.heap.get? c=some o→h2'.get? c=some o:=fun c o hc e=>by
   simp only[List.mem_cons,List.mem_nil_iff,or_false,not_or] at hc
   exact sb.extBut _ _ hc.1 (kk c o hc.1 hc.2.2.1 hc.2.2.2.1 hc.2.2.2.2 e)
  have zT:s.heap.objs.size≠z:=Nat.ne_of_gt (lt z (by simp))
  have fT:H s.heap.objs.size=none:=I.hok.fresh (Nat.le_refl _)
  refine⟨.ref s.heap.objs.size,upd H s.heap.objs.size (.tup [x,y]),I.turnT (t':=s.toks) hf kp (Nat.le_refl _) ⟨by show 2≤sizeLine;decide,[u,u2],.cons ru (.cons ru2 .nil),?_⟩,rfl,⟨_,x,y,fT,rfl,rfl,fun zs hz=>?_,fun zs hz=>?_⟩,?_,fun c hc=>?_⟩
  ·exact⟨_,sb.extBut _ _ zT g5,rfl,0,rfl⟩
  ·rw[I.tuple_inj hz q1];exact x1
  ·rw[I.tuple_inj hz q2];exact y1
  ·exact⟨g1',sb.extBut _ _ D.TIz (kk _ _ D.TIz D.TITO D.TIi1 D.TIi2 h2),⟨_,_,sb.extBut _ _ D.TOz g2⟩,cq g3 fun o e=>sb.extBut _ o D.i1z e,cq g4 fun o e=>sb.extBut _ o D.i2z e⟩
  ·rw[aI (Nat.ne_of_lt (lt c hc))]
   exact (hf c hc).1
 done:=by
  intro X hP hw hK hc i pins s σ H E I hf st hg
  subst hP hw hK
  obtain⟨xs,ys,q1,q2,hend⟩:=hg
  obtain⟨its,rv,p,hz⟩:=I.tuple q1
  obtain⟨its2,rv2,p2,hz2⟩:=I.tuple q2
  obtain⟨h1,h2,⟨pa,pb,h3⟩,h4,h5⟩:=st
  have hT:s.TypeIs (.ref z) "zip" := ⟨_,h1,rfl⟩
  have l1:=rv.length
  have l2:=rv2.length
  unfold pyNext
  refine wpAny_bind (wpAny_attempt (wpAny_callSpecial?_slot (name:=Str.ofString "__next__") hT F.slot_zip_next (wpAny_call_entry F.slot_zip_next hT F.entry_zip_next
   (vZ (I.ok.hd hc) D h1 h2 h3 h4 h5 (show s.heap.IsTuple a its.toArray from p) (show s.heap.IsTuple b its2.toArray from p2) (by
    rcases hend with h | h
    ·exact .inl (by simp;lia)
    ·exact .inr (by simp;lia)) fun h' e kk ⟨o,ho,hcl⟩=>?_) (F.args_zip_next_1 _))))
  refine wpAny_bind (wpAny_isInstance (T := "StopIteration") (b:=true) ⟨o,ho,hcl⟩ isSubtype_stop (wpAny_pure ⟨rfl,I.turnL (t':=s.toks) hf fun c o hc e=>?_⟩))
  simp only[List.mem_cons,List.mem_nil_iff,or_false,not_or] at hc
  exact kk c o hc.1 hc.2.2.1 hc.2.2.2.1 hc.2.2.2.2 e
 self:=fun _ _ _ _ _ st h=>wpAny_pyIter_zip st.1 h
section
variable {X:Cx}
noncomputable def v5 (K:PySem.W.Frag) (ta:TA):TI:=fun σ H R=>ta σ H fun vs H1=>∃ a b,vs=[.ref a,.ref b]∧(∃ xs,SqT K H1 a xs)∧(∃ ys,SqT K H1 b ys)∧R (Itz K a b) H1
theorem v6 {a b:Expr}{ta:TA}{p pos:Pos}{es:List Expr}{ek:Nat}{ps:Pos} (hg:Gl X "zip") (hm:X.mg "zip" = none) (ha:PA X [a,b] ta) (hs:starEach [a,b] X.env=[(false,eval a X.env),(false,eval b X.env)]:=by rfl) (hs2:starEach [b] X.env=[(false,eval b X.env)]:=by rfl):
  PI X (.Tuple es ek ps) (.Call (.Name "zip" p) [a,b] [] pos) (v5 X.K ta):=by
 intro pins s σ H R I h
 refine Call_ (cl I hg hm boot_zip (PyProof.Rows.callWith_type1 (thn (ha pos pins s σ H _ I h) fun us s1 ⟨vs,H1,I1,r1,q1⟩=>?_) (by rw[hs,hs2]) (by rw[hs2];rfl)))
 obtain⟨l1,l2,e,⟨xs,hx⟩,⟨ys,hy⟩,q⟩:=q1
 subst e
 cases r1 with
 | cons r rr=>
  cases rr with
  | cons r' rr=>
   cases rr
   cases r
   cases r'
   obtain⟨its,rv,p,hz⟩:=I1.tuple hx
   obtain⟨its2,rv2,p2,hz2⟩:=I1.tuple hy
   have lt1:l1<s1.heap.objs.size:=by obtain⟨o,e,_⟩:=p;exact Heap.lt_size e
   have lt2:l2<s1.heap.objs.size:=by obtain⟨o,e,_⟩:=p2;exact Heap.lt_size e
   refine callType_new F.called_zip (by decide) (F.typeCall_zip_2 _ _) (F.newCall_zip_2 _ _) (fun obj=>F.args_object_init_3 obj _ _) F.entry_zip_new (v3 l1 l2 its.toArray its2.toArray) ⟨p,p2,?_⟩
   have z1:(s1.heap.push { cls:=.type "tuple_iterator",data:=.fields #[.ref l1,.int 0 0] }).objs.size=s1.heap.objs.size+1:=Heap.size_push ..
   have z2:((s1.heap.push { cls:=.type "tuple_iterator",data:=.fields #[.ref l1,.int 0 0] }).push { cls:=.type "tuple_iterator",data:=.fields #[.ref l2,.int 0 0] }).objs.size=s1.heap.objs.size+2:=by rw[Heap.size_push,z1]
   have z3:(((s1.heap.push { cls:=.type "tuple_iterator",data:=.fields #[.ref l1,.int 0 0] }).push { cls:=.type "tuple_iterator",data:=.fields #[.ref l2,.int 0 0] }).push
    { cls:=.type "tuple",data:=.seq #[.ref s1.heap.objs.size,.ref (s1.heap.push { cls:=.type "tuple_iterator",data:=.fields #[.ref l1,.int 0 0] }).objs.size] }).objs.size=s1.heap.objs.size+3:=by rw[Heap.size_push,z2]
   have z4:(ztH s1.heap l1 l2).objs.size=s1.heap.objs.size+4:=by unfold ztH;rw[Heap.size_push,z3]
   show _∧_
   refine⟨⟨_,Heap.get?_push_size _ rfl,rfl⟩,wpAny_pyIter_zip (TI:=s1.heap.objs.size+2) (TO:=s1.heap.objs.size+3) (f0:=.none) ?_ ?_⟩
   ·rw[z2,z3]
    exact Heap.get?_push_size _ rfl
   ·rw[z2,z3,z4]
    have g5:((ztH s1.heap l1 l2).push { cls:=.type "zip",data:=.fields #[.none,.bool false,.bool false,.ref (s1.heap.objs.size+2),.ref (s1.heap.objs.size+3)] }).get? (s1.heap.objs.size+4)=some { cls:=.type "zip",data:=.fields #[.none,.bool false,.bool false,.ref (s1.heap.objs.size+2),.ref (s1.heap.objs.size+3)] }:=by rw[← z4];exact Heap.get?_push_size _ rfl
    have g4:((ztH s1.heap l1 l2).push { cls:=.type "zip",data:=.fields #[.none,.bool false,.bool false,.ref (s1.heap.objs.size+2),.ref (s1.heap.objs.size+3)] }).get? (s1.heap.objs.size+3)=some { cls:=.type "tuple",data:=.seq #[.none,.none] }:=by
     rw[← z3];exact Heap.get?_push_of_some _ (Heap.get?_push_size _ rfl)
    have g3:((ztH s1.heap l1 l2).push { cls:=.type "zip",data:=.fields #[.none,.bool false,.bool false,.ref (s1.heap.objs.size+2),.ref (s1.heap.objs.size+3)] }).get? (s1.heap.objs.size+2)=some { cls:=.type "tuple",data:=.seq #[.ref s1.heap.objs.size,.ref (s1.heap.objs.size+1)] }:=by
     rw[← z2,← z1];exact Heap.get?_push_of_some _ (Heap.get?_push_of_some _ (Heap.get?_push_size _ rfl))
    have g2:((ztH s1.heap l1 l2).push { cls:=.type "zip",data:=.fields #[.none,.bool false,.bool false,.ref (s1.heap.objs.size+2),.ref (s1.heap.objs.size+3)] }).get? (s1.heap.objs.size+1)=some { cls:=.type "tuple_iterator",data:=.fields #[.ref l2,.int 0 0] }:=by
     rw[← z1];exact Heap.get?_push_of_some _ (Heap.get?_push_of_some _ (Heap.get?_push_of_some _ (Heap.get?_push_size _ rfl)))
    have g1:((ztH s1.heap l1 l2).push { cls:=.type "zip",data:=.fields #[.none,.bool false,.bool false,.ref (s1.heap.objs.size+2),.ref (s1.heap.objs.size+3)] }).get? s1.heap.objs.size=some { cls:=.type "tuple_iterator",data:=.fields #[.ref l1,.int 0 0] }:=
     Heap.get?_push_of_some _ (Heap.get?_push_of_some _ (Heap.get?_push_of_some _ (Heap.get?_push_of_some _ (Heap.get?_push_size _ rfl))))
    have kp:∀ c o,s1.heap.get? c=some o→((ztH s1.heap l1 l2).push { cls:=.type "zip",data:=.fields #[.none,.bool false,.bool false,.ref (s1.heap.objs.size+2),.ref (s1.heap.objs.size+3)] }).get? c=some o:=fun c o e=>
     Heap.get?_push_of_some _ (Heap.get?_push_of_some _ (Heap.get?_push_of_some _ (Heap.get?_push_of_some _ (Heap.get?_push_of_some _ e))))
    generalize ((ztH s1.heap l1 l2).push { cls:=.type "zip",data:=.fields #[.none,.bool false,.bool false,.ref (s1.heap.objs.size+2),.ref (s1.heap.objs.size+3)] })=h5 at g1 g2 g3 g4 g5 kp ⊢
    have D:ZipApart (s1.heap.objs.size+4) (s1.heap.objs.size+2) (s1.heap.objs.size+3) s1.heap.objs.size (s1.heap.objs.size+1) l1 l2:=PySem.W.ktu_apart _ _ _ lt1 lt2
    refine⟨_,_,_,_,H1,rfl,I1.kept (t':=s1.toks) kp,v4 l1 l2 _ _ _ _ _ D,⟨g5,g3,⟨_,_,g4⟩,⟨_,g1,rfl,rfl⟩,⟨_,g2,rfl,rfl⟩⟩,fun c hc=>?_,q⟩
    have:s1.heap.objs.size≤c:=by
     simp only[List.mem_cons,List.mem_nil_iff,or_false] at hc
     rcases hc with rfl | rfl | rfl | rfl | rfl
     ·exact Nat.le_add_right _ _
     ·exact Nat.le_add_right _ _
     ·exact Nat.le_add_right _ _
     ·exact Nat.le_refl _
     ·exact Nat.le_add_right _ _
    exact I1.fpOk this (I1.hok.fresh this)
end
section
variable {prog:Program}{w:World}{A:Around}{E:Value→Shared→Prop}{s:Shared}
end
section
variable {X:Cx}
end
end L2
namespace L2
open PySem PySem.Spec PyProof.Rows PySem.W
theorem v7 {α:Type} (l:List α) (d:α):(List.range l.length).map (fun i=>l.getD i d)=l:=by
 apply List.ext_getElem
 ·simp
 ·intro i h1 h2
  simp[List.getD,h2]
theorem n4 {α:Type}{l:List α}{d:α}{p:Array Nat} (h:Rg l.length p):(p.toList.map fun i=>l.getD i d).Perm l:=by
 have:=List.Perm.map (fun i=>l.getD i d) h
 rw[v7] at this
 exact this
theorem jf {α β:Type}{F:α→β→Prop}:∀ {l₁:List α}{l₂:List β},l₁.length=l₂.length→(∀ (i:Nat) a b,l₁[i]?=some a→l₂[i]?=some b→F a b)→Paired F l₁ l₂
 | [],[],_,_=>.nil
 | a::l,b::m,h,f=>.cons (f 0 a b rfl rfl) (jf (by simpa using h) fun i x y h1 h2=>f (i+1) x y (by simpa using h1) (by simpa using h2))
 | [],_::_,h,_=>by simp at h
 | _::_,[],h,_=>by simp at h
section
variable {prog:Program}{w:World}{A:Around}{E:Value→Shared→Prop}{s:Shared}{vs:List Value}
theorem n5 {B:Addr}{n0:Nat}{P:PySem.Fin→Shared→Prop} (key:Nat→Int) (κ:SortKind) (ho:s.heap.get? B=some (seqObj "list" vs.toArray n0))
  (hkind:2≤vs.length→∀ h6:Heap,(∀ b o,b≠B→s.heap.get? b=some o→h6.get? b=some o)→∀ Q:SortKind→Shared→Prop,Q κ { s with heap:=h6 }→wpAny (model prog w) A (keyKind' vs.toArray) Q E { s with heap:=h6 })
  (hcmp:∀ h6:Heap,(∀ b o,b≠B→s.heap.get? b=some o→h6.get? b=some o)→bp vs.length key (kas_cmp prog w A κ (vs.toArray.zip vs.toArray)) { s with heap:=h6 })
  (inj:∀ i j,i<vs.length→j<vs.length→key i=key j→i=j) (up:vs.length<1001∨∀ j,1≤j→j<vs.length→key (j - 1)≤key j) (hz:vs.length≤1000)
  (h:∀ (p:Array Nat) (h':Heap),Rg vs.length p→Up key p vs.length→(∀ b o,b≠B→s.heap.get? b=some o→h'.get? b=some o)→(∃ e,h'.get? B=some (seqObj "list" (p.toList.map fun i=>vs.getD i Value.none).toArray e))→
   P (.done (.ret .none)) { s with heap:=h' }):wpAny (model prog w) A (Builtin.«list.sort» ⟨[.ref B],[]⟩) P E s:=by
 have hzl:vs.length≤sizeLine:=Nat.le_trans hz (by decide)
 rw[list_sort_plain]
 have hB:B<s.heap.objs.size:=Heap.lt_size ho
 refine wpAny_bind (listItems_at ho rfl (wpAny_bind (listUpdate_at ho rfl ?_ (hsz:=by rw[List.size_toArray];exact hzl) (hsz2:=by show 0≤_;exact Nat.zero_le _))))
 have ho1:=get?_update_seq ho (fun _=>#[])
 generalize he1:(if (#[]:Array Value).size == vs.toArray.size then n0 else n0+1)=e1 at ho1
 refine wpAny_bind (seqEpoch_at ho1 rfl (wpAny_bind (wpAny_newTuple (wpAny_bind (wpAny_newList (wpAny_holding ?_))) (by simpa using hzl))))
 have k6:∀ b o,b≠B→s.heap.get? b=some o→(((s.heap.update B (Obj.mapSeq fun _=>#[])).push (seqObj "tuple" vs.toArray.toList.toArray 0)).push (seqObj "list" ([]:List Value).toArray 0)).get? b=some o:=fun b o hb e=>
  Heap.get?_push_of_some _ (Heap.get?_push_of_some _ ((Heap.get?_update_other _ _ (Ne.symm hb)).trans e))
 have o6:(((s.heap.update B (Obj.mapSeq fun _=>#[])).push (seqObj "tuple" vs.toArray.toList.toArray 0)).push (seqObj "list" ([]:List Value).toArray 0)).get? B=some (seqObj "list" #[] e1):=
  Heap.get?_push_of_some _ (Heap.get?_push_of_some _ ho1)
 show wpAny (model prog w) A _ P E { s with heap:=((s.heap.update B (Obj.mapSeq fun _=>#[])).push (seqObj "tuple" vs.toArray.toList.toArray 0)).push (seqObj "list" ([]:List Value).toArray 0) }
 generalize ((s.heap.update B (Obj.mapSeq fun _=>#[])).push (seqObj "tuple" vs.toArray.toList.toArray 0)).push (seqObj "list" ([]:List Value).toArray 0)=h6 at k6 o6 ⊢
 -- the end,whatever the order found
 have fin:∀ (st:SortSt) (p:Array Nat),Rg vs.length p→Up key p vs.length→arrOf st=p.map (kas_item (vs.toArray.zip vs.toArray))→failedOf st=none→
   wpAny (model prog w) A (do
    let touched:=(← seqEpoch B) != e1
    Builtin.List.listUpdate (.ref B) fun _=>(arrOf st).map (·.2)
    if let some e:=failedOf st then rule "list.sort.comparison-raised";throw e
    if touched then rule "list.sort.modified";raiseError "ValueError" "list modified during sort"
    ret .none) P E { s with heap:=h6 }:=fun st p r1 r2 r3 r4=>by
  have out:=kat_snds (ks:=vs) (vs:=vs) rfl r3
  rw[out,r4]
  refine wpAny_bind (seqEpoch_at (s:={ s with heap:=h6 }) o6 rfl (wpAny_bind (listUpdate_at (s:={ s with heap:=h6 }) o6 rfl ?_ (hsz:=Nat.zero_le _) (hsz2:=by
   show (List.toArray (p.toList.map fun i=>vs.getD i Value.none)).size≤_
   rw[List.size_toArray,List.length_map,Array.length_toList,r1.size]
   lia))))
  simp only[bne_self_eq_false,Bool.false_eq_true,if_false]
  refine wpAny_pure (h p _ r1 r2 (fun b o hb e=>(Heap.get?_update_other _ _ (Ne.symm hb)).trans (k6 b o hb e)) ⟨_,get?_update_seq o6 fun _=>_⟩)
 dsimp only
 by_cases h2:vs.toArray.size<2
 ·rw[if_pos h2,if_pos h2]
  refine wpAny_bind (wpAny_pure ?_)
  rw[StateT.run_pure]
  apply wpAny_bind
  apply wpAny_pure
  have h2':vs.length<2:=by simpa using h2
  refine fin (SortSt.mk' general' (vs.toArray.zip vs.toArray) #[] 7 none) (List.range vs.length).toArray (List.Perm.refl _) (fun i j hij hj=>?_) ?_ rfl
  ·have:i=j:=by lia
   subst this
   exact Int.le_refl _
  ·have:=kas_range (vs.toArray.zip vs.toArray)
   rw[show (vs.toArray.zip vs.toArray).size=vs.length by simp] at this
   exact this.symm
 ·rw[if_neg h2,if_neg h2]
  have h2':2≤vs.length:=by simpa using h2
  refine wpAny_bind (hkind h2' h6 k6 _ ?_)
  ·have cm:=hcmp h6 k6
   have kr:=kas_range (vs.toArray.zip vs.toArray)
   rw[show (vs.toArray.zip vs.toArray).size=vs.length by simp] at kr
   have run:=vX (E:=E) (Q:=fun _ st s'=>s'={ s with heap:=h6 }∧∃ p,Rg vs.length p∧Up key p vs.length∧arrOf st=p.map (kas_item (vs.toArray.zip vs.toArray))∧failedOf st=none) cm
    inj h2' up fun p' st' a b c d=>⟨rfl,p',a,b,c,d⟩
   unfold kas_st at run
   rw[kr] at run
   refine wpAny_bind (wpAny_mono run (fun r s' hr=>?_) fun _ _ e=>e)
   obtain⟨u,st⟩:=r
   obtain⟨rfl,p,r1,r2,r3,r4⟩:=hr
   exact fin st p r1 r2 r3 r4
end
section
variable {X:Cx}{pins:List (Addr×Obj)}{σ:L2.St}{H:Hp}{s:Shared}
theorem v9 (hc:X.calm=true) {a:Addr}{ys:List V}{its:List Value}{n:Nat}{T:String}{o:Obj}{Q:VK} (key:Nat→Int) (κ:SortKind) (I:Inv X pins σ H s) (rv:am ys its) (hT:T = "list" ∨ T = "tuple") (e:s.heap.get? a=some o) (eC:o.cls=.type T) (eD:o.data=.seq its.toArray n) (hz:ys.length≤1000)
  (hkind:2≤its.length→∀ (h6:Heap) (tk:Nat),(∀ b o,s.heap.get? b=some o→h6.get? b=some o)→∀ (A:Around) (E:Value→Shared→Prop) (Q:SortKind→Shared→Prop),Q κ { s with heap:=h6,toks:=tk }→wpAny (model X.prog X.w) A (keyKind' its.toArray) Q E { s with heap:=h6,toks:=tk })
  (hcmp:∀ (h6:Heap) (tk:Nat),(∀ b o,s.heap.get? b=some o→h6.get? b=some o)→bp its.length key (kas_cmp X.prog X.w X.A.in1.in1 κ (its.toArray.zip its.toArray)) { s with heap:=h6,toks:=tk })
  (inj:∀ i j,i<its.length→j<its.length→key i=key j→i=j) (up:its.length<1001∨∀ j,1≤j→j<its.length→key (j - 1)≤key j)
  (q:∀ (p:Array Nat) l,Rg its.length p→Up key p its.length→H l=none→Q (.ref l) (upd H l (.lst (p.toList.map fun i=>ys.getD i .non)))):
  wpAny (model X.prog X.w) X.A (call (.builtin "sorted") [.ref a]) (EP X pins σ Q) X.xe s:=by
 have hl:ys.length=its.length:=rv.length
 have hsl:its.length≤sizeLine:=Nat.le_trans (by lia) (show 1000≤sizeLine by decide)
 refine Calls.call_function_entry kind_sorted plain_sorted entry_sorted (args_sorted1 _) ?z
 case z=>
  unfold Builtin.«sorted»
  refine wpAny_bind (m:=checkCount "sorted" 1 1 _) (wpAny_pure (wpAny_bind (wpAny_collect_seq a hT e eC eD (fun h' hkp=>?_) (by rw[List.size_toArray];exact hsl))))
  show wpAny _ _ (newList its >>= _) _ _ _
  refine wpAny_bind (wpAny_newList ?_ hsl)
  have oB:(h'.push (seqObj "list" its.toArray 0)).get? h'.objs.size=some (seqObj "list" its.toArray 0):=Heap.get?_push_size _ rfl
  have kB:∀ b o,s.heap.get? b=some o→(h'.push (seqObj "list" its.toArray 0)).get? b=some o:=fun b o e=>Heap.get?_push_of_some _ (hkp b o e)
  have I1:Inv X pins σ H { s with heap:=h' }:=I.kept (t':=s.toks) hkp
  have nB:∀ b o,s.heap.get? b=some o→b≠h'.objs.size:=fun b o e=>Nat.ne_of_lt (Heap.lt_size (hkp b o e))
  refine wpAny_bind (wpAny_holding (wpAny_call_entry slot_list_sort ⟨_,oB,rfl⟩ entry_list_sort ?y (args_list_sort _)))
  case y=>
   refine n5 (s:={ s with heap:=h'.push (seqObj "list" its.toArray 0) }) key κ oB (fun h2 h6 k6 Q hq=>hkind h2 h6 s.toks (fun b o eb=>k6 b o (nB b o eb) (kB b o eb)) _ _ Q hq) (fun h6 k6=>hcmp h6 s.toks fun b o eb=>k6 b o (nB b o eb) (kB b o eb)) inj up (by lia) fun p h2 r1 r2 k2 ⟨e9,oB2⟩=>⟨_,rfl,wpAny_pure ⟨_,rfl,?_⟩⟩
   have fB:H h'.objs.size=none:=I1.hok.fresh (Nat.le_refl _)
   have neB:∀ b o,h'.get? b=some o→b≠h'.objs.size:=fun b o e=>Nat.ne_of_lt (Heap.lt_size e)
   refine⟨.ref h'.objs.size,upd H h'.objs.size (.lst (p.toList.map fun i=>ys.getD i .non)),?_,rfl,q p _ r1 r2 fB⟩
   refine I1.laid (t':=s.toks) (fun b u e=>k2 b u (neB b u e) (Heap.get?_push_of_some _ e)) (Nat.le_refl _) ⟨?_,_,e9,?_,oB2⟩
   ·rw[List.length_map,Array.length_toList,r1.size]
    lia
   ·refine jf (by simp) fun i v u h1 h2=>?_
    rw[List.getElem?_map] at h1 h2
    cases hpi:p.toList[i]? with
    | none=>rw[hpi] at h1;cases h1
    | some k=>
     rw[hpi] at h1 h2
     cases h1
     cases h2
     have hk:k<its.length:=List.mem_range.mp (r1.mem_iff.mp (List.mem_of_getElem? hpi))
     obtain⟨u,h3,h4⟩:=rv.get (i:=k) (x:=ys[k]'(by lia)) (by simp[show k<ys.length by lia])
     rw[List.getElem?_eq_getElem hk] at h3
     have h3:=Option.some.inj h3
     simp only[List.getD,List.getElem?_eq_getElem hk,List.getElem?_eq_getElem (show k<ys.length by lia),Option.getD_some]
     rw[h3]
     exact h4
end
noncomputable def fK (ns:List Int) (i:Nat):Int:=ns.getD i 0
theorem kQ {ns:List Int} (nd:ns.Nodup):∀ i j,i<ns.length→j<ns.length→fK ns i=fK ns j→i=j:=fun i j hi hj e=>by
 unfold fK at e
 rw[List.getD_eq_getElem?_getD,List.getD_eq_getElem?_getD,List.getElem?_eq_getElem hi,List.getElem?_eq_getElem hj] at e
 have e':ns[i]=ns[j]:=e
 rcases Nat.lt_trichotomy i j with h | h | h
 ·exact absurd e' ((List.pairwise_iff_getElem.mp nd) i j hi hj h)
 ·exact h
 ·exact absurd e'.symm ((List.pairwise_iff_getElem.mp nd) j i hj hi h)
theorem upZ {ns:List Int}{p:Array Nat} (hp:Rg ns.length p) (up:Up (fK ns) p ns.length) (nd:ns.Nodup):(p.toList.map fun i=>ns.getD i 0).Pairwise (· < ·):=by
 rw[List.pairwise_iff_getElem]
 intro i j hi hj hij
 have hs:=hp.size
 have hi':i<ns.length:=by simpa [hs] using hi
 have hj':j<ns.length:=by simpa [hs] using hj
 have ne:=hp.ne (kQ nd) hij hj'
 have le:=up i j (by lia) hj'
 have g:∀ k (hk:k<(p.toList.map fun i=>ns.getD i 0).length),(p.toList.map fun i=>ns.getD i 0)[k]=kyA (fK ns) p k:=fun k hk=>by
  have hk':k<p.size:=by simpa using hk
  rw[List.getElem_map,Array.getElem_toList]
  show _=ns.getD (p.getD k 0) 0
  simp[Array.getD,hk']
 rw[g i hi,g j hj]
 lia
section
variable {X:Cx}
theorem eh {H:Hp}:∀ {ns:List Int}{its:List Value},am (ns.map V.int) its→∀ (i:Nat),i<ns.length→∃ t,its[i]?=some (.int (ns.getD i 0) t)
 | n::r,_,.cons a b,0,h=>by obtain⟨t,rfl⟩:=a;exact⟨t,rfl⟩
 | n::r,_,.cons a b,i+1,h=>by
  obtain⟨t,e⟩:=eh (H:=H) b i (by simpa using h)
  exact⟨t,by simpa using e⟩
theorem we (hc:X.calm=true):bn X (.builtin "sorted") (fun xs H Q=>∃ (a:Addr) (ns:List Int),xs=[.ref a]∧H a=some (.lst (ns.map V.int))∧ns.Nodup∧ns.length≤1000∧
  ∀ l (ns':List Int),H l=none→ns'.Perm ns→ns'.Pairwise (· < ·)→Q (.ref l) (upd H l (.lst (ns'.map V.int)))):=by
 intro pins s σ H xs us Q I r h
 obtain⟨a,ns,rfl,ha,nd,hz,q⟩:=h
 obtain⟨u,rfl,ru⟩:=c5 r
 cases ru
 obtain⟨z,its,n,rv,e⟩:=I.hok a _ ha
 have li:its.length=ns.length:=by rw[← rv.length,List.length_map]
 refine v9 hc (fK ns) oneType' I rv (.inl rfl) e rfl rfl (by rw[List.length_map];exact hz) (fun h2 h6 tk k A E Q hq=>?_) (fun h6 tk k=>?_) (by rw[li];exact kQ nd) (.inl (by lia)) fun p l r1 r2 fl=>?_
 ·refine kas_kind (T:=Value.type "int") h2 (fun v hv=>?_) (by decide) (by decide) hq
  obtain⟨i,hi⟩:=List.getElem?_of_mem hv
  obtain⟨t,ht⟩:=eh (H:=H) rv i (by rw[← li];exact (List.getElem?_eq_some_iff.mp hi).1)
  rw[hi] at ht
  cases ht
  exact Looks.of_pure rfl
 ·intro i j C hi hj q
  obtain⟨t,h1⟩:=eh (H:=H) rv i (by lia)
  obtain⟨u,h2⟩:=eh (H:=H) rv j (by lia)
  unfold kas_cmp
  rw[kat_item rfl,kat_item rfl,List.getD_eq_getElem?_getD,List.getD_eq_getElem?_getD,h1,h2]
  show wpAny _ _ (keyLt' oneType' (.int _ t) (.int _ u)) _ _ _
  rw[keyLt'_oneType]
  exact oneLt_int q
 ·rw[li] at r1 r2
  have e2:(p.toList.map fun i=>(ns.map V.int).getD i .non)=(p.toList.map fun i=>ns.getD i 0).map V.int:=by
   rw[List.map_map]
   refine List.map_congr_left fun k hk=>?_
   have hk':k<ns.length:=List.mem_range.mp (r1.mem_iff.mp hk)
   show (ns.map V.int).getD k .non=V.int (ns.getD k 0)
   simp[List.getD,hk']
  rw[e2]
  exact q l _ fl (n4 r1) (upZ r1 r2 nd)
end
end L2
namespace L2
open PySem PySem.Spec PyProof.Rows
noncomputable def bd (b:Bool) (h:Heap) (it a:Addr) (i:Nat):Prop:=if b=true then h.IsListIter it a i else h.IsTupleIter it a i
noncomputable def bB (b:Bool) (h:Heap) (a:Addr) (xs:Array Value):Prop:=if b=true then h.IsList a xs else h.IsTuple a xs
noncomputable def SqB (b:Bool) (K:PySem.W.Frag) (H:Hp) (a:Addr) (xs:List V):Prop:=if b=true then SqL K H a xs else SqT K H a xs
noncomputable def itN (b:Bool):String:=if b=true then "list_iterator" else "tuple_iterator"
theorem bb {b:Bool}{h h':Heap}{a t:Addr}{i:Nat} (x:bd b h a t i) (k:∀ o,h.get? a=some o→h'.get? a=some o):bd b h' a t i:=by
 cases b with
 | true=>obtain⟨o,e,r⟩:=x;exact⟨o,k o e,r⟩
 | false=>obtain⟨o,e,r⟩:=x;exact⟨o,k o e,r⟩
theorem c8 {b:Bool}{h h':Heap}{a:Addr}{xs:Array Value} (x:bB b h a xs) (k:∀ o,h.get? a=some o→h'.get? a=some o):bB b h' a xs:=by
 cases b with
 | true=>obtain⟨o,e,r⟩:=x;exact⟨o,k o e,r⟩
 | false=>obtain⟨o,e,r⟩:=x;exact⟨o,k o e,r⟩
theorem dq {b:Bool}{h:Heap}{a t:Addr}{i:Nat} (x:bd b h a t i):∃ o,h.get? a=some o∧∀ v,o.data≠.cell v:=by
 cases b with
 | true=>obtain⟨o,e,_,d⟩:=x;exact⟨o,e,fun v z=>by rw[d] at z;cases z⟩
 | false=>obtain⟨o,e,_,d⟩:=x;exact⟨o,e,fun v z=>by rw[d] at z;cases z⟩
theorem gr {b:Bool}{h:Heap}{a:Addr}{xs:Array Value} (x:bB b h a xs):∃ o,h.get? a=some o:=by
 cases b with
 | true=>obtain⟨o,e,_⟩:=x;exact⟨o,e⟩
 | false=>obtain⟨o,e,_⟩:=x;exact⟨o,e⟩
theorem jg {b:Bool}{h:Heap}{a t:Addr} (e:h.get? a=some { cls:=.type (itN b),data:=.fields #[.ref t,.int 0 0] }):bd b h a t 0:=by
 cases b with
 | true=>exact⟨_,e,rfl,rfl⟩
 | false=>exact⟨_,e,rfl,rfl⟩
theorem Inv.sqB {X:Cx}{pins:List (Addr×Obj)}{σ:St}{H:Hp}{s:Shared}{b:Bool}{a:Addr}{xs:List V} (I:Inv X pins σ H s) (h:SqB b X.K H a xs):∃ its:List Value,am xs its∧bB b s.heap a its.toArray∧xs.length≤sizeLine:=by
 cases b with
 | true=>
  obtain⟨its,r,p,z⟩:=I.list h
  exact⟨its,r,p.isList,z⟩
 | false=>
  obtain⟨its,r,p,z⟩:=I.tuple h
  exact⟨its,r,p,z⟩
theorem Inv.sqB_inj {X:Cx}{pins:List (Addr×Obj)}{σ:St}{H:Hp}{s:Shared}{b:Bool}{a:Addr}{xs ys:List V} (I:Inv X pins σ H s) (h:SqB b X.K H a xs) (h':SqB b X.K H a ys):xs=ys:=by
 cases b with
 | true=>exact I.list_inj h h'
 | false=>exact I.tuple_inj h h'
section
variable {prog:Program}{w:World}{A:Around}{E:Value→Shared→Prop}{s:Shared}
theorem gu {b:Bool}{it t:Addr}{i:Nat}{items:Array Value}{x:Value}{Q:Value→Shared→Prop} (hit:bd b s.heap it t i) (ht:bB b s.heap t items) (hx:items[i]?=some x)
  (q:∀ h',bd b h' it t (i+1)→Heap.SameBut it s.heap h'→Q x { s with heap:=h' }):wpAny (model prog w) A (Builtin.SmallTypes.nextOf (.ref it)) Q E s:=by
 cases b with
 | true=>exact wpAny_nextOf_list_item hit ht hx q
 | false=>exact je hit ht hx q
theorem jh {b:Bool}{it t:Addr}{i:Nat}{items:Array Value}{Q:Value→Shared→Prop} (hh:A.handled=none) (hit:bd b s.heap it t i) (ht:bB b s.heap t items) (hx:items[i]?=none)
  (q:∀ h' e,Heap.ExtBut it s.heap h'→(∃ o,h'.get? e=some o∧o.cls=.type "StopIteration")→E (.ref e) { s with heap:=h' }):wpAny (model prog w) A (Builtin.SmallTypes.nextOf (.ref it)) Q E s:=by
 cases b with
 | true=>exact wpAny_nextOf_list_end hh hit ht hx q
 | false=>exact kP hh hit ht hx q
theorem n6 {b1 b2:Bool}{z TI TO i1 i2 l1 l2:Addr}{k1 k2:Nat}{xs ys:Array Value}{x y a b:Value}{Q:Value→Shared→Prop} (D:ZipApart z TI TO i1 i2 l1 l2)
  (hz:IsZip s.heap z TI TO .none) (hTI:IsPair s.heap TI (.ref i1) (.ref i2)) (hTO:IsPair s.heap TO a b)
  (h1:bd b1 s.heap i1 l1 k1) (h2:bd b2 s.heap i2 l2 k2) (hl1:bB b1 s.heap l1 xs) (hl2:bB b2 s.heap l2 ys) (hx:xs[k1]?=some x) (hy:ys[k2]?=some y)
  (hQ:∀ h',IsZip h' z TI TO (rawInt s.heap.objs.size)→IsPair h' TO x y→bd b1 h' i1 l1 (k1+1)→bd b2 h' i2 l2 (k2+1)→IsPair h' s.heap.objs.size x y→
   (∀ c o,c≠z→c≠TO→c≠i1→c≠i2→s.heap.get? c=some o→h'.get? c=some o)→Q (.ref s.heap.objs.size) { s with heap:=h' }):
  wpAny (model prog w) A (Builtin.«zip.__next__» ⟨[.ref z],[]⟩) (fun fin s'=>∃ v,fin=.done (.ret v)∧Q v s') E s:=by
 show wpAny _ _ (field (.ref z) 2 >>= _) _ _ _
 refine wpAny_bind (wpAny_field hz rfl (x:=.bool false) rfl ?_)
 show wpAny _ _ (field (.ref z) 3 >>= _) _ _ _
 refine wpAny_bind (wpAny_field hz rfl (x:=.ref TI) rfl (wpAny_bind (wpAny_seqItems hTI rfl ?_)))
 show wpAny _ _ (Builtin.SmallTypes.ownedTupleIsFree (.ref z) >>= _) _ _ _
 apply wpAny_bind
 unfold Builtin.SmallTypes.ownedTupleIsFree
 refine wpAny_bind (wpAny_field hz rfl (x:=.none) rfl (wpAny_pure ?_))
 simp only[if_true]
 refine wpAny_bind (wpAny_rule (wpAny_bind (wpAny_field hz rfl (x:=.ref TO) rfl (wpAny_bind (wpAny_setField_rec hz (by simp) fun j1 z1 s1=>?_)))))
 replace z1:IsZip j1 z TI TO .ellipsis:=z1
 apply wpAny_bind
 simp only[List.zipIdx_cons,List.zipIdx_nil,List.forIn_cons,List.forIn_nil]
 refine wpAny_bind (wpAny_bind (wpAny_onRaise ?_))
 show wpAny _ _ (Builtin.SmallTypes.nextOf (.ref i1) >>= _) _ _ _
 refine wpAny_bind (gu (s:={ s with heap:=j1 }) (bb h1 fun o e=>s1.extBut _ o D.i1z e) (c8 hl1 fun o e=>s1.extBut _ o D.l1z e) hx fun j2 a2 s2=>wpAny_pure ?_)
 have o2:IsPair j2 TO a b:=s2.extBut _ _ D.TOi1 (s1.extBut _ _ D.TOz hTO)
 refine wpAny_bind (wpAny_seqItems (s:={ s with heap:=j2 }) o2 rfl (wpAny_bind (wpAny_updateSeq_pair (s:={ s with heap:=j2 }) o2 fun j3 o3 s3=>?_)))
 replace o3:IsPair j3 TO x b:=o3
 refine wpAny_bind (wpAny_letGo (wpAny_pure (wpAny_bind (wpAny_bind (wpAny_onRaise ?_)))))
 show wpAny _ _ (Builtin.SmallTypes.nextOf (.ref i2) >>= _) _ _ _
 refine wpAny_bind (gu (s:={ s with heap:=j3 }) (bb h2 fun o e=>s3.extBut _ o D.TOi2.symm (s2.extBut _ o D.i12.symm (s1.extBut _ o D.i2z e))) (c8 hl2 fun o e=>s3.extBut _ o D.l2TO (s2.extBut _ o D.l2i1 (s1.extBut _ o D.l2z e))) hy fun j4 a4 s4=>wpAny_pure ?_)
 have o4:IsPair j4 TO x b:=s4.extBut _ _ D.TOi2 o3
 refine wpAny_bind (wpAny_seqItems (s:={ s with heap:=j4 }) o4 rfl (wpAny_bind (wpAny_updateSeq_pair (s:={ s with heap:=j4 }) o4 fun j5 o5 s5=>?_)))
 replace o5:IsPair j5 TO x y:=o5
 refine wpAny_bind (wpAny_letGo (wpAny_pure (wpAny_pure (wpAny_bind (wpAny_seqItems (s:={ s with heap:=j5 }) o5 rfl (wpAny_bind (wpAny_newTuple ?_)))))))
 have hsz:j5.objs.size=s.heap.objs.size:=by rw[s5.1,s4.1,s3.1,s2.1,s1.1]
 have z5:IsZip j5 z TI TO .ellipsis:=s5.extBut _ _ D.TOz.symm (s4.extBut _ _ D.i2z.symm (s3.extBut _ _ D.TOz.symm (s2.extBut _ _ D.i1z.symm z1)))
 have k5:∀ c o,c≠z→c≠TO→c≠i1→c≠i2→s.heap.get? c=some o→j5.get? c=some o:=fun c o c1 c2 c3 c4 e=>s5.extBut _ _ c2 (s4.extBut _ _ c4 (s3.extBut _ _ c2 (s2.extBut _ _ c3 (s1.extBut _ _ c1 e))))
 have b1:bd b1 j5 i1 l1 (k1+1):=bb a2 fun o e=>s5.extBut _ o D.TOi1.symm (s4.extBut _ o D.i12 (s3.extBut _ o D.TOi1.symm e))
 have b2:bd b2 j5 i2 l2 (k2+1):=bb a4 fun o e=>s5.extBut _ o D.TOi2.symm e
 have zlt:z<j5.objs.size:=Heap.lt_size z5
 show wpAny _ _ (Builtin.SmallTypes.ownedTupleHandOut (.ref z) (.ref j5.objs.size) >>= _) _ _ _
 apply wpAny_bind
 unfold Builtin.SmallTypes.ownedTupleHandOut
 have z6:IsZip (j5.push { cls:=.type "tuple",data:=.seq #[x,y] }) z TI TO .ellipsis:=Heap.get?_push_of_some _ z5
 refine wpAny_bind (wpAny_setField_rec z6 (by simp) fun j7 z7 s7=>?_)
 replace z7:IsZip j7 z TI TO (rawInt j5.objs.size):=z7
 refine wpAny_setField_rec z7 (by simp) fun j8 z8 s8=>?_
 replace z8:IsZip j8 z TI TO (rawInt j5.objs.size):=z8
 have up:∀ c o,c≠z→j5.get? c=some o→j8.get? c=some o:=fun c o c1 e=>s8.extBut _ _ c1 (s7.extBut _ _ c1 (Heap.get?_push_of_some _ e))
 have t8:IsPair j8 j5.objs.size x y:=s8.extBut _ _ (Nat.ne_of_gt zlt) (s7.extBut _ _ (Nat.ne_of_gt zlt) (Heap.get?_push_size _ rfl))
 rw[hsz] at z8 t8
 refine wpAny_pure ⟨_,rfl,?_⟩
 show Q (.ref j5.objs.size) _
 rw[hsz]
 exact hQ j8 z8 (up _ _ D.TOz o5) (bb b1 fun o e=>up _ o D.i1z e) (bb b2 fun o e=>up _ o D.i2z e) t8 fun c o c1 c2 c3 c4 e=>up c o c1 (k5 c o c1 c2 c3 c4 e)
theorem n9 {b1 b2:Bool}{z TI TO i1 i2 l1 l2:Addr}{k1 k2:Nat}{xs ys:Array Value}{a b:Value}{Q:PySem.Fin→Shared→Prop} (hh:A.handled=none) (D:ZipApart z TI TO i1 i2 l1 l2)
  (hz:IsZip s.heap z TI TO .none) (hTI:IsPair s.heap TI (.ref i1) (.ref i2)) (hTO:IsPair s.heap TO a b)
  (h1:bd b1 s.heap i1 l1 k1) (h2:bd b2 s.heap i2 l2 k2) (hl1:bB b1 s.heap l1 xs) (hl2:bB b2 s.heap l2 ys) (hend:xs[k1]?=none∨ys[k2]?=none)
  (hE:∀ h' e,(∀ c o,c≠z→c≠TO→c≠i1→c≠i2→s.heap.get? c=some o→h'.get? c=some o)→(∃ o,h'.get? e=some o∧o.cls=.type "StopIteration")→E (.ref e) { s with heap:=h' }):
  wpAny (model prog w) A (Builtin.«zip.__next__» ⟨[.ref z],[]⟩) Q E s:=by
 show wpAny _ _ (field (.ref z) 2 >>= _) _ _ _
 refine wpAny_bind (wpAny_field hz rfl (x:=.bool false) rfl ?_)
 show wpAny _ _ (field (.ref z) 3 >>= _) _ _ _
 refine wpAny_bind (wpAny_field hz rfl (x:=.ref TI) rfl (wpAny_bind (wpAny_seqItems hTI rfl ?_)))
 show wpAny _ _ (Builtin.SmallTypes.ownedTupleIsFree (.ref z) >>= _) _ _ _
 apply wpAny_bind
 unfold Builtin.SmallTypes.ownedTupleIsFree
 refine wpAny_bind (wpAny_field hz rfl (x:=.none) rfl (wpAny_pure ?_))
 simp only[if_true]
 refine wpAny_bind (wpAny_rule (wpAny_bind (wpAny_field hz rfl (x:=.ref TO) rfl (wpAny_bind (wpAny_setField_rec hz (by simp) fun j1 z1 s1=>?_)))))
 replace z1:IsZip j1 z TI TO .ellipsis:=z1
 apply wpAny_bind
 simp only[List.zipIdx_cons,List.zipIdx_nil,List.forIn_cons,List.forIn_nil]
 refine wpAny_bind (wpAny_bind (wpAny_onRaise ?_))
 show wpAny _ _ (Builtin.SmallTypes.nextOf (.ref i1) >>= _) _ _ _
 cases hx:xs[k1]? with
 | none=>
  refine wpAny_bind (jh (s:={ s with heap:=j1 }) hh (bb h1 fun o e=>s1.extBut _ o D.i1z e) (c8 hl1 fun o e=>s1.extBut _ o D.l1z e) hx fun j2 e s2 ⟨oe,e1,e2⟩=>?_)
  have z2:IsZip j2 z TI TO .ellipsis:=s2 _ _ D.i1z.symm z1
  have ez:e≠z:=fun q=>by subst q;rw[z2] at e1;cases e1;simp at e2
  refine wpAny_setField_rec z2 (by simp) fun j3 _ s3=>hE j3 e (fun c o c1 _ c3 _ q=>s3.extBut _ _ c1 (s2 _ _ c3 (s1.extBut _ _ c1 q))) ⟨oe,s3.extBut _ _ ez e1,e2⟩
 | some x=>
  have hy:ys[k2]?=none:=by
   rcases hend with h | h
   ·rw[hx] at h;cases h
   ·exact h
  refine wpAny_bind (gu (s:={ s with heap:=j1 }) (bb h1 fun o e=>s1.extBut _ o D.i1z e) (c8 hl1 fun o e=>s1.extBut _ o D.l1z e) hx fun j2 a2 s2=>wpAny_pure ?_)
  have o2:IsPair j2 TO a b:=s2.extBut _ _ D.TOi1 (s1.extBut _ _ D.TOz hTO)
  refine wpAny_bind (wpAny_seqItems (s:={ s with heap:=j2 }) o2 rfl (wpAny_bind (wpAny_updateSeq_pair (s:={ s with heap:=j2 }) o2 fun j3 o3 s3=>?_)))
  refine wpAny_bind (wpAny_letGo (wpAny_pure (wpAny_bind (wpAny_bind (wpAny_onRaise ?_)))))
  show wpAny _ _ (Builtin.SmallTypes.nextOf (.ref i2) >>= _) _ _ _
  refine wpAny_bind (jh (s:={ s with heap:=j3 }) hh (bb h2 fun o e=>s3.extBut _ o D.TOi2.symm (s2.extBut _ o D.i12.symm (s1.extBut _ o D.i2z e))) (c8 hl2 fun o e=>s3.extBut _ o D.l2TO (s2.extBut _ o D.l2i1 (s1.extBut _ o D.l2z e))) hy fun j4 e s4 ⟨oe,e1,e2⟩=>?_)
  have z4:IsZip j4 z TI TO .ellipsis:=s4 _ _ D.i2z.symm (s3.extBut _ _ D.TOz.symm (s2.extBut _ _ D.i1z.symm z1))
  have ez:e≠z:=fun q=>by subst q;rw[z4] at e1;cases e1;simp at e2
  refine wpAny_setField_rec z4 (by simp) fun j5 _ s5=>hE j5 e (fun c o c1 c2 c3 c4 q=>s5.extBut _ _ c1 (s4 _ _ c4 (s3.extBut _ _ c2 (s2.extBut _ _ c3 (s1.extBut _ _ c1 q))))) ⟨oe,s5.extBut _ _ ez e1,e2⟩
end
noncomputable def zmH (b1 b2:Bool) (h:Heap) (l1 l2:Addr):Heap:=((((h.push { cls:=.type (itN b1),data:=.fields #[.ref l1,.int 0 0] }).push { cls:=.type (itN b2),data:=.fields #[.ref l2,.int 0 0] }).push { cls:=.type "tuple",data:=.seq #[.ref h.objs.size,.ref (h.push { cls:=.type (itN b1),data:=.fields #[.ref l1,.int 0 0] }).objs.size] }).push { cls:=.type "tuple",data:=.seq #[.none,.none] })
set_option maxHeartbeats 4000000 in
theorem og (b1 b2 : Bool) (l1 l2 : Addr) (xs ys : Array Value) :
    Meets (Builtin.«zip.__new__» ⟨[.type "zip", .ref l1, .ref l2], []⟩) (fun _ R s => bB b1 s.heap l1 xs ∧ bB b2 s.heap l2 ys ∧
      R (.ok (.ret (.ref (zmH b1 b2 s.heap l1 l2).objs.size))) { s with heap := (zmH b1 b2 s.heap l1 l2).push { cls := .type "zip", data := .fields #[.none, .bool false, .bool false, .ref ((s.heap.push { cls := .type (itN b1), data := .fields #[.ref l1, .int 0 0] }).push { cls := .type (itN b2), data := .fields #[.ref l2, .int 0 0] }).objs.size,
        .ref (((s.heap.push { cls := .type (itN b1), data := .fields #[.ref l1, .int 0 0] }).push { cls := .type (itN b2), data := .fields #[.ref l2, .int 0 0] }).push { cls := .type "tuple", data := .seq #[.ref s.heap.objs.size, .ref (s.heap.push { cls := .type (itN b1), data := .fields #[.ref l1, .int 0 0] }).objs.size] }).objs.size] } }) :=
  .of_wp fun prog w A R s h => by
    obtain ⟨hp, g, d, tk, os⟩ := s
    obtain ⟨q1, q2, h⟩ := h
    have hsub := sub_zip
    have q2' : bB b2 (hp.push { cls := .type (itN b1), data := .fields #[.ref l1, .int 0 0] }) l2 ys := c8 q2 fun o e => Heap.get?_push_of_some _ e
    cases b1 <;> cases b2
    · have m1 : Heap.IsTuple (Shared.heap ⟨hp, g, d, tk, os⟩) l1 xs := q1
      have m2 : Heap.IsTuple (Shared.heap ⟨hp.push { cls := .type "tuple_iterator", data := .fields #[.ref l1, .int 0 0] }, g, d, tk, os⟩) l2 ys := q2'
      wp_walk using wpAny_pyIter_tuple m1, wpAny_pyIter_tuple m2
      exact ⟨_, rfl, h⟩
    · have m1 : Heap.IsTuple (Shared.heap ⟨hp, g, d, tk, os⟩) l1 xs := q1
      have m2 : Heap.IsList (Shared.heap ⟨hp.push { cls := .type "tuple_iterator", data := .fields #[.ref l1, .int 0 0] }, g, d, tk, os⟩) l2 ys := q2'
      wp_walk using wpAny_pyIter_tuple m1, wpAny_pyIter_list m2
      exact ⟨_, rfl, h⟩
    · have m1 : Heap.IsList (Shared.heap ⟨hp, g, d, tk, os⟩) l1 xs := q1
      have m2 : Heap.IsTuple (Shared.heap ⟨hp.push { cls := .type "list_iterator", data := .fields #[.ref l1, .int 0 0] }, g, d, tk, os⟩) l2 ys := q2'
      wp_walk using wpAny_pyIter_list m1, wpAny_pyIter_tuple m2
      exact ⟨_, rfl, h⟩
    · have m1 : Heap.IsList (Shared.heap ⟨hp, g, d, tk, os⟩) l1 xs := q1
      have m2 : Heap.IsList (Shared.heap ⟨hp.push { cls := .type "list_iterator", data := .fields #[.ref l1, .int 0 0] }, g, d, tk, os⟩) l2 ys := q2'
      wp_walk using wpAny_pyIter_list m1, wpAny_pyIter_list m2
      exact ⟨_, rfl, h⟩
noncomputable def Izm (b1 b2:Bool) (K:PySem.W.Frag) (a b:Addr):It:=
 ⟨fun i H=>∃ xs ys x y,SqB b1 K H a xs∧SqB b2 K H b ys∧xs[i]?=some x∧ys[i]?=some y,
  fun i H v H'=>∃ T x y,H T=none∧v=.ref T∧H'=upd H T (.tup [x,y])∧(∀ xs,SqB b1 K H a xs→xs[i]?=some x)∧(∀ ys,SqB b2 K H b ys→ys[i]?=some y),
  fun i H=>∃ xs ys,SqB b1 K H a xs∧SqB b2 K H b ys∧(xs.length≤i∨ys.length≤i)⟩
noncomputable def gv (b1 b2:Bool) (a b z TI TO i1 i2:Addr) (i:Nat) (h:Heap):Prop:=IsZip h z TI TO .none∧IsPair h TI (.ref i1) (.ref i2)∧(∃ p q,IsPair h TO p q)∧bd b1 h i1 a i∧bd b2 h i2 b i
theorem wf {b1 b2:Bool}{P:Program}{w:World}{K:PySem.W.Frag}{es:List Expr}{ek:Nat}{pos:Pos} (a b z TI TO i1 i2:Addr) (D:ZipApart z TI TO i1 i2 a b):
  Turn P w K (.Tuple es ek pos) (Izm b1 b2 K a b) [z,TI,TO,i1,i2] z (gv b1 b2 a b z TI TO i1 i2) where
 mem:=by simp
 obj:=fun i h st c hc=>by
  obtain⟨h1,h2,⟨p,q,h3⟩,h4,h5⟩:=st
  simp only[List.mem_cons,List.mem_nil_iff,or_false] at hc
  rcases hc with rfl | rfl | rfl | rfl | rfl
  ·exact⟨_,h1,fun v e=>by cases e⟩
  ·exact⟨_,h2,fun v e=>by cases e⟩
  ·exact⟨_,h3,fun v e=>by cases e⟩
  ·exact dq h4
  ·exact dq h5
 keep:=fun i h h' st k=>by
  obtain⟨h1,h2,⟨p,q,h3⟩,h4,h5⟩:=st
  exact⟨k z (by simp) _ h1,k TI (by simp) _ h2,⟨p,q,k TO (by simp) _ h3⟩,bb h4 fun o e=>k i1 (by simp) o e,bb h5 fun o e=>k i2 (by simp) o e⟩
 item:=by
  intro X hP hw hK hc i pins s σ H E I hf st hg
  subst hP hw hK
  obtain⟨xs,ys,x,y,q1,q2,x1,y1⟩:=hg
  obtain⟨its,rv,p,hz⟩:=I.sqB q1
  obtain⟨its2,rv2,p2,hz2⟩:=I.sqB q2
  obtain⟨u,hu,ru⟩:=rv.get x1
  obtain⟨u2,hu2,ru2⟩:=rv2.get y1
  have there:=st
  obtain⟨h1,h2,⟨pa,pb,h3⟩,h4,h5⟩:=st
  have hT:s.TypeIs (.ref z) "zip" := ⟨_,h1,rfl⟩
  unfold pyNext
  refine wpAny_bind (wpAny_attempt (wpAny_callSpecial?_slot (name:=Str.ofString "__next__") hT F.slot_zip_next (wpAny_call_entry F.slot_zip_next hT F.entry_zip_next
   (n6 (Q:=fun v s'=>wpAny (model X.prog X.w) X.A (pure (some v)) (fun r s1=>∃ u,r=some u∧wpAny (model X.prog X.w) X.A (letOwnedTupleGo (.Tuple es ek pos) (.ref z) u) (fun _ s2=>∃ x H',Inv X pins σ H' s2∧ay x u∧(Izm b1 b2 X.K a b).yld i H x H'∧gv b1 b2 a b z TI TO i1 i2 (i+1) s2.heap∧∀ b∈[z,TI,TO,i1,i2],H' b=none) E s1) E s')
    D h1 h2 h3 h4 h5 (show bB b1 s.heap a its.toArray from p) (show bB b2 s.heap b its2.toArray from p2) (x:=u) (y:=u2) (by simpa using hu) (by simpa using hu2) fun h' g1 g2 g3 g4 g5 kk=>wpAny_pure ⟨_,rfl,?_⟩) (F.args_zip_next_1 _))))
  refine wpAny_letOwnedTupleGo_zip g1 fun h2' g1' sb=>?_
  have lt:∀ c∈[z,TI,TO,i1,i2],c<s.heap.objs.size:=fun c hc=>by
   obtain⟨h1,h2,⟨p,q,h3⟩,h4,h5⟩:=there
   simp only[List.mem_cons,List.mem_nil_iff,or_false] at hc
   rcases hc with rfl | rfl | rfl | rfl | rfl
   ·exact Heap.lt_size h1
   ·exact Heap.lt_size h2
   ·exact Heap.lt_size h3
   ·obtain⟨o,e,_⟩:=dq h4;exact Heap.lt_size e
   ·obtain⟨o,e,_⟩:=dq h5;exact Heap.lt_size e
  have kp:∀ c o,c∉[z,TI,TO,i1,i2]→s.heap.get? c=some o→h2'.get? c=some o:=fun c o hc e=>by
   simp only[List.mem_cons,List.mem_nil_iff,or_false,not_or] at hc
   exact sb.extBut _ _ hc.1 (kk c o hc.1 hc.2.2.1 hc.2.2.2.1 hc.2.2.2.2 e)
  have zT:s.heap.objs.size≠z:=Nat.ne_of_gt (lt z (by simp))
  have fT:H s.heap.objs.size=none:=I.hok.fresh (Nat.le_refl _)
  refine⟨.ref s.heap.objs.size,upd H s.heap.objs.size (.tup [x,y]),I.turnT (t':=s.toks) hf kp (Nat.le_refl _) ⟨by show 2≤sizeLine;decide,[u,u2],.cons ru (.cons ru2 .nil),?_⟩,rfl,⟨_,x,y,fT,rfl,rfl,fun zs hz=>?_,fun zs hz=>?_⟩,?_,fun c hc=>?_⟩
  ·exact⟨_,sb.extBut _ _ zT g5,rfl,0,rfl⟩
  ·rw[I.sqB_inj hz q1];exact x1
  ·rw[I.sqB_inj hz q2];exact y1
  ·exact⟨g1',sb.extBut _ _ D.TIz (kk _ _ D.TIz D.TITO D.TIi1 D.TIi2 h2),⟨_,_,sb.extBut _ _ D.TOz g2⟩,bb g3 fun o e=>sb.extBut _ o D.i1z e,bb g4 fun o e=>sb.extBut _ o D.i2z e⟩
  ·rw[aI (Nat.ne_of_lt (lt c hc))]
   exact (hf c hc).1
 done:=by
  intro X hP hw hK hc i pins s σ H E I hf st hg
  subst hP hw hK
  obtain⟨xs,ys,q1,q2,hend⟩:=hg
  obtain⟨its,rv,p,hz⟩:=I.sqB q1
  obtain⟨its2,rv2,p2,hz2⟩:=I.sqB q2
  obtain⟨h1,h2,⟨pa,pb,h3⟩,h4,h5⟩:=st
  have hT:s.TypeIs (.ref z) "zip" := ⟨_,h1,rfl⟩
  have l1:=rv.length
  have l2:=rv2.length
  unfold pyNext
  refine wpAny_bind (wpAny_attempt (wpAny_callSpecial?_slot (name:=Str.ofString "__next__") hT F.slot_zip_next (wpAny_call_entry F.slot_zip_next hT F.entry_zip_next
   (n9 (I.ok.hd hc) D h1 h2 h3 h4 h5 (show bB b1 s.heap a its.toArray from p) (show bB b2 s.heap b its2.toArray from p2) (by
    rcases hend with h | h
    ·exact .inl (by simp;lia)
    ·exact .inr (by simp;lia)) fun h' e kk ⟨o,ho,hcl⟩=>?_) (F.args_zip_next_1 _))))
  refine wpAny_bind (wpAny_isInstance (T := "StopIteration") (b:=true) ⟨o,ho,hcl⟩ isSubtype_stop (wpAny_pure ⟨rfl,I.turnL (t':=s.toks) hf fun c o hc e=>?_⟩))
  simp only[List.mem_cons,List.mem_nil_iff,or_false,not_or] at hc
  exact kk c o hc.1 hc.2.2.1 hc.2.2.2.1 hc.2.2.2.2 e
 self:=fun _ _ _ _ _ st h=>wpAny_pyIter_zip st.1 h
section
variable {X:Cx}
noncomputable def wg (K:PySem.W.Frag) (ta:TA):TI:=fun σ H R=>ta σ H fun vs H1=>∃ b1 b2 a b,vs=[.ref a,.ref b]∧(∃ xs,SqB b1 K H1 a xs)∧(∃ ys,SqB b2 K H1 b ys)∧R (Izm b1 b2 K a b) H1
theorem wj {a b:Expr}{ta:TA}{p pos:Pos}{es:List Expr}{ek:Nat}{ps:Pos} (hg:Gl X "zip") (hm:X.mg "zip" = none) (ha:PA X [a,b] ta) (hs:starEach [a,b] X.env=[(false,eval a X.env),(false,eval b X.env)]:=by rfl) (hs2:starEach [b] X.env=[(false,eval b X.env)]:=by rfl):
  PI X (.Tuple es ek ps) (.Call (.Name "zip" p) [a,b] [] pos) (wg X.K ta):=by
 intro pins s σ H R I h
 refine Call_ (cl I hg hm boot_zip (PyProof.Rows.callWith_type1 (thn (ha pos pins s σ H _ I h) fun us s1 ⟨vs,H1,I1,r1,q1⟩=>?_) (by rw[hs,hs2]) (by rw[hs2];rfl)))
 obtain⟨b1,b2,l1,l2,e,⟨xs,hx⟩,⟨ys,hy⟩,q⟩:=q1
 subst e
 cases r1 with
 | cons r rr=>
  cases rr with
  | cons r' rr=>
   cases rr
   cases r
   cases r'
   obtain⟨its,rv,p,hz⟩:=I1.sqB hx
   obtain⟨its2,rv2,p2,hz2⟩:=I1.sqB hy
   have lt1:l1<s1.heap.objs.size:=by obtain⟨o,e⟩:=gr p;exact Heap.lt_size e
   have lt2:l2<s1.heap.objs.size:=by obtain⟨o,e⟩:=gr p2;exact Heap.lt_size e
   refine callType_new F.called_zip (by decide) (F.typeCall_zip_2 _ _) (F.newCall_zip_2 _ _) (fun obj=>F.args_object_init_3 obj _ _) F.entry_zip_new (og b1 b2 l1 l2 its.toArray its2.toArray) ⟨p,p2,?_⟩
   have z1:(s1.heap.push { cls:=.type (itN b1),data:=.fields #[.ref l1,.int 0 0] }).objs.size=s1.heap.objs.size+1:=Heap.size_push ..
   have z2:((s1.heap.push { cls:=.type (itN b1),data:=.fields #[.ref l1,.int 0 0] }).push { cls:=.type (itN b2),data:=.fields #[.ref l2,.int 0 0] }).objs.size=s1.heap.objs.size+2:=by rw[Heap.size_push,z1]
   have z3:(((s1.heap.push { cls:=.type (itN b1),data:=.fields #[.ref l1,.int 0 0] }).push { cls:=.type (itN b2),data:=.fields #[.ref l2,.int 0 0] }).push
    { cls:=.type "tuple",data:=.seq #[.ref s1.heap.objs.size,.ref (s1.heap.push { cls:=.type (itN b1),data:=.fields #[.ref l1,.int 0 0] }).objs.size] }).objs.size=s1.heap.objs.size+3:=by rw[Heap.size_push,z2]
   have z4:(zmH b1 b2 s1.heap l1 l2).objs.size=s1.heap.objs.size+4:=by unfold zmH;rw[Heap.size_push,z3]
   show _∧_
   refine⟨⟨_,Heap.get?_push_size _ rfl,rfl⟩,wpAny_pyIter_zip (TI:=s1.heap.objs.size+2) (TO:=s1.heap.objs.size+3) (f0:=.none) ?_ ?_⟩
   ·rw[z2,z3]
    exact Heap.get?_push_size _ rfl
   ·rw[z2,z3,z4]
    have g5:((zmH b1 b2 s1.heap l1 l2).push { cls:=.type "zip",data:=.fields #[.none,.bool false,.bool false,.ref (s1.heap.objs.size+2),.ref (s1.heap.objs.size+3)] }).get? (s1.heap.objs.size+4)=some { cls:=.type "zip",data:=.fields #[.none,.bool false,.bool false,.ref (s1.heap.objs.size+2),.ref (s1.heap.objs.size+3)] }:=by rw[← z4];exact Heap.get?_push_size _ rfl
    have g4:((zmH b1 b2 s1.heap l1 l2).push { cls:=.type "zip",data:=.fields #[.none,.bool false,.bool false,.ref (s1.heap.objs.size+2),.ref (s1.heap.objs.size+3)] }).get? (s1.heap.objs.size+3)=some { cls:=.type "tuple",data:=.seq #[.none,.none] }:=by
     rw[← z3];exact Heap.get?_push_of_some _ (Heap.get?_push_size _ rfl)
    have g3:((zmH b1 b2 s1.heap l1 l2).push { cls:=.type "zip",data:=.fields #[.none,.bool false,.bool false,.ref (s1.heap.objs.size+2),.ref (s1.heap.objs.size+3)] }).get? (s1.heap.objs.size+2)=some { cls:=.type "tuple",data:=.seq #[.ref s1.heap.objs.size,.ref (s1.heap.objs.size+1)] }:=by
     rw[← z2,← z1];exact Heap.get?_push_of_some _ (Heap.get?_push_of_some _ (Heap.get?_push_size _ rfl))
    have g2:((zmH b1 b2 s1.heap l1 l2).push { cls:=.type "zip",data:=.fields #[.none,.bool false,.bool false,.ref (s1.heap.objs.size+2),.ref (s1.heap.objs.size+3)] }).get? (s1.heap.objs.size+1)=some { cls:=.type (itN b2),data:=.fields #[.ref l2,.int 0 0] }:=by
     rw[← z1];exact Heap.get?_push_of_some _ (Heap.get?_push_of_some _ (Heap.get?_push_of_some _ (Heap.get?_push_size _ rfl)))
    have g1:((zmH b1 b2 s1.heap l1 l2).push { cls:=.type "zip",data:=.fields #[.none,.bool false,.bool false,.ref (s1.heap.objs.size+2),.ref (s1.heap.objs.size+3)] }).get? s1.heap.objs.size=some { cls:=.type (itN b1),data:=.fields #[.ref l1,.int 0 0] }:=
     Heap.get?_push_of_some _ (Heap.get?_push_of_some _ (Heap.get?_push_of_some _ (Heap.get?_push_of_some _ (Heap.get?_push_size _ rfl))))
    have kp:∀ c o,s1.heap.get? c=some o→((zmH b1 b2 s1.heap l1 l2).push { cls:=.type "zip",data:=.fields #[.none,.bool false,.bool false,.ref (s1.heap.objs.size+2),.ref (s1.heap.objs.size+3)] }).get? c=some o:=fun c o e=>
     Heap.get?_push_of_some _ (Heap.get?_push_of_some _ (Heap.get?_push_of_some _ (Heap.get?_push_of_some _ (Heap.get?_push_of_some _ e))))
    generalize ((zmH b1 b2 s1.heap l1 l2).push { cls:=.type "zip",data:=.fields #[.none,.bool false,.bool false,.ref (s1.heap.objs.size+2),.ref (s1.heap.objs.size+3)] })=h5 at g1 g2 g3 g4 g5 kp ⊢
    have D:ZipApart (s1.heap.objs.size+4) (s1.heap.objs.size+2) (s1.heap.objs.size+3) s1.heap.objs.size (s1.heap.objs.size+1) l1 l2:=PySem.W.ktu_apart _ _ _ lt1 lt2
    refine⟨_,_,_,_,H1,rfl,I1.kept (t':=s1.toks) kp,wf l1 l2 _ _ _ _ _ D,⟨g5,g3,⟨_,_,g4⟩,jg g1,jg g2⟩,fun c hc=>?_,q⟩
    have:s1.heap.objs.size≤c:=by
     simp only[List.mem_cons,List.mem_nil_iff,or_false] at hc
     rcases hc with rfl | rfl | rfl | rfl | rfl
     ·exact Nat.le_add_right _ _
     ·exact Nat.le_add_right _ _
     ·exact Nat.le_add_right _ _
     ·exact Nat.le_refl _
     ·exact Nat.le_add_right _ _
    exact I1.fpOk this (I1.hok.fresh this)
end
section
variable {X:Cx}
end
noncomputable def oh (K:PySem.W.Frag) (H:Hp) (x:V) (T:String) (b:Bool):Prop:=
 (∃ i,x=.int i∧((T = "int" ∧ b=true)∨(T = "tuple" ∧ b=false)∨(T = "str" ∧ b=false)∨(T = "bool" ∧ b=false)∨(T = "list" ∧ b=false)))∨
 (∃ i,x=.bl i∧((T = "bool" ∧ b=true)∨(T = "int" ∧ b=true)∨(T = "tuple" ∧ b=false)∨(T = "str" ∧ b=false)∨(T = "list" ∧ b=false)))∨
 (∃ i,x=.str i∧((T = "str" ∧ b=true)∨(T = "int" ∧ b=false)∨(T = "tuple" ∧ b=false)∨(T = "bool" ∧ b=false)∨(T = "list" ∧ b=false)))∨
 (∃ a xs,x=.ref a∧SqT K H a xs∧((T = "tuple" ∧ b=true)∨(T = "int" ∧ b=false)∨(T = "str" ∧ b=false)∨(T = "bool" ∧ b=false)∨(T = "list" ∧ b=false)))∨
 (∃ a xs,x=.ref a∧SqL K H a xs∧((T = "list" ∧ b=true)∨(T = "int" ∧ b=false)∨(T = "str" ∧ b=false)∨(T = "bool" ∧ b=false)∨(T = "tuple" ∧ b=false)))
section
variable {X:Cx}
theorem wl:bn X (.builtin "isinstance") (fun xs H Q=>∃ x T b,xs=[x,.ty T]∧oh X.K H x T b∧Q (.bl b) H):=by
 intro pins s σ H xs us Q I r h
 obtain⟨x,T,b,rfl,hi,q⟩:=h
 cases r with
 | cons r rr=>
  cases rr with
  | cons r' rr=>
   cases rr
   cases r'
   have f0:∀ {b:Bool},Q (.bl b) H→EP X pins σ Q (.bool b) s:=fun {b} q=>⟨.bl b,H,I,rfl,q⟩
   have f1:∀ {b:Bool},Q (.bl b) H→EP X pins σ Q (.bool b) { s with toks:=s.toks+1 }:=fun {b} q=>⟨.bl b,H,I.tok _,rfl,q⟩
   rcases hi with ⟨i,rfl,hi⟩ | ⟨i,rfl,hi⟩ | ⟨i,rfl,hi⟩ | ⟨a,xs,rfl,hs,hi⟩ | ⟨a,xs,rfl,hs,hi⟩
   ·obtain⟨t,rfl⟩:=r
    rcases hi with ⟨rfl,rfl⟩ | ⟨rfl,rfl⟩ | ⟨rfl,rfl⟩ | ⟨rfl,rfl⟩ | ⟨rfl,rfl⟩
    ·exact IsiPair.int_int (f0 q)
    ·exact IsiPair.int_tuple (f1 q)
    ·exact IsiPair.int_str (f1 q)
    ·exact IsiPair.int_bool (f1 q)
    ·exact IsiPair.int_list (f1 q)
   ·cases r
    rcases hi with ⟨rfl,rfl⟩ | ⟨rfl,rfl⟩ | ⟨rfl,rfl⟩ | ⟨rfl,rfl⟩ | ⟨rfl,rfl⟩
    ·exact IsiPair.bool_bool (f0 q)
    ·exact IsiPair.bool_int (f0 q)
    ·exact IsiPair.bool_tuple (f1 q)
    ·exact IsiPair.bool_str (f1 q)
    ·exact IsiPair.bool_list (f1 q)
   ·obtain⟨t,rfl⟩:=r
    rcases hi with ⟨rfl,rfl⟩ | ⟨rfl,rfl⟩ | ⟨rfl,rfl⟩ | ⟨rfl,rfl⟩ | ⟨rfl,rfl⟩
    ·exact IsiPair.str_str (f0 q)
    ·exact IsiPair.str_int (f1 q)
    ·exact IsiPair.str_tuple (f1 q)
    ·exact IsiPair.str_bool (f1 q)
    ·exact IsiPair.str_list (f1 q)
   ·cases r
    obtain⟨its,rv,⟨o,ho,hc,_⟩,hz⟩:=I.tuple hs
    rcases hi with ⟨rfl,rfl⟩ | ⟨rfl,rfl⟩ | ⟨rfl,rfl⟩ | ⟨rfl,rfl⟩ | ⟨rfl,rfl⟩
    ·exact IsiPair.tuple_tuple ho hc (f0 q)
    ·exact IsiPair.tuple_int ho hc (f1 q)
    ·exact IsiPair.tuple_str ho hc (f1 q)
    ·exact IsiPair.tuple_bool ho hc (f1 q)
    ·exact IsiPair.tuple_list ho hc (f1 q)
   ·cases r
    obtain⟨its,rv,p,hz⟩:=I.list hs
    obtain⟨o,ho,hc,_⟩:=p.isList
    rcases hi with ⟨rfl,rfl⟩ | ⟨rfl,rfl⟩ | ⟨rfl,rfl⟩ | ⟨rfl,rfl⟩ | ⟨rfl,rfl⟩
    ·exact IsiPair.list_list ho hc (f0 q)
    ·exact IsiPair.list_int ho hc (f1 q)
    ·exact IsiPair.list_str ho hc (f1 q)
    ·exact IsiPair.list_bool ho hc (f1 q)
    ·exact IsiPair.list_tuple ho hc (f1 q)
theorem oi:∀ {bs:List Bool}{us:List Value},am (bs.map V.bl) us→∀ (i:Nat) (v:Value),us[i]?=some v→∃ b,bs[i]?=some b∧v=Value.bool b:=by
 intro bs us r i v h
 have hl:=r.length
 rw[List.length_map] at hl
 have hi:i<bs.length:=by rw[hl];exact (List.getElem?_eq_some_iff.mp h).1
 obtain⟨u,hu,ru⟩:=r.get (i:=i) (x:=V.bl bs[i]) (by simp[hi])
 rw[h] at hu
 cases hu
 exact⟨bs[i],by simp[hi],ru⟩
theorem wm (hc:X.calm=true):bn X (.builtin "all") (fun xs H Q=>∃ l bs,xs=[.ref l]∧H l=some (.lst (List.map V.bl bs))∧Q (.bl (bs.all id)) H):=by
 intro pins s σ H xs us Q I r h
 obtain⟨l,bs,rfl,hl,q⟩:=h
 obtain⟨u,rfl,ru⟩:=c5 r
 cases ru
 obtain⟨z,its,n,rv,e⟩:=I.hok l _ hl
 have isl:s.heap.IsList l its.toArray:=⟨_,e,rfl,n,rfl⟩
 refine call_all_walk (wpAny_pyIter_list isl ⟨s.heap.objs.size,[s.heap.objs.size,l],[s.heap.objs.size],its.toArray.size,_,_,fun i=>(bs[i]?).getD true,rfl,Walks.list (A:=X.A.in1) (I.ok.hd hc) _ l (Nat.ne_of_lt (Heap.lt_size e)) its.toArray,
  ⟨⟨_,Heap.get?_push_size _ rfl,rfl,rfl⟩,isl.push _⟩,fun i v s' Q' E' hP hQ=>?_,fun h' tk hk=>?_⟩)
 ·obtain⟨b,eb,rfl⟩:=oi rv i v (by simpa using hP)
  simp only[eb,Option.getD_some] at hQ
  exact wpAny_truthy_bool hQ
 ·have el:its.toArray.size=bs.length:=by
   have:=rv.length
   rw[List.length_map] at this
   rw[List.size_toArray,this]
  rw[el,LSm.range_all]
  exact⟨.bl _,H,I.kept (LSm.kept_iter hk),rfl,q⟩
theorem wn:OpR X (binaryOp .Mult) (rI IntMulOk fun i j=>.int (i * j)):=opI fun _ _ _ _ _ _ _ hc q=>mul_int q hc
end
inductive Vl where
 | im (d:Im)
 | jk
 | fz (ds:List Im)
 | lst (ds:List Im)
 | dK (kvs:List (Key×Im))
 | dT (kvs:List (List Im×Im))
 | lstM (xs:List Vl)
 | dTM (ks:List (List Im)) (xs:List Vl)
 | tpl (xs:List Vl)
 | obj (C:Addr) (ns:List Str) (xs:List Vl)
noncomputable abbrev SD:=List (Option Vl)
noncomputable abbrev PKv {κ:Type} (H:Hp):List (κ×Im)→List (κ×V)→Prop:=Paired fun p q=>p.1=q.1∧IsI H p.2 q.2
theorem PKv.mono {κ:Type}{H H':Hp}{l:List (κ×Im)}{m:List (κ×V)} (t:TupS H H') (h:PKv H l m):PKv H' l m:=Paired.mapP h fun _ _ z=>⟨z.1,z.2.mono t⟩
structure StayS (H H':Hp):Prop where
 tup:TupS H H'
 frz:∀ a o u,H a=some (.frz o u)→H' a=some (.frz o u)
mutual
noncomputable def Own (H:Hp):Vl→V→List Addr→Prop
 | .im d,v,F=>IsI H d v∧F=[]
 | .jk,_,F=>F=[]
 | .fz ds,v,F=>∃ a xs o,v=.ref a∧H a=some (.frz o (.lst xs))∧ak H ds xs∧F=[]
 | .lst ds,v,F=>∃ a xs,v=.ref a∧H a=some (.lst xs)∧ak H ds xs∧F=[a]
 | .dK kvs,v,F=>∃ a kws,v=.ref a∧H a=some (.dK kws)∧PKv H kvs kws∧F=[a]
 | .dT kvs,v,F=>∃ a kws,v=.ref a∧H a=some (.dT kws)∧PKv H kvs kws∧F=[a]
 | .lstM ds,v,F=>∃ a xs G,v=.ref a∧H a=some (.lst xs)∧aJ H ds xs G∧F=a::G
 | .dTM ks ds,v,F=>∃ a kws G,v=.ref a∧H a=some (.dT kws)∧kws.map (·.1)=ks∧aJ H ds (kws.map (·.2)) G∧F=a::G
 | .tpl ds,v,F=>∃ a xs,v=.ref a∧H a=some (.tup xs)∧aJ H ds xs F
 | .obj C ns ds,v,F=>∃ a dx fs G,v=.ref a∧H a=some (.ins C dx fs)∧fs.map (·.1)=ns∧aJ H ds (fs.map (·.2)) G∧F=a::G
noncomputable def aJ (H:Hp):List Vl→List V→List Addr→Prop
 | [],vs,F=>vs=[]∧F=[]
 | d::ds,vs,F=>∃ v r F1 F2,vs=v::r∧Own H d v F1∧aJ H ds r F2∧F=F1++F2
end
mutual
theorem Own.mono {H H':Hp} (t:StayS H H'):∀ {d:Vl}{v:V}{F:List Addr},Own H d v F→(∀ a∈F,∀ o,H a=some o→H' a=some o)→Own H' d v F
 | .im d,v,F,h,_=>⟨h.1.mono t.tup,h.2⟩
 | .jk,v,F,h,_=>h
 | .fz ds,v,F,h,_=>by
  obtain⟨a,xs,o,rfl,h1,h2,rfl⟩:=h
  exact⟨a,xs,o,rfl,t.frz _ _ _ h1,h2.mono t.tup,rfl⟩
 | .lst ds,v,F,h,k=>by
  obtain⟨a,xs,rfl,h1,h2,rfl⟩:=h
  exact⟨a,xs,rfl,k a (.head _) _ h1,h2.mono t.tup,rfl⟩
 | .dK kvs,v,F,h,k=>by
  obtain⟨a,xs,rfl,h1,h2,rfl⟩:=h
  exact⟨a,xs,rfl,k a (.head _) _ h1,h2.mono t.tup,rfl⟩
 | .dT kvs,v,F,h,k=>by
  obtain⟨a,xs,rfl,h1,h2,rfl⟩:=h
  exact⟨a,xs,rfl,k a (.head _) _ h1,h2.mono t.tup,rfl⟩
 | .lstM ds,v,F,h,k=>by
  obtain⟨a,xs,G,rfl,h1,h2,rfl⟩:=h
  exact⟨a,xs,G,rfl,k a (.head _) _ h1,aJ.mono t h2 fun b hb=>k b (.tail _ hb),rfl⟩
 | .dTM ks ds,v,F,h,k=>by
  obtain⟨a,xs,G,rfl,h1,hk,h2,rfl⟩:=h
  exact⟨a,xs,G,rfl,k a (.head _) _ h1,hk,aJ.mono t h2 fun b hb=>k b (.tail _ hb),rfl⟩
 | .tpl ds,v,F,h,k=>by
  obtain⟨a,xs,rfl,h1,h2⟩:=h
  exact⟨a,xs,rfl,t.tup a xs h1,aJ.mono t h2 k⟩
 | .obj C ns ds,v,F,h,k=>by
  obtain⟨a,dx,fs,G,rfl,h1,hk,h2,rfl⟩:=h
  exact⟨a,dx,fs,G,rfl,k a (.head _) _ h1,hk,aJ.mono t h2 fun b hb=>k b (.tail _ hb),rfl⟩
theorem aJ.mono {H H':Hp} (t:StayS H H'):∀ {ds:List Vl}{vs:List V}{F:List Addr},aJ H ds vs F→(∀ a∈F,∀ o,H a=some o→H' a=some o)→aJ H' ds vs F
 | [],vs,F,h,_=>h
 | d::ds,vs,F,h,k=>by
  obtain⟨v,r,F1,F2,rfl,h1,h2,rfl⟩:=h
  exact⟨v,r,F1,F2,rfl,Own.mono t h1 fun a ha=>k a (List.mem_append_left _ ha),aJ.mono t h2 fun a ha=>k a (List.mem_append_right _ ha),rfl⟩
end
noncomputable def Chg (H:Hp) (a:Addr):Prop:=∃ o,H a=some o∧(∀ xs,o≠.tup xs)∧∀ p u,o≠.frz p u
mutual
theorem Own.chg {H:Hp}:∀ {d:Vl}{v:V}{F:List Addr},Own H d v F→∀ a∈F,Chg H a
 | .im d,v,F,h,a,ha=>by rw[h.2] at ha;cases ha
 | .jk,v,F,h,a,ha=>by rw[show F=[] from h] at ha;cases ha
 | .fz ds,v,F,h,b,hb=>by
  obtain⟨a,xs,o,rfl,h1,h2,rfl⟩:=h
  cases hb
 | .lst ds,v,F,h,b,hb=>by
  obtain⟨a,xs,rfl,h1,h2,rfl⟩:=h
  rw[List.mem_singleton.mp hb]
  exact⟨_,h1,(fun _ e=>by cases e),(fun _ _ e=>by cases e)⟩
 | .dK kvs,v,F,h,b,hb=>by
  obtain⟨a,xs,rfl,h1,h2,rfl⟩:=h
  rw[List.mem_singleton.mp hb]
  exact⟨_,h1,(fun _ e=>by cases e),(fun _ _ e=>by cases e)⟩
 | .dT kvs,v,F,h,b,hb=>by
  obtain⟨a,xs,rfl,h1,h2,rfl⟩:=h
  rw[List.mem_singleton.mp hb]
  exact⟨_,h1,(fun _ e=>by cases e),(fun _ _ e=>by cases e)⟩
 | .lstM ds,v,F,h,b,hb=>by
  obtain⟨a,xs,G,rfl,h1,h2,rfl⟩:=h
  rcases List.mem_cons.mp hb with rfl | hb
  ·exact⟨_,h1,(fun _ e=>by cases e),(fun _ _ e=>by cases e)⟩
  ·exact aJ.chg h2 b hb
 | .dTM ks ds,v,F,h,b,hb=>by
  obtain⟨a,xs,G,rfl,h1,hk,h2,rfl⟩:=h
  rcases List.mem_cons.mp hb with rfl | hb
  ·exact⟨_,h1,(fun _ e=>by cases e),(fun _ _ e=>by cases e)⟩
  ·exact aJ.chg h2 b hb
 | .tpl ds,v,F,h,b,hb=>by
  obtain⟨a,xs,rfl,h1,h2⟩:=h
  exact aJ.chg h2 b hb
 | .obj C ns ds,v,F,h,b,hb=>by
  obtain⟨a,dx,fs,G,rfl,h1,hk,h2,rfl⟩:=h
  rcases List.mem_cons.mp hb with rfl | hb
  ·exact⟨_,h1,(fun _ e=>by cases e),(fun _ _ e=>by cases e)⟩
  ·exact aJ.chg h2 b hb
theorem aJ.chg {H:Hp}:∀ {ds:List Vl}{vs:List V}{F:List Addr},aJ H ds vs F→∀ a∈F,Chg H a
 | [],vs,F,h,a,ha=>by rw[h.2] at ha;cases ha
 | d::ds,vs,F,h,a,ha=>by
  obtain⟨v,r,F1,F2,rfl,h1,h2,rfl⟩:=h
  rcases List.mem_append.mp ha with ha | ha
  ·exact Own.chg h1 a ha
  ·exact aJ.chg h2 a ha
end
theorem aJ.length {H:Hp}:∀ {ds:List Vl}{vs:List V}{F:List Addr},aJ H ds vs F→ds.length=vs.length
 | [],vs,F,h=>by rw[h.1];rfl
 | d::ds,vs,F,h=>by
  obtain⟨v,r,F1,F2,rfl,h1,h2,rfl⟩:=h
  rw[List.length_cons,List.length_cons,h2.length]
theorem ak.length {H:Hp}:∀ {ds:List Im}{vs:List V},ak H ds vs→ds.length=vs.length
 | [],vs,h=>by rw[show vs=[] from h];rfl
 | d::ds,vs,h=>by
  obtain⟨v,r,rfl,h1,h2⟩:=h
  rw[List.length_cons,List.length_cons,h2.length]
noncomputable def ej (H:Hp):Option Vl→Option V→List Addr→Prop
 | none,_,F=>F=[]
 | some d,x,F=>∃ v,x=some v∧Own H d v F
noncomputable def ai (H:Hp):SD→St→List Addr→Prop
 | [],σ,F=>σ=[]∧F=[]
 | o::D,σ,F=>∃ x r F1 F2,σ=x::r∧ej H o x F1∧ai H D r F2∧F=F1++F2
structure Stp (H:Hp) (F:List Addr) (H':Hp) (F':List Addr):Prop where
 keep:∀ a o,H a=some o→a∉F→H' a=some o
 sub:∀ a∈F',a∈F∨H a=none
 nd:F'.Nodup
 tup:StayS H H'
 grow:∀ a o,H a=some o→∃ o',H' a=some o'
theorem ej.mono {H H':Hp} (t:StayS H H'):∀ {o:Option Vl}{x:Option V}{F:List Addr},ej H o x F→(∀ a∈F,∀ o,H a=some o→H' a=some o)→ej H' o x F
 | none,_,_,h,_=>h
 | some d,x,F,h,k=>by
  obtain⟨v,rfl,h⟩:=h
  exact⟨v,rfl,h.mono t k⟩
theorem ai.mono {H H':Hp} (t:StayS H H'):∀ {D:SD}{σ:St}{F:List Addr},ai H D σ F→(∀ a∈F,∀ o,H a=some o→H' a=some o)→ai H' D σ F
 | [],σ,F,h,_=>h
 | o::D,σ,F,h,k=>by
  obtain⟨x,r,F1,F2,rfl,h1,h2,rfl⟩:=h
  exact⟨x,r,F1,F2,rfl,h1.mono t fun a ha=>k a (List.mem_append_left _ ha),ai.mono t h2 fun a ha=>k a (List.mem_append_right _ ha),rfl⟩
theorem ej.chg {H:Hp}:∀ {o:Option Vl}{x:Option V}{F:List Addr},ej H o x F→∀ a∈F,Chg H a
 | none,_,F,h,a,ha=>by rw[show F=[] from h] at ha;cases ha
 | some d,x,F,h,a,ha=>by
  obtain⟨v,rfl,h⟩:=h
  exact h.chg a ha
theorem ai.chg {H:Hp}:∀ {D:SD}{σ:St}{F:List Addr},ai H D σ F→∀ a∈F,Chg H a
 | [],σ,F,h,a,ha=>by rw[h.2] at ha;cases ha
 | o::D,σ,F,h,a,ha=>by
  obtain⟨x,r,F1,F2,rfl,h1,h2,rfl⟩:=h
  rcases List.mem_append.mp ha with ha | ha
  ·exact h1.chg a ha
  ·exact ai.chg h2 a ha
theorem ai.len {H:Hp}:∀ {D:SD}{σ:St}{F:List Addr},ai H D σ F→D.length=σ.length
 | [],σ,F,h=>by rw[h.1];rfl
 | o::D,σ,F,h=>by
  obtain⟨x,r,F1,F2,rfl,h1,h2,rfl⟩:=h
  rw[List.length_cons,List.length_cons,ai.len h2]
noncomputable def Vl.cp:Vl→Bool
 | .im _=>true
 | .fz _=>true
 | _=>false
theorem Own.cp {H:Hp}{d:Vl}{v:V}{F:List Addr} (h:Own H d v F) (c:d.cp=true):F=[]:=by
 cases d with
 | im d=>exact h.2
 | fz ds=>obtain⟨a,xs,o,rfl,h1,h2,rfl⟩:=h;rfl
 | _=>cases c
theorem ai.out {H:Hp}:∀ {D:SD}{σ:St}{F:List Addr}{i:Nat}{d:Vl},ai H D σ F→D[i]?=some (some d)→∃ v F1 F2,σ[i]?=some (some v)∧Own H d v F1∧ai H (D.set i (some .jk)) σ F2∧(F2++F1).Perm F
 | [],σ,F,i,d,h,e=>by simp at e
 | o::D,σ,F,0,d,h,e=>by
  obtain⟨x,r,F1,F2,rfl,h1,h2,rfl⟩:=h
  simp at e
  subst e
  obtain⟨v,rfl,h1⟩:=h1
  exact⟨v,F1,F2,rfl,h1,⟨some v,r,[],F2,rfl,⟨v,rfl,rfl⟩,h2,rfl⟩,List.perm_append_comm⟩
 | o::D,σ,F,i+1,d,h,e=>by
  obtain⟨x,r,F1,F2,rfl,h1,h2,rfl⟩:=h
  obtain⟨v,G1,G2,g1,g2,g3,g4⟩:=ai.out (i:=i) h2 (by simpa using e)
  refine⟨v,G1,F1++G2,by simpa using g1,g2,⟨x,r,F1,G2,rfl,h1,g3,rfl⟩,?_⟩
  rw[List.append_assoc]
  exact List.Perm.append_left _ g4
theorem ai.put {H:Hp}:∀ {D:SD}{σ:St}{F:List Addr}{i:Nat}{d:Vl}{v:V}{G:List Addr},ai H D σ F→Own H d v G→i<D.length→∃ F1 F2,ai H (D.set i (some d)) (σ.set i (some v)) F1∧(F1++F2).Perm (F++G)
 | [],σ,F,i,d,v,G,h,w,l=>by simp at l
 | o::D,σ,F,0,d,v,G,h,w,l=>by
  obtain⟨x,r,F1,F2,rfl,h1,h2,rfl⟩:=h
  refine⟨G++F2,F1,⟨some v,r,G,F2,rfl,⟨v,rfl,w⟩,h2,rfl⟩,?_⟩
  refine List.perm_append_comm.trans ?_
  rw[List.append_assoc]
  exact List.Perm.append_left _ List.perm_append_comm
 | o::D,σ,F,i+1,d,v,G,h,w,l=>by
  obtain⟨x,r,F1,F2,rfl,h1,h2,rfl⟩:=h
  obtain⟨G1,G2,g1,g2⟩:=ai.put (i:=i) h2 w (by simpa using l)
  refine⟨F1++G1,G2,⟨x,_,F1,G1,rfl,h1,g1,rfl⟩,?_⟩
  rw[List.append_assoc,List.append_assoc]
  exact List.Perm.append_left _ g2
theorem ai.cp {H:Hp}{D:SD}{σ:St}{F:List Addr}{i:Nat}{d:Vl} (h:ai H D σ F) (e:D[i]?=some (some d)) (c:d.cp=true):∃ v,σ[i]?=some (some v)∧Own H d v []:=by
 obtain⟨v,F1,F2,g1,g2,_⟩:=h.out e
 obtain rfl:=g2.cp c
 exact⟨v,g1,g2⟩
theorem wo {σ:St}{i:Nat}{v:V} (h:σ[i]?=some (some v)):σ.set i (some v)=σ:=by
 refine List.ext_getElem? fun j=>?_
 by_cases e:i=j
 ·subst e
  rw[h,List.getElem?_set_self (List.getElem?_eq_some_iff.mp h).1]
 ·rw[List.getElem?_set_ne e]
theorem ai.back {H:Hp}{D:SD}{σ:St}{F:List Addr}{i:Nat}{d:Vl}{v:V}{G:List Addr} (h:ai H D σ F) (w:Own H d v G) (hv:σ[i]?=some (some v)):∃ F1 F2,ai H (D.set i (some d)) σ F1∧(F1++F2).Perm (F++G):=by
 have l:i<D.length:=by rw[h.len];exact (List.getElem?_eq_some_iff.mp hv).1
 obtain⟨F1,F2,h1,h2⟩:=h.put (i:=i) w l
 rw[wo hv] at h1
 exact⟨F1,F2,h1,h2⟩
theorem StayS.of {H H':Hp} (f:hX H H') (g:∀ a o u,H a=some (.frz o u)→H' a=some (.frz o u)):StayS H H':=⟨⟨f,g⟩,g⟩
theorem kR (H:Hp):StayS H H:=⟨⟨fun _ _ e=>e,fun _ _ _ e=>e⟩,fun _ _ _ e=>e⟩
theorem StayS.trans {H H1 H2:Hp} (a:StayS H H1) (b:StayS H1 H2):StayS H H2:=⟨⟨fun x xs e=>b.tup.t x xs (a.tup.t x xs e),fun x o u e=>b.frz x o u (a.frz x o u e)⟩,fun x o u e=>b.frz x o u (a.frz x o u e)⟩
theorem Stp.refl {H:Hp}{F F':List Addr} (h:F'.Nodup) (s:∀ a∈F',a∈F):Stp H F H F':=⟨fun _ _ e _=>e,fun a ha=>.inl (s a ha),h,kR H,fun _ o e=>⟨o,e⟩⟩
theorem Stp.perm {H:Hp}{F F':List Addr} (h:F.Nodup) (p:F'.Perm F):Stp H F H F':=Stp.refl ((p.nodup_iff).mpr h) fun a ha=>p.mem_iff.mp ha
theorem Stp.trans {H H1 H2:Hp}{F F1 F2 R:List Addr} (a:Stp H F H1 (F1++R)) (b:Stp H1 F1 H2 F2) (cr:∀ x∈R,Chg H1 x):Stp H F H2 (F2++R):=by
 have nd:=List.nodup_append.mp a.nd
 have al:∀ x∈F2,x∉R:=fun x hx hr=>by
  rcases b.sub x hx with h | h
  ·exact nd.2.2 x h x hr rfl
  ·obtain⟨o,e,_⟩:=cr x hr
   rw[e] at h
   cases h
 refine⟨fun x o e hx=>?_,fun x hx=>?_,List.nodup_append.mpr ⟨b.nd,nd.2.1,fun x hx y hy e=>al x hx (e ▸ hy)⟩,a.tup.trans b.tup,fun x o e=>let ⟨o',e'⟩:=a.grow x o e;b.grow x o' e'⟩
 ·refine b.keep x o (a.keep x o e hx) fun h1=>?_
  rcases a.sub x (List.mem_append_left _ h1) with h | h
  ·exact hx h
  ·rw[e] at h;cases h
 ·rcases List.mem_append.mp hx with hx | hx
  ·rcases b.sub x hx with h | h
   ·exact a.sub x (List.mem_append_left _ h)
   ·refine .inr ?_
    cases e:H x with
    | none=>rfl
    | some o=>
     obtain⟨o',e'⟩:=a.grow x o e
     rw[e'] at h
     cases h
  ·exact a.sub x (List.mem_append_right _ hx)
theorem ap.tupS {H H':Hp} (s:ap H H'):StayS H H':=⟨⟨fun a xs e=>s a _ e,fun a o u e=>s a _ e⟩,fun a o u e=>s a _ e⟩
theorem wq {H:Hp}{a b:Addr}{o u:HO} (e:H b=some o) (h:H a=none):L2.upd H a u b=some o:=by rw[aI (bS e h)];exact e
theorem ap.upd {H H':Hp} (s:ap H H') {a:Addr}{o:HO} (h:H' a=none):ap H (L2.upd H' a o):=fun b u e=>wq (s b u e) h
noncomputable abbrev M (α:Type):=SD→Option (α×SD)
inductive Opd where
 | sl (i:Nat)
 | vl (d:Vl)
noncomputable def rsl (D:SD):Opd→Option Vl
 | .sl i=>(D[i]?).getD none
 | .vl d=>some d
noncomputable def cG (H:Hp) (σ:St):Opd→V→List Addr→Prop
 | .sl i,v,R=>σ[i]?=some (some v)∧R=[]
 | .vl d,v,R=>Own H d v R
noncomputable def tV (g:M Vl):TE:=fun σ H Q=>∃ D F r D',ai H D σ F∧F.Nodup∧g D=some (r,D')∧∀ v H' F' R,ai H' D' σ F'→Own H' r v R→Stp H F H' (F'++R)→Q v H'
noncomputable def tO (g:M Opd):TE:=fun σ H Q=>∃ D F r D',ai H D σ F∧F.Nodup∧g D=some (r,D')∧∀ v H' F' R,ai H' D' σ F'→cG H' σ r v R→Stp H F H' (F'++R)→Q v H'
noncomputable def tVT (g:M Bool):TT:=fun σ H Q=>∃ D F b D',ai H D σ F∧F.Nodup∧g D=some (b,D')∧∀ H' F',ai H' D' σ F'→Stp H F H' F'→Q b H'
noncomputable def VE (X:Cx) (e:Expr) (g:M Vl):Prop:=PE X e (tV g)
noncomputable def VO (X:Cx) (e:Expr) (g:M Opd):Prop:=PE X e (tO g)
noncomputable def VT (X:Cx) (e:Expr) (g:M Bool):Prop:=PT X e (tVT g)
theorem a5 {X:Cx}{e:Expr}{t t':TE} (h:PE X e t) (i:∀ σ H Q,t' σ H Q→t σ H Q):PE X e t':=fun pins s σ H Q I hw=>h pins s σ H Q I (i σ H Q hw)
theorem kS {X:Cx}{e:Expr}{t t':TT} (h:PT X e t) (i:∀ σ H Q,t' σ H Q→t σ H Q):PT X e t':=fun pins s σ H Q I hw=>h pins s σ H Q I (i σ H Q hw)
theorem cG.mono {H H':Hp}{σ:St}{r:Opd}{v:V}{R:List Addr} (h:cG H σ r v R) (t:StayS H H') (k:∀ a∈R,∀ o,H a=some o→H' a=some o):cG H' σ r v R:=by
 cases r with
 | sl i=>exact h
 | vl d=>exact Own.mono t h k
theorem cG.chg {H:Hp}{σ:St}{r:Opd}{v:V}{R:List Addr} (h:cG H σ r v R):∀ a∈R,Chg H a:=by
 cases r with
 | sl i=>intro a ha;rw[h.2] at ha;cases ha
 | vl d=>exact Own.chg h
noncomputable def Rdb (H:Hp) (d:Vl) (v:V):Prop:=∃ R,Own H d v R
theorem cG.read {H:Hp}{D:SD}{σ:St}{F:List Addr}{r:Opd}{v:V}{R:List Addr}{d:Vl} (h:cG H σ r v R) (st:ai H D σ F) (e:rsl D r=some d):Rdb H d v:=by
 cases r with
 | vl d'=>cases e;exact⟨R,h⟩
 | sl i=>
  have e':D[i]?=some (some d):=by
   have:(D[i]?).getD none=some d:=e
   cases q:D[i]? with
   | none=>rw[q] at this;cases this
   | some o=>rw[q] at this;rw[show o=some d from this]
  obtain⟨v',F1,F2,g1,g2,_⟩:=st.out e'
  rw[h.1] at g1
  cases g1
  exact⟨F1,g2⟩
@[simp] noncomputable def cu (i:Nat):M Vl:=fun D=>match D[i]? with
 | some (some d)=>if d.cp=true then some (d,D) else some (d,D.set i (some .jk))
 | _=>none
noncomputable def eC (d:Im):M Vl:=fun D=>some (.im d,D)
@[simp] noncomputable def oSl (i:Nat):M Opd:=fun D=>match D[i]? with
 | some (some _)=>some (.sl i,D)
 | _=>none
@[simp] noncomputable def oV (g:M Vl):M Opd:=fun D=>(g D).map fun p=>(.vl p.1,p.2)
section
variable {X:Cx}
theorem il {i:Nat}{e:Expr} (h:PE X e (fy i)):VE X e (cu i):=by
 refine a5 h fun σ H Q ⟨D,F,r,D',st,nd,hg,q⟩=>?_
 unfold cu at hg
 split at hg
 ·rename_i d hd
  split at hg
  ·rename_i hc
   cases hg
   obtain⟨v,h1,h2⟩:=st.cp hd hc
   exact⟨v,h1,q v H F [] st h2 (by rw[List.append_nil];exact Stp.perm nd (List.Perm.refl _))⟩
  ·cases hg
   obtain⟨v,F1,F2,h1,h2,h3,h4⟩:=st.out hd
   exact⟨v,h1,q v H F2 F1 h3 h2 (Stp.perm nd h4)⟩
 ·cases hg
theorem ad {i:Nat}{e:Expr} (h:PE X e (fy i)):VO X e (oSl i):=by
 refine a5 h fun σ H Q ⟨D,F,r,D',st,nd,hg,q⟩=>?_
 unfold oSl at hg
 split at hg
 ·rename_i d hd
  cases hg
  obtain⟨v,F1,F2,h1,h2,h3,h4⟩:=st.out hd
  exact⟨v,h1,q v H F [] st ⟨h1,rfl⟩ (by rw[List.append_nil];exact Stp.perm nd (List.Perm.refl _))⟩
 ·cases hg
theorem ab {e:Expr}{g:M Vl} (h:VE X e g):VO X e (oV g):=by
 refine a5 h fun σ H Q ⟨D,F,r,D',st,nd,hg,q⟩=>?_
 unfold oV at hg
 obtain⟨⟨r',D1⟩,h1,h2⟩:=Option.map_eq_some_iff.mp hg
 cases h2
 exact⟨D,F,r',_,st,nd,h1,q⟩
theorem ji {e:Expr}{v:V}{d:Im} (h:PE X e (tC v)) (hd:∀ H,IsI H d v):VE X e (eC d):=by
 refine a5 h fun σ H Q ⟨D,F,r,D',st,nd,hg,q⟩=>?_
 cases hg
 exact q v H F [] st ⟨hd H,rfl⟩ (by rw[List.append_nil];exact Stp.perm nd (List.Perm.refl _))
theorem ah {i:Int}{j pos}:VE X (.Constant (.int i) j pos) (eC (.int i)):=ji sD fun _=>rfl
theorem cH {b:Bool}{j pos}:VE X (.Constant (.bool b) j pos) (eC (.bl b)):=ji sE fun _=>rfl
theorem gw {j pos}:VE X (.Constant .none j pos) (eC .non):=ji sF fun _=>rfl
theorem two {ga gb:M Opd}{D D1 D2:SD}{x y:Opd}{σ:St}{H:Hp}{F:List Addr}{K:V→V→Hp→Prop} (st:ai H D σ F) (nd:F.Nodup) (ha:ga D=some (x,D1)) (hb:gb D1=some (y,D2))
  (k:∀ v u H' F' R1 R2,ai H' D2 σ F'→cG H' σ x v R1→cG H' σ y u R2→Stp H F H' ((F'++R2)++R1)→K v u H'):tO ga σ H fun v H1=>tO gb σ H1 fun u H2=>K v u H2:=by
 refine⟨D,F,x,D1,st,nd,ha,fun v H1 F1 R1 st1 o1 s1=>⟨D1,F1,y,D2,st1,(List.nodup_append.mp s1.nd).1,hb,fun u H2 F2 R2 st2 o2 s2=>?_⟩⟩
 refine k v u H2 F2 R1 R2 st2 (o1.mono s2.tup fun a ha o e=>s2.keep a o e fun h=>?_) o2 (s1.trans s2 o1.chg)
 exact (List.nodup_append.mp s1.nd).2.2 a h a ha rfl
theorem Stp.new {H H1 H2:Hp}{F F1 R R':List Addr} (a:Stp H F H1 (F1++R)) (s:ap H1 H2) (nd:R'.Nodup) (fr:∀ x∈R',H1 x=none) (c:∀ x∈F1,Chg H1 x):Stp H F H2 (F1++R'):=by
 refine⟨fun x o e hx=>s _ _ (a.keep x o e hx),fun x hx=>?_,List.nodup_append.mpr ⟨(List.nodup_append.mp a.nd).1,nd,fun x hx y hy e=>?_⟩,a.tup.trans s.tupS,fun x o e=>let ⟨o',e'⟩:=a.grow x o e;⟨o',s _ _ e'⟩⟩
 ·rcases List.mem_append.mp hx with hx | hx
  ·exact a.sub x (List.mem_append_left _ hx)
  ·refine .inr ?_
   cases e:H x with
   | none=>rfl
   | some o=>
    obtain⟨o',e'⟩:=a.grow x o e
    rw[fr x hx] at e'
    cases e'
 ·subst e
  obtain⟨o,e,_⟩:=c x hx
  rw[fr x hy] at e
  cases e
noncomputable def OpV (X:Cx) (f:Value→Value→Sem Value) (op:Vl→Vl→Option Vl):Prop:=
 OpR X f fun x y H Q=>∃ d1 d2 d,Rdb H d1 x∧Rdb H d2 y∧op d1 d2=some d∧∀ v H' R,ap H H'→Own H' d v R→R.Nodup→(∀ a∈R,H a=none)→Q v H'
@[simp] noncomputable def af (op:Vl→Vl→Option Vl) (ga gb:M Opd):M Vl:=fun D=>(ga D).bind fun p=>(gb p.2).bind fun q=>(rsl q.2 p.1).bind fun d1=>(rsl q.2 q.1).bind fun d2=>(op d1 d2).map fun d=>(d,q.2)
theorem jj {op:Vl→Vl→Option Vl}{ga gb:M Opd}{σ:St}{H:Hp}{Q:VK} (h:tV (af op ga gb) σ H Q):
  tO ga σ H fun x H1=>tO gb σ H1 fun y H2=>∃ d1 d2 d,Rdb H2 d1 x∧Rdb H2 d2 y∧op d1 d2=some d∧∀ v H' R,ap H2 H'→Own H' d v R→R.Nodup→(∀ a∈R,H2 a=none)→Q v H':=by
 obtain⟨D,F,r,D',st,nd,hg,q⟩:=h
 unfold af at hg
 obtain⟨⟨x,D1⟩,ha,hg⟩:=Option.bind_eq_some_iff.mp hg
 obtain⟨⟨y,D2⟩,hb,hg⟩:=Option.bind_eq_some_iff.mp hg
 obtain⟨d1,h1,hg⟩:=Option.bind_eq_some_iff.mp hg
 obtain⟨d2,h2,hg⟩:=Option.bind_eq_some_iff.mp hg
 obtain⟨d,h3,hg⟩:=Option.map_eq_some_iff.mp hg
 cases hg
 refine two st nd ha hb fun v u H2 F2 R1 R2 st2 o1 o2 s2=>⟨d1,d2,_,o1.read st2 h1,o2.read st2 h2,h3,fun w H3 R s3 ow ndR fr=>?_⟩
 rw[List.append_assoc] at s2
 exact q w H3 F2 R (st2.mono s3.tupS fun a _ o e=>s3 a o e) ow (s2.new s3 ndR fr st2.chg)
theorem aq {op:Operator}{f:Vl→Vl→Option Vl}{a b:Expr}{ga gb:M Opd}{pos:Pos} (ho:OpV X (binaryOp op) f) (ha:VO X a ga) (hb:VO X b gb):VE X (.BinOp a op b pos) (af f ga gb):=
 a5 (t3 ho ha hb) fun _ _ _ h=>jj h
theorem cJ {op:CmpOp}{f:Vl→Vl→Option Vl}{a b:Expr}{ga gb:M Opd}{pos:Pos} (ho:OpV X (compareOp op) f) (ha:VO X a ga) (hb:VO X b gb) (hm:behindInMarks op b=false):VE X (.Compare a [op] [b] pos) (af f ga gb):=
 a5 (ul ho ha hb hm) fun _ _ _ h=>jj h
theorem bV {f:Vl→Vl→Option Vl}{a b:Expr}{ga gb:M Opd}{pos:Pos} (ho:IxR X (fun x y H Q=>∃ d1 d2 d,Rdb H d1 x∧Rdb H d2 y∧f d1 d2=some d∧∀ v H' R,ap H H'→Own H' d v R→R.Nodup→(∀ a∈R,H a=none)→Q v H')) (ha:VO X a ga) (hb:VO X b gb) (hs:nv b):VE X (.Subscript a b pos) (af f ga gb):=
 a5 (uW ho ha hb hs) fun _ _ _ h=>jj h
@[simp] noncomputable def asB:Vl→Option Bool
 | .im (.bl b)=>some b
 | _=>none
@[simp] noncomputable def kB (g:M Vl):M Bool:=fun D=>(g D).bind fun p=>(asB p.1).map fun b=>(b,p.2)
theorem oj {d:Vl}{b:Bool} (h:asB d=some b):d=.im (.bl b):=by
 unfold asB at h
 split at h
 ·cases h;rfl
 ·cases h
theorem bM {op:CmpOp}{f:Vl→Vl→Option Vl}{a b:Expr}{ga gb:M Opd}{pos:Pos} (ho:OpV X (compareOp op) f) (ha:VO X a ga) (hb:VO X b gb) (hm:behindInMarks op b=false):VT X (.Compare a [op] [b] pos) (kB (af f ga gb)):=by
 refine kS (uo ho ha hb hm) fun σ H Q ⟨D,F,c,D',st,nd,hg,q⟩=>?_
 refine jj ⟨D,F,.im (.bl c),D',st,nd,?_,fun v H' F' R st' ow s=>⟨c,ow.1,q H' F' st' (by rw[ow.2,List.append_nil] at s;exact s)⟩⟩
 obtain⟨p,h1,h2⟩:=Option.bind_eq_some_iff.mp hg
 obtain⟨c',h3,h4⟩:=Option.map_eq_some_iff.mp h2
 cases h4
 rw[h1,← oj h3]
@[simp] noncomputable def ca (g:M Bool):M Bool:=fun D=>(g D).map fun p=>(!p.1,p.2)
theorem dO {a:Expr}{g:M Bool}{pos:Pos} (h:VT X a g):VT X (.UnaryOp .Not a pos) (ca g):=by
 refine kS (sN h) fun σ H Q ⟨D,F,c,D',st,nd,hg,q⟩=>?_
 obtain⟨p,h1,h2⟩:=Option.map_eq_some_iff.mp hg
 cases h2
 exact⟨D,F,p.1,_,st,nd,h1,q⟩
@[simp] noncomputable def c9 (g h:M Bool):M Bool:=fun D=>(g D).bind fun p=>if p.1=true then h p.2 else some (false,p.2)
@[simp] noncomputable def kOr (g h:M Bool):M Bool:=fun D=>(g D).bind fun p=>if p.1=true then some (true,p.2) else h p.2
theorem om {g h:M Bool}{σ:St}{H:Hp}{Q:Bool→Hp→Prop} (w:tVT (c9 g h) σ H Q):mP (tVT g) (tVT h) σ H Q:=by
 obtain⟨D,F,c,D',st,nd,hg,q⟩:=w
 obtain⟨⟨b,D1⟩,h1,h2⟩:=Option.bind_eq_some_iff.mp hg
 refine⟨D,F,b,D1,st,nd,h1,fun H1 F1 st1 s1=>?_⟩
 cases b with
 | true=>
  rw[if_pos rfl]
  rw[if_pos rfl] at h2
  exact⟨D1,F1,c,D',st1,s1.nd,h2,fun H2 F2 st2 s2=>q H2 F2 st2 (by
   have:=Stp.trans (R:=[]) (by rw[List.append_nil];exact s1) s2 (fun x hx=>nomatch hx)
   rwa [List.append_nil] at this)⟩
 | false=>
  rw[if_neg Bool.false_ne_true] at h2 ⊢
  cases h2
  exact q H1 F1 st1 s1
theorem oo {g h:M Bool}{σ:St}{H:Hp}{Q:Bool→Hp→Prop} (w:tVT (kOr g h) σ H Q):tOr (tVT g) (tVT h) σ H Q:=by
 obtain⟨D,F,c,D',st,nd,hg,q⟩:=w
 obtain⟨⟨b,D1⟩,h1,h2⟩:=Option.bind_eq_some_iff.mp hg
 refine⟨D,F,b,D1,st,nd,h1,fun H1 F1 st1 s1=>?_⟩
 cases b with
 | false=>
  rw[if_neg Bool.false_ne_true] at h2 ⊢
  exact⟨D1,F1,c,D',st1,s1.nd,h2,fun H2 F2 st2 s2=>q H2 F2 st2 (by
   have:=Stp.trans (R:=[]) (by rw[List.append_nil];exact s1) s2 (fun x hx=>nomatch hx)
   rwa [List.append_nil] at this)⟩
 | true=>
  rw[if_pos rfl] at h2 ⊢
  cases h2
  exact q H1 F1 st1 s1
noncomputable def VW (X:Cx) (e:Expr) (g:M Bool):Prop:=PW X e (tVT g)
theorem oq {e:Expr}{t t':TT} (h:PW X e t) (i:∀ σ H Q,t' σ H Q→t σ H Q):PW X e t':=fun wh pins s σ H Q I hw=>h wh pins s σ H Q I (i σ H Q hw)
theorem kT {a:Expr}{g:M Bool}{pos:Pos} (h:VT X a g):VW X (.BoolOp .And [a] pos) g:=sJ h
theorem io {a:Expr}{g:M Bool}{pos:Pos} (h:VT X a g):VW X (.BoolOp .Or [a] pos) g:=sK h
theorem kU {a b:Expr}{r:List Expr}{g k:M Bool}{pos:Pos} (h:VT X a g) (hb:VW X (.BoolOp .And (b::r) pos) k):VW X (.BoolOp .And (a::b::r) pos) (c9 g k):=oq (sL h hb) fun _ _ _ w=>om w
theorem em {a b:Expr}{r:List Expr}{g k:M Bool}{pos:Pos} (h:VT X a g) (hb:VW X (.BoolOp .Or (b::r) pos) k):VW X (.BoolOp .Or (a::b::r) pos) (kOr g k):=oq (sM h hb) fun _ _ _ w=>oo w
theorem VW.vt {e:Expr}{g:M Bool} (h:VW X e g):VT X e g:=h.pt
@[simp] noncomputable def eB (g:M Bool):M Vl:=fun D=>(g D).map fun p=>(.im (.bl p.1),p.2)
theorem ip {e:Expr}{g:M Bool} (h:VE X e (eB g)):PE X e fun σ H Q=>tVT g σ H fun b H'=>Q (.bl b) H':=by
 refine a5 h fun σ H Q ⟨D,F,c,D',st,nd,hg,q⟩=>⟨D,F,.im (.bl c),D',st,nd,by unfold eB;rw[hg];rfl,fun v H' F' R st' ow s=>?_⟩
 rw[show v=.bl c from ow.1]
 exact q H' F' st' (by rw[ow.2,List.append_nil] at s;exact s)
theorem kW {e:Expr}{g:M Bool} (h:PE X e fun σ H Q=>tVT g σ H fun b H'=>Q (.bl b) H'):VE X e (eB g):=by
 refine a5 h fun σ H Q ⟨D,F,r,D',st,nd,hg,q⟩=>?_
 obtain⟨p,h1,h2⟩:=Option.map_eq_some_iff.mp hg
 cases h2
 exact⟨D,F,p.1,_,st,nd,h1,fun H' F' st' s=>q _ H' F' [] st' ⟨rfl,rfl⟩ (by rw[List.append_nil];exact s)⟩
theorem cv {e:Expr}{g:M Vl} (h:VE X e g):VE X e (eB (kB g)):=by
 refine a5 h fun σ H Q ⟨D,F,r,D',st,nd,hg,q⟩=>?_
 obtain⟨p,h1,h2⟩:=Option.map_eq_some_iff.mp hg
 obtain⟨p',h3,h4⟩:=Option.bind_eq_some_iff.mp h1
 obtain⟨c,h5,h6⟩:=Option.map_eq_some_iff.mp h4
 cases h6
 cases h2
 exact⟨D,F,p'.1,_,st,nd,h3,by rw[oj h5];exact q⟩
theorem wt {a:Expr}{g:M Bool}{pos:Pos} (h:VE X a (eB g)):VE X (.UnaryOp .Not a pos) (eB (ca g)):=by
 refine kW (a5 (sU (ip h)) fun σ H Q ⟨D,F,c,D',st,nd,hg,q⟩=>?_)
 obtain⟨p,h1,h2⟩:=Option.map_eq_some_iff.mp hg
 cases h2
 exact⟨D,F,p.1,_,st,nd,h1,fun H' F' st' s=>⟨_,rfl,q H' F' st' s⟩⟩
theorem gx {a:Expr}{op}{g:M Vl}{pos:Pos} (h:VE X a g):VE X (.BoolOp op [a] pos) g:=sR h
theorem iq {a b:Expr}{r:List Expr}{g k:M Bool}{pos:Pos} (h:VE X a (eB g)) (hb:VE X (.BoolOp .And (b::r) pos) (eB k)):VE X (.BoolOp .And (a::b::r) pos) (eB (c9 g k)):=by
 refine kW (a5 (sS (ip h) (ip hb)) fun σ H Q w=>?_)
 have:=om w
 obtain⟨D,F,c,D',st,nd,hg,q⟩:=this
 exact⟨D,F,c,D',st,nd,hg,fun H' F' st' s=>⟨c,rfl,q H' F' st' s⟩⟩
theorem wu {a b:Expr}{r:List Expr}{g k:M Bool}{pos:Pos} (h:VE X a (eB g)) (hb:VE X (.BoolOp .Or (b::r) pos) (eB k)):VE X (.BoolOp .Or (a::b::r) pos) (eB (kOr g k)):=by
 refine kW (a5 (sT (ip h) (ip hb)) fun σ H Q w=>?_)
 have:=oo w
 obtain⟨D,F,c,D',st,nd,hg,q⟩:=this
 exact⟨D,F,c,D',st,nd,hg,fun H' F' st' s=>⟨c,rfl,q H' F' st' s⟩⟩
theorem Stp.seq {H H1 H2:Hp}{F F1 F2:List Addr} (a:Stp H F H1 F1) (b:Stp H1 F1 H2 F2):Stp H F H2 F2:=by
 have:=Stp.trans (R:=[]) (by rw[List.append_nil];exact a) b (fun x hx=>nomatch hx)
 rwa [List.append_nil] at this
end
noncomputable def dr (H:Hp) (σ:St):List Opd→List V→List Addr→Prop
 | [],vs,R=>vs=[]∧R=[]
 | o::os,vs,R=>∃ v r R1 R2,vs=v::r∧cG H σ o v R1∧dr H σ os r R2∧R=R1++R2
noncomputable def tA (g:M (List Opd)):TA:=fun σ H Q=>∃ D F r D',ai H D σ F∧F.Nodup∧g D=some (r,D')∧∀ vs H' F' R,ai H' D' σ F'→dr H' σ r vs R→Stp H F H' (F'++R)→Q vs H'
noncomputable def VA (X:Cx) (es:List Expr) (g:M (List Opd)):Prop:=PA X es (tA g)
theorem ot {X:Cx}{es:List Expr}{t t':TA} (h:PA X es t) (i:∀ σ H Q,t' σ H Q→t σ H Q):PA X es t':=fun pos pins s σ H Q I hw=>h pos pins s σ H Q I (i σ H Q hw)
noncomputable def aNil:M (List Opd):=fun D=>some ([],D)
@[simp] noncomputable def aa (g:M Opd) (h:M (List Opd)):M (List Opd):=fun D=>(g D).bind fun p=>(h p.2).map fun q=>(p.1::q.1,q.2)
theorem Stp.permR {H H':Hp}{F A B:List Addr} (s:Stp H F H' A) (p:A.Perm B):Stp H F H' B:=⟨s.keep,fun a ha=>s.sub a (p.mem_iff.mpr ha),(p.nodup_iff).mp s.nd,s.tup,s.grow⟩
theorem Stp.less {H H':Hp}{F A B C:List Addr} (s:Stp H F H' A) (p:(B++C).Perm A):Stp H F H' B:=
 ⟨s.keep,fun a ha=>s.sub a (p.mem_iff.mp (List.mem_append_left _ ha)),(List.nodup_append.mp ((p.nodup_iff).mpr s.nd)).1,s.tup,s.grow⟩
section
variable {X:Cx}
theorem ag:VA X [] aNil:=by
 refine ot mX fun σ H Q ⟨D,F,r,D',st,nd,hg,q⟩=>?_
 cases hg
 exact q [] H F [] st ⟨rfl,rfl⟩ (by rw[List.append_nil];exact Stp.perm nd (List.Perm.refl _))
theorem ae {e:Expr}{es:List Expr}{g:M Opd}{h:M (List Opd)} (he:VO X e g) (hr:VA X es h) (hs:starEach (e::es) X.env=(false,eval e X.env)::starEach es X.env:=by rfl):VA X (e::es) (aa g h):=by
 refine ot (kw he hr hs) fun σ H Q ⟨D,F,r,D',st,nd,hg,q⟩=>?_
 obtain⟨⟨x,D1⟩,h1,h2⟩:=Option.bind_eq_some_iff.mp hg
 obtain⟨⟨ys,D2⟩,h3,h4⟩:=Option.map_eq_some_iff.mp h2
 cases h4
 refine⟨D,F,x,D1,st,nd,h1,fun v H1 F1 R1 st1 o1 s1=>⟨D1,F1,ys,_,st1,(List.nodup_append.mp s1.nd).1,h3,fun vs H2 F2 R2 st2 o2 s2=>?_⟩⟩
 refine q (v::vs) H2 F2 (R1++R2) st2 ⟨v,vs,R1,R2,rfl,o1.mono s2.tup fun a ha o e=>s2.keep a o e fun h=>?_,o2,rfl⟩ ((s1.trans s2 o1.chg).permR ?_)
 ·exact (List.nodup_append.mp s1.nd).2.2 a h a ha rfl
 ·rw[List.append_assoc]
  exact List.Perm.append_left _ List.perm_append_comm
end
noncomputable def bW (D:SD):List Opd→Option (List Vl)
 | []=>some []
 | o::os=>(rsl D o).bind fun d=>(bW D os).map fun ds=>d::ds
noncomputable def en (H:Hp):List Vl→List V→Prop
 | [],vs=>vs=[]
 | d::ds,vs=>∃ v r,vs=v::r∧Rdb H d v∧en H ds r
theorem dr.read {H:Hp}{D:SD}{σ:St}{F:List Addr} (st:ai H D σ F):∀ {os:List Opd}{vs:List V}{R:List Addr}{ds:List Vl},dr H σ os vs R→bW D os=some ds→en H ds vs
 | [],_,_,_,h,e=>by cases e;exact h.1
 | o::os,_,_,_,h,e=>by
  obtain⟨v,r,R1,R2,rfl,h1,h2,rfl⟩:=h
  obtain⟨d,e1,e2⟩:=Option.bind_eq_some_iff.mp e
  obtain⟨ds,e3,e4⟩:=Option.map_eq_some_iff.mp e2
  cases e4
  exact⟨v,r,rfl,h1.read st e1,dr.read st h2 e3⟩
noncomputable def bP:List Opd→SD→Option (List Vl×SD)
 | [],D=>some ([],D)
 | .vl d::os,D=>(bP os D).map fun p=>(d::p.1,p.2)
 | .sl i::os,D=>(cu i D).bind fun p=>(bP os p.2).map fun q=>(p.1::q.1,q.2)
theorem ou {H:Hp}{D D':SD}{σ:St}{F:List Addr}{i:Nat}{d:Vl} (st:ai H D σ F) (h:cu i D=some (d,D')):∃ v F1 R,σ[i]?=some (some v)∧Own H d v R∧ai H D' σ F1∧(F1++R).Perm F:=by
 unfold cu at h
 split at h
 ·rename_i e hd
  split at h
  ·rename_i hc
   cases h
   obtain⟨v,h1,h2⟩:=st.cp hd hc
   exact⟨v,F,[],h1,h2,st,by rw[List.append_nil]⟩
  ·cases h
   obtain⟨v,F1,F2,h1,h2,h3,h4⟩:=st.out hd
   exact⟨v,F2,F1,h1,h2,h3,h4⟩
 ·cases h
theorem dt {A B C:List Addr}:(A++(B++C)).Perm (B++(A++C)):=by
 rw[← List.append_assoc,← List.append_assoc]
 exact List.Perm.append_right _ List.perm_append_comm
theorem fL {H:Hp}{σ:St}:∀ {os:List Opd}{vs:List V}{R F:List Addr}{D D':SD}{ds:List Vl},ai H D σ F→dr H σ os vs R→bP os D=some (ds,D')→∃ F1 R1,ai H D' σ F1∧aJ H ds vs R1∧(F1++R1).Perm (F++R)
 | [],_,_,F,_,_,_,st,h,e=>by
  cases e
  exact⟨F,[],st,⟨h.1,rfl⟩,by rw[h.2]⟩
 | .vl d::os,_,_,F,D,_,_,st,h,e=>by
  obtain⟨v,r,R1,R2,rfl,h1,h2,rfl⟩:=h
  rw[bP] at e
  obtain⟨p,e3,e4⟩:=Option.map_eq_some_iff.mp e
  cases e4
  obtain⟨F1,R3,g1,g2,g3⟩:=fL (D':=p.2) (ds:=p.1) st h2 e3
  exact⟨F1,R1++R3,g1,⟨v,r,R1,R3,rfl,h1,g2,rfl⟩,dt.trans ((List.Perm.append_left _ g3).trans dt)⟩
 | .sl i::os,_,_,F,D,_,_,st,h,e=>by
  obtain⟨v,r,R1,R2,rfl,⟨h1,rfl⟩,h2,rfl⟩:=h
  rw[bP] at e
  obtain⟨⟨d,D1⟩,e1,e2⟩:=Option.bind_eq_some_iff.mp e
  obtain⟨p,e3,e4⟩:=Option.map_eq_some_iff.mp e2
  cases e4
  obtain⟨v',F1,R3,g1,g2,g3,g4⟩:=ou st e1
  rw[h1] at g1
  cases g1
  obtain⟨F2,R4,k1,k2,k3⟩:=fL (D':=p.2) (ds:=p.1) g3 h2 e3
  refine⟨F2,R3++R4,k1,⟨v,r,R3,R4,rfl,g2,k2,rfl⟩,dt.trans ((List.Perm.append_left _ k3).trans ?_)⟩
  rw[← List.append_assoc]
  exact List.Perm.append_right _ (List.perm_append_comm.trans g4)
@[simp] noncomputable def wb:List Opd→List Vl→SD→SD
 | .sl i::os,d::ds,D=>wb os ds (match D[i]? with | some (some .jk)=>D.set i (some d) | _=>D)
 | .vl _::os,_::ds,D=>wb os ds D
 | _,_,D=>D
theorem jl {H H0:Hp}{σ:St}:∀ {os:List Opd}{ds:List Vl}{vs:List V}{R F S:List Addr}{D:SD},ai H D σ F→dr H0 σ os vs S→aJ H ds vs R→∃ F1 R1,ai H (wb os ds D) σ F1∧(F1++R1).Perm (F++R)
 | [],ds,_,R,F,_,D,st,_,_=>⟨F,R,by unfold wb;exact st,List.Perm.refl _⟩
 | .vl _::os,[],_,R,F,_,D,st,_,_=>⟨F,R,by unfold wb;exact st,List.Perm.refl _⟩
 | .sl _::os,[],_,R,F,_,D,st,_,_=>⟨F,R,by unfold wb;exact st,List.Perm.refl _⟩
 | .vl _::os,d::ds,_,R,F,_,D,st,h,w=>by
  obtain⟨v,r,S1,S2,rfl,h1,h2,rfl⟩:=h
  obtain⟨v',r',R1,R2,e,w1,w2,rfl⟩:=w
  cases e
  obtain⟨F1,R3,g1,g2⟩:=jl (D:=D) st h2 w2
  refine⟨F1,R1++R3,by rw[wb];exact g1,dt.trans ((List.Perm.append_left _ g2).trans dt)⟩
 | .sl i::os,d::ds,_,R,F,_,D,st,h,w=>by
  obtain⟨v,r,S1,S2,rfl,⟨h1,_⟩,h2,rfl⟩:=h
  obtain⟨v',r',R1,R2,e,w1,w2,rfl⟩:=w
  cases e
  rw[wb]
  split
  ·obtain⟨F1,G,g1,g2⟩:=st.back w1 h1
   obtain⟨F2,R3,k1,k2⟩:=jl g1 h2 w2
   refine⟨F2,R3++G,k1,?_⟩
   rw[← List.append_assoc,← List.append_assoc]
   refine (List.Perm.append_right _ k2).trans ?_
   rw[List.append_assoc]
   refine (List.Perm.append_left _ List.perm_append_comm).trans ?_
   rw[← List.append_assoc]
   exact List.Perm.append_right _ g2
  ·obtain⟨F1,R3,g1,g2⟩:=jl st h2 w2
   exact⟨F1,R1++R3,g1,dt.trans ((List.Perm.append_left _ g2).trans dt)⟩
noncomputable def ims:List Vl→Option (List Im)
 | []=>some []
 | .im d::ds=>(ims ds).map fun r=>d::r
 | _::_=>none
@[simp] noncomputable def mkT (ds:List Vl):Vl:=match ims ds with
 | some is=>.im (.tup is)
 | none=>.tpl ds
@[simp] noncomputable def mkL (ds:List Vl):Vl:=match ims ds with
 | some is=>.lst is
 | none=>.lstM ds
theorem kX {H:Hp}:∀ {ds:List Vl}{vs:List V}{R:List Addr}{is:List Im},aJ H ds vs R→ims ds=some is→ak H is vs∧R=[]
 | [],_,_,_,h,e=>by cases e;exact h
 | .im d::ds,_,_,_,h,e=>by
  obtain⟨v,r,R1,R2,rfl,⟨h1,rfl⟩,h2,rfl⟩:=h
  rw[ims] at e
  obtain⟨p,e3,e4⟩:=Option.map_eq_some_iff.mp e
  cases e4
  obtain⟨g1,rfl⟩:=kX h2 e3
  exact⟨⟨v,r,rfl,h1,g1⟩,rfl⟩
 | .jk::_,_,_,_,_,e=>by rw[ims] at e;cases e;all_goals (intro _ z;cases z)
 | .fz _::_,_,_,_,_,e=>by rw[ims] at e;cases e;all_goals (intro _ z;cases z)
 | .lst _::_,_,_,_,_,e=>by rw[ims] at e;cases e;all_goals (intro _ z;cases z)
 | .dK _::_,_,_,_,_,e=>by rw[ims] at e;cases e;all_goals (intro _ z;cases z)
 | .dT _::_,_,_,_,_,e=>by rw[ims] at e;cases e;all_goals (intro _ z;cases z)
 | .lstM _::_,_,_,_,_,e=>by rw[ims] at e;cases e;all_goals (intro _ z;cases z)
 | .dTM _ _::_,_,_,_,_,e=>by rw[ims] at e;cases e;all_goals (intro _ z;cases z)
 | .tpl _::_,_,_,_,_,e=>by rw[ims] at e;cases e;all_goals (intro _ z;cases z)
 | .obj _ _ _::_,_,_,_,_,e=>by rw[ims] at e;cases e;all_goals (intro _ z;cases z)
@[simp] noncomputable def jm (g:M (List Opd)):M Vl:=fun D=>(g D).bind fun p=>(bP p.1 p.2).bind fun q=>if q.1.length≤100000 then some (mkT q.1,q.2) else none
@[simp] noncomputable def dP (g:M (List Opd)):M Vl:=fun D=>(g D).bind fun p=>(bP p.1 p.2).bind fun q=>if q.1.length≤100000 then some (mkL q.1,q.2) else none
theorem wv {H H':Hp}{ds:List Vl}{vs:List V}{R:List Addr}{p:Addr} (s:ap H H') (h:aJ H ds vs R) (e:H' p=some (.tup vs)):∃ R',Own H' (mkT ds) (.ref p) R'∧R'=R:=by
 unfold mkT
 split
 ·rename_i is hi
  obtain⟨g1,rfl⟩:=kX h hi
  exact⟨[],⟨⟨p,vs,rfl,e,g1.mono s.tupS.tup⟩,rfl⟩,rfl⟩
 ·exact⟨R,⟨p,vs,rfl,e,h.mono s.tupS fun a _ o q=>s a o q⟩,rfl⟩
theorem ww {H H':Hp}{ds:List Vl}{vs:List V}{R:List Addr}{p:Addr} (s:ap H H') (h:aJ H ds vs R) (e:H' p=some (.lst vs)):Own H' (mkL ds) (.ref p) (p::R):=by
 unfold mkL
 split
 ·rename_i is hi
  obtain⟨g1,rfl⟩:=kX h hi
  exact⟨p,vs,rfl,e,g1.mono s.tupS.tup,rfl⟩
 ·exact⟨p,vs,R,rfl,e,h.mono s.tupS fun a _ o q=>s a o q,rfl⟩
theorem et {n:Nat} (h:n≤100000):n≤sizeLine:=Nat.le_trans h (by decide)
theorem Stp.add {H H1:Hp}{F A:List Addr}{p:Addr}{o:HO} (a:Stp H F H1 A) (fr:H1 p=none) (c:∀ x∈A,Chg H1 x):Stp H F (upd H1 p o) (A++[p]):=by
 have s:ap H1 (upd H1 p o):=(ap.refl H1).upd fr
 have:=Stp.new (R:=[]) (R':=[p]) (by rw[List.append_nil];exact a) s (List.pairwise_singleton _ _) (fun x hx=>by rw[List.mem_singleton.mp hx];exact fr) c
 exact this
theorem Stp.same {H H1 H2:Hp}{F A:List Addr} (a:Stp H F H1 A) (s:ap H1 H2):Stp H F H2 A:=
 ⟨fun x o e hx=>s _ _ (a.keep x o e hx),a.sub,a.nd,a.tup.trans s.tupS,fun x o e=>let ⟨o',e'⟩:=a.grow x o e;⟨o',s _ _ e'⟩⟩
section
variable {X:Cx}
theorem ox {es:List Expr}{g:M (List Opd)}{x1}{pos:Pos} (h:VA X es g):VE X (.Tuple es x1 pos) (jm g):=by
 refine a5 (uC h) fun σ H Q ⟨D,F,r,D',st,nd,hg,q⟩=>?_
 obtain⟨⟨os,D1⟩,h1,h2⟩:=Option.bind_eq_some_iff.mp hg
 obtain⟨⟨ds,D2⟩,h3,h4⟩:=Option.bind_eq_some_iff.mp h2
 refine⟨D,F,os,D1,st,nd,h1,fun vs H1 F1 R1 st1 o1 s1=>?_⟩
 obtain⟨F2,R2,st2,ow,pm⟩:=fL st1 o1 h3
 split at h4
 ·rename_i hl
  cases h4
  have hl':vs.length≤100000:=by rw[← ow.length];exact hl
  refine⟨et hl',fun p hp=>?_⟩
  have s:ap H1 (upd H1 p (.tup vs)):=(ap.refl H1).upd hp
  obtain⟨R',g1,rfl⟩:=wv s ow bD
  exact q _ _ F2 R' (st2.mono s.tupS fun a _ o e=>s a o e) g1 ((s1.permR pm.symm).same s)
 ·cases h4
theorem eE {es:List Expr}{g:M (List Opd)}{pos:Pos} (h:VA X es g):VE X (.List es pos) (dP g):=by
 refine a5 (uD h) fun σ H Q ⟨D,F,r,D',st,nd,hg,q⟩=>?_
 obtain⟨⟨os,D1⟩,h1,h2⟩:=Option.bind_eq_some_iff.mp hg
 obtain⟨⟨ds,D2⟩,h3,h4⟩:=Option.bind_eq_some_iff.mp h2
 refine⟨D,F,os,D1,st,nd,h1,fun vs H1 F1 R1 st1 o1 s1=>?_⟩
 obtain⟨F2,R2,st2,ow,pm⟩:=fL st1 o1 h3
 split at h4
 ·rename_i hl
  cases h4
  have hl':vs.length≤100000:=by rw[← ow.length];exact hl
  refine⟨et hl',fun p hp=>?_⟩
  have s:ap H1 (upd H1 p (.lst vs)):=(ap.refl H1).upd hp
  have g1:=ww s ow (p:=p) bD
  refine q _ _ F2 (p::R2) (st2.mono s.tupS fun a _ o e=>s a o e) g1 (((s1.permR pm.symm).add hp fun x hx=>?_).permR ?_)
  ·rcases List.mem_append.mp hx with hx | hx
   ·exact st2.chg x hx
   ·exact ow.chg x hx
  ·rw[List.append_assoc]
   exact List.Perm.append_left _ List.perm_append_comm
 ·cases h4
noncomputable def de (X:Cx) (f:Value) (op:List Vl→Option Vl):Prop:=
 bn X f fun xs H Q=>∃ ds d,en H ds xs∧op ds=some d∧∀ v H' R,ap H H'→Own H' d v R→R.Nodup→(∀ a∈R,H a=none)→Q v H'
@[simp] noncomputable def ax (op:List Vl→Option Vl) (g:M (List Opd)):M Vl:=fun D=>(g D).bind fun p=>(bW p.2 p.1).bind fun ds=>(op ds).map fun d=>(d,p.2)
theorem oy {op:List Vl→Option Vl}{g:M (List Opd)}{σ:St}{H:Hp}{Q:VK} (h:tV (ax op g) σ H Q):
  tA g σ H fun xs H1=>∃ ds d,en H1 ds xs∧op ds=some d∧∀ v H' R,ap H1 H'→Own H' d v R→R.Nodup→(∀ a∈R,H1 a=none)→Q v H':=by
 obtain⟨D,F,r,D',st,nd,hg,q⟩:=h
 obtain⟨⟨os,D1⟩,h1,h2⟩:=Option.bind_eq_some_iff.mp hg
 obtain⟨ds,h3,h4⟩:=Option.bind_eq_some_iff.mp h2
 obtain⟨d,h5,h6⟩:=Option.map_eq_some_iff.mp h4
 cases h6
 refine⟨D,F,os,D1,st,nd,h1,fun vs H1 F1 R1 st1 o1 s1=>⟨ds,_,o1.read st1 h3,h5,fun v H2 R s2 ow ndR fr=>?_⟩⟩
 exact q v H2 F1 R (st1.mono s2.tupS fun a _ o e=>s2 a o e) ow (s1.new s2 ndR fr st1.chg)
theorem bf {id:String}{op:List Vl→Option Vl}{x:Str}{p pos:Pos}{e:Expr}{es:List Expr}{g:M (List Opd)} (hc:de X (.builtin id) op) (hg:Gl X x) (hm:X.mg x=none) (hv:bootBuiltins x=some (.builtin id)) (ha:VA X (e::es) g)
  (hn:x ≠ "__name__" := by decide) (hdb:(x == ("__debug__" : Str))=false:=by decide) (he:starEach (e::es) X.env=(false,eval e X.env)::starEach es X.env:=by rfl) (hpl:(backTo pos (starEach es X.env)).any (·.1)=false:=by rfl):
  VE X (.Call (.Name x p) (e::es) [] pos) (ax op g):=a5 (m9 hc hg hm hv ha hn hdb he hpl) fun _ _ _ h=>oy h
theorem eF {T:String}{op:List Vl→Option Vl}{x:Str}{p pos:Pos}{e:Expr}{es:List Expr}{g:M (List Opd)} (hc:de X (.type T) op) (hg:Gl X x) (hm:X.mg x=none) (hv:bootBuiltins x=some (.type T)) (ha:VA X (e::es) g)
  (hn:x ≠ "__name__" := by decide) (hdb:(x == ("__debug__" : Str))=false:=by decide) (he:starEach (e::es) X.env=(false,eval e X.env)::starEach es X.env:=by rfl) (hpl:(backTo pos (starEach es X.env)).any (·.1)=false:=by rfl):
  VE X (.Call (.Name x p) (e::es) [] pos) (ax op g):=a5 (uH hc hg hm hv ha hn hdb he hpl) fun _ _ _ h=>oy h
noncomputable abbrev Fn:=List Vl→Option (Vl×List Vl)
noncomputable def spV (n:Nat) (G:Fn):Sp:=fun vs H Q _=>vs.length=n∧∃ ds F r outs,aJ H ds vs F∧F.Nodup∧G ds=some (r,outs)∧∀ v H' R R',Own H' r v R→aJ H' outs vs R'→Stp H F H' (R++R')→Q v H'
@[simp] noncomputable def av (n:Nat) (G:Fn) (g:M (List Opd)):M Vl:=fun D=>(g D).bind fun p=>if p.1.length=n then (bP p.1 p.2).bind fun q=>(G q.1).map fun r=>(r.1,wb p.1 r.2 q.2) else none
theorem dr.length {H:Hp}{σ:St}:∀ {os:List Opd}{vs:List V}{R:List Addr},dr H σ os vs R→os.length=vs.length
 | [],_,_,h=>by rw[h.1];rfl
 | o::os,_,_,h=>by
  obtain⟨v,r,R1,R2,rfl,h1,h2,rfl⟩:=h
  rw[List.length_cons,List.length_cons,dr.length h2]
theorem oz {n:Nat}{G:Fn}{g:M (List Opd)}{E:XK}{σ:St}{H:Hp}{Q:VK} (h:tV (av n G g) σ H Q):kz (spV n G) [] E (tA g) σ H Q:=by
 obtain⟨D,F,r,D',st,nd,hg,q⟩:=h
 obtain⟨⟨os,D1⟩,h1,h2⟩:=Option.bind_eq_some_iff.mp hg
 split at h2
 ·rename_i hn
  obtain⟨⟨ds,D2⟩,h3,h4⟩:=Option.bind_eq_some_iff.mp h2
  obtain⟨⟨r',outs⟩,h5,h6⟩:=Option.map_eq_some_iff.mp h4
  cases h6
  refine⟨D,F,os,D1,st,nd,h1,fun vs H1 F1 R1 st1 o1 s1=>?_⟩
  obtain⟨F2,R2,st2,ow,pm⟩:=fL st1 o1 h3
  have s2:=s1.permR (pm.symm.trans List.perm_append_comm)
  rw[List.append_nil]
  refine⟨by rw[← o1.length];exact hn,ds,R2,_,outs,ow,(List.nodup_append.mp s2.nd).1,h5,fun v H3 R R' w1 w2 s3=>?_⟩
  have s4:=s2.trans s3 st2.chg
  have dis:∀ a∈F2,a∉R2:=fun a ha hb=>(List.nodup_append.mp s2.nd).2.2 a hb a ha rfl
  have st3:ai H3 D2 σ F2:=st2.mono s3.tup fun a ha o e=>s3.keep a o e (dis a ha)
  obtain⟨F3,R3,st4,pm4⟩:=jl st3 o1 w2
  refine q v H3 F3 R st4 w1 (s4.less (C:=R3) ?_)
  refine List.Perm.trans ?_ List.perm_append_comm
  rw[List.append_assoc]
  refine (List.Perm.append_left _ List.perm_append_comm).trans ?_
  rw[← List.append_assoc]
  refine (List.Perm.append_right _ pm4).trans ?_
  rw[List.append_assoc]
  exact List.Perm.append_left _ List.perm_append_comm
 ·cases h2
end
section
variable {X:Cx}
theorem aD {n k:Nat}{G:Fn}{f:Addr}{fd:FuncData}{ps:List Str}{x:Str}{p pos:Pos}{e:Expr}{es:List Expr}{g:M (List Opd)} (F:FnOk X.prog X.w X.K X.mg X.base CX0 k f fd ps (spV n G)) (hr:Room k X.A) (hg:Gl X x) (hm:X.mg x=some (.ref f)) (hk:PySem.W.keepIn X.K (.ref f)=true) (hb:az X.K fd ps [])
  (ha:VA X (e::es) g) (hdb:(x == ("__debug__" : Str))=false:=by decide) (he:starEach (e::es) X.env=(false,eval e X.env)::starEach es X.env:=by rfl) (hpl:(backTo pos (starEach es X.env)).any (·.1)=false:=by rfl):
  VE X (.Call (.Name x p) (e::es) [] pos) (av n G g):=a5 (uE F hr hg hm hk hb .nil nG ha hdb he hpl) fun _ _ _ h=>oz h
inductive Fl where
 | nx | rt (d:Vl) | bk | ct
noncomputable abbrev MS:=SD→Option (Fl×SD)
noncomputable def aN (fix:List Nat) (σ σ':St):Prop:=σ'.length=σ.length∧∀ i∈fix,σ'[i]?=σ[i]?
theorem aN.refl {fix:List Nat}{σ:St}:aN fix σ σ:=⟨rfl,fun _ _=>rfl⟩
theorem aN.trans {fix:List Nat}{σ σ1 σ2:St} (a:aN fix σ σ1) (b:aN fix σ1 σ2):aN fix σ σ2:=⟨b.1.trans a.1,fun i hi=>(b.2 i hi).trans (a.2 i hi)⟩
theorem aN.set {fix:List Nat}{σ:St}{j:Nat}{v:Option V} (h:j∉fix):aN fix σ (σ.set j v):=⟨List.length_set,fun i hi=>List.getElem?_set_ne fun e=>h (by rw[e];exact hi)⟩
noncomputable def Aft (fix:List Nat) (E:Ends) (σ:St) (H:Hp) (F:List Addr) (D':SD):Fl→Prop
 | .nx=>∀ σ' H' F',aN fix σ σ'→ai H' D' σ' F'→Stp H F H' F'→E.nx σ' H'
 | .bk=>∀ σ' H' F',aN fix σ σ'→ai H' D' σ' F'→Stp H F H' F'→E.bk σ' H'
 | .ct=>∀ σ' H' F',aN fix σ σ'→ai H' D' σ' F'→Stp H F H' F'→E.ct σ' H'
 | .rt d=>∀ v σ' H' F' R,aN fix σ σ'→ai H' D' σ' F'→Own H' d v R→Stp H F H' (F'++R)→E.rt v H'
noncomputable def tS (fix:List Nat) (g:MS):TS:=fun E σ H=>∃ D F fl D',ai H D σ F∧F.Nodup∧g D=some (fl,D')∧Aft fix E σ H F D' fl
noncomputable def VS (X:Cx) (fix:List Nat) (st:Stmt) (g:MS):Prop:=PS X st (tS fix g)
noncomputable def VSs (X:Cx) (fix:List Nat) (sts:List Stmt) (g:MS):Prop:=PSs X sts (tS fix g)
theorem eI {st:Stmt}{t t':TS} (h:PS X st t) (i:∀ E σ H,t' E σ H→t E σ H):PS X st t':=fun pins s σ H D I hw=>h pins s σ H D I (i D σ H hw)
theorem oA {st:List Stmt}{t t':TS} (h:PSs X st t) (i:∀ E σ H,t' E σ H→t E σ H):PSs X st t':=fun pins s σ H D I hw=>h pins s σ H D I (i D σ H hw)
theorem Aft.on {fix:List Nat}{E:Ends}{σ σ1:St}{H H1:Hp}{F F1:List Addr}{D':SD}{fl:Fl} (h:Aft fix E σ H F D' fl) (fx:aN fix σ σ1) (s:Stp H F H1 F1):Aft fix E σ1 H1 F1 D' fl:=by
 cases fl with
 | nx=>exact fun σ' H' F' f st s'=>h σ' H' F' (fx.trans f) st (s.seq s')
 | bk=>exact fun σ' H' F' f st s'=>h σ' H' F' (fx.trans f) st (s.seq s')
 | ct=>exact fun σ' H' F' f st s'=>h σ' H' F' (fx.trans f) st (s.seq s')
 | rt d=>exact fun v σ' H' F' R f st ow s'=>h v σ' H' F' R (fx.trans f) st ow (s.seq s')
noncomputable def sNil:MS:=fun D=>some (.nx,D)
@[simp] noncomputable def ar (g h:MS):MS:=fun D=>(g D).bind fun p=>match p.1 with
 | .nx=>h p.2
 | fl=>some (fl,p.2)
theorem bX {fix:List Nat}:VSs X fix [] sNil:=by
 refine oA sW fun E σ H ⟨D,F,fl,D',st,nd,hg,q⟩=>?_
 cases hg
 exact q σ H F aN.refl st (Stp.perm nd (List.Perm.refl _))
theorem aC {fix:List Nat}{st:Stmt}{g:MS} (h:VS X fix st g):VSs X fix [st] g:=sY h
theorem wx {fix:List Nat}{g h:MS}{E:Ends}{σ:St}{H:Hp} (w:tS fix (ar g h) E σ H):mQ (tS fix g) (tS fix h) E σ H:=by
 obtain⟨D,F,fl,D',st,nd,hg,q⟩:=w
 obtain⟨⟨f1,D1⟩,h1,h2⟩:=Option.bind_eq_some_iff.mp hg
 cases f1 with
 | nx=>exact⟨D,F,.nx,D1,st,nd,h1,fun σ' H' F' fx st' s=>⟨D1,F',fl,D',st',s.nd,h2,q.on fx s⟩⟩
 | bk=>cases h2;exact⟨D,F,.bk,D1,st,nd,h1,q⟩
 | ct=>cases h2;exact⟨D,F,.ct,D1,st,nd,h1,q⟩
 | rt d=>cases h2;exact⟨D,F,.rt d,D1,st,nd,h1,q⟩
theorem au {fix:List Nat}{st:Stmt}{sts:List Stmt}{g h:MS} (h1:VS X fix st g) (h2:VSs X fix sts h):VSs X fix (st::sts) (ar g h):=oA (sX h1 h2) fun _ _ _ w=>wx w
@[simp] noncomputable def eJ (g:M Vl):MS:=fun D=>(g D).map fun p=>(.nx,p.2)
theorem kY {fix:List Nat}{e:Expr}{g:M Vl}{pos:Pos} (h:VE X e g) (hs:swapsWith e none pos.line X.env=pure false:=by rfl):VS X fix (.Expr e pos) (eJ g):=by
 refine eI (tf h hs) fun E σ H ⟨D,F,fl,D',st,nd,hg,q⟩=>?_
 obtain⟨⟨r,D1⟩,h1,h2⟩:=Option.map_eq_some_iff.mp hg
 cases h2
 exact⟨D,F,r,_,st,nd,h1,fun v H' F' R st' ow s=>q σ H' F' aN.refl st' (s.less (List.Perm.refl _))⟩
@[simp] noncomputable def aF (g:M Vl):MS:=fun D=>(g D).map fun p=>(.rt p.1,p.2)
theorem aK {fix:List Nat}{e:Expr}{g:M Vl}{pos:Pos} (h:VE X e g):VS X fix (.Return (some e) pos) (aF g):=by
 refine eI (tm h) fun E σ H ⟨D,F,fl,D',st,nd,hg,q⟩=>?_
 obtain⟨⟨r,D1⟩,h1,h2⟩:=Option.map_eq_some_iff.mp hg
 cases h2
 exact⟨D,F,r,_,st,nd,h1,fun v H' F' R st' ow s=>q v σ H' F' R aN.refl st' ow s⟩
@[simp] noncomputable def sIf (c:M Bool) (a b:MS):MS:=fun D=>(c D).bind fun p=>if p.1=true then a p.2 else b p.2
theorem bQ {fix:List Nat}{c:Expr}{a b:List Stmt}{gc:M Bool}{ga gb:MS}{pos:Pos} (hc:VT X c gc) (ha:VSs X fix a ga) (hb:VSs X fix b gb):VS X fix (.If c a b pos) (sIf gc ga gb):=by
 refine eI (tq hc ha hb) fun E σ H ⟨D,F,fl,D',st,nd,hg,q⟩=>?_
 obtain⟨⟨t,D1⟩,h1,h2⟩:=Option.bind_eq_some_iff.mp hg
 refine⟨D,F,t,D1,st,nd,h1,fun H1 F1 st1 s1=>?_⟩
 cases t with
 | true=>
  rw[if_pos rfl] at h2 ⊢
  exact⟨D1,F1,fl,D',st1,s1.nd,h2,q.on aN.refl s1⟩
 | false=>
  rw[if_neg Bool.false_ne_true] at h2 ⊢
  exact⟨D1,F1,fl,D',st1,s1.nd,h2,q.on aN.refl s1⟩
@[simp] noncomputable def aA (i:Nat) (g:M Vl):MS:=fun D=>(g D).bind fun p=>if i<p.2.length then some (.nx,p.2.set i (some p.1)) else none
theorem aG {fix:List Nat}{i:Nat}{x:Str}{e:Expr}{g:M Vl}{pos pos':Pos} (hN:X.N.Nodup) (hi:X.N[i]?=some x) (hx:Loc X.env.scope x) (he:VE X e g) (hf:i∉fix) (hs:swapsWith e (some (.Name x pos')) pos.line X.env=pure false:=by rfl)
  (hfn:X.fn x=true∨X.env.scope.names.lookup x=some .local:=by first | exact .inl rfl | exact .inr rfl | assumption):VS X fix (.Assign [.Name x pos'] e pos) (aA i g):=by
 refine eI (tK hN hi hx he hs hfn) fun E σ H ⟨D,F,fl,D',st,nd,hg,q⟩=>?_
 obtain⟨⟨r,D1⟩,h1,h2⟩:=Option.bind_eq_some_iff.mp hg
 split at h2
 ·rename_i hl
  cases h2
  refine⟨D,F,r,_,st,nd,h1,fun v H1 F1 R st1 ow s1=>?_⟩
  obtain⟨F2,R2,st2,pm⟩:=st1.put (i:=i) ow hl
  exact q _ H1 F2 (aN.set hf) st2 (s1.less pm)
 ·cases h2
noncomputable abbrev MG:=Vl→SD→Option SD
noncomputable def tG (fix:List Nat) (g:MG):TG:=fun v σ H Q=>∃ D F d R D',ai H D σ F∧Own H d v R∧(F++R).Nodup∧g d D=some D'∧∀ σ' H' F',aN fix σ σ'→ai H' D' σ' F'→Stp H (F++R) H' F'→Q σ' H'
noncomputable def VG (X:Cx) (fix:List Nat) (e:Expr) (g:MG):Prop:=PG X e (tG fix g)
theorem kZ {e:Expr}{t t':TG} (h:PG X e t) (i:∀ v σ H Q,t' v σ H Q→t v σ H Q):PG X e t':=fun pins s σ H x v Q I r hw=>h pins s σ H x v Q I r (i x σ H Q hw)
@[simp] noncomputable def gN (i:Nat):MG:=fun d D=>if i<D.length then some (D.set i (some d)) else none
theorem bi {fix:List Nat}{i:Nat}{x:Str}{pos:Pos} (hN:X.N.Nodup) (hi:X.N[i]?=some x) (hx:Loc X.env.scope x) (hf:i∉fix) (hfn:X.fn x=true∨X.env.scope.names.lookup x=some .local:=by first | exact .inl rfl | exact .inr rfl | assumption):VG X fix (.Name x pos) (gN i):=by
 refine kZ (tu hN hi hx hfn) fun v σ H Q ⟨D,F,d,R,D',st,ow,nd,hg,q⟩=>?_
 unfold gN at hg
 split at hg
 ·rename_i hl
  cases hg
  obtain⟨F2,R2,st2,pm⟩:=st.put (i:=i) ow hl
  exact q _ H F2 (aN.set hf) st2 ((Stp.perm nd (List.Perm.refl _)).less pm)
 ·cases hg
noncomputable def tGs (fix:List Nat) (g:List Vl→SD→Option SD):TGs:=fun vs σ H Q=>∃ D F ds R D',ai H D σ F∧aJ H ds vs R∧(F++R).Nodup∧g ds D=some D'∧∀ σ' H' F',aN fix σ σ'→ai H' D' σ' F'→Stp H (F++R) H' F'→Q σ' H'
noncomputable def VGs (X:Cx) (fix:List Nat) (es:List Expr) (g:List Vl→SD→Option SD):Prop:=PGs X es (tGs fix g)
@[simp] noncomputable def gNil':List Vl→SD→Option SD
 | [],D=>some D
 | _,_=>none
@[simp] noncomputable def a9 (g:MG) (h:List Vl→SD→Option SD):List Vl→SD→Option SD
 | d::ds,D=>(g d D).bind (h ds)
 | _,_=>none
theorem oC {es:List Expr}{t t':TGs} (h:PGs X es t) (i:∀ v σ H Q,t' v σ H Q→t v σ H Q):PGs X es t':=fun pins s σ H xs vs Q I r hw=>h pins s σ H xs vs Q I r (i xs σ H Q hw)
theorem gy {fix:List Nat}:VGs X fix [] gNil':=by
 refine oC tz fun vs σ H Q ⟨D,F,ds,R,D',st,ow,nd,hg,q⟩=>?_
 cases ds with
 | cons d ds=>cases hg
 | nil=>
  cases hg
  exact⟨ow.1,q σ H F aN.refl st ((Stp.perm nd (List.Perm.refl _)).less (List.Perm.refl _))⟩
theorem cK {fix:List Nat}{e:Expr}{es:List Expr}{g:MG}{h:List Vl→SD→Option SD} (h1:VG X fix e g) (h2:VGs X fix es h) (hs:(assignEach (e::es) X.env).map (·.2)=assign e X.env::(assignEach es X.env).map (·.2):=by rfl):VGs X fix (e::es) (a9 g h):=by
 refine oC (tB h1 h2 hs) fun vs σ H Q ⟨D,F,ds,R,D',st,ow,nd,hg,q⟩=>?_
 cases ds with
 | nil=>cases hg
 | cons d ds=>
  obtain⟨v,r,R1,R2,rfl,w1,w2,rfl⟩:=ow
  obtain⟨D1,g1,g2⟩:=Option.bind_eq_some_iff.mp (show (g d D).bind (h ds)=some D' from hg)
  have nd':((F++R1)++R2).Nodup:=by rw[List.append_assoc];exact nd
  refine⟨v,r,rfl,D,F,d,R1,D1,st,w1,(List.nodup_append.mp nd').1,g1,fun σ1 H1 F1 fx st1 s1=>?_⟩
  have dis:∀ a∈R2,a∉F++R1:=fun a ha hb=>(List.nodup_append.mp nd').2.2 a hb a ha rfl
  have w2':aJ H1 ds r R2:=w2.mono s1.tup fun a ha o e=>s1.keep a o e (dis a ha)
  have s2:Stp H (F++(R1++R2)) H1 (F1++R2):=by
   refine⟨fun a o e ha=>s1.keep a o e fun h=>ha ?_,fun a ha=>?_,List.nodup_append.mpr ⟨s1.nd,(List.nodup_append.mp nd').2.1,fun a ha b hb e=>?_⟩,s1.tup,s1.grow⟩
   ·rw[← List.append_assoc]
    exact List.mem_append_left _ h
   ·rcases List.mem_append.mp ha with ha | ha
    ·rcases s1.sub a ha with h | h
     ·left
      rw[← List.append_assoc]
      exact List.mem_append_left _ h
     ·exact .inr h
    ·left
     rw[← List.append_assoc]
     exact List.mem_append_right _ ha
   ·subst e
    rcases s1.sub a ha with h | h
    ·exact dis a hb h
    ·obtain⟨o,e,_⟩:=w2.chg a hb
     rw[e] at h
     cases h
  exact⟨D1,F1,ds,R2,D',st1,w2',s2.nd,g2,fun σ2 H2 F2 fx2 st2 s3=>q σ2 H2 F2 (fx.trans fx2) st2 (s2.seq s3)⟩
@[simp] noncomputable def gT (n:Nat) (h:List Vl→SD→Option SD):MG:=fun d D=>match d with
 | .im (.tup is)=>if is.length=n then h (is.map .im) D else none
 | .tpl ds=>if ds.length=n then h ds D else none
 | _=>none
theorem oD {H:Hp}:∀ {is:List Im}{vs:List V},ak H is vs→aJ H (is.map .im) vs []
 | [],vs,h=>⟨h,rfl⟩
 | d::is,vs,h=>by
  obtain⟨v,r,rfl,h1,h2⟩:=h
  exact⟨v,r,[],[],rfl,⟨h1,rfl⟩,oD h2,rfl⟩
theorem gz {fix:List Nat}{es:List Expr}{k n:Nat}{pos:Pos}{h:List Vl→SD→Option SD} (hc:X.calm=true) (hs:VGs X fix es h) (hn:(assignEach es X.env).length=n:=by rfl) (hst:(assignEach es X.env).findIdx? (·.1)=none:=by rfl):VG X fix (.Tuple es k pos) (gT n h):=by
 refine kZ (tE hc hs hn hst) fun v σ H Q ⟨D,F,d,R,D',st,ow,nd,hg,q⟩=>?_
 unfold gT at hg
 split at hg
 ·rename_i is
  split at hg
  ·rename_i hl
   obtain⟨⟨a,xs,rfl,h1,h2⟩,rfl⟩:=ow
   exact⟨a,xs,rfl,SqT.of h1,by rw[← h2.length];exact hl,D,F,_,[],D',st,oD h2,nd,hg,q⟩
  ·cases hg
 ·rename_i ds
  split at hg
  ·rename_i hl
   obtain⟨a,xs,rfl,h1,h2⟩:=ow
   exact⟨a,xs,rfl,SqT.of h1,by rw[← h2.length];exact hl,D,F,_,R,D',st,h2,nd,hg,q⟩
  ·cases hg
 ·cases hg
@[simp] noncomputable def jn (g:M Vl) (h:MG):MS:=fun D=>(g D).bind fun p=>(h p.1 p.2).map fun D'=>(.nx,D')
theorem k0 {fix:List Nat}{tg e:Expr}{g:M Vl}{h:MG}{pos:Pos} (he:VE X e g) (hg:VG X fix tg h) (hs:swapsWithSole [tg] e pos.line X.env=pure false:=by rfl) (hw:swappedStores [tg] e X.env=pure none:=by rfl)
  (h1:(assignEach [tg] X.env).map (·.2)=[assign tg X.env]:=by rfl):VS X fix (.Assign [tg] e pos) (jn g h):=by
 refine eI (tJ he hg hs hw h1) fun E σ H ⟨D,F,fl,D',st,nd,hgg,q⟩=>?_
 obtain⟨⟨r,D1⟩,g1,g2⟩:=Option.bind_eq_some_iff.mp hgg
 obtain⟨D2,g3,g4⟩:=Option.map_eq_some_iff.mp g2
 cases g4
 exact⟨D,F,r,D1,st,nd,g1,fun v H1 F1 R st1 ow s1=>⟨D1,F1,r,R,_,st1,ow,s1.nd,g3,fun σ' H' F' fx st' s2=>q σ' H' F' fx st' (s1.seq s2)⟩⟩
noncomputable def dQ (c:M Bool) (b:MS):Nat→MS
 | 0=>fun _=>none
 | n+1=>fun D=>(c D).bind fun p=>if p.1=true then (b p.2).bind fun q=>match q.1 with
  | .nx=>dQ c b n q.2
  | .ct=>dQ c b n q.2
  | .bk=>some (.nx,q.2)
  | .rt d=>some (.rt d,q.2) else some (.nx,p.2)
theorem wy {fix:List Nat}{c:Expr}{body:List Stmt}{gc:M Bool}{gb:MS}{pos:Pos} (n:Nat) (hp:PassesOwn (model X.prog X.w) X.A X.env X.xe) (hc:VT X c gc) (hb:VSs X fix body gb):VS X fix (.While c body [] pos) (dQ gc gb n):=by
 refine eI (tM hp hc hb) fun E σ H ⟨D,F,fl,D',st,nd,hg,q⟩=>?_
 refine⟨fun m σ' H'=>∃ Dd F',ai H' Dd σ' F'∧aN fix σ σ'∧Stp H F H' F'∧dQ gc gb m Dd=some (fl,D'),⟨n,D,F,st,aN.refl,Stp.perm nd (List.Perm.refl _),hg⟩,?_⟩
 rintro m σ1 H1 ⟨D1,F1,st1,fx1,s1,w⟩
 cases m with
 | zero=>cases w
 | succ m=>
  rw[dQ] at w
  obtain⟨⟨t,D2⟩,w1,w2⟩:=Option.bind_eq_some_iff.mp w
  refine⟨D1,F1,t,D2,st1,s1.nd,w1,fun H2 F2 st2 s2=>?_⟩
  cases t with
  | false=>
   rw[if_neg Bool.false_ne_true] at w2 ⊢
   cases w2
   exact q σ1 H2 F2 fx1 st2 (s1.seq s2)
  | true=>
   rw[if_pos rfl] at w2 ⊢
   obtain⟨⟨f,D3⟩,w3,w4⟩:=Option.bind_eq_some_iff.mp w2
   refine⟨fun σ' H'=>∃ Dd F',ai H' Dd σ' F'∧aN fix σ σ'∧Stp H F H' F'∧dQ gc gb m Dd=some (fl,D'),fun σ' H' h=>⟨m,Nat.lt_succ_self m,h⟩,D2,F2,f,D3,st2,s2.nd,w3,?_⟩
   cases f with
   | nx=>exact fun σ' H' F' fx st' s'=>⟨D3,F',st',fx1.trans fx,(s1.seq s2).seq s',w4⟩
   | ct=>exact fun σ' H' F' fx st' s'=>⟨D3,F',st',fx1.trans fx,(s1.seq s2).seq s',w4⟩
   | bk=>
    cases w4
    exact fun σ' H' F' fx st' s'=>q σ' H' F' (fx1.trans fx) st' ((s1.seq s2).seq s')
   | rt d=>
    cases w4
    exact fun v σ' H' F' R fx st' ow s'=>q v σ' H' F' R (fx1.trans fx) st' ow ((s1.seq s2).seq s')
structure ItOk (J:It) (H:Hp) (R:List Addr) (ds:List Im):Prop where
 go:∀ H',StayS H H'→(∀ a∈R,∀ o,H a=some o→H' a=some o)→∀ (i:Nat) (d:Im),ds[i]?=some d→J.go i H'∧∀ x H'',J.yld i H' x H''→ap H' H''∧IsI H'' d x
 stop:∀ H',StayS H H'→(∀ a∈R,∀ o,H a=some o→H' a=some o)→J.stop ds.length H'
noncomputable def ir (H:Hp) (σ:St) (R:List Addr):Option (Nat×Vl)→Prop
 | none=>True
 | some (i,d)=>∃ v,σ[i]?=some (some v)∧Own H d v R
noncomputable def tI (g:M (List Im×Option (Nat×Vl))):TI:=fun σ H Rk=>∃ D F r D',ai H D σ F∧F.Nodup∧g D=some (r,D')∧∀ J H' F' R,ai H' D' σ F'→ItOk J H' R r.1→ir H' σ R r.2→(∀ a∈R,Chg H' a)→Stp H F H' (F'++R)→Rk J H'
noncomputable def VI (X:Cx) (tg iter:Expr) (g:M (List Im×Option (Nat×Vl))):Prop:=PI X tg iter (tI g)
theorem iw {tg iter:Expr}{t t':TI} (h:PI X tg iter t) (i:∀ σ H R,t' σ H R→t σ H R):PI X tg iter t':=fun pins s σ H R I hw=>h pins s σ H R I (i σ H R hw)
noncomputable def bu (tg:MG) (b:MS):List Im→MS
 | []=>fun D=>some (.nx,D)
 | x::r=>fun D=>(tg (.im x) D).bind fun D1=>(b D1).bind fun q=>match q.1 with
  | .nx=>bu tg b r q.2
  | .ct=>bu tg b r q.2
  | .bk=>some (.nx,q.2)
  | .rt d=>some (.rt d,q.2)
@[simp] noncomputable def rst:Option (Nat×Vl)→SD→SD
 | none,D=>D
 | some (i,d),D=>match D[i]? with
  | some (some .jk)=>D.set i (some d)
  | _=>D
@[simp] noncomputable def dR (g:M (List Im×Option (Nat×Vl))) (tg:MG) (b:MS):MS:=fun D=>(g D).bind fun p=>(bu tg b p.1.1 p.2).map fun q=>(q.1,rst p.1.2 q.2)
theorem k7 {H:Hp}{σ:St}{R F:List Addr}{o:Option (Nat×Vl)}{D:SD} (st:ai H D σ F) (h:ir H σ R o):∃ F1 G,ai H (rst o D) σ F1∧(F1++G).Perm (F++R):=by
 cases o with
 | none=>exact⟨F,R,st,List.Perm.refl _⟩
 | some p=>
  obtain⟨i,d⟩:=p
  obtain⟨v,h1,h2⟩:=h
  unfold rst
  dsimp only
  split
  ·exact st.back h2 h1
  ·exact⟨F,R,st,List.Perm.refl _⟩
noncomputable def eM (fx:List Nat):Option (Nat×Vl)→Prop
 | none=>True
 | some (i,_)=>i∈fx
theorem wz {fix fx:List Nat}{tg iter:Expr}{body:List Stmt}{g:M (List Im×Option (Nat×Vl))}{gt:MG}{gb:MS}{pos:Pos} (hp:PassesOwn (model X.prog X.w) X.A X.env X.xe) (hc:X.calm=true) (hi:VI X tg iter g) (hg:VG X fx tg gt) (hb:VSs X fx body gb)
  (hf:∀ i∈fix,i∈fx) (hs:∀ D r D',g D=some (r,D')→eM fx r.2) (hps:PS X (.For tg iter body [] pos) (mS (tI g) (tG fx gt) (tS fx gb))):VS X fix (.For tg iter body [] pos) (dR g gt gb):=by
 refine eI hps fun E σ H ⟨D,F,fl,D',st,nd,hgg,q⟩=>?_
 obtain⟨⟨⟨ds,o⟩,D1⟩,h1,h2⟩:=Option.bind_eq_some_iff.mp hgg
 obtain⟨⟨f,D2⟩,h3,h4⟩:=Option.map_eq_some_iff.mp h2
 cases h4
 refine⟨D,F,(ds,o),D1,st,nd,h1,fun J H1 F1 R st1 it ln cR s1=>?_⟩
 have hso:eM fx o:=hs D _ _ h1
 have nd1:=List.nodup_append.mp s1.nd
 -- what R holds stays while the body runs
 have keepR:∀ {H2:Hp}{F2:List Addr},Stp H1 F1 H2 F2→∀ a∈R,∀ u,H1 a=some u→H2 a=some u:=fun s a ha u e=>s.keep a u e fun h=>nd1.2.2 a h a ha rfl
 have lent:∀ {H2:Hp}{F2:List Addr}{σ2:St},Stp H1 F1 H2 F2→aN fx σ σ2→ir H2 σ2 R o:=fun {H2 F2 σ2} s f=>by
  cases o with
  | none=>trivial
  | some p=>
   obtain⟨i,d⟩:=p
   obtain⟨v,e1,e2⟩:=ln
   exact⟨v,(f.2 i hso).trans e1,e2.mono s.tup (keepR s)⟩
 have fxx:∀ {σ2:St},aN fx σ σ2→aN fix σ σ2:=fun f=>⟨f.1,fun i hi=>f.2 i (hf i hi)⟩
 -- leaving by going on
 have leave:∀ {σ2:St}{H2:Hp}{F2:List Addr}{D2:SD},Aft fix E σ H F (rst o D2) .nx→aN fx σ σ2→ai H2 D2 σ2 F2→Stp H1 F1 H2 F2→E.nx σ2 H2:=fun {σ2 H2 F2 D2} q f st2 s2=>by
  obtain⟨F3,G,st3,pm⟩:=k7 st2 (lent s2 f)
  exact q σ2 H2 F3 (fxx f) st3 ((s1.trans s2 cR).less pm)
 refine⟨fun i m σ' H'=>m+i=ds.length∧∃ Dd F',aN fx σ σ'∧ai H' Dd σ' F'∧Stp H1 F1 H' F'∧bu gt gb (ds.drop i) Dd=some (f,D2),⟨ds.length,rfl,D1,F1,aN.refl,st1,Stp.perm nd1.1 (List.Perm.refl _),h3⟩,?_⟩
 rintro i m σ' H' ⟨hm,Dd,F',fx',st',s',hw⟩
 by_cases hlt:i<ds.length
 ·obtain⟨hgo,hy⟩:=it.go H' s'.tup (keepR s') i ds[i] (by simp[hlt])
  rw[List.drop_eq_getElem_cons hlt,bu] at hw
  obtain⟨D3,w1,w2⟩:=Option.bind_eq_some_iff.mp hw
  obtain⟨⟨f2,D4⟩,w3,w4⟩:=Option.bind_eq_some_iff.mp w2
  refine .inr ⟨hgo,fun σ2 H2=>(m - 1)+(i+1)=ds.length∧∃ Dd F',aN fx σ σ2∧ai H2 Dd σ2 F'∧Stp H1 F1 H2 F'∧bu gt gb (ds.drop (i+1)) Dd=some (f,D2),fun σ2 H2 h=>⟨m - 1,by lia,h⟩,fun x H2 hx=>?_⟩
  obtain⟨sm,isx⟩:=hy x H2 hx
  have st2:=st'.mono sm.tupS fun a _ o e=>sm a o e
  have s2:=s'.same sm
  refine⟨Dd,F',.im ds[i],[],D3,st2,⟨isx,rfl⟩,by rw[List.append_nil];exact s2.nd,w1,fun σ3 H3 F3 fx3 st3 sg=>?_⟩
  have s3:Stp H1 F1 H3 F3:=s2.seq (by rw[List.append_nil] at sg;exact sg)
  refine⟨D3,F3,f2,D4,st3,s3.nd,w3,?_⟩
  cases f2 with
  | nx=>exact fun σ4 H4 F4 fx4 st4 s4=>⟨by lia,D4,F4,(fx'.trans fx3).trans fx4,st4,s3.seq s4,w4⟩
  | ct=>exact fun σ4 H4 F4 fx4 st4 s4=>⟨by lia,D4,F4,(fx'.trans fx3).trans fx4,st4,s3.seq s4,w4⟩
  | bk=>
   cases w4
   exact fun σ4 H4 F4 fx4 st4 s4=>leave q ((fx'.trans fx3).trans fx4) st4 (s3.seq s4)
  | rt d=>
   cases w4
   intro v σ4 H4 F4 R4 fx4 st4 ow4 s4
   have s5:=s3.seq s4
   have f5:=(fx'.trans fx3).trans fx4
   obtain⟨F5,G5,st5,pm5⟩:=k7 (R:=R) st4 (lent s5 f5)
   refine q v σ4 H4 F5 R4 (fxx f5) st5 ow4 ((s1.trans s5 cR).less (C:=G5) ?_)
   rw[List.append_assoc]
   refine (List.Perm.append_left F5 List.perm_append_comm).trans ?_
   rw[← List.append_assoc]
   refine (List.Perm.append_right R4 pm5).trans ?_
   rw[List.append_assoc,List.append_assoc]
   exact List.Perm.append_left _ List.perm_append_comm
 ·have hi:i=ds.length:=by lia
  subst hi
  refine .inl ⟨it.stop H' s'.tup (keepR s'),?_⟩
  rw[List.drop_of_length_le (Nat.le_refl _)] at hw
  cases hw
  exact leave q fx' st' s'
end
section
variable {X:Cx}
theorem ix {fix fx:List Nat}{tg iter:Expr}{body:List Stmt}{g:M (List Im×Option (Nat×Vl))}{gt:MG}{gb:MS}{pos:Pos} (hp:PassesOwn (model X.prog X.w) X.A X.env X.xe) (hc:X.calm=true) (hi:VI X tg iter g) (hg:VG X fx tg gt) (hb:VSs X fx body gb)
  (hf:∀ i∈fix,i∈fx) (hs:∀ D r D',g D=some (r,D')→eM fx r.2) (hfs:∀ x,foldedSetIterable iter X.env x=pure x:=by intro _;rfl):VS X fix (.For tg iter body [] pos) (dR g gt gb):=
 wz hp hc hi hg hb hf hs (tY hp hc hi hg hb hfs)
noncomputable def iSq (K:PySem.W.Frag) (tl:TE):TI:=fun σ H R=>tl σ H fun x H1=>∃ a,x=.ref a∧(((∃ xs,SqL K H1 a xs)∧R (Itl K a) H1)∨((∃ xs,SqT K H1 a xs)∧R (Itt K a) H1))
theorem wA {tg l:Expr}{tl:TE} (hl:PE X l tl):PI X tg l (iSq X.K tl):=by
 intro pins s σ H R I h
 refine thn (hl pins s σ H _ I h) fun v s1 ⟨x,H1,I1,r1,q1⟩=>?_
 obtain⟨a,e,q⟩:=q1
 subst e
 cases r1
 rcases q with ⟨⟨xs,hq⟩,q⟩ | ⟨⟨xs,hq⟩,q⟩
 ·obtain⟨its,rv,p,hz⟩:=I1.list hq
  refine wpAny_pyIter_list p.isList ?_
  refine⟨s1.heap.objs.size,[s1.heap.objs.size],_,_,H1,rfl,I1.kept (t':=s1.toks) fun b o e=>Heap.get?_push_of_some _ e,tN a _,⟨_,Heap.get?_push_size _ rfl,rfl,rfl⟩,fun b hb=>?_,q⟩
  have e:b=s1.heap.objs.size:=by simpa using hb
  subst e
  exact I1.fpOk (Nat.le_refl _) (I1.hok.fresh (Nat.le_refl _))
 ·obtain⟨its,rv,p,hz⟩:=I1.tuple hq
  refine wpAny_pyIter_tuple (show s1.heap.IsTuple a its.toArray from p) ?_
  refine⟨s1.heap.objs.size,[s1.heap.objs.size],_,_,H1,rfl,I1.kept (t':=s1.toks) fun b o e=>Heap.get?_push_of_some _ e,tQ a _,⟨_,Heap.get?_push_size _ rfl,rfl,rfl⟩,fun b hb=>?_,q⟩
  have e:b=s1.heap.objs.size:=by simpa using hb
  subst e
  exact I1.fpOk (Nat.le_refl _) (I1.hok.fresh (Nat.le_refl _))
theorem ak.get {H:Hp}:∀ {ds:List Im}{vs:List V}{i:Nat}{d:Im},ak H ds vs→ds[i]?=some d→∃ v,vs[i]?=some v∧IsI H d v
 | [],_,_,_,_,e=>by simp at e
 | d::ds,_,0,_,h,e=>by
  obtain⟨v,r,rfl,h1,h2⟩:=h
  simp at e
  subst e
  exact⟨v,rfl,h1⟩
 | d::ds,_,i+1,_,h,e=>by
  obtain⟨v,r,rfl,h1,h2⟩:=h
  obtain⟨u,g1,g2⟩:=ak.get (i:=i) h2 (by simpa using e)
  exact⟨u,by simpa using g1,g2⟩
theorem wB {K:PySem.W.Frag}{H:Hp}{a:Addr}{xs:List V}{ds:List Im} (h:H a=some (.lst xs)) (hd:ak H ds xs):ItOk (Itl K a) H [a] ds where
 go:=fun H' t k i d e=>by
  obtain⟨v,g1,g2⟩:=hd.get e
  have h':=SqL.of (K:=K) (k a (.head _) _ h)
  refine⟨⟨xs,v,h',g1⟩,fun x H'' ⟨e1,e2⟩=>?_⟩
  subst e1
  rw[e2 xs h'] at g1
  cases g1
  exact⟨ap.refl _,g2.mono t.tup⟩
 stop:=fun H' t k=>⟨xs,SqL.of (k a (.head _) _ h),by rw[← hd.length];exact Nat.le_refl _⟩
theorem wC {K:PySem.W.Frag}{H:Hp}{a:Addr}{xs:List V}{o:Obj}{ds:List Im} (h:H a=some (.frz o (.lst xs))) (hd:ak H ds xs):ItOk (Itl K a) H [] ds where
 go:=fun H' t k i d e=>by
  obtain⟨v,g1,g2⟩:=hd.get e
  have h':SqL K H' a xs:=.inl (.inr ⟨o,t.frz _ _ _ h⟩)
  refine⟨⟨xs,v,h',g1⟩,fun x H'' ⟨e1,e2⟩=>?_⟩
  subst e1
  rw[e2 xs h'] at g1
  cases g1
  exact⟨ap.refl _,g2.mono t.tup⟩
 stop:=fun H' t k=>⟨xs,.inl (.inr ⟨o,t.frz _ _ _ h⟩),by rw[← hd.length];exact Nat.le_refl _⟩
theorem wD {K:PySem.W.Frag}{H:Hp}{a:Addr}{xs:List V}{ds:List Im} (h:H a=some (.tup xs)) (hd:ak H ds xs):ItOk (Itt K a) H [] ds where
 go:=fun H' t k i d e=>by
  obtain⟨v,g1,g2⟩:=hd.get e
  have h':=SqT.of (K:=K) (t.tup a _ h)
  refine⟨⟨xs,v,h',g1⟩,fun x H'' ⟨e1,e2⟩=>?_⟩
  subst e1
  rw[e2 xs h'] at g1
  cases g1
  exact⟨ap.refl _,g2.mono t.tup⟩
 stop:=fun H' t k=>⟨xs,SqT.of (t.tup a _ h),by rw[← hd.length];exact Nat.le_refl _⟩
noncomputable abbrev MI:=M (List Im×Option (Nat×Vl))
@[simp] noncomputable def cL (d:Vl):Option (List Im):=match d with
 | .im (.tup ds)=>some ds
 | .lst ds=>some ds
 | .fz ds=>some ds
 | _=>none
@[simp] noncomputable def bt (g:M Opd):MI:=fun D=>(g D).bind fun p=>match p.1 with
 | .vl d=>(cL d).map fun ds=>((ds,none),p.2)
 | .sl i=>(cu i p.2).bind fun q=>(cL q.1).map fun ds=>((ds,if q.1.cp=true then none else some (i,q.1)),q.2)
theorem oE {K:PySem.W.Frag}{H:Hp}{d:Vl}{v:V}{R:List Addr}{ds:List Im} (w:Own H d v R) (e:cL d=some ds):
  ∃ a,v=.ref a∧(((∃ xs,SqL K H a xs)∧ItOk (Itl K a) H R ds)∨((∃ xs,SqT K H a xs)∧ItOk (Itt K a) H R ds)):=by
 unfold cL at e
 split at e
 ·cases e
  obtain⟨⟨a,xs,rfl,h1,h2⟩,rfl⟩:=w
  exact⟨a,rfl,.inr ⟨⟨xs,SqT.of h1⟩,wD h1 h2⟩⟩
 ·cases e
  obtain⟨a,xs,rfl,h1,h2,rfl⟩:=w
  exact⟨a,rfl,.inl ⟨⟨xs,SqL.of h1⟩,wB h1 h2⟩⟩
 ·cases e
  obtain⟨a,xs,o,rfl,h1,h2,rfl⟩:=w
  exact⟨a,rfl,.inl ⟨⟨xs,.inl (.inr ⟨o,h1⟩)⟩,wC h1 h2⟩⟩
 ·cases e
theorem dS {tg l:Expr}{g:M Opd} (h:VO X l g):VI X tg l (bt g):=by
 refine iw (wA h) fun σ H Rk ⟨D,F,r,D',st,nd,hg,q⟩=>?_
 obtain⟨⟨x,D1⟩,h1,h2⟩:=Option.bind_eq_some_iff.mp hg
 refine⟨D,F,x,D1,st,nd,h1,fun v H1 F1 R st1 o1 s1=>?_⟩
 cases x with
 | vl d=>
  obtain⟨ds,h3,h4⟩:=Option.map_eq_some_iff.mp h2
  cases h4
  obtain⟨a,rfl,hh⟩:=oE (K:=X.K) o1 h3
  refine⟨a,rfl,?_⟩
  rcases hh with ⟨hx,it⟩ | ⟨hx,it⟩
  ·exact .inl ⟨hx,q _ H1 F1 R st1 it trivial (Own.chg o1) s1⟩
  ·exact .inr ⟨hx,q _ H1 F1 R st1 it trivial (Own.chg o1) s1⟩
 | sl i=>
  obtain⟨⟨d,D2⟩,h3,h4⟩:=Option.bind_eq_some_iff.mp h2
  obtain⟨ds,h5,h6⟩:=Option.map_eq_some_iff.mp h4
  cases h6
  obtain⟨v',F2,R2,g1,g2,g3,g4⟩:=ou st1 h3
  obtain⟨o1,rfl⟩:=o1
  rw[o1] at g1
  cases g1
  rw[List.append_nil] at s1
  have s2:=s1.permR g4.symm
  obtain⟨a,rfl,hh⟩:=oE (K:=X.K) g2 h5
  have ln:ir H1 σ R2 (if d.cp=true then none else some (i,d)):=by
   split
   ·trivial
   ·exact⟨_,o1,g2⟩
  refine⟨a,rfl,?_⟩
  rcases hh with ⟨hx,it⟩ | ⟨hx,it⟩
  ·exact .inl ⟨hx,q _ H1 F2 R2 g3 it ln g2.chg s2⟩
  ·exact .inr ⟨hx,q _ H1 F2 R2 g3 it ln g2.chg s2⟩
theorem wE {fx:List Nat}{g:M Vl}:∀ D r D',bt (oV g) D=some (r,D')→eM fx r.2:=by
 intro D r D' h
 obtain⟨⟨x,D1⟩,h1,h2⟩:=Option.bind_eq_some_iff.mp h
 unfold oV at h1
 obtain⟨p,h3,h4⟩:=Option.map_eq_some_iff.mp h1
 cases h4
 obtain⟨ds,h5,h6⟩:=Option.map_eq_some_iff.mp h2
 cases h6
 trivial
theorem wF {fx:List Nat}{i:Nat} (hi:i∈fx):∀ D r D',bt (oSl i) D=some (r,D')→eM fx r.2:=by
 intro D r D' h
 obtain⟨⟨x,D1⟩,h1,h2⟩:=Option.bind_eq_some_iff.mp h
 unfold oSl at h1
 split at h1
 ·cases h1
  obtain⟨⟨d,D2⟩,h3,h4⟩:=Option.bind_eq_some_iff.mp h2
  obtain⟨ds,h5,h6⟩:=Option.map_eq_some_iff.mp h4
  cases h6
  show eM fx (if d.cp=true then none else some (i,d))
  split
  ·trivial
  ·exact hi
 ·cases h1
noncomputable def ba (lo:Int) (n:Nat):List Im:=(List.range n).map fun (k:Nat)=>Im.int (lo+(k:Int))
theorem oF {H:Hp}{lo:Int}{n:Nat}:ItOk (Itr lo n) H [] (ba lo n) where
 go:=fun H' t k i d e=>by
  have hi:i<n:=by
   have:=(List.getElem?_eq_some_iff.mp e).1
   rwa [ba,List.length_map,List.length_range] at this
  refine⟨hi,fun x H'' ⟨e1,e2⟩=>?_⟩
  subst e1
  rw[ba,List.getElem?_map,List.getElem?_range hi] at e
  cases e
  exact⟨ap.refl _,e2⟩
 stop:=fun H' t k=>by
  show n≤_
  rw[ba,List.length_map,List.length_range]
  exact Nat.le_refl _
noncomputable def small (i:Int):Prop := -1000000≤i∧i≤1000000
noncomputable instance (i:Int):Decidable (small i):=inferInstanceAs (Decidable (_∧_))
@[simp] noncomputable def iR1 (g:M (List Opd)):MI:=fun D=>(g D).bind fun p=>(bW p.2 p.1).bind fun ds=>match ds with
 | [.im (.int j)]=>if small j then some ((ba 0 j.toNat,none),p.2) else none
 | _=>none
@[simp] noncomputable def iR2 (g:M (List Opd)):MI:=fun D=>(g D).bind fun p=>(bW p.2 p.1).bind fun ds=>match ds with
 | [.im (.int i),.im (.int j)]=>if small i∧small j then some ((ba i (j - i).toNat,none),p.2) else none
 | _=>none
theorem jo {H:Hp}{d:Im}{vs:List V} (h:en H [.im d] vs):∃ v,vs=[v]∧IsI H d v:=by
 obtain⟨v,r,rfl,⟨R,h1,_⟩,h2⟩:=h
 cases (show r=[] from h2)
 exact⟨v,rfl,h1⟩
theorem oG {H:Hp}{d e:Im}{vs:List V} (h:en H [.im d,.im e] vs):∃ v u,vs=[v,u]∧IsI H d v∧IsI H e u:=by
 obtain⟨v,r,rfl,⟨R,h1,_⟩,h2⟩:=h
 obtain⟨u,rfl,h3⟩:=jo h2
 exact⟨v,u,rfl,h1,h3⟩
theorem k8 {tg a:Expr}{g:M (List Opd)}{p pos:Pos} (hg:Gl X "range") (hm:X.mg "range" = none) (ha:VA X [a] g) (hs:starEach [a] X.env=[(false,eval a X.env)]:=by rfl):VI X tg (.Call (.Name "range" p) [a] [] pos) (iR1 g):=by
 refine iw (tW hg hm ha hs) fun σ H Rk ⟨D,F,r,D',st,nd,hgg,q⟩=>?_
 obtain⟨⟨os,D1⟩,h1,h2⟩:=Option.bind_eq_some_iff.mp hgg
 obtain⟨ds,h3,h4⟩:=Option.bind_eq_some_iff.mp h2
 refine⟨D,F,os,D1,st,nd,h1,fun vs H1 F1 R1 st1 o1 s1=>?_⟩
 have rd:=o1.read st1 h3
 split at h4
 ·rename_i j
  split at h4
  ·rename_i hj
   cases h4
   obtain⟨v,rfl,e⟩:=jo rd
   cases (show v=.int j from e)
   exact⟨j,rfl,by have:=hj.1;lia,by have:=hj.2;lia,q _ H1 F1 [] st1 oF trivial (fun a ha=>nomatch ha) (by rw[List.append_nil];exact s1.less (List.Perm.refl _))⟩
  ·cases h4
 ·cases h4
theorem wG {tg a b:Expr}{g:M (List Opd)}{p pos:Pos} (hg:Gl X "range") (hm:X.mg "range" = none) (ha:VA X [a,b] g) (hs:starEach [a,b] X.env=[(false,eval a X.env),(false,eval b X.env)]:=by rfl) (hs2:starEach [b] X.env=[(false,eval b X.env)]:=by rfl):VI X tg (.Call (.Name "range" p) [a,b] [] pos) (iR2 g):=by
 refine iw (tX hg hm ha hs hs2) fun σ H Rk ⟨D,F,r,D',st,nd,hgg,q⟩=>?_
 obtain⟨⟨os,D1⟩,h1,h2⟩:=Option.bind_eq_some_iff.mp hgg
 obtain⟨ds,h3,h4⟩:=Option.bind_eq_some_iff.mp h2
 refine⟨D,F,os,D1,st,nd,h1,fun vs H1 F1 R1 st1 o1 s1=>?_⟩
 have rd:=o1.read st1 h3
 split at h4
 ·rename_i i j
  split at h4
  ·rename_i hj
   cases h4
   obtain⟨v,u,rfl,e,e'⟩:=oG rd
   cases (show v=.int i from e)
   cases (show u=.int j from e')
   obtain⟨⟨a1,a2⟩,b1,b2⟩:=hj
   exact⟨i,j,rfl,⟨by lia,by lia,by lia,by lia⟩,q _ H1 F1 [] st1 oF trivial (fun a ha=>nomatch ha) (by rw[List.append_nil];exact s1.less (List.Perm.refl _))⟩
  ·cases h4
 ·cases h4
theorem oH {fx:List Nat}{g:M (List Opd)}:∀ D r D',iR1 g D=some (r,D')→eM fx r.2:=by
 intro D r D' h
 obtain⟨⟨os,D1⟩,h1,h2⟩:=Option.bind_eq_some_iff.mp h
 obtain⟨ds,h3,h4⟩:=Option.bind_eq_some_iff.mp h2
 split at h4
 ·split at h4
  ·cases h4;trivial
  ·cases h4
 ·cases h4
noncomputable def VTs (X:Cx) (ifs:List Expr) (g:M Bool):Prop:=PTs X ifs (tVT g)
noncomputable def kYes:M Bool:=fun D=>some (true,D)
theorem df:VTs X [] kYes:=by
 intro pins s σ H Q I ⟨D,F,b,D',st,nd,hg,q⟩
 cases hg
 exact vE pins s σ H Q I (q H F st (Stp.perm nd (List.Perm.refl _)))
theorem wH {c:Expr}{g:M Bool} (h:VT X c g):VTs X [c] g:=vF h
@[simp] noncomputable def du (caps:List Nat) (D:SD):SD:=caps.map fun i=>D.getD i none
noncomputable def dv:List Nat→SD→SD
 | [],D=>D
 | i::r,D=>dv r (match D[i]? with | some (some _)=>D.set i (some .jk) | _=>D)
@[simp] noncomputable def cx:List Nat→SD→SD→SD
 | i::r,o::C,D=>cx r C (D.set i o)
 | _,_,D=>D
noncomputable def bY (own : Nat) (tg : MG) (c : M Bool) (e : M Vl) : List Im → List Im → SD → Option (List Im × SD)
  | [], acc, C => some (acc, C)
  | x :: r, acc, C => (tg (.im x) (List.replicate own none ++ C)).bind fun D1 => (c D1).bind fun p => if p.1 = true then (e p.2).bind fun q => match q.1 with
      | .im d => if acc.length < 100000 then bY own tg c e r (acc ++ [d]) (q.2.drop own) else none
      | _ => none
    else bY own tg c e r acc (p.2.drop own)
@[simp] noncomputable def aO (own:Nat) (caps:List Nat) (gi:MI) (tg:MG) (c:M Bool) (e:M Vl):M Vl:=fun D=>(gi D).bind fun p=>(bY own tg c e p.1.1 [] (du caps p.2)).map fun q=>(.lst q.1,rst p.1.2 (cx caps q.2 p.2))
noncomputable def iy (own n:Nat):List Nat:=(List.range n).map (·+own)
theorem wI {D:SD}{i:Nat}{o:Option Vl} (h:D[i]?=some o):D.getD i none=o:=by rw[List.getD_eq_getElem?_getD,h];rfl
theorem ai.void {H:Hp}{D:SD}{σ:St}{F:List Addr} (st:ai H D σ F) (i:Nat):∃ F1 F2,ai H (match D[i]? with | some (some _)=>D.set i (some .jk) | _=>D) σ F1∧ej H (D.getD i none) (σ.getD i none) F2∧(F1++F2).Perm F:=by
 split
 ·rename_i d hd
  obtain⟨v,F1,F2,h1,h2,h3,h4⟩:=st.out hd
  refine⟨F2,F1,h3,?_,h4⟩
  rw[wI hd,List.getD_eq_getElem?_getD,h1]
  exact⟨v,rfl,h2⟩
 ·rename_i hn
  refine⟨F,[],st,?_,by rw[List.append_nil]⟩
  have:D.getD i none=none:=by
   rw[List.getD_eq_getElem?_getD]
   cases e:D[i]? with
   | none=>rfl
   | some o=>
    cases o with
    | none=>rfl
    | some d=>exact absurd e (hn d)
  rw[this]
  exact rfl
theorem oI {H:Hp}{σ:St}:∀ {caps:List Nat}{D:SD}{F:List Addr},caps.Nodup→ai H D σ F→∃ F1 F2,ai H (dv caps D) σ F1∧ai H (du caps D) (caps.map fun i=>σ.getD i none) F2∧(F1++F2).Perm F
 | [],D,F,_,st=>⟨F,[],st,⟨rfl,rfl⟩,by rw[List.append_nil]⟩
 | i::r,D,F,nd,st=>by
  obtain⟨F1,F2,h1,h2,h3⟩:=st.void i
  have hn:=List.nodup_cons.mp nd
  obtain⟨F3,F4,g1,g2,g3⟩:=oI (caps:=r) hn.2 h1
  refine⟨F3,F2++F4,g1,⟨_,_,F2,F4,rfl,h2,?_,rfl⟩,dt.trans ((List.Perm.append_left _ g3).trans (List.perm_append_comm.trans h3))⟩
  have e:du r (match D[i]? with | some (some _)=>D.set i (some .jk) | _=>D)=du r D:=by
   unfold du
   refine List.map_congr_left fun j hj=>?_
   split
   ·rw[List.getD_eq_getElem?_getD,List.getD_eq_getElem?_getD,List.getElem?_set_ne]
    rintro rfl
    exact hn.1 hj
   ·rfl
  rw[e] at g2
  exact g2
theorem ai.putO {H:Hp}{D:SD}{σ:St}{F G:List Addr}{i:Nat}{o:Option Vl} (st:ai H D σ F) (h:ej H o (σ.getD i none) G):∃ F1 F2,ai H (D.set i o) σ F1∧(F1++F2).Perm (F++G):=by
 cases o with
 | some d=>
  obtain⟨v,e,w⟩:=h
  refine st.back w ?_
  rw[List.getD_eq_getElem?_getD] at e
  cases q:σ[i]? with
  | none=>rw[q] at e;cases e
  | some x=>rw[q] at e;rw[show x=some v from e]
 | none=>
  cases (show G=[] from h)
  rw[List.append_nil]
  by_cases hi:i<D.length
  ·cases q:D[i]? with
   | none=>exact absurd (List.getElem?_eq_none_iff.mp q) (by lia)
   | some x=>
    cases x with
    | none=>
     refine⟨F,[],?_,by rw[List.append_nil]⟩
     have:D.set i none=D:=by
      refine List.ext_getElem? fun j=>?_
      by_cases e:i=j
      ·subst e;rw[q,List.getElem?_set_self hi]
      ·rw[List.getElem?_set_ne e]
     rw[this]
     exact st
    | some d=>
     obtain⟨v,F1,F2,h1,h2,h3,h4⟩:=st.out q
     have gen:∀ {D:SD}{σ:St}{F:List Addr}{i:Nat},ai H D σ F→∃ F1 F2,ai H (D.set i none) σ F1∧(F1++F2).Perm F:=by
      intro D
      induction D with
      | nil=>intro σ F i st;exact⟨F,[],by simpa using st,by rw[List.append_nil]⟩
      | cons o D ih=>
       intro σ F i st
       obtain⟨x,r,A,B,rfl,s1,s2,rfl⟩:=st
       cases i with
       | zero=>exact⟨B,A,⟨x,r,[],B,rfl,rfl,s2,rfl⟩,List.perm_append_comm⟩
       | succ i=>
        obtain⟨C,E,c1,c2⟩:=ih (i:=i) s2
        refine⟨A++C,E,⟨x,r,A,C,rfl,s1,c1,rfl⟩,?_⟩
        rw[List.append_assoc]
        exact List.Perm.append_left _ c2
     exact gen st
  ·refine⟨F,[],?_,by rw[List.append_nil]⟩
   rw[List.set_eq_of_length_le (by lia)]
   exact st
theorem oJ {H:Hp}{σ:St}:∀ {caps:List Nat}{C D:SD}{F G:List Addr},ai H D σ F→ai H C (caps.map fun i=>σ.getD i none) G→∃ F1 F2,ai H (cx caps C D) σ F1∧(F1++F2).Perm (F++G)
 | [],C,D,F,G,st,_=>⟨F,G,by cases C<;>exact st,List.Perm.refl _⟩
 | i::r,[],D,F,G,st,h=>⟨F,G,st,List.Perm.refl _⟩
 | i::r,o::C,D,F,G,st,h=>by
  obtain⟨x,t,G1,G2,e,h1,h2,rfl⟩:=h
  cases e
  obtain⟨F1,A,g1,g2⟩:=st.putO h1
  obtain⟨F2,B,k1,k2⟩:=oJ (caps:=r) (C:=C) g1 h2
  refine⟨F2,B++A,k1,?_⟩
  rw[← List.append_assoc,← List.append_assoc]
  refine (List.Perm.append_right A k2).trans ?_
  rw[List.append_assoc]
  refine (List.Perm.append_left F1 List.perm_append_comm).trans ?_
  rw[← List.append_assoc]
  exact List.Perm.append_right _ g2
theorem wJ:∀ {caps:List Nat}{C D:SD},caps.length=C.length→caps.Nodup→cx caps C (dv caps D)=cx caps C D:=by
 -- what is put over is forgotten
 have comm:∀ {r:List Nat}{C D:SD}{i:Nat}{o:Option Vl},i∉r→cx r C (D.set i o)=(cx r C D).set i o:=by
  intro r
  induction r with
  | nil=>intro C D i o _;cases C<;>rfl
  | cons j r ih=>
   intro C D i o h
   cases C with
   | nil=>rfl
   | cons c C=>
    have hj:i≠j:=fun e=>h (by rw[e];exact .head _)
    show cx r C ((D.set i o).set j c)=(cx r C (D.set j c)).set i o
    rw[List.set_comm _ _ hj,ih fun z=>h (.tail _ z)]
 have jcomm:∀ {r:List Nat}{D:SD}{i:Nat}{o:Option Vl},i∉r→dv r (D.set i o)=(dv r D).set i o:=by
  intro r
  induction r with
  | nil=>intro D i o _;rfl
  | cons j r ih=>
   intro D i o h
   have hj:i≠j:=fun e=>h (by rw[e];exact .head _)
   show dv r (match (D.set i o)[j]? with | some (some _)=>(D.set i o).set j (some .jk) | _=>D.set i o)=(dv r (match D[j]? with | some (some _)=>D.set j (some .jk) | _=>D)).set i o
   rw[List.getElem?_set_ne hj]
   cases D[j]? with
   | none=>exact ih fun z=>h (.tail _ z)
   | some q=>
    cases q with
    | none=>exact ih fun z=>h (.tail _ z)
    | some d=>
     show dv r ((D.set i o).set j (some .jk))=_
     rw[List.set_comm _ _ hj]
     exact ih fun z=>h (.tail _ z)
 intro caps
 induction caps with
 | nil=>intro C D _ _;cases C<;>rfl
 | cons i r ih=>
  intro C D hl nd
  have hn:=List.nodup_cons.mp nd
  cases C with
  | nil=>cases hl
  | cons c C=>
   have hl':r.length=C.length:=by simpa using hl
   show cx r C ((dv r (match D[i]? with | some (some _)=>D.set i (some .jk) | _=>D)).set i c)=cx r C (D.set i c)
   split
   ·rw[jcomm hn.1,List.set_set,← jcomm hn.1,ih hl' hn.2]
   ·rw[← jcomm hn.1,ih hl' hn.2]
theorem oK {H:Hp}{D:SD}{r:St}{F:List Addr} (h:ai H D r F):∀ {own:List Str},ai H (List.replicate own.length none++D) (own.map (fun _=>none)++r) F
 | []=>h
 | x::own=>⟨none,_,[],F,rfl,rfl,oK h (own:=own),rfl⟩
theorem k9 {H:Hp}:∀ {n:Nat}{D:SD}{σ:St}{F:List Addr},ai H D σ F→∃ F1 F2,ai H (D.drop n) (σ.drop n) F1∧(F1++F2).Perm F
 | 0,D,σ,F,h=>⟨F,[],h,by rw[List.append_nil]⟩
 | n+1,[],σ,F,h=>by
  cases h.1
  exact⟨[],F,⟨rfl,rfl⟩,List.Perm.refl _⟩
 | n+1,o::D,σ,F,h=>by
  obtain⟨x,r,A,B,rfl,h1,h2,rfl⟩:=h
  obtain⟨F1,F2,g1,g2⟩:=k9 (n:=n) h2
  exact⟨F1,F2++A,g1,by rw[← List.append_assoc];exact (List.Perm.append_right A g2).trans List.perm_append_comm⟩
theorem Stp.both {H H1:Hp}{F F1 R:List Addr} (a:Stp H F H1 (F1++R)):Stp H F H1 F1:=a.less (List.Perm.refl _)
theorem ak.snoc {H:Hp}:∀ {ds:List Im}{vs:List V}{d:Im}{v:V},ak H ds vs→IsI H d v→ak H (ds++[d]) (vs++[v])
 | [],vs,d,v,h,w=>by cases (show vs=[] from h);exact⟨v,[],rfl,w,rfl⟩
 | e::ds,vs,d,v,h,w=>by
  obtain⟨u,r,rfl,h1,h2⟩:=h
  exact⟨u,r++[v],rfl,h1,h2.snoc w⟩
theorem oM {own:List Str}{caps:List Nat}{gi:MI}{gt:MG}{gc:M Bool}{ge:M Vl}{σ:St}{H:Hp}{Q:VK} (nd:caps.Nodup) (h:tV (aO own.length caps gi gt gc ge) σ H Q):
  ja own caps (tI gi) (fun _=>tG (iy own.length caps.length) gt) (fun _=>tVT gc) (fun _=>tV ge) σ H Q:=by
 obtain⟨D,F,r,D',st,ndF,hgg,q⟩:=h
 obtain⟨⟨⟨xs,o⟩,D1⟩,h1,h2⟩:=Option.bind_eq_some_iff.mp hgg
 obtain⟨⟨ds,C'⟩,h3,h4⟩:=Option.map_eq_some_iff.mp h2
 cases h4
 refine⟨D,F,(xs,o),D1,st,ndF,h1,fun J H1 F1 R st1 it ln cR s1 Y=>?_⟩
 obtain⟨Fo,Fc,so,sc,pm⟩:=oI nd st1
 have s2:Stp H F H1 (Fc++(Fo++R)):=s1.permR (by
  refine (List.Perm.append_right R pm.symm).trans ?_
  rw[List.append_assoc]
  exact dt)
 have nd2:=List.nodup_append.mp s2.nd
 have cO:∀ x∈Fo++R,Chg H1 x:=fun x hx=>by
  rcases List.mem_append.mp hx with hx | hx
  ·exact so.chg x hx
  ·exact cR x hx
 have keepO:∀ {H2:Hp}{F2:List Addr},Stp H1 Fc H2 F2→∀ a∈Fo++R,∀ u,H1 a=some u→H2 a=some u:=fun s a ha u e=>s.keep a u e fun h=>nd2.2.2 a h a ha rfl
 refine⟨fun i m ys H'=>m+i=xs.length∧∃ acc C Fc',ai H' C (caps.map fun i=>σ.getD i none) Fc'∧C.length=caps.length∧Stp H1 Fc H' Fc'∧ak H' acc ys∧bY own.length gt gc ge (xs.drop i) acc C=some (ds,C'),
  ⟨xs.length,rfl,[],du caps D1,Fc,sc,by rw[du,List.length_map],Stp.perm nd2.1 (List.Perm.refl _),rfl,h3⟩,?_⟩
 rintro i m ys H' ⟨hm,acc,C,Fc',sC,lC,s',hys,hw⟩
 by_cases hlt:i<xs.length
 ·obtain⟨hgo,hy⟩:=it.go H' s'.tup (fun a ha=>keepO s' a (List.mem_append_right _ ha)) i xs[i] (by simp[hlt])
  rw[List.drop_eq_getElem_cons hlt,bY] at hw
  obtain⟨D3,w1,w2⟩:=Option.bind_eq_some_iff.mp hw
  obtain⟨⟨b,D4⟩,w3,w4⟩:=Option.bind_eq_some_iff.mp w2
  refine .inr ⟨hgo,fun ys2 H2=>(m - 1)+(i+1)=xs.length∧∃ acc C Fc',ai H2 C (caps.map fun i=>σ.getD i none) Fc'∧C.length=caps.length∧Stp H1 Fc H2 Fc'∧ak H2 acc ys2∧bY own.length gt gc ge (xs.drop (i+1)) acc C=some (ds,C'),fun ys2 H2 h=>⟨m - 1,by lia,h⟩,fun x H2 hx=>?_⟩
  obtain⟨sm,isx⟩:=hy x H2 hx
  have sC2:=sC.mono sm.tupS fun a _ o e=>sm a o e
  have s2':=s'.same sm
  have hys2:=hys.mono sm.tupS.tup
  refine⟨List.replicate own.length none++C,Fc',.im xs[i],[],D3,oK sC2,⟨isx,rfl⟩,by rw[List.append_nil];exact s2'.nd,w1,fun σ3 H3 F3 fx3 st3 sg=>⟨fun j v hj=>?_,?_⟩⟩
  ·-- captured names stay
   have hlen:own.length≤j:=by
    by_cases hjo:j<own.length
    ·rw[c6,List.getElem?_append_left (by simpa using hjo),List.getElem?_map] at hj
     cases e:own[j]? with
     | none=>rw[e] at hj;cases hj
     | some z=>rw[e] at hj;cases hj
    ·lia
   have hlt2:j<own.length+caps.length:=by
    have:=(List.getElem?_eq_some_iff.mp hj).1
    rwa [c6,List.length_append,List.length_map,List.length_map] at this
   have hm:j∈iy own.length caps.length:=List.mem_map.mpr ⟨j - own.length,List.mem_range.mpr (by lia),by lia⟩
   exact (fx3.2 j hm).trans hj
  ·have s3:Stp H1 Fc H3 F3:=s2'.seq (by rw[List.append_nil] at sg;exact sg)
   have hys2:=hys2.mono sg.tup.tup
   have σdrop:σ3.drop own.length=caps.map fun i=>σ.getD i none:=by
    have hl3:=st3.len
    refine List.ext_getElem? fun j=>?_
    by_cases hj:j<caps.length
    ·have hm:j+own.length∈iy own.length caps.length:=List.mem_map.mpr ⟨j,List.mem_range.mpr hj,rfl⟩
     have:=fx3.2 _ hm
     rw[List.getElem?_drop,Nat.add_comm,this,c6,List.getElem?_append_right (by simp),List.length_map,Nat.add_sub_cancel]
    ·have l1:σ3.length≤own.length+caps.length:=by
      rw[fx3.1,c6,List.length_append,List.length_map,List.length_map]
      exact Nat.le_refl _
     rw[List.getElem?_eq_none (by rw[List.length_drop];lia),List.getElem?_eq_none (by rw[List.length_map];lia)]
   have lσ:σ3.length=own.length+caps.length:=by rw[fx3.1,c6,List.length_append,List.length_map,List.length_map]
   refine⟨D3,F3,b,D4,st3,s3.nd,w3,fun H4 F4 st4 s4=>?_⟩
   have s5:=s3.seq s4
   dsimp only at w4 ⊢
   cases b with
   | false=>
    rw[if_neg Bool.false_ne_true] at w4 ⊢
    obtain⟨F5,G5,st5,pm5⟩:=k9 (n:=own.length) st4
    rw[σdrop] at st5
    exact⟨by lia,acc,D4.drop own.length,F5,st5,by rw[List.length_drop,st4.len,lσ];lia,s5.less pm5,hys2.mono s4.tup.tup,w4⟩
   | true=>
    rw[if_pos rfl] at w4 ⊢
    obtain⟨⟨v,D5⟩,w5,w6⟩:=Option.bind_eq_some_iff.mp w4
    dsimp only at w6
    split at w6
    ·rename_i d
     split at w6
     ·rename_i hl
      refine⟨D4,F4,.im d,D5,st4,s5.nd,w5,fun u H5 F5 R5 st5 ow s6=>?_⟩
      obtain⟨iu,rfl⟩:=ow
      rw[List.append_nil] at s6
      have hacc:=(hys2.mono s4.tup.tup).mono s6.tup.tup
      refine⟨Nat.lt_of_le_of_lt (show ys.length≤100000 by rw[← hacc.length];lia) (by decide),?_⟩
      obtain⟨F6,G6,st6,pm6⟩:=k9 (n:=own.length) st5
      rw[σdrop] at st6
      exact⟨by lia,acc++[d],D5.drop own.length,F6,st6,by rw[List.length_drop,st5.len,lσ];lia,(s5.seq s6).less pm6,hacc.snoc iu,w6⟩
     ·cases w6
    ·cases w6
 ·have hi:i=xs.length:=by lia
  subst hi
  refine .inl ⟨it.stop H' s'.tup (fun a ha=>keepO s' a (List.mem_append_right _ ha)),fun Dn hDn=>?_⟩
  rw[List.drop_of_length_le (Nat.le_refl _),bY] at hw
  cases hw
  have so':ai H' (dv caps D1) σ Fo:=so.mono s'.tup fun a ha=>keepO s' a (List.mem_append_left _ ha)
  obtain⟨F4,G4,st4,pm4⟩:=oJ so' sC
  rw[wJ (by rw[lC]) nd] at st4
  have ln':ir H' σ R o:=by
   cases o with
   | none=>trivial
   | some p=>
    obtain⟨i,d⟩:=p
    obtain⟨v,e1,e2⟩:=ln
    exact⟨v,e1,e2.mono s'.tup fun a ha=>keepO s' a (List.mem_append_right _ ha)⟩
  obtain⟨F5,G5,st5,pm5⟩:=k7 (R:=R) st4 ln'
  have sm:ap H' (upd H' Dn (.lst ys)):=(ap.refl H').upd hDn
  have s5:Stp H F H' F5:=(s2.trans s' cO).less (C:=G5++G4) (by
   rw[← List.append_assoc]
   refine (List.Perm.append_right G4 pm5).trans ?_
   rw[List.append_assoc]
   refine (List.Perm.append_left F4 List.perm_append_comm).trans ?_
   rw[← List.append_assoc]
   refine (List.Perm.append_right R pm4).trans ?_
   rw[List.append_assoc]
   exact dt)
  exact q _ _ F5 [Dn] (st5.mono sm.tupS fun a _ o e=>sm a o e) ⟨Dn,ys,rfl,bD,hys.mono sm.tupS.tup,rfl⟩ (s5.add hDn st5.chg)
theorem dg {tg iter elt:Expr}{ifs:List Expr}{scope:Scope}{pos:Pos}{own:List Str}{caps:List Nat}{gi:MI}{gt:MG}{gc:M Bool}{ge:M Vl} (hc:X.calm=true) (S:CompScope X scope own caps) (nd:caps.Nodup) (hi:VI X tg iter gi)
  (hg:∀ Y,VG (X.blk (bI X own caps) scope Y) (iy own.length caps.length) tg gt) (ht:∀ Y,VTs (X.blk (bI X own caps) scope Y) ifs gc) (he:∀ Y,VE (X.blk (bI X own caps) scope Y) elt ge)
  (hs:∀ x,foldedSetIterable iter X.env x=pure x:=by intro _;rfl):VE X (.ListComp elt [⟨tg,iter,ifs,0⟩] scope pos) (aO own.length caps gi gt gc ge):=
 a5 (vI hc S hi hg ht he hs) fun σ H Q h=>oM nd h
end
@[simp] noncomputable def dh (fix:List Nat):List Vl→SD→Nat→List Vl
 | d::ds,o::D,j=>(if d.cp=true then d else if j∈fix then o.getD .jk else .jk)::dh fix ds D (j+1)
 | d::ds,[],j=>(if d.cp=true then d else .jk)::dh fix ds [] (j+1)
 | [],_,_=>[]
@[simp] noncomputable def aX (n m:Nat) (fix:List Nat) (g:MS):Fn:=fun ds=>if ds.length=n then match g (ds.map some++List.replicate (m - n) none) with
 | some (.rt r,D)=>some (r,dh fix ds D 0)
 | some (.nx,D)=>some (.im .non,dh fix ds D 0)
 | _=>none else none
theorem oN {H:Hp}:∀ {ds:List Vl}{vs:List V}{F:List Addr}{m:Nat},aJ H ds vs F→ai H (ds.map some++List.replicate m none) (vs.map some++List.replicate m none) F
 | [],vs,F,m,h=>by
  obtain⟨rfl,rfl⟩:=h
  show ai H (List.replicate m none) (List.replicate m none) []
  induction m with
  | zero=>exact⟨rfl,rfl⟩
  | succ m ih=>exact⟨none,_,[],[],rfl,rfl,ih,rfl⟩
 | d::ds,vs,F,m,h=>by
  obtain⟨v,r,F1,F2,rfl,h1,h2,rfl⟩:=h
  exact⟨some v,_,F1,F2,rfl,⟨v,rfl,h1⟩,oN h2,rfl⟩
theorem lc {H H':Hp}{fix:List Nat} (t:StayS H H'):∀ {ds:List Vl}{vs:List V}{F0:List Addr}{D:SD}{σ:St}{F:List Addr}{j0:Nat},aJ H ds vs F0→ai H' D σ F→(∀ (j:Nat) (v:V),(j0+j)∈fix→vs[j]?=some v→σ[j]?=some (some v))→
  ∃ R G,aJ H' (dh fix ds D j0) vs R∧(R++G).Perm F
 | [],vs,F0,D,σ,F,j0,h,st,_=>⟨[],F,by unfold dh;exact⟨h.1,rfl⟩,List.Perm.refl _⟩
 | d::ds,vs,F0,[],σ,F,j0,h,st,k=>by
  obtain⟨v,r,A,B,rfl,h1,h2,rfl⟩:=h
  obtain⟨rfl,rfl⟩:=st
  obtain⟨R,G,g1,g2⟩:=lc (D:=[]) (σ:=[]) (F:=[]) (j0:=j0+1) t h2 ⟨rfl,rfl⟩ fun j v hj hv=>by
   have:=k (j+1) v (by rw[show j0+(j+1)=j0+1+j by lia];exact hj) (by simpa using hv)
   simp at this
  rw[dh]
  refine⟨R,G,⟨v,r,[],R,rfl,?_,g1,rfl⟩,g2⟩
  split
  ·rename_i hc
   have:=h1.mono t fun a ha=>by rw[h1.cp hc] at ha;cases ha
   rw[h1.cp hc] at this
   exact this
  ·exact rfl
 | d::ds,vs,F0,o::D,σ,F,j0,h,st,k=>by
  obtain⟨v,r,A,B,rfl,h1,h2,rfl⟩:=h
  obtain⟨x,s,C,E,rfl,s1,s2,rfl⟩:=st
  obtain⟨R,G,g1,g2⟩:=lc (D:=D) (σ:=s) (j0:=j0+1) t h2 s2 fun j v hj hv=>by
   have:=k (j+1) v (by rw[show j0+(j+1)=j0+1+j by lia];exact hj) (by simpa using hv)
   simpa using this
  rw[dh]
  split
  ·rename_i hc
   have hm:=h1.mono t fun a ha=>by rw[h1.cp hc] at ha;cases ha
   rw[h1.cp hc] at hm
   refine⟨R,G++C,⟨v,r,[],R,rfl,hm,g1,rfl⟩,?_⟩
   rw[← List.append_assoc]
   exact (List.Perm.append_right C g2).trans List.perm_append_comm
  ·split
   ·rename_i hf
    have hx:x=some v:=by
     have:=k 0 v hf rfl
     simpa using this
    subst hx
    cases o with
    | none=>
     refine⟨R,G++C,⟨v,r,[],R,rfl,rfl,g1,rfl⟩,?_⟩
     rw[← List.append_assoc]
     exact (List.Perm.append_right C g2).trans List.perm_append_comm
    | some e=>
     obtain⟨v',e1,w⟩:=s1
     cases e1
     refine⟨C++R,G,⟨v,r,C,R,rfl,w,g1,rfl⟩,?_⟩
     rw[List.append_assoc]
     exact List.Perm.append_left _ g2
   ·refine⟨R,G++C,⟨v,r,[],R,rfl,rfl,g1,rfl⟩,?_⟩
    rw[← List.append_assoc]
    exact (List.Perm.append_right C g2).trans List.perm_append_comm
section
variable {P:Program}{w:World}{K:PySem.W.Frag}{mg:Str→Option Value}{base:Heap}
theorem fnV {x qual:Str}{st:Stmt}{f:Addr}{fd:FuncData}{N ps:List Str}{k n:Nat}{fix:List Nat}{g:MS} (F:Fun K x qual st f fd) (S:FnScope N ps (ao st)) (hn:ps.length=n) (hfx:∀ i∈fix,i<n)
  (hb:∀ (cdv:Value) (A:Around) (outer:List Env) (s:Shared) (H:Hp) (E:XK),Room k (A.deeper (envOfC qual (ao st) s.heap.objs.size f cdv))→VSs (fC CX0 P w K mg base N qual (ao st) f cdv A outer s H E).nox fix (aP st) g):
  FnOk P w K mg base CX0 (k+1) f fd ps (spV n (aX n N.length fix g)):=by
 refine F.ok S (fun vs H Q E h=>h.1.trans hn.symm) (fun cdv A outer s H vs Q E hr h=>⟨_,hb cdv A outer s H E hr,?_⟩)
 obtain⟨hl,ds,F0,r,outs,ow,nd,hg,q⟩:=h
 have hdl:ds.length=n:=ow.length.trans hl
 unfold aX at hg
 rw[if_pos hdl] at hg
 have st:=oN (m:=N.length - n) ow
 have es:dl N vs=vs.map some++List.replicate (N.length - n) none:=by unfold dl;rw[hl]
 rw[es]
 have fin:∀ {σ':St}{H':Hp}{F':List Addr}{D':SD}{v:V}{R:List Addr},dh fix ds D' 0=outs→aN fix (vs.map some++List.replicate (N.length - n) none) σ'→ai H' D' σ' F'→Own H' r v R→Stp H F0 H' (F'++R)→Q v H':=fun {σ' H' F' D' v R} eo fx st' wr s'=>by
  obtain⟨R2,G,g1,g2⟩:=lc (fix:=fix) (j0:=0) s'.tup ow st' fun j v hj hv=>by
   rw[Nat.zero_add] at hj
   rw[fx.2 j hj,List.getElem?_append_left (by rw[List.length_map];exact (List.getElem?_eq_some_iff.mp hv).1),List.getElem?_map,hv]
   rfl
  rw[eo] at g1
  refine q v H' R R2 wr g1 (s'.less (C:=G) ?_)
  rw[List.append_assoc]
  exact (List.Perm.append_left R g2).trans List.perm_append_comm
 split at hg
 ·rename_i r' D' e
  cases hg
  exact⟨_,F0,.rt r,D',st,nd,e,fun v σ' H' F' R fx st' wr s'=>fin rfl fx st' wr s'⟩
 ·rename_i D' e
  cases hg
  exact⟨_,F0,.nx,D',st,nd,e,fun σ' H' F' fx st' s'=>fin rfl fx st' ⟨rfl,rfl⟩ (by rw[List.append_nil];exact s')⟩
 ·cases hg
end
noncomputable def Out (H:Hp) (d:Vl) (Q:VK):Prop:=∀ v H' R,ap H H'→Own H' d v R→R.Nodup→(∀ a∈R,H a=none)→Q v H'
theorem Out.imS {H H':Hp}{d:Im}{Q:VK}{v:V} (q:Out H (.im d) Q) (s:ap H H') (h:IsI H' d v):Q v H':=q v H' [] s ⟨h,rfl⟩ List.nodup_nil (fun a ha=>nomatch ha)
theorem Out.i {H:Hp}{d:Im}{Q:VK}{v:V} (q:Out H (.im d) Q) (h:IsI H d v):Q v H:=q.imS (ap.refl H) h
theorem Out.l {H:Hp}{ds:List Im}{xs:List V}{Q:VK}{p:Addr} (q:Out H (.lst ds) Q) (hp:H p=none) (h:ak H ds xs):Q (.ref p) (upd H p (.lst xs)):=by
 have s:ap H (upd H p (.lst xs)):=(ap.refl H).upd hp
 exact q _ _ [p] s ⟨p,xs,rfl,bD,h.mono s.tupS.tup,rfl⟩ (List.pairwise_singleton _ _) fun a ha=>by rw[List.mem_singleton.mp ha];exact hp
theorem Out.t {H:Hp}{ds:List Im}{xs:List V}{Q:VK}{p:Addr} (q:Out H (.im (.tup ds)) Q) (hp:H p=none) (h:ak H ds xs):Q (.ref p) (upd H p (.tup xs)):=by
 have s:ap H (upd H p (.tup xs)):=(ap.refl H).upd hp
 exact q.imS s ⟨p,xs,rfl,bD,h.mono s.tupS.tup⟩
section
variable {X:Cx}
theorem OpR.imp {f:Value→Value→Sem Value}{r r':R2} (h:OpR X f r) (i:∀ x y H Q,r' x y H Q→r x y H Q):OpR X f r':=fun pins s σ H x y v u Q I rx ry hh=>h pins s σ H x y v u Q I rx ry (i x y H Q hh)
theorem bn.imp {f:Value}{r r':List V→Hp→VK→Prop} (h:bn X f r) (i:∀ xs H Q,r' xs H Q→r xs H Q):bn X f r':=fun pins s σ H xs us Q I rx hh=>h pins s σ H xs us Q I rx (i xs H Q hh)
theorem IxR.imp {r r':R2} (h:IxR X r) (i:∀ x y H Q,r' x y H Q→r x y H Q):IxR X r':=fun e1 e2 pins s σ H x y v u Q I rx ry hh=>h e1 e2 pins s σ H x y v u Q I rx ry (i x y H Q hh)
theorem Rdb.i {H:Hp}{d:Im}{v:V} (h:Rdb H (.im d) v):IsI H d v:=h.elim fun _ w=>w.1
end
noncomputable abbrev Op2:=Vl→Vl→Option Vl
@[simp] noncomputable def cy (C:Int→Int→Bool) (g:Int→Int→Im):Op2:=fun a b=>match a,b with
 | .im (.int i),.im (.int j)=>if C i j=true then some (.im (g i j)) else none
 | _,_=>none
theorem oO {C:Int→Int→Bool}{g:Int→Int→Im}{a b d:Vl} (h:cy C g a b=some d):∃ i j,a=.im (.int i)∧b=.im (.int j)∧C i j=true∧d=.im (g i j):=by
 unfold cy at h
 split at h
 ·rename_i i j
  split at h
  ·rename_i hc
   cases h
   exact⟨i,j,rfl,rfl,hc,rfl⟩
  ·cases h
 ·cases h
section
variable {X:Cx}
theorem jp {f:Value→Value→Sem Value}{C:Int→Int→Prop}{B:Int→Int→Bool}{g:Int→Int→V}{h:Int→Int→Im} (o:OpR X f (rI C g)) (hB:∀ i j,B i j=true→C i j) (hg:∀ H i j,IsI H (h i j) (g i j)):OpV X f (cy B h):=
 o.imp fun x y H Q ⟨d1,d2,d,r1,r2,e,q⟩=>by
  obtain⟨i,j,rfl,rfl,hc,rfl⟩:=oO e
  exact⟨i,j,r1.i,r2.i,hB i j hc,Out.i q (hg H i j)⟩
theorem iz {f:Value→Value→Sem Value}{g:Int→Int→V}{h:Int→Int→Im} (o:OpR X f (rI0 g)) (hg:∀ H i j,IsI H (h i j) (g i j)):OpV X f (cy (fun _ _=>true) h):=
 o.imp fun x y H Q ⟨d1,d2,d,r1,r2,e,q⟩=>by
  obtain⟨i,j,rfl,rfl,hc,rfl⟩:=oO e
  exact⟨i,j,r1.i,r2.i,Out.i q (hg H i j)⟩
@[simp] noncomputable def vSub:Op2:=cy (fun _ _=>true) fun i j=>.int (i - j)
noncomputable def bN (i j:Int):Bool:=!(decide (Builtin.Int.intBits i > shortFactorBits) && decide (Builtin.Int.intBits j > shortFactorBits) && Builtin.Int.intTooBig (Builtin.Int.intBits i+Builtin.Int.intBits j))
@[simp] noncomputable def vMul:Op2:=cy bN fun i j=>.int (i * j)
@[simp] noncomputable def vDiv:Op2:=cy (fun _ j=>decide (0<j∧j<1073741824)) fun i j=>.int (i / j)
@[simp] noncomputable def vMod:Op2:=cy (fun _ j=>decide (0<j)) fun i j=>.int (i % j)
@[simp] noncomputable def vPow:Op2:=cy (fun i j=>decide (0≤j∧j≤1000000∧i.natAbs<2 ^ 64)) fun i j=>.int (i ^ j.toNat)
@[simp] noncomputable def vLt:Op2:=cy (fun _ _=>true) fun i j=>.bl (decide (i<j))
@[simp] noncomputable def vLe:Op2:=cy (fun _ _=>true) fun i j=>.bl (decide (i≤j))
@[simp] noncomputable def vGt:Op2:=cy (fun _ _=>true) fun i j=>.bl (decide (j<i))
@[simp] noncomputable def vGe:Op2:=cy (fun _ _=>true) fun i j=>.bl (decide (j≤i))
theorem cM:OpV X (binaryOp .Sub) vSub:=iz t9 fun _ _ _=>rfl
theorem cN:OpV X (binaryOp .Mult) vMul:=jp wn (fun i j h=>by unfold bN at h;unfold IntMulOk;rw[Bool.not_eq_true'] at h;rw[h];exact Bool.false_ne_true) fun _ _ _=>rfl
theorem gC:OpV X (binaryOp .FloorDiv) vDiv:=jp ua (fun i j h=>show 0<j∧j<1073741824 from of_decide_eq_true h) fun _ _ _=>rfl
theorem dw:OpV X (binaryOp .Mod) vMod:=jp uc (fun i j h=>of_decide_eq_true h) fun _ _ _=>rfl
theorem jq:OpV X (binaryOp .Pow) vPow:=jp ud (fun i j h=>show 0≤j∧j≤1000000∧i.natAbs<2 ^ 64 from of_decide_eq_true h) fun _ _ _=>rfl
theorem gD:OpV X (compareOp .Lt) vLt:=iz uf fun _ _ _=>rfl
theorem oP:OpV X (compareOp .LtE) vLe:=iz ug fun _ _ _=>rfl
theorem jr:OpV X (compareOp .Gt) vGt:=iz uh fun _ _ _=>rfl
theorem ld:OpV X (compareOp .GtE) vGe:=iz ui fun _ _ _=>rfl
theorem wK:OpR X (binaryOp .Add) (fun x y H Q=>∃ a b ys,x=.ref a∧y=.ref b∧SqT X.K H a []∧SqT X.K H b ys∧Q (.ref b) H):=by
 intro pins s σ H x y v u Q I rx ry h
 obtain⟨a,b,ys,rfl,rfl,ha,hb,q⟩:=h
 cases rx
 cases ry
 obtain⟨its,r1,p1,_⟩:=I.tuple ha
 obtain⟨its2,r2,p2,_⟩:=I.tuple hb
 have e:its=[]:=r1.nil_iff.mpr rfl
 subst e
 obtain⟨⟨cls,dd,data,sl⟩,ho,hc,n,hd⟩:=id p1
 obtain⟨⟨cls2,dd2,data2,sl2⟩,ho2,hc2,n2,hd2⟩:=id p2
 simp only at hc hd hc2 hd2
 subst hc hd hc2 hd2
 exact concat_meets ⟨_,ho,rfl⟩ ⟨_,ho2,rfl⟩ noFill_tuple_add seq_tuple_add PySem.F.slot_tuple_add PySem.F.entry_tuple_add (PySem.F.args_tuple_add_2 _ _) (tuple_addW0 a b _ _ n n2 dd dd2 sl sl2 rfl) ⟨ho,ho2,.ref b,H,I,rfl,q⟩
@[simp] noncomputable def vAdd:Op2:=fun a b=>match a,b with
 | .im (.int i),.im (.int j)=>some (.im (.int (i+j)))
 | .im (.tup x),.im (.tup y)=>if x.length+y.length≤100000 then some (.im (.tup (x++y))) else none
 | .lst x,.lst y=>if x.length+y.length≤100000 then some (.lst (x++y)) else none
 | .im (.str x),.im (.str y)=>if x.length+y.length≤100000 then some (.im (.str (x++y))) else none
 | _,_=>none
theorem ak.app {H:Hp}:∀ {a b:List Im}{x y:List V},ak H a x→ak H b y→ak H (a++b) (x++y)
 | [],b,x,y,h,k=>by cases (show x=[] from h);exact k
 | d::a,b,x,y,h,k=>by
  obtain⟨v,r,rfl,h1,h2⟩:=h
  exact⟨v,r++y,rfl,h1,h2.app k⟩
theorem ak.nil {H:Hp}{a:List Im} (h:ak H a []):a=[]:=by
 cases a with
 | nil=>rfl
 | cons d a=>obtain⟨_,_,e,_⟩:=h;cases e
theorem bj:OpV X (binaryOp .Add) vAdd:=by
 refine (t7.or (wK.or (uV.or (vk.or uu)))).imp fun x y H Q ⟨d1,d2,d,r1,r2,e,q⟩=>?_
 unfold vAdd at e
 split at e
 ·cases e
  exact .inl ⟨_,_,r1.i,r2.i,Out.i q rfl⟩
 ·rename_i a b
  split at e
  ·rename_i hl
   cases e
   obtain⟨p,xs,rfl,h1,h2⟩:=r1.i
   obtain⟨p',ys,rfl,h3,h4⟩:=r2.i
   refine .inr ?_
   by_cases hx:xs=[]
   ·subst hx
    cases h2.nil
    exact .inl ⟨p,p',ys,rfl,rfl,SqT.of h1,SqT.of h3,Out.i q ⟨p',ys,rfl,h3,h4⟩⟩
   ·refine .inr (.inl ⟨p,p',xs,ys,rfl,rfl,SqT.of h1,SqT.of h3,hx,et (by rw[← h2.length,← h4.length];exact hl),fun hy=>?_,fun hy n hn=>Out.t q hn (h2.app h4)⟩)
    subst hy
    cases h4.nil
    rw[List.append_nil] at q
    exact Out.i q ⟨p,xs,rfl,h1,h2⟩
  ·cases e
 ·rename_i a b
  split at e
  ·rename_i hl
   cases e
   obtain⟨_,p,xs,rfl,h1,h2,_⟩:=r1
   obtain⟨_,p',ys,rfl,h3,h4,_⟩:=r2
   exact .inr (.inr (.inr (.inl ⟨p,p',xs,ys,rfl,rfl,h1,h3,et (by rw[← h2.length,← h4.length];exact hl),fun n hn=>Out.l q hn (h2.app h4)⟩)))
  ·cases e
 ·rename_i a b
  split at e
  ·rename_i hl
   cases e
   exact .inr (.inr (.inr (.inr ⟨a,b,r1.i,r2.i,et hl,Out.i q rfl⟩)))
  ·cases e
 ·cases e
theorem wL {s:Shared} (n:Nat) {A:Around}{x y:Im}{u v:Value} (kx:Im.pl n x=true) (ky:Im.pl n y=true) (hu:A.units+n+2<cLine) (hx:ImV s.heap x u) (hy:ImV s.heap y v):SeqAt.RcAt A s u v (aB x y):=by
 cases x with
 | non=>
  cases (show u=.none from hx)
  cases y with
  | non=>cases (show v=.none from hy);exact SeqAt.RcAt.none_none
  | bl b=>cases (show v=.bool b from hy);exact SeqAt.RcAt.none_bool b
  | int j=>obtain⟨t,rfl⟩:=hy;exact SeqAt.RcAt.none_int j t
  | str z=>obtain⟨t,rfl⟩:=hy;exact SeqAt.RcAt.none_str z t
  | tup ds=>obtain⟨a,o,items,m,rfl,h1,h2,h3,_⟩:=hy;exact SeqAt.RcAt.none_tuple ⟨o,h1,h2,m,h3⟩ (by lia)
  | fn a=>cases n<;>cases ky
  | fl a=>cases n<;>cases ky
 | bl b=>
  cases (show u=.bool b from hx)
  cases y with
  | non=>cases (show v=.none from hy);exact SeqAt.RcAt.bool_none b
  | bl c=>cases (show v=.bool c from hy);exact SeqAt.RcAt.bool_bool b c
  | int j=>obtain⟨t,rfl⟩:=hy;exact SeqAt.RcAt.bool_int b j t
  | str z=>obtain⟨t,rfl⟩:=hy;exact SeqAt.RcAt.bool_str b z t
  | tup ds=>obtain⟨a,o,items,m,rfl,h1,h2,h3,_⟩:=hy;exact SeqAt.RcAt.bool_tuple b ⟨o,h1,h2,m,h3⟩ (by lia)
  | fn a=>cases n<;>cases ky
  | fl a=>cases n<;>cases ky
 | int i=>
  obtain⟨t0,rfl⟩:=hx
  cases y with
  | non=>cases (show v=.none from hy);exact SeqAt.RcAt.int_none i t0
  | bl c=>cases (show v=.bool c from hy);exact SeqAt.RcAt.int_bool i t0 c
  | int j=>obtain⟨t,rfl⟩:=hy;exact SeqAt.RcAt.int_int i t0 j t
  | str z=>obtain⟨t,rfl⟩:=hy;exact SeqAt.RcAt.int_str i t0 z t
  | tup ds=>obtain⟨a,o,items,m,rfl,h1,h2,h3,_⟩:=hy;exact SeqAt.RcAt.int_tuple i t0 ⟨o,h1,h2,m,h3⟩ (by lia)
  | fn a=>cases n<;>cases ky
  | fl a=>cases n<;>cases ky
 | str i=>
  obtain⟨t0,rfl⟩:=hx
  cases y with
  | non=>cases (show v=.none from hy);exact SeqAt.RcAt.str_none i t0
  | bl c=>cases (show v=.bool c from hy);exact SeqAt.RcAt.str_bool i t0 c
  | int j=>obtain⟨t,rfl⟩:=hy;exact SeqAt.RcAt.str_int i t0 j t
  | str z=>obtain⟨t,rfl⟩:=hy;exact SeqAt.RcAt.str_str i t0 z t
  | tup ds=>obtain⟨a,o,items,m,rfl,h1,h2,h3,_⟩:=hy;exact SeqAt.RcAt.str_tuple i t0 ⟨o,h1,h2,m,h3⟩ (by lia)
  | fn a=>cases n<;>cases ky
  | fl a=>cases n<;>cases ky
 | fn a=>cases n<;>cases kx
 | fl a=>cases n<;>cases kx
 | tup ds=>
  cases n with
  | zero=>cases kx
  | succ n=>
  obtain⟨a,o,items,m,rfl,h1,h2,h3,h4⟩:=hx
  have ta:s.heap.IsTuple a items:=⟨o,h1,h2,m,h3⟩
  cases y with
  | non=>cases (show v=.none from hy);exact SeqAt.RcAt.tuple_none ta (by lia)
  | bl c=>cases (show v=.bool c from hy);exact SeqAt.RcAt.tuple_bool c ta (by lia)
  | int j=>obtain⟨t,rfl⟩:=hy;exact SeqAt.RcAt.tuple_int j t ta (by lia)
  | str z=>obtain⟨t,rfl⟩:=hy;exact SeqAt.RcAt.tuple_str z t ta (by lia)
  | fn a=>cases ky
  | fl a=>cases ky
  | tup es=>
   obtain⟨b,o',items',m',rfl,g1,g2,g3,g4⟩:=hy
   have tb:s.heap.IsTuple b items':=⟨o',g1,g2,m',g3⟩
   have l1:=h4.length
   have l2:=g4.length
   have l3:items.toList.length=items.size:=by simp
   have l4:items'.toList.length=items'.size:=by simp
   rw[l3] at l1
   rw[l4] at l2
   have q:=SeqAt.RcAt.tuples (A:=A) (e:=fun j=>aB (ds.getD j .non) (es.getD j .non)) ta tb (by lia) fun j j1 j2=>by
    obtain⟨d1,e1,r1⟩:=h4.get (j:=j) (v:=items[j]) (by rw[Array.getElem?_toList];simp[j1])
    obtain⟨d2,e2,r2⟩:=g4.get (j:=j) (v:=items'[j]) (by rw[Array.getElem?_toList];simp[j2])
    rw[List.getD_eq_getElem?_getD,e1,List.getD_eq_getElem?_getD,e2]
    exact gf n (cZ kx e1) (cZ ky e2) (by show A.units+1+n+1<cLine;lia) r1 r2
   rw[← l1,← l2,hU (ds:=ds) (es:=es) (fun j x y a b=>by rw[List.getD_eq_getElem?_getD,a,List.getD_eq_getElem?_getD,b];rfl)] at q
   rw[aB]
   exact q
@[simp] noncomputable def vEq:Op2:=fun a b=>match a,b with
 | .im x,.im y=>if (Im.pl 8 x && Im.pl 8 y)=true then some (.im (.bl (aB x y))) else none
 | .lst x,.lst y=>if (Im.pls 8 x && Im.pls 8 y)=true then some (.im (.bl (bm x y))) else none
 | _,_=>none
theorem lf:∀ {x y:List Im},x.length≠y.length→bm x y=false
 | [],[],h=>absurd rfl h
 | [],_::_,_=>rfl
 | _::_,[],_=>rfl
 | a::x,b::y,h=>by
  rw[bm,lf (fun e=>h (by rw[List.length_cons,List.length_cons,e])),Bool.and_false]
theorem js {pins:List (Addr×Obj)}{σ:St}{H:Hp}{s:Shared} (I:Inv X pins σ H s) {a:Addr}{xs:List V}{ds:List Im} (h1:H a=some (.lst xs)) (h2:ak H ds xs):∃ its:List Value,s.heap.IsList a its.toArray∧bA s.heap ds its∧its.length=ds.length:=by
 obtain⟨z,its,n,rv,e⟩:=I.hok a _ h1
 have:=h2.imv I.hok rv
 exact⟨its,⟨_,e,rfl,n,rfl⟩,this,this.length.symm⟩
theorem iA (hu:X.A.units+20<cLine):OpV X (compareOp .Eq) vEq:=by
 intro pins s σ H x y v u Q I rx ry ⟨d1,d2,d,r1,r2,e,q⟩
 unfold vEq at e
 split at e
 ·rename_i a b
  split at e
  ·rename_i hp
   cases e
   rw[Bool.and_eq_true] at hp
   exact wL 8 hp.1 hp.2 (by lia) (r1.i.imv I.hok rx) (r2.i.imv I.hok ry) X.prog X.w _ _ ⟨.bl _,H,I,rfl,Out.i q rfl⟩
  ·cases e
 ·rename_i a b
  split at e
  ·rename_i hp
   cases e
   rw[Bool.and_eq_true] at hp
   obtain⟨_,p,xs,rfl,h1,h2,_⟩:=r1
   obtain⟨_,p',ys,rfl,h3,h4,_⟩:=r2
   cases rx
   cases ry
   obtain⟨i1,l1,v1,n1⟩:=js I h1 h2
   obtain⟨i2,l2,v2,n2⟩:=js I h3 h4
   by_cases hl:a.length=b.length
   ·have:=SeqAt.RcAt.lists (A:=X.A) (e:=fun j=>aB (a.getD j .non) (b.getD j .non)) l1 l2 (by rw[List.size_toArray,List.size_toArray,n1,n2];exact hl) (by lia) fun j j1 j2=>by
     obtain⟨d1,e1,r1⟩:=v1.get (j:=j) (v:=i1.toArray[j]) (by simp at j1;simp[j1])
     obtain⟨d2,e2,r2⟩:=v2.get (j:=j) (v:=i2.toArray[j]) (by simp at j2;simp[j2])
     rw[List.getD_eq_getElem?_getD,e1,List.getD_eq_getElem?_getD,e2]
     exact gf 8 (cZ hp.1 e1) (cZ hp.2 e2) (by show X.A.units+1+8+1<cLine;lia) r1 r2
    refine this X.prog X.w _ _ ⟨.bl _,H,I,rfl,?_⟩
    have e5:=hU (ds:=a) (es:=b) (e:=fun j=>aB (a.getD j .non) (b.getD j .non)) (fun j x y a b=>by rw[List.getD_eq_getElem?_getD,a,List.getD_eq_getElem?_getD,b];rfl)
    rw[← hl,Nat.min_self,beq_self_eq_true,Bool.and_true] at e5
    rw[List.size_toArray,n1,e5]
    exact Out.i q rfl
   ·refine SeqAt.RcAt.lists_lengths (A:=X.A) l1 l2 (by rw[List.size_toArray,List.size_toArray,n1,n2];simpa using hl) (by lia) X.prog X.w _ _ ⟨.bl _,H,I,rfl,?_⟩
    rw[lf hl] at q
    exact Out.i q rfl
  ·cases e
 ·cases e
end
section
variable {X:Cx}
theorem wM {s:Shared} (n:Nat) {A:Around}{x y:Im}{u v:Value} (kx:Im.pl n x=true) (ky:Im.pl n y=true) (hu:A.units+n+2<cLine) (hx:ImV s.heap x u) (hy:ImV s.heap y v):SeqAt.RcNeAt A s u v (!aB x y):=by
 cases x with
 | non=>
  cases (show u=.none from hx)
  cases y with
  | non=>cases (show v=.none from hy);exact SeqAt.RcNeAt.none_none
  | bl b=>cases (show v=.bool b from hy);exact SeqAt.RcNeAt.none_bool b
  | int j=>obtain⟨t,rfl⟩:=hy;exact SeqAt.RcNeAt.none_int j t
  | str z=>obtain⟨t,rfl⟩:=hy;exact SeqAt.RcNeAt.none_str z t
  | tup ds=>obtain⟨a,o,items,m,rfl,h1,h2,h3,_⟩:=hy;exact SeqAt.RcNeAt.none_tuple ⟨o,h1,h2,m,h3⟩ (by lia)
  | fn a=>cases n<;>cases ky
  | fl a=>cases n<;>cases ky
 | bl b=>
  cases (show u=.bool b from hx)
  cases y with
  | non=>cases (show v=.none from hy);exact SeqAt.RcNeAt.bool_none b
  | bl c=>cases (show v=.bool c from hy);exact SeqAt.RcNeAt.bool_bool b c
  | int j=>obtain⟨t,rfl⟩:=hy;exact SeqAt.RcNeAt.bool_int b j t
  | str z=>obtain⟨t,rfl⟩:=hy;exact SeqAt.RcNeAt.bool_str b z t
  | tup ds=>obtain⟨a,o,items,m,rfl,h1,h2,h3,_⟩:=hy;exact SeqAt.RcNeAt.bool_tuple b ⟨o,h1,h2,m,h3⟩ (by lia)
  | fn a=>cases n<;>cases ky
  | fl a=>cases n<;>cases ky
 | int i=>
  obtain⟨t0,rfl⟩:=hx
  cases y with
  | non=>cases (show v=.none from hy);exact SeqAt.RcNeAt.int_none i t0
  | bl c=>cases (show v=.bool c from hy);exact SeqAt.RcNeAt.int_bool i t0 c
  | int j=>obtain⟨t,rfl⟩:=hy;exact SeqAt.RcNeAt.int_int i t0 j t
  | str z=>obtain⟨t,rfl⟩:=hy;exact SeqAt.RcNeAt.int_str i t0 z t
  | tup ds=>obtain⟨a,o,items,m,rfl,h1,h2,h3,_⟩:=hy;exact SeqAt.RcNeAt.int_tuple i t0 ⟨o,h1,h2,m,h3⟩ (by lia)
  | fn a=>cases n<;>cases ky
  | fl a=>cases n<;>cases ky
 | str i=>
  obtain⟨t0,rfl⟩:=hx
  cases y with
  | non=>cases (show v=.none from hy);exact SeqAt.RcNeAt.str_none i t0
  | bl c=>cases (show v=.bool c from hy);exact SeqAt.RcNeAt.str_bool i t0 c
  | int j=>obtain⟨t,rfl⟩:=hy;exact SeqAt.RcNeAt.str_int i t0 j t
  | str z=>obtain⟨t,rfl⟩:=hy;exact SeqAt.RcNeAt.str_str i t0 z t
  | tup ds=>obtain⟨a,o,items,m,rfl,h1,h2,h3,_⟩:=hy;exact SeqAt.RcNeAt.str_tuple i t0 ⟨o,h1,h2,m,h3⟩ (by lia)
  | fn a=>cases n<;>cases ky
  | fl a=>cases n<;>cases ky
 | fn a=>cases n<;>cases kx
 | fl a=>cases n<;>cases kx
 | tup ds=>
  cases n with
  | zero=>cases kx
  | succ n=>
  obtain⟨a,o,items,m,rfl,h1,h2,h3,h4⟩:=hx
  have ta:s.heap.IsTuple a items:=⟨o,h1,h2,m,h3⟩
  cases y with
  | non=>cases (show v=.none from hy);exact SeqAt.RcNeAt.tuple_none ta (by lia)
  | bl c=>cases (show v=.bool c from hy);exact SeqAt.RcNeAt.tuple_bool c ta (by lia)
  | int j=>obtain⟨t,rfl⟩:=hy;exact SeqAt.RcNeAt.tuple_int j t ta (by lia)
  | str z=>obtain⟨t,rfl⟩:=hy;exact SeqAt.RcNeAt.tuple_str z t ta (by lia)
  | fn a=>cases ky
  | fl a=>cases ky
  | tup es=>
   obtain⟨b,o',items',m',rfl,g1,g2,g3,g4⟩:=hy
   have tb:s.heap.IsTuple b items':=⟨o',g1,g2,m',g3⟩
   have l1:=h4.length
   have l2:=g4.length
   have l3:items.toList.length=items.size:=by simp
   have l4:items'.toList.length=items'.size:=by simp
   rw[l3] at l1
   rw[l4] at l2
   have q:=SeqAt.RcNeAt.tuples (A:=A) (e:=fun j=>aB (ds.getD j .non) (es.getD j .non)) ta tb (by lia) fun j j1 j2=>by
    obtain⟨d1,e1,r1⟩:=h4.get (j:=j) (v:=items[j]) (by rw[Array.getElem?_toList];simp[j1])
    obtain⟨d2,e2,r2⟩:=g4.get (j:=j) (v:=items'[j]) (by rw[Array.getElem?_toList];simp[j2])
    rw[List.getD_eq_getElem?_getD,e1,List.getD_eq_getElem?_getD,e2]
    exact gf n (cZ kx e1) (cZ ky e2) (by show A.units+1+n+1<cLine;lia) r1 r2
   rw[← l1,← l2,hU (ds:=ds) (es:=es) (fun j x y a b=>by rw[List.getD_eq_getElem?_getD,a,List.getD_eq_getElem?_getD,b];rfl)] at q
   rw[aB]
   exact q
@[simp] noncomputable def vNe:Op2:=fun a b=>match a,b with
 | .im x,.im y=>if (Im.pl 8 x && Im.pl 8 y)=true then some (.im (.bl (!aB x y))) else none
 | .lst x,.lst y=>if (Im.pls 8 x && Im.pls 8 y)=true then some (.im (.bl (!bm x y))) else none
 | _,_=>none
theorem jt (hu:X.A.units+20<cLine):OpV X (compareOp .NotEq) vNe:=by
 intro pins s σ H x y v u Q I rx ry ⟨d1,d2,d,r1,r2,e,q⟩
 unfold vNe at e
 split at e
 ·rename_i a b
  split at e
  ·rename_i hp
   cases e
   rw[Bool.and_eq_true] at hp
   exact wM 8 hp.1 hp.2 (by lia) (r1.i.imv I.hok rx) (r2.i.imv I.hok ry) X.prog X.w _ _ ⟨.bl _,H,I,rfl,Out.i q rfl⟩
  ·cases e
 ·rename_i a b
  split at e
  ·rename_i hp
   cases e
   rw[Bool.and_eq_true] at hp
   obtain⟨_,p,xs,rfl,h1,h2,_⟩:=r1
   obtain⟨_,p',ys,rfl,h3,h4,_⟩:=r2
   cases rx
   cases ry
   obtain⟨i1,l1,v1,n1⟩:=js I h1 h2
   obtain⟨i2,l2,v2,n2⟩:=js I h3 h4
   by_cases hl:a.length=b.length
   ·have:=SeqAt.RcNeAt.lists (A:=X.A) (e:=fun j=>aB (a.getD j .non) (b.getD j .non)) l1 l2 (by rw[List.size_toArray,List.size_toArray,n1,n2];exact hl) (by lia) fun j j1 j2=>by
     obtain⟨d1,e1,r1⟩:=v1.get (j:=j) (v:=i1.toArray[j]) (by simp at j1;simp[j1])
     obtain⟨d2,e2,r2⟩:=v2.get (j:=j) (v:=i2.toArray[j]) (by simp at j2;simp[j2])
     rw[List.getD_eq_getElem?_getD,e1,List.getD_eq_getElem?_getD,e2]
     exact gf 8 (cZ hp.1 e1) (cZ hp.2 e2) (by show X.A.units+1+8+1<cLine;lia) r1 r2
    refine this X.prog X.w _ _ ⟨.bl _,H,I,rfl,?_⟩
    have e5:=hU (ds:=a) (es:=b) (e:=fun j=>aB (a.getD j .non) (b.getD j .non)) (fun j x y a b=>by rw[List.getD_eq_getElem?_getD,a,List.getD_eq_getElem?_getD,b];rfl)
    rw[← hl,Nat.min_self,beq_self_eq_true,Bool.and_true] at e5
    rw[List.size_toArray,n1,e5]
    exact Out.i q rfl
   ·refine SeqAt.RcNeAt.lists_lengths (A:=X.A) l1 l2 (by rw[List.size_toArray,List.size_toArray,n1,n2];simpa using hl) (by lia) X.prog X.w _ _ ⟨.bl _,H,I,rfl,?_⟩
    rw[lf hl] at q
    exact Out.i q rfl
  ·cases e
 ·cases e
@[simp] noncomputable def oIs (n:Bool):Op2:=fun a b=>match a,b with
 | .im x,.im .non=>some (.im (.bl (n != decide (x=.non))))
 | .im (.bl x),.im (.bl y)=>some (.im (.bl (n != (x == y))))
 | _,_=>none
theorem oQ {H:Hp}{d:Im}{v:V} (h:IsI H d v):decide (v=.non)=decide (d=.non):=by
 cases d with
 | non=>cases (show v=.non from h);rfl
 | bl b=>cases (show v=.bl b from h);rfl
 | int b=>cases (show v=.int b from h);rfl
 | str b=>cases (show v=.str b from h);rfl
 | fn b=>cases (show v=.ref b from h);rfl
 | tup ds=>obtain⟨a,xs,rfl,_⟩:=h;rfl
 | fl ds=>obtain⟨a,xs,o,rfl,_⟩:=h;rfl
theorem wN:OpR X (compareOp .Is) (fun x y H Q=>∃ a b,x=.bl a∧y=.bl b∧Q (.bl (a == b)) H):=by
 intro pins s σ H x y v u Q I rx ry ⟨a,b,e1,e2,q⟩
 subst e1 e2
 cases rx
 cases ry
 refine wpAny_is_plain (by cases a<;>cases b<;>rfl) ⟨.bl (a == b),H,I,?_,q⟩
 cases a<;>cases b<;>rfl
theorem wO:OpR X (compareOp .IsNot) (fun x y H Q=>∃ a b,x=.bl a∧y=.bl b∧Q (.bl (!(a == b))) H):=by
 intro pins s σ H x y v u Q I rx ry ⟨a,b,e1,e2,q⟩
 subst e1 e2
 cases rx
 cases ry
 refine wpAny_isNot_plain (by cases a<;>cases b<;>rfl) ⟨.bl (!(a == b)),H,I,?_,q⟩
 cases a<;>cases b<;>rfl
theorem lg:OpV X (compareOp .Is) (oIs false):=by
 refine (uj.or wN).imp fun x y H Q ⟨d1,d2,d,r1,r2,e,q⟩=>?_
 unfold oIs at e
 split at e
 ·rename_i a
  cases e
  refine .inl ⟨r2.i,?_⟩
  rw[oQ r1.i]
  refine Out.i q ?_
  show _=_
  rw[Bool.false_bne]
 ·cases e
  refine .inr ⟨_,_,r1.i,r2.i,Out.i q ?_⟩
  show _=_
  rw[Bool.false_bne]
 ·cases e
theorem lh:OpV X (compareOp .IsNot) (oIs true):=by
 refine (uk.or wO).imp fun x y H Q ⟨d1,d2,d,r1,r2,e,q⟩=>?_
 unfold oIs at e
 split at e
 ·rename_i a
  cases e
  refine .inl ⟨r2.i,?_⟩
  rw[oQ r1.i]
  refine Out.i q ?_
  show _=_
  rw[Bool.true_bne]
 ·cases e
  refine .inr ⟨_,_,r1.i,r2.i,Out.i q ?_⟩
  show _=_
  rw[Bool.true_bne]
 ·cases e
noncomputable def cP {κ:Type} [DecidableEq κ] (kvs:List (κ×Im)) (k:κ):Option Im:=(kvs.find? fun p=>decide (p.1=k)).map (·.2)
theorem ju {κ:Type} [DecidableEq κ] {H:Hp}{k:κ}:∀ {kvs:List (κ×Im)}{kws:List (κ×V)},PKv H kvs kws→(∀ d,cP kvs k=some d→∃ v,cn kws k=some v∧IsI H d v)∧(cP kvs k=none→cn kws k=none)
 | _,_,.nil=>⟨(fun d e=>by cases e),(fun _=>rfl)⟩
 | _,_,.cons (a:=p) (b:=q) h t=>by
  obtain⟨h1,h2⟩:=ju (k:=k) t
  by_cases e:p.1=k
  ·have e':q.1=k:=h.1.symm.trans e
   refine⟨fun d hd=>?_,fun hn=>?_⟩
   ·have:∀ r,cP (p::r) k=some p.2:=fun r=>by simp[cP,List.find?_cons,e]
    rw[this] at hd
    cases hd
    exact⟨q.2,kA e',h.2⟩
   ·have:∀ r,cP (p::r) k=some p.2:=fun r=>by simp[cP,List.find?_cons,e]
    rw[this] at hn
    cases hn
  ·have e':¬ q.1=k:=fun z=>e (h.1.trans z)
   have:∀ r,cP (p::r) k=cP r k:=fun r=>by simp[cP,List.find?_cons,e]
   rw[this,kC e']
   exact⟨h1,h2⟩
@[simp] noncomputable def vIx:Op2:=fun a b=>match a,b with
 | .im (.tup ds),.im (.int i)=>(atI ds i).map .im
 | .lst ds,.im (.int i)=>(atI ds i).map .im
 | .fz ds,.im (.int i)=>(atI ds i).map .im
 | .dT kvs,.im (.tup k)=>if Im.keys 7 k=true then (cP kvs k).map .im else none
 | .dK kvs,.im (.int i)=>(cP kvs (.inl i)).map .im
 | .dK kvs,.im (.str i)=>(cP kvs (.inr i)).map .im
 | _,_=>none
theorem wP (hu:X.A.units+20<cLine):IxR X (fun x y H Q=>∃ a v,x=.ref a∧dm H a y (some v)∧Q v H):=by
 intro value slice pins s σ H x y v u Q I rx ry ⟨a,z,e,g,q⟩ hs
 subst e
 cases rx
 exact tail_any (vq I g) PySem.F.slot_dict_getitem.lookup (vo hu I g ry fun w' s3 I3 rw'=>⟨z,H,I3,rw',q⟩) hs
theorem lj {H:Hp}{ds:List Im}{xs:List V}{i:Int}{d:Im} (h:ak H ds xs) (e:atI ds i=some d):∃ v,atI xs i=some v∧IsI H d v:=by
 unfold atI at e ⊢
 rw[← h.length]
 obtain⟨j,e1,e2⟩:=Option.bind_eq_some_iff.mp e
 obtain⟨v,g1,g2⟩:=h.get e2
 exact⟨v,by rw[e1];exact g1,g2⟩
theorem bZ (hu:X.A.units+20<cLine):IxR X (fun x y H Q=>∃ d1 d2 d,Rdb H d1 x∧Rdb H d2 y∧vIx d1 d2=some d∧∀ v H' R,ap H H'→Own H' d v R→R.Nodup→(∀ a∈R,H a=none)→Q v H'):=by
 refine (uZ.or (u5.or (wP hu))).imp fun x y H Q ⟨d1,d2,d,r1,r2,e,q⟩=>?_
 unfold vIx at e
 split at e
 ·obtain⟨d',e1,e2⟩:=Option.map_eq_some_iff.mp e
  cases e2
  obtain⟨p,xs,rfl,h1,h2⟩:=r1.i
  obtain⟨v,g1,g2⟩:=lj h2 e1
  exact .inr (.inl ⟨p,xs,_,v,rfl,r2.i,SqT.of h1,g1,Out.i q g2⟩)
 ·obtain⟨d',e1,e2⟩:=Option.map_eq_some_iff.mp e
  cases e2
  obtain⟨_,p,xs,rfl,h1,h2,_⟩:=r1
  obtain⟨v,g1,g2⟩:=lj h2 e1
  exact .inl ⟨p,xs,_,v,rfl,r2.i,SqL.of h1,g1,Out.i q g2⟩
 ·obtain⟨d',e1,e2⟩:=Option.map_eq_some_iff.mp e
  cases e2
  obtain⟨_,p,xs,o,rfl,h1,h2,_⟩:=r1
  obtain⟨v,g1,g2⟩:=lj h2 e1
  exact .inl ⟨p,xs,_,v,rfl,r2.i,.inl (.inr ⟨o,h1⟩),g1,Out.i q g2⟩
 ·rename_i kvs k
  split at e
  ·rename_i hk
   obtain⟨d',e1,e2⟩:=Option.map_eq_some_iff.mp e
   cases e2
   obtain⟨_,p,kws,rfl,h1,h2,_⟩:=r1
   obtain⟨v,g1,g2⟩:=(ju h2).1 d' e1
   obtain⟨b,xs,rfl,k1,k2⟩:=r2.i
   exact .inr (.inr ⟨p,v,rfl,by rw[← g1];exact dm.t h1 ⟨hk,b,xs,rfl,k1,k2⟩,Out.i q g2⟩)
  ·cases e
 ·rename_i kvs i
  obtain⟨d',e1,e2⟩:=Option.map_eq_some_iff.mp e
  cases e2
  obtain⟨_,p,kws,rfl,h1,h2,_⟩:=r1
  obtain⟨v,g1,g2⟩:=(ju h2).1 d' e1
  refine .inr (.inr ⟨p,v,rfl,?_,Out.i q g2⟩)
  rw[show y=kV (.inl i) from r2.i,← g1]
  exact dm.k h1
 ·rename_i kvs i
  obtain⟨d',e1,e2⟩:=Option.map_eq_some_iff.mp e
  cases e2
  obtain⟨_,p,kws,rfl,h1,h2,_⟩:=r1
  obtain⟨v,g1,g2⟩:=(ju h2).1 d' e1
  refine .inr (.inr ⟨p,v,rfl,?_,Out.i q g2⟩)
  rw[show y=kV (.inr i) from r2.i,← g1]
  exact dm.k h1
 ·cases e
end
end L2
namespace HT
open PySem PySem.Spec PyProof.Rows
section
variable {prog:Program}{w:World}{A:Around}{E:Value→Shared→Prop}{s:Shared}
theorem wQ {t sl:Addr}{its:Array Value}{vl vu:Value}{lo hi:Option Int}{Q:Value→Shared→Prop} (p:IsTup s.heap t its) (hs:s.heap.IsSliceOf sl vl vu .none) (pl:IsPart vl lo) (pu:IsPart vu hi)
  (h0:sIx its.size 0 lo=0) (h1:sIx its.size its.size hi=its.size) (q:Q (.ref t) s):wpAny (model prog w) A (getItem (.ref t) (.ref sl)) Q E s:=by
 obtain⟨os,ho,hc,hd⟩:=id hs
 have ty:s.TypeIs (.ref sl) "slice" := ⟨os,ho,hc⟩
 unfold getItem
 try with_reducible refine wpAny_holding ?_
 first | refine wpAny_bind (wpAny_pure ?_) | skip
 refine wpAny_bind (wpAny_sequenceKey p.typeIs (by decide) ?_)
 refine wpAny_bind (wpAny_callSpecial?_slot (name:=Str.ofString "__getitem__") p.typeIs PyProof.Rows.slot_tuple_getitem (wpAny_call_entry PyProof.Rows.slot_tuple_getitem p.typeIs entry_tuple_getitem ?_ (args_tuple_getitem _ _)))
 show wpAny _ _ (Builtin.Tuple.tupleItemsOf (.ref t) >>= _) _ _ s
 refine wpAny_bind (tupleItemsOf_ p ?_)
 refine wpAny_bind (wpAny_typeOf ty ?_)
 rw[if_pos (by decide)]
 refine wpAny_bind (nk hs pl pu ?_)
 rw[h0,h1]
 show wpAny _ _ (if (((0:Nat):Int) == 0 && (1:Int) == 1 && (its.size - 0) == its.size)=true then _ else _) _ _ s
 rw[if_pos (by simp)]
 refine wpAny_bind (m:=Builtin.Tuple.tupleIsExact _) (wpAny_bind (wpAny_typeOf p.typeIs (wpAny_pure ?_)))
 show wpAny _ _ (if (Value.type "tuple" == Value.type "tuple")=true then _ else _) _ _ s
 rw[if_pos (by decide)]
 exact wpAny_bind (wpAny_rule (wpAny_pure ⟨_,rfl,wpAny_pure q⟩))
end
end HT
namespace L2
open PySem PySem.Spec PyProof.Rows
section
variable {X:Cx}
@[simp] noncomputable def dy (g:M Vl):M Vl:=fun D=>(g D).bind fun p=>match p.1 with
 | .im (.int i)=>some (.im (.int (-i)),p.2)
 | _=>none
theorem fM {a:Expr}{g:M Vl}{pos:Pos} (h:VE X a g):VE X (.UnaryOp .USub a pos) (dy g):=by
 refine a5 (t4 ue h) fun σ H Q ⟨D,F,r,D',st,nd,hg,q⟩=>?_
 obtain⟨⟨x,D1⟩,h1,h2⟩:=Option.bind_eq_some_iff.mp hg
 refine⟨D,F,x,D1,st,nd,h1,fun v H1 F1 R st1 ow s1=>?_⟩
 dsimp only at h2
 split at h2
 ·rename_i i
  cases h2
  exact⟨i,ow.1,q _ H1 F1 [] st1 ⟨rfl,rfl⟩ (by rw[List.append_nil];exact s1.both)⟩
 ·cases h2
noncomputable def tP (g:M (Option Int)):TO:=fun σ H Q=>∃ D F l D',ai H D σ F∧F.Nodup∧g D=some (l,D')∧∀ H' F',ai H' D' σ F'→Stp H F H' F'→Q l H'
noncomputable def VP (X:Cx) (e:Option Expr) (g:M (Option Int)):Prop:=PO X e (tP g)
theorem oR {e:Option Expr}{t t':TO} (h:PO X e t) (i:∀ σ H Q,t' σ H Q→t σ H Q):PO X e t':=fun pins s σ H Q I hw=>h pins s σ H Q I (i σ H Q hw)
noncomputable def pNone:M (Option Int):=fun D=>some (none,D)
@[simp] noncomputable def cQ (g:M Vl):M (Option Int):=fun D=>(g D).bind fun p=>match p.1 with
 | .im (.int i)=>some (some i,p.2)
 | _=>none
theorem gE:VP X none pNone:=by
 refine oR uP fun σ H Q ⟨D,F,r,D',st,nd,hg,q⟩=>?_
 cases hg
 exact q H F st (Stp.perm nd (List.Perm.refl _))
theorem gF {e:Expr}{g:M Vl} (h:VE X e g):VP X (some e) (cQ g):=by
 refine oR (uQ h) fun σ H Q ⟨D,F,r,D',st,nd,hg,q⟩=>?_
 obtain⟨⟨x,D1⟩,h1,h2⟩:=Option.bind_eq_some_iff.mp hg
 refine⟨D,F,x,D1,st,nd,h1,fun v H1 F1 R st1 ow s1=>?_⟩
 dsimp only at h2
 split at h2
 ·rename_i i
  cases h2
  exact⟨i,ow.1,q H1 F1 st1 s1.both⟩
 ·cases h2
noncomputable def bv {α:Type} (xs:List α) (lo hi:Option Int):List α:=(xs.drop (HT.sIx xs.length 0 lo)).take (HT.sIx xs.length xs.length hi - HT.sIx xs.length 0 lo)
theorem ak.drop {H:Hp}:∀ {ds:List Im}{xs:List V} (n:Nat),ak H ds xs→ak H (ds.drop n) (xs.drop n)
 | ds,xs,0,h=>h
 | [],xs,n+1,h=>by cases (show xs=[] from h);exact rfl
 | d::ds,xs,n+1,h=>by
  obtain⟨v,r,rfl,h1,h2⟩:=h
  exact h2.drop n
theorem ak.take {H:Hp}:∀ {ds:List Im}{xs:List V} (n:Nat),ak H ds xs→ak H (ds.take n) (xs.take n)
 | ds,xs,0,h=>rfl
 | [],xs,n+1,h=>by cases (show xs=[] from h);exact rfl
 | d::ds,xs,n+1,h=>by
  obtain⟨v,r,rfl,h1,h2⟩:=h
  exact⟨v,_,rfl,h1,h2.take n⟩
theorem ak.cut {H:Hp}{ds:List Im}{xs:List V} (lo hi:Option Int) (h:ak H ds xs):ak H (bv ds lo hi) (ee xs lo hi):=by
 unfold bv ee
 rw[h.length]
 exact (h.drop _).take _
@[simp] noncomputable def vSl (d:Vl) (lo hi:Option Int):Option Vl:=match d with
 | .im (.tup ds)=>some (.im (.tup (bv ds lo hi)))
 | .lst ds=>some (.lst (bv ds lo hi))
 | .fz ds=>some (.lst (bv ds lo hi))
 | _=>none
noncomputable def wR (K:PySem.W.Frag):V→Option Int→Option Int→Hp→VK→Prop:=fun x lo hi H Q=>∃ a xs,x=.ref a∧SqT K H a xs∧HT.sIx xs.length 0 lo=0∧HT.sIx xs.length xs.length hi=xs.length∧Q (.ref a) H
theorem wS:SlR X (fun x lo hi H Q=>∃ d r,Rdb H d x∧vSl d lo hi=some r∧Out H r Q):=by
 have all:SlR X (wR X.K):=by
  intro pins s σ H x v vl vu lo hi sl Q I rx hs pl pu h
  obtain⟨a,xs,rfl,hx,h0,h1,q⟩:=h
  cases rx
  obtain⟨its,r,ht,hz⟩:=I.tuple hx
  have hlen:its.toArray.size=xs.length:=by rw[List.size_toArray];exact r.length.symm
  exact⟨"tuple",_,PyProof.Rows.slot_tuple_getitem.lookup,ht.typeIs,HT.wQ ht hs pl pu (by rw[hlen];exact h0) (by rw[hlen];exact h1) ⟨.ref a,H,I,rfl,q⟩⟩
 intro pins s σ H x v vl vu lo hi sl Q I rx hs pl pu ⟨d,r,rd,e,q⟩
 unfold vSl at e
 split at e
 ·rename_i ds
  cases e
  obtain⟨p,xs,rfl,h1,h2⟩:=rd.i
  by_cases hw:HT.sIx xs.length 0 lo=0∧HT.sIx xs.length xs.length hi=xs.length
  ·refine all pins s σ H _ v vl vu lo hi sl Q I rx hs pl pu ⟨p,xs,rfl,SqT.of h1,hw.1,hw.2,Out.i q ⟨p,xs,rfl,h1,?_⟩⟩
   have:bv ds lo hi=ds:=by
    unfold bv
    rw[h2.length,hw.1,hw.2,List.drop_zero,Nat.sub_zero,← h2.length,List.take_length]
   rw[this]
   exact h2
  ·exact uT pins s σ H _ v vl vu lo hi sl Q I rx hs pl pu ⟨p,xs,rfl,SqT.of h1,hw,fun n hn=>Out.t q hn (h2.cut lo hi)⟩
 ·cases e
  obtain⟨_,p,xs,rfl,h1,h2,_⟩:=rd
  exact nw pins s σ H _ v vl vu lo hi sl Q I rx hs pl pu ⟨p,xs,rfl,SqL.of h1,fun n hn=>Out.l q hn (h2.cut lo hi)⟩
 ·cases e
  obtain⟨_,p,xs,o,rfl,h1,h2,_⟩:=rd
  exact nw pins s σ H _ v vl vu lo hi sl Q I rx hs pl pu ⟨p,xs,rfl,.inl (.inr ⟨o,h1⟩),fun n hn=>Out.l q hn (h2.cut lo hi)⟩
 ·cases e
@[simp] noncomputable def eSl (g:M Opd) (l h:M (Option Int)):M Vl:=fun D=>(g D).bind fun p=>(l p.2).bind fun q=>(h q.2).bind fun r=>(rsl r.2 p.1).bind fun d=>(vSl d q.1 r.1).map fun d'=>(d',r.2)
theorem gG {e:Expr}{lo hi:Option Expr}{g:M Opd}{gl gh:M (Option Int)}{p2 pos:Pos} (he:VO X e g) (hl:VP X lo gl) (hh:VP X hi gh):VE X (.Subscript e (.Slice lo hi none p2) pos) (eSl g gl gh):=by
 refine a5 (uR wS he hl hh) fun σ H Q ⟨D,F,r,D',st,nd,hg,q⟩=>?_
 obtain⟨⟨x,D1⟩,h1,h2⟩:=Option.bind_eq_some_iff.mp hg
 obtain⟨⟨l,D2⟩,h3,h4⟩:=Option.bind_eq_some_iff.mp h2
 obtain⟨⟨u,D3⟩,h5,h6⟩:=Option.bind_eq_some_iff.mp h4
 obtain⟨d,h7,h8⟩:=Option.bind_eq_some_iff.mp h6
 obtain⟨d',h9,h10⟩:=Option.map_eq_some_iff.mp h8
 cases h10
 refine⟨D,F,x,D1,st,nd,h1,fun v H1 F1 R st1 o1 s1=>⟨D1,F1,l,D2,st1,(List.nodup_append.mp s1.nd).1,h3,fun H2 F2 st2 s2=>⟨D2,F2,u,D3,st2,s2.nd,h5,fun H3 F3 st3 s3=>?_⟩⟩⟩
 have s4:=s2.seq s3
 have o3:cG H3 σ x v R:=o1.mono s4.tup fun a ha o e=>s4.keep a o e fun h=>(List.nodup_append.mp s1.nd).2.2 a h a ha rfl
 have s5:=s1.trans s4 o1.chg
 exact⟨d,_,o3.read st3 h7,h9,fun w H4 R4 s6 ow ndR fr=>q w H4 F3 R4 (st3.mono s6.tupS fun a _ o e=>s6 a o e) ow (s5.new s6 ndR fr st3.chg)⟩
noncomputable abbrev OpN:=List Vl→Option Vl
@[simp] noncomputable def vLen:OpN:=fun ds=>match ds with
 | [.im (.tup x)]=>some (.im (.int x.length))
 | [.lst x]=>some (.im (.int x.length))
 | [.fz x]=>some (.im (.int x.length))
 | [.lstM x]=>some (.im (.int x.length))
 | [.dK x]=>some (.im (.int x.length))
 | [.im (.str x)]=>if x.length≤100000 then some (.im (.int x.length)) else none
 | _=>none
theorem cz {H:Hp}{d:Vl}{vs:List V} (h:en H [d] vs):∃ v,vs=[v]∧Rdb H d v:=by
 obtain⟨v,r,rfl,h1,h2⟩:=h
 cases (show r=[] from h2)
 exact⟨v,rfl,h1⟩
theorem jv {H:Hp}{d e:Vl}{vs:List V} (h:en H [d,e] vs):∃ v u,vs=[v,u]∧Rdb H d v∧Rdb H e u:=by
 obtain⟨v,r,rfl,h1,h2⟩:=h
 obtain⟨u,rfl,h3⟩:=cz h2
 exact⟨v,u,rfl,h1,h3⟩
theorem PKv.length {κ:Type}{H:Hp}{l:List (κ×Im)}{m:List (κ×V)} (h:PKv H l m):l.length=m.length:=Paired.length h
theorem eO:de X (.builtin "len") vLen:=by
 refine (vb.or (vc.or vA)).imp fun xs H Q ⟨ds,d,rd,e,q⟩=>?_
 unfold vLen at e
 split at e
 ·cases e
  obtain⟨v,rfl,h⟩:=cz rd
  obtain⟨p,xs,rfl,h1,h2⟩:=h.i
  exact .inl ⟨p,xs,rfl,.inr (SqT.of h1),by rw[← h2.length];exact Out.i q rfl⟩
 ·cases e
  obtain⟨v,rfl,_,p,xs,rfl,h1,h2,_⟩:=cz rd
  exact .inl ⟨p,xs,rfl,.inl (SqL.of h1),by rw[← h2.length];exact Out.i q rfl⟩
 ·cases e
  obtain⟨v,rfl,_,p,xs,o,rfl,h1,h2,_⟩:=cz rd
  exact .inl ⟨p,xs,rfl,.inl (.inl (.inr ⟨o,h1⟩)),by rw[← h2.length];exact Out.i q rfl⟩
 ·cases e
  obtain⟨v,rfl,_,p,xs,G,rfl,h1,h2,_⟩:=cz rd
  exact .inl ⟨p,xs,rfl,.inl (SqL.of h1),by rw[← h2.length];exact Out.i q rfl⟩
 ·cases e
  obtain⟨v,rfl,_,p,kws,rfl,h1,h2,_⟩:=cz rd
  exact .inr (.inr ⟨p,kws,rfl,h1,by rw[← h2.length];exact Out.i q rfl⟩)
 ·split at e
  ·rename_i hl
   cases e
   obtain⟨v,rfl,h⟩:=cz rd
   cases (show v=_ from h.i)
   exact .inr (.inl ⟨_,rfl,et hl,Out.i q rfl⟩)
  ·cases e
 ·cases e
@[simp] noncomputable def vTuple:OpN:=fun ds=>match ds with
 | [d]=>(cL d).map fun x=>.im (.tup x)
 | _=>none
theorem fN:de X (.type "tuple") vTuple:=by
 refine vd.imp fun xs H Q ⟨ds,d,rd,e,q⟩=>?_
 unfold vTuple at e
 split at e
 ·obtain⟨x,e1,e2⟩:=Option.map_eq_some_iff.mp e
  cases e2
  obtain⟨v,rfl,h⟩:=cz rd
  unfold cL at e1
  split at e1
  ·cases e1
   obtain⟨p,xs,rfl,h1,h2⟩:=h.i
   exact⟨p,xs,rfl,.inr ⟨SqT.of h1,Out.i q ⟨p,xs,rfl,h1,h2⟩⟩⟩
  ·cases e1
   obtain⟨_,p,xs,rfl,h1,h2,_⟩:=h
   exact⟨p,xs,rfl,.inl ⟨SqL.of h1,fun l hl=>Out.t q hl h2⟩⟩
  ·cases e1
   obtain⟨_,p,xs,o,rfl,h1,h2,_⟩:=h
   exact⟨p,xs,rfl,.inl ⟨.inl (.inr ⟨o,h1⟩),fun l hl=>Out.t q hl h2⟩⟩
  ·cases e1
 ·cases e
@[simp] noncomputable def vInt:OpN:=fun ds=>match ds with
 | [.im (.int i)]=>some (.im (.int i))
 | [.im (.bl b)]=>some (.im (.int (if b then 1 else 0)))
 | _=>none
theorem wT:de X (.type "int") vInt:=by
 refine uy.imp fun xs H Q ⟨ds,d,rd,e,q⟩=>?_
 unfold vInt at e
 split at e
 ·cases e
  obtain⟨v,rfl,h⟩:=cz rd
  cases (show v=_ from h.i)
  exact .inl ⟨_,rfl,Out.i q rfl⟩
 ·cases e
  obtain⟨v,rfl,h⟩:=cz rd
  cases (show v=_ from h.i)
  exact .inr ⟨_,rfl,Out.i q rfl⟩
 ·cases e
@[simp] noncomputable def vMax2:OpN:=fun ds=>match ds with
 | [.im (.int i),.im (.int j)]=>some (.im (.int (if j > i then j else i)))
 | _=>none
@[simp] noncomputable def vMin2:OpN:=fun ds=>match ds with
 | [.im (.int i),.im (.int j)]=>some (.im (.int (if j<i then j else i)))
 | _=>none
theorem jw (hc:X.calm=true):de X (.builtin "max") vMax2:=by
 refine (uw hc).imp fun xs H Q ⟨ds,d,rd,e,q⟩=>?_
 unfold vMax2 at e
 split at e
 ·cases e
  obtain⟨v,u,rfl,h,k⟩:=jv rd
  cases (show v=_ from h.i)
  cases (show u=_ from k.i)
  exact⟨_,_,rfl,Out.i q rfl⟩
 ·cases e
theorem ll (hc:X.calm=true):de X (.builtin "min") vMin2:=by
 refine (ux hc).imp fun xs H Q ⟨ds,d,rd,e,q⟩=>?_
 unfold vMin2 at e
 split at e
 ·cases e
  obtain⟨v,u,rfl,h,k⟩:=jv rd
  cases (show v=_ from h.i)
  cases (show u=_ from k.i)
  exact⟨_,_,rfl,Out.i q rfl⟩
 ·cases e
@[simp] noncomputable def bls:List Im→Option (List Bool)
 | []=>some []
 | .bl b::ds=>(bls ds).map fun r=>b::r
 | _::_=>none
theorem lr {H:Hp}:∀ {ds:List Im}{xs:List V}{bs:List Bool},ak H ds xs→bls ds=some bs→xs=bs.map V.bl
 | [],xs,bs,h,e=>by cases e;exact h
 | .bl b::ds,xs,bs,h,e=>by
  obtain⟨v,r,rfl,h1,h2⟩:=h
  rw[bls] at e
  obtain⟨p,e1,e2⟩:=Option.map_eq_some_iff.mp e
  cases e2
  cases (show v=.bl b from h1)
  rw[lr h2 e1]
  rfl
 | .non::_,_,_,_,e=>by cases e
 | .int _::_,_,_,_,e=>by cases e
 | .str _::_,_,_,_,e=>by cases e
 | .tup _::_,_,_,_,e=>by cases e
 | .fn _::_,_,_,_,e=>by cases e
 | .fl _::_,_,_,_,e=>by cases e
@[simp] noncomputable def vAll:OpN:=fun ds=>match ds with
 | [.lst x]=>(bls x).map fun bs=>.im (.bl (bs.all id))
 | _=>none
@[simp] noncomputable def vAny:OpN:=fun ds=>match ds with
 | [.lst x]=>(bls x).map fun bs=>.im (.bl (bs.any id))
 | _=>none
theorem jx (hc:X.calm=true):de X (.builtin "all") vAll:=by
 refine (wm hc).imp fun xs H Q ⟨ds,d,rd,e,q⟩=>?_
 unfold vAll at e
 split at e
 ·obtain⟨x,e1,e2⟩:=Option.map_eq_some_iff.mp e
  cases e2
  obtain⟨v,rfl,_,p,xs,rfl,h1,h2,_⟩:=cz rd
  rw[lr h2 e1] at h1
  exact⟨p,x,rfl,h1,Out.i q rfl⟩
 ·cases e
end
section
variable {X:Cx}
theorem wU (hc:X.calm=true):bn X (.builtin "any") (fun xs H Q=>∃ l bs,xs=[.ref l]∧H l=some (.lst (List.map V.bl bs))∧Q (.bl (bs.any id)) H):=by
 intro pins s σ H xs us Q I r h
 obtain⟨l,bs,rfl,hl,q⟩:=h
 obtain⟨u,rfl,ru⟩:=c5 r
 cases ru
 obtain⟨z,its,n,rv,e⟩:=I.hok l _ hl
 have isl:s.heap.IsList l its.toArray:=⟨_,e,rfl,n,rfl⟩
 refine call_any_walk (wpAny_pyIter_list isl ⟨s.heap.objs.size,[s.heap.objs.size,l],[s.heap.objs.size],its.toArray.size,_,_,fun i=>(bs[i]?).getD false,rfl,Walks.list (A:=X.A.in1) (I.ok.hd hc) _ l (Nat.ne_of_lt (Heap.lt_size e)) its.toArray,
  ⟨⟨_,Heap.get?_push_size _ rfl,rfl,rfl⟩,isl.push _⟩,fun i v s' Q' E' hP hQ=>?_,fun h' tk hk=>?_⟩)
 ·obtain⟨b,eb,rfl⟩:=oi rv i v (by simpa using hP)
  simp only[eb,Option.getD_some] at hQ
  exact wpAny_truthy_bool hQ
 ·have el:its.toArray.size=bs.length:=by
   have:=rv.length
   rw[List.length_map] at this
   rw[List.size_toArray,this]
  rw[el,LSm.range_any]
  exact⟨.bl _,H,I.kept (LSm.kept_iter hk),rfl,q⟩
theorem wV (hc:X.calm=true):de X (.builtin "any") vAny:=by
 refine (wU hc).imp fun xs H Q ⟨ds,d,rd,e,q⟩=>?_
 unfold vAny at e
 split at e
 ·obtain⟨x,e1,e2⟩:=Option.map_eq_some_iff.mp e
  cases e2
  obtain⟨v,rfl,_,p,xs,rfl,h1,h2,_⟩:=cz rd
  rw[lr h2 e1] at h1
  exact⟨p,x,rfl,h1,Out.i q rfl⟩
 ·cases e
@[simp] noncomputable def ls (T:String) (d:Vl):Option Bool:=
 if T = "int" then match d with
  | .im (.int _)=>some true
  | .im (.bl _)=>some true
  | .im (.str _)=>some false
  | .im (.tup _)=>some false
  | .im .non=>some false
  | .lst _=>some false
  | .im (.fl _)=>some false
  | .dT _=>some false
  | .dK _=>some false
  | _=>none
 else if T = "bool" then match d with
  | .im (.int _)=>some false
  | .im (.bl _)=>some true
  | .im (.str _)=>some false
  | .im (.tup _)=>some false
  | .im .non=>some false
  | .lst _=>some false
  | .im (.fl _)=>some false
  | .dT _=>some false
  | .dK _=>some false
  | _=>none
 else if T = "str" then match d with
  | .im (.int _)=>some false
  | .im (.bl _)=>some false
  | .im (.str _)=>some true
  | .im (.tup _)=>some false
  | .im .non=>some false
  | .lst _=>some false
  | .im (.fl _)=>some false
  | .dT _=>some false
  | .dK _=>some false
  | _=>none
 else if T = "tuple" then match d with
  | .im (.int _)=>some false
  | .im (.bl _)=>some false
  | .im (.str _)=>some false
  | .im (.tup _)=>some true
  | .im .non=>some false
  | .lst _=>some false
  | .im (.fl _)=>some false
  | .dT _=>some false
  | .dK _=>some false
  | _=>none
 else none
theorem eQ {pins:List (Addr×Obj)}{σ:St}{H:Hp}{s:Shared} (I:Inv X pins σ H s) {a:Addr} (h:(∃ k,H a=some (.dT k))∨∃ k,H a=some (.dK k)):∃ o,s.heap.get? a=some o∧o.cls=.type "dict" := by
 rcases h with ⟨k,h⟩ | ⟨k,h⟩
 ·obtain⟨_,_,xs,_,o,es,ep,h1,h2,_⟩:=(show bE X.prog X.w H s.heap a (.dT k) from I.hok a _ h)
  exact⟨o,h1,h2.1⟩
 ·obtain⟨_,_,vs,_,o,es,ep,h1,h2,_⟩:=(show bE X.prog X.w H s.heap a (.dK k) from I.hok a _ h)
  exact⟨o,h1,h2.1⟩
theorem wW:bn X (.builtin "isinstance") (fun xs H Q=>∃ x T d b,xs=[x,.ty T]∧Rdb H d x∧ls T d=some b∧Q (.bl b) H):=by
 intro pins s σ H xs us Q I r h
 obtain⟨x,T,d,b,rfl,rd,hi,q⟩:=h
 have r0:=r
 cases r with
 | cons r rr=>
  cases rr with
  | cons r' rr=>
   cases rr
   cases r'
   have f1:∀ {b:Bool},Q (.bl b) H→EP X pins σ Q (.bool b) { s with toks:=s.toks+1 }:=fun {b} q=>⟨.bl b,H,I.tok _,rfl,q⟩
   have dI:∀ {a:Addr},(∃ o,s.heap.get? a=some o∧o.cls=.type "dict")→(T = "int" ∨ T = "bool" ∨ T = "str" ∨ T = "tuple")→b=false→wpAny (model X.prog X.w) X.A (call (.builtin "isinstance") [.ref a,.type T]) (EP X pins σ Q) X.xe s:=by
    rintro a ⟨o,ho,hc⟩ hT rfl
    rcases hT with rfl | rfl | rfl | rfl
    ·exact IsiPair.dict_int ho hc (f1 q)
    ·exact IsiPair.dict_bool ho hc (f1 q)
    ·exact IsiPair.dict_str ho hc (f1 q)
    ·exact IsiPair.dict_tuple ho hc (f1 q)
   have nI:(T = "int" ∨ T = "bool" ∨ T = "str" ∨ T = "tuple")→b=false→wpAny (model X.prog X.w) X.A (call (.builtin "isinstance") [.none,.type T]) (EP X pins σ Q) X.xe s:=by
    rintro hT rfl
    rcases hT with rfl | rfl | rfl | rfl
    ·exact IsiPair.NoneType_int (f1 q)
    ·exact IsiPair.NoneType_bool (f1 q)
    ·exact IsiPair.NoneType_str (f1 q)
    ·exact IsiPair.NoneType_tuple (f1 q)
   have cI:oh X.K H x T b→wpAny (model X.prog X.w) X.A (call (.builtin "isinstance") [_,.type T]) (EP X pins σ Q) X.xe s:=fun hh=>wl pins s σ H _ _ Q I r0 ⟨x,T,b,rfl,hh,q⟩
   unfold ls at hi
   split at hi
   ·rename_i hT
    subst hT
    split at hi
    ·cases hi;exact cI (.inl ⟨_,rd.i,.inl ⟨rfl,rfl⟩⟩)
    ·cases hi;exact cI (.inr (.inl ⟨_,rd.i,.inr (.inl ⟨rfl,rfl⟩)⟩))
    ·cases hi;exact cI (.inr (.inr (.inl ⟨_,rd.i,.inr (.inl ⟨rfl,rfl⟩)⟩)))
    ·cases hi;obtain⟨a,xs,e,h1,h2⟩:=rd.i;exact cI (.inr (.inr (.inr (.inl ⟨a,xs,e,SqT.of h1,.inr (.inl ⟨rfl,rfl⟩)⟩))))
    ·cases hi;cases (show x=.non from rd.i);cases r;exact nI (.inl rfl) rfl
    ·cases hi;obtain⟨_,a,xs,e,h1,h2,_⟩:=rd;exact cI (.inr (.inr (.inr (.inr ⟨a,xs,e,SqL.of h1,.inr (.inl ⟨rfl,rfl⟩)⟩))))
    ·cases hi;obtain⟨a,xs,o,e,h1,h2⟩:=rd.i;exact cI (.inr (.inr (.inr (.inr ⟨a,xs,e,.inl (.inr ⟨o,h1⟩),.inr (.inl ⟨rfl,rfl⟩)⟩))))
    ·cases hi;obtain⟨_,a,xs,rfl,h1,h2,_⟩:=rd;cases r;exact dI (eQ I (.inl ⟨_,h1⟩)) (.inl rfl) rfl
    ·cases hi;obtain⟨_,a,xs,rfl,h1,h2,_⟩:=rd;cases r;exact dI (eQ I (.inr ⟨_,h1⟩)) (.inl rfl) rfl
    ·cases hi
   ·split at hi
    ·rename_i hT
     subst hT
     split at hi
     ·cases hi;exact cI (.inl ⟨_,rd.i,.inr (.inr (.inr (.inl ⟨rfl,rfl⟩)))⟩)
     ·cases hi;exact cI (.inr (.inl ⟨_,rd.i,.inl ⟨rfl,rfl⟩⟩))
     ·cases hi;exact cI (.inr (.inr (.inl ⟨_,rd.i,.inr (.inr (.inr (.inl ⟨rfl,rfl⟩)))⟩)))
     ·cases hi;obtain⟨a,xs,e,h1,h2⟩:=rd.i;exact cI (.inr (.inr (.inr (.inl ⟨a,xs,e,SqT.of h1,.inr (.inr (.inr (.inl ⟨rfl,rfl⟩)))⟩))))
     ·cases hi;cases (show x=.non from rd.i);cases r;exact nI (.inr (.inl rfl)) rfl
     ·cases hi;obtain⟨_,a,xs,e,h1,h2,_⟩:=rd;exact cI (.inr (.inr (.inr (.inr ⟨a,xs,e,SqL.of h1,.inr (.inr (.inr (.inl ⟨rfl,rfl⟩)))⟩))))
     ·cases hi;obtain⟨a,xs,o,e,h1,h2⟩:=rd.i;exact cI (.inr (.inr (.inr (.inr ⟨a,xs,e,.inl (.inr ⟨o,h1⟩),.inr (.inr (.inr (.inl ⟨rfl,rfl⟩)))⟩))))
     ·cases hi;obtain⟨_,a,xs,rfl,h1,h2,_⟩:=rd;cases r;exact dI (eQ I (.inl ⟨_,h1⟩)) (.inr (.inl rfl)) rfl
     ·cases hi;obtain⟨_,a,xs,rfl,h1,h2,_⟩:=rd;cases r;exact dI (eQ I (.inr ⟨_,h1⟩)) (.inr (.inl rfl)) rfl
     ·cases hi
    ·split at hi
     ·rename_i hT
      subst hT
      split at hi
      ·cases hi;exact cI (.inl ⟨_,rd.i,.inr (.inr (.inl ⟨rfl,rfl⟩))⟩)
      ·cases hi;exact cI (.inr (.inl ⟨_,rd.i,.inr (.inr (.inr (.inl ⟨rfl,rfl⟩)))⟩))
      ·cases hi;exact cI (.inr (.inr (.inl ⟨_,rd.i,.inl ⟨rfl,rfl⟩⟩)))
      ·cases hi;obtain⟨a,xs,e,h1,h2⟩:=rd.i;exact cI (.inr (.inr (.inr (.inl ⟨a,xs,e,SqT.of h1,.inr (.inr (.inl ⟨rfl,rfl⟩))⟩))))
      ·cases hi;cases (show x=.non from rd.i);cases r;exact nI (.inr (.inr (.inl rfl))) rfl
      ·cases hi;obtain⟨_,a,xs,e,h1,h2,_⟩:=rd;exact cI (.inr (.inr (.inr (.inr ⟨a,xs,e,SqL.of h1,.inr (.inr (.inl ⟨rfl,rfl⟩))⟩))))
      ·cases hi;obtain⟨a,xs,o,e,h1,h2⟩:=rd.i;exact cI (.inr (.inr (.inr (.inr ⟨a,xs,e,.inl (.inr ⟨o,h1⟩),.inr (.inr (.inl ⟨rfl,rfl⟩))⟩))))
      ·cases hi;obtain⟨_,a,xs,rfl,h1,h2,_⟩:=rd;cases r;exact dI (eQ I (.inl ⟨_,h1⟩)) (.inr (.inr (.inl rfl))) rfl
      ·cases hi;obtain⟨_,a,xs,rfl,h1,h2,_⟩:=rd;cases r;exact dI (eQ I (.inr ⟨_,h1⟩)) (.inr (.inr (.inl rfl))) rfl
      ·cases hi
     ·split at hi
      ·rename_i hT
       subst hT
       split at hi
       ·cases hi;exact cI (.inl ⟨_,rd.i,.inr (.inl ⟨rfl,rfl⟩)⟩)
       ·cases hi;exact cI (.inr (.inl ⟨_,rd.i,.inr (.inr (.inl ⟨rfl,rfl⟩))⟩))
       ·cases hi;exact cI (.inr (.inr (.inl ⟨_,rd.i,.inr (.inr (.inl ⟨rfl,rfl⟩))⟩)))
       ·cases hi;obtain⟨a,xs,e,h1,h2⟩:=rd.i;exact cI (.inr (.inr (.inr (.inl ⟨a,xs,e,SqT.of h1,.inl ⟨rfl,rfl⟩⟩))))
       ·cases hi;cases (show x=.non from rd.i);cases r;exact nI (.inr (.inr (.inr rfl))) rfl
       ·cases hi;obtain⟨_,a,xs,e,h1,h2,_⟩:=rd;exact cI (.inr (.inr (.inr (.inr ⟨a,xs,e,SqL.of h1,.inr (.inr (.inr (.inr ⟨rfl,rfl⟩)))⟩))))
       ·cases hi;obtain⟨a,xs,o,e,h1,h2⟩:=rd.i;exact cI (.inr (.inr (.inr (.inr ⟨a,xs,e,.inl (.inr ⟨o,h1⟩),.inr (.inr (.inr (.inr ⟨rfl,rfl⟩)))⟩))))
       ·cases hi;obtain⟨_,a,xs,rfl,h1,h2,_⟩:=rd;cases r;exact dI (eQ I (.inl ⟨_,h1⟩)) (.inr (.inr (.inr rfl))) rfl
       ·cases hi;obtain⟨_,a,xs,rfl,h1,h2,_⟩:=rd;cases r;exact dI (eQ I (.inr ⟨_,h1⟩)) (.inr (.inr (.inr rfl))) rfl
       ·cases hi
      ·cases hi
@[simp] noncomputable def eR (T:String) (g:M Opd):M Vl:=fun D=>(g D).bind fun p=>(rsl p.2 p.1).bind fun d=>(ls T d).map fun b=>(.im (.bl b),p.2)
theorem iB {T:String}{x:Str}{e:Expr}{g:M Opd}{p p2 pos:Pos} (hg:Gl X "isinstance") (hm:X.mg "isinstance" = none) (hv:bootBuiltins "isinstance" = some (.builtin "isinstance")) (hgT:Gl X x) (hmT:X.mg x=none) (hvT:bootBuiltins x=some (.type T)) (h:VO X e g)
  (hn:x ≠ "__name__" := by decide) (hd:(x == ("__debug__" : Str))=false:=by decide) (he:starEach [e,.Name x p2] X.env=(false,eval e X.env)::starEach [.Name x p2] X.env:=by rfl) (hs2:starEach [.Name x p2] X.env=(false,eval (.Name x p2) X.env)::starEach [] X.env:=by rfl)
  (hpl:(backTo pos (starEach [.Name x p2] X.env)).any (·.1)=false:=by rfl):VE X (.Call (.Name "isinstance" p) [e,.Name x p2] [] pos) (eR T g):=by
 refine a5 (m9 wW hg hm hv (kw h (kw (sH (v:=.ty T) hgT hmT hvT rfl hn hd) mX hs2) he) (by decide) (by decide) he hpl) fun σ H Q ⟨D,F,r,D',st,nd,hgg,q⟩=>?_
 obtain⟨⟨o,D1⟩,h1,h2⟩:=Option.bind_eq_some_iff.mp hgg
 obtain⟨d,h3,h4⟩:=Option.bind_eq_some_iff.mp h2
 obtain⟨b,h5,h6⟩:=Option.map_eq_some_iff.mp h4
 cases h6
 exact⟨D,F,o,D1,st,nd,h1,fun v H1 F1 R st1 o1 s1=>⟨v,T,d,b,rfl,o1.read st1 h3,h5,q _ H1 F1 [] st1 ⟨rfl,rfl⟩ (by rw[List.append_nil];exact s1.both)⟩⟩
@[simp] noncomputable def iC:Vl→Option Bool
 | .im .non=>some false
 | .im (.bl b)=>some b
 | .im (.int i)=>some (i != 0)
 | .im (.str x)=>if x.length≤100000 then some ((x.length:Int) != 0) else none
 | .im (.tup ds)=>some (!ds.isEmpty)
 | .lst ds=>some (!ds.isEmpty)
 | .fz ds=>some (!ds.isEmpty)
 | .dK kvs=>some (!kvs.isEmpty)
 | _=>none
theorem ak.emp {H:Hp}{ds:List Im}{xs:List V} (h:ak H ds xs):(!xs.isEmpty)=!ds.isEmpty:=by
 cases ds with
 | nil=>cases (show xs=[] from h);rfl
 | cons d ds=>obtain⟨v,r,rfl,_⟩:=h;rfl
theorem wX {H:Hp}{d:Vl}{v:V}{b:Bool} (h:Rdb H d v) (e:iC d=some b):ku X.K v H b:=by
 unfold iC at e
 split at e
 ·cases e;cases (show v=_ from h.i);rfl
 ·cases e;cases (show v=_ from h.i);rfl
 ·cases e;cases (show v=_ from h.i);rfl
 ·split at e
  ·rename_i hl
   cases e;cases (show v=_ from h.i);exact⟨et hl,rfl⟩
  ·cases e
 ·cases e
  obtain⟨p,xs,rfl,h1,h2⟩:=h.i
  exact .inr (.inl ⟨xs,SqT.of h1,h2.emp.symm⟩)
 ·cases e
  obtain⟨_,p,xs,rfl,h1,h2,_⟩:=h
  exact .inl ⟨xs,SqL.of h1,h2.emp.symm⟩
 ·cases e
  obtain⟨_,p,xs,o,rfl,h1,h2,_⟩:=h
  exact .inl ⟨xs,.inl (.inr ⟨o,h1⟩),h2.emp.symm⟩
 ·cases e
  obtain⟨_,p,kws,rfl,h1,h2,_⟩:=h
  refine .inr (.inr ⟨kws,h1,?_⟩)
  cases h2<;>rfl
 ·cases e
@[simp] noncomputable def bC (g:M Opd):M Bool:=fun D=>(g D).bind fun p=>(rsl p.2 p.1).bind fun d=>(iC d).map fun b=>(b,p.2)
theorem cS {e:Expr}{g:M Opd} (h:VO X e g) (he:∀ whole,isTrue e X.env whole=(do let v ← whole;standAt e.pos;holding [v] (truthy v)):=by intro _;rfl):VT X e (bC g):=by
 refine kS (ut h he) fun σ H Q ⟨D,F,b,D',st,nd,hgg,q⟩=>?_
 obtain⟨⟨o,D1⟩,h1,h2⟩:=Option.bind_eq_some_iff.mp hgg
 obtain⟨d,h3,h4⟩:=Option.bind_eq_some_iff.mp h2
 obtain⟨b',h5,h6⟩:=Option.map_eq_some_iff.mp h4
 cases h6
 exact⟨D,F,o,D1,st,nd,h1,fun v H1 F1 R st1 o1 s1=>⟨_,wX (o1.read st1 h3) h5,q H1 F1 st1 s1.both⟩⟩
theorem wY {x:Str}{f:Addr}{pos:Pos} (hg:Gl X x) (hm:X.mg x=some (.ref f)) (hd:(x == ("__debug__" : Str))=false:=by decide):VE X (.Name x pos) (eC (.fn f)):=ji (sG (v:=.ref f) hg hm rfl hd) fun _=>rfl
end
theorem Stp.chg {H:Hp}{F F1:List Addr}{a:Addr}{o':HO} (ha:a∈F) (c:Chg H a) (nd:F1.Nodup) (sb:∀ x∈F1,x∈F):Stp H F (upd H a o') F1:=by
 obtain⟨o,e,ht,hf⟩:=c
 refine⟨fun x u ex hx=>?_,fun x hx=>.inl (sb x hx),nd,StayS.of (fun x xs ex=>?_) (fun x p u ex=>?_),fun x u ex=>?_⟩
 ·rw[aI (fun z=>hx (by rw[z];exact ha))]
  exact ex
 ·rw[aI]
  ·exact ex
  ·rintro rfl
   rw[e] at ex
   exact ht xs (Option.some.inj ex)
 ·rw[aI]
  ·exact ex
  ·rintro rfl
   rw[e] at ex
   exact hf p u (Option.some.inj ex)
 ·by_cases hx:x=a
  ·subst hx
   exact⟨o',bD⟩
  ·exact⟨u,(aI hx).trans ex⟩
theorem IsI.updC {H:Hp}{a:Addr}{o':HO} (c:Chg H a):TupS H (upd H a o'):=(Stp.chg (F:=[a]) (F1:=[]) (.head _) c List.nodup_nil (fun x hx=>nomatch hx)).tup.tup
noncomputable def MtV (X:Cx) (id:String) (mt:Vl→List Vl→Option (Vl×Vl)):Prop:=
 MtR X id fun x vs H Q=>∃ c ds r c' R S,Own H c x R∧aJ H ds vs S∧(R++S).Nodup∧mt c ds=some (r,c')∧∀ v H' R1 R2,Own H' r v R1→Own H' c' x R2→Stp H (R++S) H' (R1++R2)→Q v H'
@[simp] noncomputable def eS:Vl→Bool
 | .lst _=>true
 | .lstM _=>true
 | _=>false
@[simp] noncomputable def cT (ty:Vl→Bool) (i:Nat) (mt:Vl→List Vl→Option (Vl×Vl)) (g:M (List Opd)):M Vl:=fun D=>match D[i]? with
 | some (some c0)=>if ty c0=true then (g D).bind fun p=>(bP p.1 p.2).bind fun q=>match q.2[i]? with
   | some (some c)=>(mt c q.1).map fun r=>(r.1,q.2.set i (some r.2))
   | _=>none
  else none
 | _=>none
theorem wZ {K:PySem.W.Frag}{T:String}{ty:Vl→Bool}{i:Nat}{mt:Vl→List Vl→Option (Vl×Vl)}{g:M (List Opd)}{σ:St}{H:Hp}{Q:VK} (hty:∀ H c x R,Own H c x R→ty c=true→tyV K T x H)
  (h:tV (cT ty i mt g) σ H Q):∃ x,σ[i]?=some (some x)∧tyV K T x H∧tA g σ H fun vs H2=>∃ c ds r c' R S,Own H2 c x R∧aJ H2 ds vs S∧(R++S).Nodup∧mt c ds=some (r,c')∧∀ v H' R1 R2,Own H' r v R1→Own H' c' x R2→Stp H2 (R++S) H' (R1++R2)→Q v H':=by
 obtain⟨D,F,r,D',st,nd,hg,q⟩:=h
 unfold cT at hg
 split at hg
 ·rename_i c0 hc0
  split at hg
  ·rename_i ht
   obtain⟨x,A0,B0,hx,w0,_,_⟩:=st.out hc0
   refine⟨x,hx,hty H c0 x _ w0 ht,?_⟩
   obtain⟨⟨os,D1⟩,h1,h2⟩:=Option.bind_eq_some_iff.mp hg
   obtain⟨⟨ds,D2⟩,h3,h4⟩:=Option.bind_eq_some_iff.mp h2
   refine⟨D,F,os,D1,st,nd,h1,fun vs H1 F1 R1 st1 o1 s1=>?_⟩
   obtain⟨F2,S,st2,ow,pm⟩:=fL st1 o1 h3
   dsimp only at h4
   split at h4
   ·rename_i c hc
    obtain⟨⟨r',c'⟩,h5,h6⟩:=Option.map_eq_some_iff.mp h4
    cases h6
    obtain⟨x',R,F3,hx',w1,st3,pm3⟩:=st2.out hc
    rw[hx] at hx'
    cases hx'
    have s2:Stp H F H1 ((R++S)++F3):=s1.permR (pm.symm.trans ((List.Perm.append_right S pm3.symm).trans (by
     rw[List.append_assoc]
     exact List.perm_append_comm)))
    have nd2:=List.nodup_append.mp s2.nd
    refine⟨c,ds,_,c',R,S,w1,ow,nd2.1,h5,fun v H' A B wa wb s3=>?_⟩
    have st4:ai H' (D2.set i (some .jk)) σ F3:=st3.mono s3.tup fun a ha o e=>s3.keep a o e fun h=>nd2.2.2 a h a ha rfl
    obtain⟨F4,G,st5,pm5⟩:=st4.back wb hx
    rw[List.set_set] at st5
    refine q v H' F4 A st5 wa ((s2.trans s3 st3.chg).less (C:=G) ?_)
    rw[List.append_assoc]
    refine (List.Perm.append_left F4 List.perm_append_comm).trans ?_
    rw[← List.append_assoc]
    refine (List.Perm.append_right A pm5).trans ?_
    rw[List.append_assoc]
    refine List.perm_append_comm.trans ?_
    rw[List.append_assoc]
    refine List.perm_append_comm.trans ?_
    rw[List.append_assoc,List.append_assoc]
    refine (List.Perm.append_left A ?_)
    exact List.perm_append_comm
   ·cases h4
  ·cases hg
 ·cases hg
section
variable {X:Cx}
theorem jy {K:PySem.W.Frag}:∀ (H:Hp) (c:Vl) (x:V) (R:List Addr),Own H c x R→eS c=true→tyV K "list" x H:=by
 intro H c x R h e
 cases c with
 | lst ds=>obtain⟨a,xs,rfl,h1,_⟩:=h;exact .inl ⟨rfl,xs,SqL.of h1⟩
 | lstM ds=>obtain⟨a,xs,G,rfl,h1,_⟩:=h;exact .inl ⟨rfl,xs,SqL.of h1⟩
 | _=>cases e
theorem jz {T:String}{name:Str}{id:String}{ty:Vl→Bool}{i:Nat}{mt:Vl→List Vl→Option (Vl×Vl)}{o e:Expr}{es:List Expr}{g:M (List Opd)}{apos cpos:Pos} (hty:∀ H c x R,Own H c x R→ty c=true→tyV X.K T x H)
  (pa:PlainAttrs T) (slot:Slot T name id) (ht:typeOf (.builtin id)=pure (.type "method_descriptor")) (hm:MtV X id mt) (ho:PE X o (fy i)) (ha:VA X (e::es) g)
  (hbase:attributeBase o name X.env (eval o X.env)=eval o X.env:=by rfl)
  (hfew:((backTo cpos (starEach (e::es) X.env)).all (fun x=>!x.1) && (backToKw cpos (keywordEach [] X.env)).all (fun x=>x.1.isSome)
   && decide ((e::es).length+([]:List Keyword).length+(if ([]:List Keyword).isEmpty then 0 else 1)<30))=true:=by rfl)
  (hline:(apos.endLine == cpos.line)=true:=by rfl) (hs:starEach (e::es) X.env=(false,eval e X.env)::starEach es X.env:=by rfl) (hplain:(backTo cpos (starEach es X.env)).any (·.1)=false:=by rfl):
  VE X (.Call (.Attribute o name apos) (e::es) [] cpos) (cT ty i mt g):=
 a5 (vf pa slot ht hm ho ha hbase hfew hline hs hplain) fun σ H Q h=>by
  obtain⟨x,hx,h1,h2⟩:=wZ hty h
  exact⟨x,hx,h1,h2⟩
@[simp] noncomputable def mAppend:Vl→List Vl→Option (Vl×Vl):=fun c ds=>match c,ds with
 | .lst xs,[.im d]=>if xs.length<100000 then some (.im .non,.lst (xs++[d])) else none
 | _,_=>none
theorem w9 {n:Nat} (h:n<100000):n<sizeLine:=Nat.lt_of_lt_of_le h (by decide)
theorem oU:MtV X "list.append" mAppend:=by
 intro pins s σ H x vs v us Q I rx rv ⟨c,ds,r,c',R,S,wc,wd,nd,e,q⟩
 unfold mAppend at e
 split at e
 ·split at e
  ·rename_i hl
   cases e
   obtain⟨a,ys,rfl,h1,h2,rfl⟩:=wc
   obtain⟨y,t,S1,S2,rfl,⟨hy,rfl⟩,⟨rfl,rfl⟩,rfl⟩:=wd
   have c:Chg H a:=⟨_,h1,(fun _ e=>by cases e),(fun _ _ e=>by cases e)⟩
   refine vh pins s σ H _ _ v us Q I rx rv ⟨a,ys,y,rfl,rfl,h1,w9 (by rw[← h2.length];exact hl),q .non _ [] [a] ⟨rfl,rfl⟩ ?_ (Stp.chg (.head _) c (List.pairwise_singleton _ _) fun x hx=>by simpa using hx)⟩
   exact⟨a,_,rfl,bD,(h2.snoc hy).mono (IsI.updC c),rfl⟩
  ·cases e
 ·cases e
@[simp] noncomputable def mPopAt:Vl→List Vl→Option (Vl×Vl):=fun c ds=>match c,ds with
 | .lst xs,[.im (.int i)]=>if 0≤i∧i<xs.length then (xs[i.toNat]?).map fun d=>(.im d,.lst (xs.eraseIdx i.toNat)) else none
 | _,_=>none
theorem ak.erase {H:Hp}:∀ {ds:List Im}{xs:List V} (n:Nat),ak H ds xs→ak H (ds.eraseIdx n) (xs.eraseIdx n)
 | [],xs,n,h=>by cases (show xs=[] from h);exact rfl
 | d::ds,xs,0,h=>by obtain⟨v,r,rfl,h1,h2⟩:=h;exact h2
 | d::ds,xs,n+1,h=>by obtain⟨v,r,rfl,h1,h2⟩:=h;exact⟨v,_,rfl,h1,h2.erase n⟩
theorem xa:MtV X "list.pop" mPopAt:=by
 intro pins s σ H x vs v us Q I rx rv ⟨c,ds,r,c',R,S,wc,wd,nd,e,q⟩
 unfold mPopAt at e
 split at e
 ·rename_i i
  split at e
  ·rename_i hi
   obtain⟨d,e1,e2⟩:=Option.map_eq_some_iff.mp e
   cases e2
   obtain⟨a,ys,rfl,h1,h2,rfl⟩:=wc
   obtain⟨y,t,S1,S2,rfl,⟨hy,rfl⟩,⟨rfl,rfl⟩,rfl⟩:=wd
   cases (show y=.int i from hy)
   obtain⟨y,g1,g2⟩:=h2.get e1
   have c:Chg H a:=⟨_,h1,(fun _ e=>by cases e),(fun _ _ e=>by cases e)⟩
   have hz:ys.length≤sizeLine:=(I.hok a _ h1).1
   have hn:=fA
   refine vj pins s σ H _ _ v us Q I rx rv ⟨a,ys,i,i.toNat,y,rfl,rfl,h1,by lia,by have:=h2.length;lia,seqIndex_of hi.1 (by rw[← h2.length];exact hi.2),g1,q y _ [] [a] ⟨g2.mono (IsI.updC c),rfl⟩ ?_ (Stp.chg (.head _) c (List.pairwise_singleton _ _) fun x hx=>by simpa using hx)⟩
   exact⟨a,_,rfl,bD,(h2.erase _).mono (IsI.updC c),rfl⟩
  ·cases e
 ·cases e
@[simp] noncomputable def mExtend:Vl→List Vl→Option (Vl×Vl):=fun c ds=>match c,ds with
 | .lst xs,[.lst ys]=>if xs.length+ys.length≤100000 then some (.im .non,.lst (xs++ys)) else none
 | _,_=>none
theorem xb:MtV X "list.extend" mExtend:=by
 intro pins s σ H x vs v us Q I rx rv ⟨c,ds,r,c',R,S,wc,wd,nd,e,q⟩
 unfold mExtend at e
 split at e
 ·split at e
  ·rename_i hl
   cases e
   obtain⟨a,ys,rfl,h1,h2,rfl⟩:=wc
   obtain⟨y,t,S1,S2,rfl,⟨b,zs,rfl,h3,h4,rfl⟩,⟨rfl,rfl⟩,rfl⟩:=wd
   have c:Chg H a:=⟨_,h1,(fun _ e=>by cases e),(fun _ _ e=>by cases e)⟩
   refine vi pins s σ H _ _ v us Q I rx rv ⟨a,b,ys,zs,rfl,rfl,h1,h3,et (by rw[← h2.length,← h4.length];exact hl),q .non _ [] [a] ⟨rfl,rfl⟩ ?_ (Stp.chg (.head _) c (List.pairwise_singleton _ _) fun x hx=>by
    rw[List.nil_append] at hx
    exact List.mem_append_left _ hx)⟩
   exact⟨a,_,rfl,bD,(h2.app h4).mono (IsI.updC c),rfl⟩
  ·cases e
 ·cases e
noncomputable def lu (X:Cx) (pt:Vl→Vl→Vl→Option Vl):Prop:=
 km X fun o i v H Q=>∃ c k d c' R S,Own H c o R∧Own H k i []∧Own H d v S∧(R++S).Nodup∧pt c k d=some c'∧∀ H' R',Own H' c' o R'→Stp H (R++S) H' R'→Q H'
@[simp] noncomputable def putV (c k d:Vl):Option Vl:=match c,k,d with
 | .lst xs,.im (.int i),.im d=>(ixN xs.length i).map fun j=>.lst (xs.set j d)
 | _,_,_=>none
theorem ak.set {H:Hp}{d:Im}{v:V} (w:IsI H d v):∀ {ds:List Im}{xs:List V} (n:Nat),ak H ds xs→ak H (ds.set n d) (xs.set n v)
 | [],xs,n,h=>by cases (show xs=[] from h);exact rfl
 | e::ds,xs,0,h=>by obtain⟨u,r,rfl,h1,h2⟩:=h;exact⟨v,r,rfl,w,h2⟩
 | e::ds,xs,n+1,h=>by obtain⟨u,r,rfl,h1,h2⟩:=h;exact⟨u,_,rfl,h1,ak.set w n h2⟩
theorem xc:lu X putV:=by
 intro pins s σ H o i v ov iv u Q I ro ri rv ⟨c,k,d,c',R,S,wc,wk,wd,nd,e,q⟩
 unfold putV at e
 split at e
 ·obtain⟨j,e1,e2⟩:=Option.map_eq_some_iff.mp e
  cases e2
  obtain⟨a,ys,rfl,h1,h2,rfl⟩:=wc
  obtain⟨hd,rfl⟩:=wd
  have c:Chg H a:=⟨_,h1,(fun _ e=>by cases e),(fun _ _ e=>by cases e)⟩
  refine u7 pins s σ H _ _ _ ov iv u Q I ro ri rv ⟨a,ys,_,j,rfl,wk.1,h1,by rw[← h2.length];exact e1,q _ [a] ?_ (Stp.chg (.head _) c (List.pairwise_singleton _ _) fun x hx=>by simpa using hx)⟩
  exact⟨a,_,rfl,bD,(ak.set hd j h2).mono (IsI.updC c),rfl⟩
 ·cases e
@[simp] noncomputable def gIx (i:Nat) (gk:M Vl) (pt:Vl→Vl→Vl→Option Vl):MG:=fun d D=>match D[i]? with
 | some (some _)=>(gk D).bind fun p=>if p.1.cp=true then match p.2[i]? with
   | some (some c)=>(pt c p.1 d).map fun c'=>p.2.set i (some c')
   | _=>none
  else none
 | _=>none
theorem oW {fix:List Nat}{i:Nat}{o k:Expr}{gk:M Vl}{pt:Vl→Vl→Vl→Option Vl}{pos:Pos} (ho:PE X o (fy i)) (hk:VE X k gk) (hp:lu X pt)
  (ha:∀ v,assign (.Subscript o k pos) X.env v=(do
   let ov ← holding [v] (eval o X.env)
   let iv ← holding [v,ov] (eval k X.env)
   standAt pos
   holding [v,ov,iv] (setItem ov iv v)
   release [v,ov,iv] []):=by intro _;rfl):VG X fix (.Subscript o k pos) (gIx i gk pt):=by
 refine kZ (tH ho hk hp ha) fun v σ H Q ⟨D,F,d,R,D',st,ow,nd,hg,q⟩=>?_
 unfold gIx at hg
 split at hg
 ·rename_i c0 hc0
  obtain⟨x,A0,B0,hx,w0,_,_⟩:=st.out hc0
  obtain⟨⟨kd,D1⟩,h1,h2⟩:=Option.bind_eq_some_iff.mp hg
  split at h2
  ·rename_i hcp
   refine⟨x,hx,D,F,kd,D1,st,(List.nodup_append.mp nd).1,h1,fun kv H1 F1 RK st1 wk s1=>?_⟩
   obtain rfl:=wk.cp hcp
   rw[List.append_nil] at s1
   have nd0:=List.nodup_append.mp nd
   dsimp only at h2
   split at h2
   ·rename_i c hc
    obtain⟨c',h5,h6⟩:=Option.map_eq_some_iff.mp h2
    cases h6
    obtain⟨x',RC,F3,hx',w1,st3,pm3⟩:=st1.out hc
    rw[hx] at hx'
    cases hx'
    have ow1:Own H1 d v R:=ow.mono s1.tup fun a ha o e=>s1.keep a o e fun h=>nd0.2.2 a h a ha rfl
    -- the whole: F and R
    have s2:Stp H (F++R) H1 ((RC++R)++F3):=by
     have e0:Stp H (F++R) H (F++R):=Stp.perm nd (List.Perm.refl _)
     have:=Stp.trans (F1:=F) (R:=R) e0 s1 ow.chg
     refine this.permR ((List.Perm.append_right R pm3.symm).trans ?_)
     rw[List.append_assoc]
     exact List.perm_append_comm
    have nd2:=List.nodup_append.mp s2.nd
    refine⟨c,kd,d,c',RC,R,w1,wk,ow1,nd2.1,h5,fun H' R' w' s3=>?_⟩
    have st4:ai H' (D1.set i (some .jk)) σ F3:=st3.mono s3.tup fun a ha o e=>s3.keep a o e fun h=>nd2.2.2 a h a ha rfl
    obtain⟨F4,G,st5,pm5⟩:=st4.back w' hx
    rw[List.set_set] at st5
    exact q σ H' F4 aN.refl st5 ((s2.trans s3 st3.chg).less (pm5.trans List.perm_append_comm))
   ·cases h2
  ·cases h2
 ·cases hg
end
section
variable {X:Cx}
noncomputable def aY:List Im→List Im→List Im
 | x::xs,y::ys=>.tup [x,y]::aY xs ys
 | _,_=>[]
theorem lv:∀ (xs ys:List Im),(aY xs ys).length=min xs.length ys.length
 | [],ys=>by simp[aY]
 | x::xs,[]=>by simp[aY]
 | x::xs,y::ys=>by simp[aY,lv xs ys]
theorem lw:∀ (xs ys:List Im) (i:Nat) (d:Im),(aY xs ys)[i]?=some d→∃ x y,xs[i]?=some x∧ys[i]?=some y∧d=.tup [x,y]
 | [],ys,i,d,h=>by simp[aY] at h
 | x::xs,[],i,d,h=>by simp[aY] at h
 | x::xs,y::ys,0,d,h=>by simp[aY] at h;exact⟨x,y,rfl,rfl,h.symm⟩
 | x::xs,y::ys,i+1,d,h=>by
  obtain⟨a,b,h1,h2,h3⟩:=lw xs ys i d (by simpa [aY] using h)
  exact⟨a,b,by simpa using h1,by simpa using h2,h3⟩
@[simp] noncomputable def iZ (g:M (List Opd)):MI:=fun D=>(g D).bind fun p=>(bW p.2 p.1).bind fun ds=>match ds with
 | [.im (.tup x),.im (.tup y)]=>some ((aY x y,none),p.2)
 | _=>none
theorem xf {K:PySem.W.Frag}{H:Hp}{a b:Addr}{xs ys:List V}{ds es:List Im} (h:H a=some (.tup xs)) (hd:ak H ds xs) (h':H b=some (.tup ys)) (hd':ak H es ys):ItOk (Itz K a b) H [] (aY ds es) where
 go:=fun H' t k i d e=>by
  obtain⟨x,y,e1,e2,rfl⟩:=lw ds es i d e
  obtain⟨v,g1,g2⟩:=hd.get e1
  obtain⟨u,k1,k2⟩:=hd'.get e2
  have q1:=SqT.of (K:=K) (t.tup a _ h)
  have q2:=SqT.of (K:=K) (t.tup b _ h')
  refine⟨⟨xs,ys,v,u,q1,q2,g1,k1⟩,fun z H'' ⟨T,x',y',f,ez,eH,y1,y2⟩=>?_⟩
  subst ez eH
  have z1:=y1 xs q1
  have z2:=y2 ys q2
  rw[g1] at z1
  rw[k1] at z2
  cases z1
  cases z2
  have s:ap H' (upd H' T (.tup [v,u])):=(ap.refl H').upd f
  exact⟨s,T,[v,u],rfl,bD,⟨v,[u],rfl,(g2.mono t.tup).mono s.tupS.tup,u,[],rfl,(k2.mono t.tup).mono s.tupS.tup,rfl⟩⟩
 stop:=fun H' t k=>⟨xs,ys,SqT.of (t.tup a _ h),SqT.of (t.tup b _ h'),by rw[lv,← hd.length,← hd'.length];lia⟩
theorem lx {a b:Expr}{g:M (List Opd)}{p pos:Pos}{es:List Expr}{ek:Nat}{ps:Pos} (hg:Gl X "zip") (hm:X.mg "zip" = none) (ha:VA X [a,b] g) (hs:starEach [a,b] X.env=[(false,eval a X.env),(false,eval b X.env)]:=by rfl) (hs2:starEach [b] X.env=[(false,eval b X.env)]:=by rfl):
  VI X (.Tuple es ek ps) (.Call (.Name "zip" p) [a,b] [] pos) (iZ g):=by
 refine iw (v6 hg hm ha hs hs2) fun σ H Rk ⟨D,F,r,D',st,nd,hgg,q⟩=>?_
 obtain⟨⟨os,D1⟩,h1,h2⟩:=Option.bind_eq_some_iff.mp hgg
 obtain⟨ds,h3,h4⟩:=Option.bind_eq_some_iff.mp h2
 refine⟨D,F,os,D1,st,nd,h1,fun vs H1 F1 R1 st1 o1 s1=>?_⟩
 have rd:=o1.read st1 h3
 split at h4
 ·cases h4
  obtain⟨v,u,rfl,e,e'⟩:=oG rd
  obtain⟨a,xs,rfl,k1,k2⟩:=e
  obtain⟨b,ys,rfl,k3,k4⟩:=e'
  exact⟨a,b,rfl,⟨xs,SqT.of k1⟩,⟨ys,SqT.of k3⟩,q _ H1 F1 [] st1 (xf k1 k2 k3 k4) trivial (fun a ha=>nomatch ha) (by rw[List.append_nil];exact s1.both)⟩
 ·cases h4
theorem xg {fx:List Nat}{g:M (List Opd)}:∀ D r D',iZ g D=some (r,D')→eM fx r.2:=by
 intro D r D' h
 obtain⟨⟨os,D1⟩,h1,h2⟩:=Option.bind_eq_some_iff.mp h
 obtain⟨ds,h3,h4⟩:=Option.bind_eq_some_iff.mp h2
 split at h4
 ·cases h4;trivial
 ·cases h4
@[simp] noncomputable def vMin3:OpN:=fun ds=>match ds with
 | [.im (.int i),.im (.int j),.im (.int k)]=>some (.im (.int (min (min i j) k)))
 | _=>none
theorem xh (hc:X.calm=true):bn X (.builtin "min") (fun xs H Q=>∃ i j k,xs=[.int i,.int j,.int k]∧Q (.int (min (min i j) k)) H):=by
 intro pins s σ H xs us Q I r h
 obtain⟨i,j,k,rfl,q⟩:=h
 cases r with
 | cons a r=>
  obtain⟨u,w',rfl,⟨t',rfl⟩,⟨t'',rfl⟩⟩:=i7 r
  obtain⟨t,rfl⟩:=a
  refine min_three_ints (I.ok.hd hc) fun h' tk kk=>⟨.int (min (min i j) k),H,I.kept kk,?_,q⟩
  by_cases h1:j<i
  ·rw[if_pos h1]
   by_cases h2:k<j
   ·rw[if_pos h2,show min (min i j) k=k by lia];exact⟨_,rfl⟩
   ·rw[if_neg h2,show min (min i j) k=j by lia];exact⟨_,rfl⟩
  ·rw[if_neg h1]
   by_cases h2:k<i
   ·rw[if_pos h2,show min (min i j) k=k by lia];exact⟨_,rfl⟩
   ·rw[if_neg h2,show min (min i j) k=i by lia];exact⟨_,rfl⟩
theorem xi (hc:X.calm=true):de X (.builtin "min") vMin3:=by
 refine (xh hc).imp fun xs H Q ⟨ds,d,rd,e,q⟩=>?_
 unfold vMin3 at e
 split at e
 ·cases e
  obtain⟨v,r,rfl,h,rd⟩:=rd
  obtain⟨u,w,rfl,k,l⟩:=jv rd
  cases (show v=_ from h.i)
  cases (show u=_ from k.i)
  cases (show w=_ from l.i)
  exact⟨_,_,_,rfl,Out.i q rfl⟩
 ·cases e
noncomputable def cU (lo:Int) (n:Nat):List V:=(List.range n).map fun (k:Nat)=>V.int (lo+(k:Int))
noncomputable def tLR (ta:TA):TE:=fun σ H Q=>ta σ H fun vs H1=>∃ j:Int,vs=[.int j]∧small j∧∀ l,H1 l=none→Q (.ref l) (upd H1 l (.lst (cU 0 j.toNat)))
theorem xj {a:Expr}{ta:TA}{p p2 pos pos2:Pos} (hc:X.calm=true) (hl:Gl X "list") (hlm:X.mg "list" = none) (hg:Gl X "range") (hm:X.mg "range" = none) (ha:PA X [a] ta) (hs:starEach [a] X.env=[(false,eval a X.env)]:=by rfl):
  PE X (.Call (.Name "list" p2) [.Call (.Name "range" p) [a] [] pos] [] pos2) (tLR ta):=by
 intro pins s σ H Q I h
 refine wpAny_Call_Name_kw (cl I hl hlm (show bootBuiltins "list" = some (.type "list") by decide +kernel) (PyProof.Rows.callWith_type1 ?_ rfl rfl) (by decide) (by decide))
 refine Calls.spliced_cons ?_
 refine Call_ (cl I hg hm boot_range (PyProof.Rows.callWith_type1 (thn (ha pos pins s σ H _ I h) fun us s1 ⟨vs,H1,I1,r1,q1⟩=>?_) hs rfl))
 obtain⟨j,e,sm,q⟩:=q1
 subst e
 obtain⟨u,rfl,t,rfl⟩:=c5 r1
 refine call_range_1 (Calls.spliced_nil ?_)
 refine call_list_range (n:=j.toNat) (I1.ok.hd hc) (IsRange.new ..) (small_one (by lia) (by lia) (by have:=sm.1;lia) (by have:=sm.2;lia)) (by rw[rangeSize_one];split<;>lia) (by have:=sm.2;lia) fun h' tk acc c' kp e it=>?_
 have I2:Inv X pins σ H1 { s1 with heap:=s1.heap.push { cls:=.type "range",data:=.fields #[.int 0 s1.toks,.int j t,.int 1 (s1.toks+1)] },toks:=s1.toks+1+1 }:=I1.kept fun b o e=>Heap.get?_push_of_some _ e
 have rv:am (cU 0 j.toNat) acc.toList:=by
  refine jf (show (cU 0 j.toNat).length=acc.toList.length from (by rw[cU,List.length_map,List.length_range];exact it.1.symm)) fun i v u h1 h2=>?_
  have hi:i<j.toNat:=by
   have:=(List.getElem?_eq_some_iff.mp h1).1
   rwa [cU,List.length_map,List.length_range] at this
  rw[cU,List.getElem?_map,List.getElem?_range hi] at h1
  cases h1
  obtain⟨t,rfl⟩:=it.2 i u (by simpa using h2)
  exact⟨t,by rw[Int.mul_one]⟩
 refine⟨.ref _,_,I2.laid (t':=tk) (o:=.lst (cU 0 j.toNat)) kp (Nat.le_refl _) (show _∧∃ its m,am (cU 0 j.toNat) its∧_ from ⟨?_,acc.toList,c',rv,by simpa using e⟩),rfl,q _ (I2.hok.fresh (Nat.le_refl _))⟩
 rw[cU,List.length_map,List.length_range]
 have h2:=sm.2
 have hz:sizeLine=16777216:=sizeLine_eq
 lia
@[simp] noncomputable def ly (g:M (List Opd)):M Vl:=fun D=>(g D).bind fun p=>(bW p.2 p.1).bind fun ds=>match ds with
 | [.im (.int j)]=>if small j then some (.lst (ba 0 j.toNat),p.2) else none
 | _=>none
theorem oX {a:Expr}{g:M (List Opd)}{p p2 pos pos2:Pos} (hl:Gl X "list") (hlm:X.mg "list" = none) (hg:Gl X "range") (hm:X.mg "range" = none) (ha:VA X [a] g) (hs:starEach [a] X.env=[(false,eval a X.env)]:=by rfl) (hc:X.calm=true:=by rfl):
  VE X (.Call (.Name "list" p2) [.Call (.Name "range" p) [a] [] pos] [] pos2) (ly g):=by
 refine a5 (xj hc hl hlm hg hm ha hs) fun σ H Q ⟨D,F,r,D',st,nd,hgg,q⟩=>?_
 obtain⟨⟨os,D1⟩,h1,h2⟩:=Option.bind_eq_some_iff.mp hgg
 obtain⟨ds,h3,h4⟩:=Option.bind_eq_some_iff.mp h2
 refine⟨D,F,os,D1,st,nd,h1,fun vs H1 F1 R1 st1 o1 s1=>?_⟩
 have rd:=o1.read st1 h3
 split at h4
 ·rename_i j
  split at h4
  ·rename_i hj
   cases h4
   obtain⟨v,rfl,e⟩:=jo rd
   cases (show v=.int j from e)
   refine⟨j,rfl,hj,fun l fl=>?_⟩
   have s2:ap H1 (upd H1 l (.lst (cU 0 j.toNat))):=(ap.refl H1).upd fl
   have hi:∀ H,ak H (ba 0 j.toNat) (cU 0 j.toNat):=fun H=>by
    unfold ba cU
    generalize List.range j.toNat=ks
    induction ks with
    | nil=>rfl
    | cons k r ih=>exact⟨_,_,rfl,rfl,ih⟩
   exact q _ _ F1 [l] (st1.mono s2.tupS fun a _ o e=>s2 a o e) ⟨l,_,rfl,bD,hi _,rfl⟩ (s1.new s2 (List.pairwise_singleton _ _) (fun a ha=>by rw[List.mem_singleton.mp ha];exact fl) st1.chg)
  ·cases h4
 ·cases h4
noncomputable def jA (lt:Im→Im→Bool) (x:Im):List Im→List Im
 | []=>[x]
 | y::r=>if lt x y=true then x::y::r else y::jA lt x r
noncomputable def gH (lt:Im→Im→Bool):List Im→List Im
 | []=>[]
 | x::r=>jA lt x (gH lt r)
noncomputable def ltI:Im→Im→Bool
 | .int i,.int j=>decide (i<j)
 | _,_=>false
noncomputable def ints?:List Im→Option (List Int)
 | []=>some []
 | .int i::r=>(ints? r).map fun s=>i::s
 | _::_=>none
@[simp] noncomputable def vSorted:OpN:=fun ds=>match ds with
 | [.lst x]=>(ints? x).bind fun ns=>if ns.Nodup∧ns.length≤1000 then some (.lst (gH ltI x)) else none
 | _=>none
theorem jB (ns:List Int):ints? (ns.map .int)=some ns:=by
 induction ns with
 | nil=>rfl
 | cons n r ih=>rw[List.map_cons,ints?,ih];rfl
noncomputable def eT (x:Int):List Int→List Int
 | []=>[x]
 | y::r=>if x<y then x::y::r else y::eT x r
noncomputable def aM:List Int→List Int
 | []=>[]
 | x::r=>eT x (aM r)
theorem oY (x:Int):∀ l:List Int,jA ltI (.int x) (l.map .int)=(eT x l).map .int
 | []=>rfl
 | y::r=>by
  rw[List.map_cons,jA,eT,ltI]
  by_cases h:x<y
  ·rw[if_pos (by simpa using h),if_pos h];rfl
  ·rw[if_neg (by simpa using h),if_neg h,oY x r];rfl
theorem iD:∀ l:List Int,gH ltI (l.map .int)=(aM l).map .int
 | []=>rfl
 | x::r=>by rw[List.map_cons,gH,iD r,oY];rfl
theorem lz (x:Int):∀ l:List Int,(eT x l).Perm (x::l)
 | []=>List.Perm.refl _
 | y::r=>by
  rw[eT]
  split
  ·exact List.Perm.refl _
  ·exact ((lz x r).cons y).trans (List.Perm.swap x y r)
theorem b6:∀ l:List Int,(aM l).Perm l
 | []=>List.Perm.refl _
 | x::r=>(lz x _).trans ((b6 r).cons x)
theorem oZ (x:Int):∀ l:List Int,l.Pairwise (·≤·)→(eT x l).Pairwise (·≤·)
 | [],_=>List.pairwise_singleton _ _
 | y::r,h=>by
  obtain⟨h1,h2⟩:=List.pairwise_cons.mp h
  rw[eT]
  split
  ·rename_i hxy
   refine List.pairwise_cons.mpr ⟨fun z hz=>?_,h⟩
   rcases List.mem_cons.mp hz with rfl | hz
   ·lia
   ·have:=h1 z hz;lia
  ·rename_i hxy
   refine List.pairwise_cons.mpr ⟨fun z hz=>?_,oZ x r h2⟩
   rcases List.mem_cons.mp ((lz x r).mem_iff.mp hz) with rfl | hz
   ·lia
   ·exact h1 z hz
theorem o0:∀ l:List Int,(aM l).Pairwise (·≤·)
 | []=>List.Pairwise.nil
 | x::r=>oZ x _ (o0 r)
theorem iE {l:List Int} (h:l.Nodup):(aM l).Pairwise (· < ·):=by
 have h1:=o0 l
 have h2:(aM l).Nodup:=(b6 l).nodup_iff.mpr h
 exact List.Pairwise.imp₂ (fun a b x y=>by lia) h1 h2
theorem lD:∀ {l m:List Int},l.Perm m→l.Pairwise (· < ·)→m.Pairwise (· < ·)→l=m
 | [],m,h,_,_=>h.nil_eq
 | a::l,[],h,_,_=>absurd h.length_eq (by simp)
 | a::l,b::m,h,hl,hm=>by
  have hl':=List.pairwise_cons.mp hl
  have hm':=List.pairwise_cons.mp hm
  have e:a=b:=by
   rcases List.mem_cons.mp (h.mem_iff.mp (.head _)) with z | z
   ·exact z
   ·rcases List.mem_cons.mp (h.mem_iff.mpr (.head _)) with y | y
    ·exact y.symm
    ·have h1:=hl'.1 b y
     have h2:=hm'.1 a z
     lia
  subst e
  rw[lD h.cons_inv hl'.2 hm'.2]
theorem lE:∀ {x:List Im}{ns:List Int},ints? x=some ns→x=ns.map .int
 | [],ns,h=>by cases h;rfl
 | .int i::r,ns,h=>by
  rw[ints?] at h
  obtain⟨s,h1,rfl⟩:=Option.map_eq_some_iff.mp h
  rw[lE h1];rfl
 | .non::_,_,h=>by cases h
 | .bl _::_,_,h=>by cases h
 | .str _::_,_,h=>by cases h
 | .tup _::_,_,h=>by cases h
 | .fn _::_,_,h=>by cases h
 | .fl _::_,_,h=>by cases h
theorem lF {H:Hp}:∀ {ns:List Int}{vs:List V},ak H (ns.map .int) vs→vs=ns.map V.int
 | [],vs,h=>h
 | n::r,vs,h=>by
  obtain⟨v,t,rfl,h1,h2⟩:=h
  cases (show v=.int n from h1)
  rw[lF h2]
  rfl
theorem lG {H:Hp}:∀ ns:List Int,ak H (ns.map .int) (ns.map V.int)
 | []=>rfl
 | n::r=>⟨.int n,_,rfl,rfl,lG r⟩
theorem jC (hc:X.calm=true) (hu:X.A.units+20<cLine):de X (.builtin "sorted") vSorted:=by
 refine (we hc).imp fun xs H Q ⟨ds,d,rd,e,q⟩=>?_
 unfold vSorted at e
 split at e
 ·rename_i x
  obtain⟨ns,e1,e2⟩:=Option.bind_eq_some_iff.mp e
  split at e2
  ·rename_i hn
   cases e2
   obtain⟨v,rfl,_,p,xs,rfl,h1,h2,_⟩:=cz rd
   cases lE e1
   cases lF h2
   refine⟨p,ns,rfl,h1,hn.1,hn.2,fun l ns' fl pm up=>?_⟩
   rw[iD] at q
   rw[lD (pm.trans (b6 ns).symm) up (iE hn.1)]
   exact Out.l q fl (lG _)
  ·cases e2
 ·cases e
theorem pc (hu:X.A.units+20<cLine):lu X putV:=xc
end
section
variable {X:Cx}
noncomputable def pd:Im→Option Key
 | .int i=>some (.inl i)
 | .str x=>some (.inr x)
 | _=>none
@[simp] theorem Aq (i:Int):pd (.int i)=some (.inl i):=rfl
@[simp] theorem Ar (x:Str):pd (.str x)=some (.inr x):=rfl
noncomputable def kI:Key→Im
 | .inl i=>.int i
 | .inr x=>.str x
@[simp] theorem As (i:Int):kI (.inl i)=.int i:=rfl
@[simp] theorem At (x:Str):kI (.inr x)=.str x:=rfl
end
section
variable {X:Cx}
noncomputable def jD:Opd→Vl→Option (Nat×Vl)
 | .sl i,d=>some (i,d)
 | .vl _,_=>none
@[simp] theorem Au (i:Nat) (d:Vl):jD (.sl i) d=some (i,d):=rfl
@[simp] theorem Av (c d:Vl):jD (.vl c) d=none:=rfl
@[simp] noncomputable def iZm (g:M (List Opd)):MI:=fun D=>(g D).bind fun p=>(bP p.1 p.2).bind fun q=>match p.1,q.1 with
 | [o1,o2],[d1,d2]=>(cL d1).bind fun x=>(cL d2).bind fun y=>
   if d2.cp=true then some ((aY x y,if d1.cp=true then none else jD o1 d1),q.2)
   else if d1.cp=true then some ((aY x y,jD o2 d2),q.2) else none
 | _,_=>none
theorem jE {K:PySem.W.Frag}{H:Hp}{d:Vl}{v:V}{R:List Addr}{ds:List Im} (w:Own H d v R) (e:cL d=some ds):
  ∃ b a xs,v=.ref a∧ak H ds xs∧∀ H',StayS H H'→(∀ a∈R,∀ o,H a=some o→H' a=some o)→SqB b K H' a xs:=by
 unfold cL at e
 split at e
 ·cases e
  obtain⟨⟨a,xs,rfl,h1,h2⟩,rfl⟩:=w
  exact⟨false,a,xs,rfl,h2,fun H' t k=>SqT.of (t.tup a _ h1)⟩
 ·cases e
  obtain⟨a,xs,rfl,h1,h2,rfl⟩:=w
  exact⟨true,a,xs,rfl,h2,fun H' t k=>SqL.of (k a (.head _) _ h1)⟩
 ·cases e
  obtain⟨a,xs,o,rfl,h1,h2,rfl⟩:=w
  exact⟨true,a,xs,rfl,h2,fun H' t k=>.inl (.inr ⟨o,t.frz _ _ _ h1⟩)⟩
 ·cases e
theorem pf {b:Bool}{K:PySem.W.Frag}{H:Hp}{a:Addr}{xs:List V}{i:Nat}{x y:V} (h:∀ zs,SqB b K H a zs→zs[i]?=some x) (h1:SqB b K H a xs) (h2:xs[i]?=some y):x=y:=by
 have:=h xs h1
 rw[h2] at this
 exact (Option.some.inj this).symm
theorem xk {K:PySem.W.Frag}{H:Hp}{b1 b2:Bool}{a b:Addr}{R:List Addr}{xs ys:List V}{ds es:List Im} (hd:ak H ds xs) (hd':ak H es ys)
  (h:∀ H',StayS H H'→(∀ a∈R,∀ o,H a=some o→H' a=some o)→SqB b1 K H' a xs) (h':∀ H',StayS H H'→(∀ a∈R,∀ o,H a=some o→H' a=some o)→SqB b2 K H' b ys):ItOk (Izm b1 b2 K a b) H R (aY ds es) where
 go:=fun H' t k i d e=>by
  obtain⟨x,y,e1,e2,rfl⟩:=lw ds es i d e
  obtain⟨v,g1,g2⟩:=hd.get e1
  obtain⟨u,k1,k2⟩:=hd'.get e2
  have q1:=h H' t k
  have q2:=h' H' t k
  refine⟨⟨xs,ys,v,u,q1,q2,g1,k1⟩,fun z H'' ⟨T,x',y',f,ez,eH,y1,y2⟩=>?_⟩
  subst ez eH
  cases pf y1 q1 g1
  cases pf y2 q2 k1
  have s:ap H' (L2.upd H' T (.tup [v,u])):=(ap.refl H').upd f
  exact⟨s,T,[v,u],rfl,bD,⟨v,[u],rfl,(g2.mono t.tup).mono s.tupS.tup,u,[],rfl,(k2.mono t.tup).mono s.tupS.tup,rfl⟩⟩
 stop:=fun H' t k=>⟨xs,ys,h H' t k,h' H' t k,by rw[lv,← hd.length,← hd'.length];lia⟩
theorem xl {a b:Expr}{g:M (List Opd)}{p pos:Pos}{es:List Expr}{ek:Nat}{ps:Pos} (hg:Gl X "zip") (hm:X.mg "zip" = none) (ha:VA X [a,b] g) (hs:starEach [a,b] X.env=[(false,eval a X.env),(false,eval b X.env)]:=by rfl) (hs2:starEach [b] X.env=[(false,eval b X.env)]:=by rfl):
  VI X (.Tuple es ek ps) (.Call (.Name "zip" p) [a,b] [] pos) (iZm g):=by
 refine iw (wj hg hm ha hs hs2) fun σ H Rk ⟨D,F,r,D',st,nd,hgg,q⟩=>?_
 obtain⟨⟨os,D1⟩,h1,h2⟩:=Option.bind_eq_some_iff.mp hgg
 obtain⟨⟨ds,D2⟩,h3,h4⟩:=Option.bind_eq_some_iff.mp h2
 refine⟨D,F,os,D1,st,nd,h1,fun vs H1 F1 R1 st1 o1 s1=>?_⟩
 obtain⟨F2,S,st2,ow,pm⟩:=fL st1 o1 h3
 have s2:=s1.permR pm.symm
 dsimp only at h4
 split at h4
 ·rename_i oa ob da db
  obtain⟨x,e1,h5⟩:=Option.bind_eq_some_iff.mp h4
  obtain⟨y,e2,h6⟩:=Option.bind_eq_some_iff.mp h5
  obtain⟨v,_,Ra,_,rfl,wa,⟨u,_,Rb,_,rfl,wb,⟨rfl,rfl⟩,rfl⟩,rfl⟩:=ow
  rw[List.append_nil] at s2
  obtain⟨v',_,A1,_,ev,oa1,⟨u',_,A2,_,eu,ob1,⟨rfl,rfl⟩,rfl⟩,rfl⟩:=o1
  cases ev
  cases eu
  obtain⟨c1,a1,xs,rfl,i1,t1⟩:=jE (K:=X.K) wa e1
  obtain⟨c2,a2,ys,rfl,i2,t2⟩:=jE (K:=X.K) wb e2
  have hL:SqB c1 X.K H1 a1 xs:=t1 H1 (kR H1) fun _ _ _ e=>e
  have hR:SqB c2 X.K H1 a2 ys:=t2 H1 (kR H1) fun _ _ _ e=>e
  have it:ItOk (Izm c1 c2 X.K a1 a2) H1 (Ra++Rb) (aY x y):=xk i1 i2 (fun H' t k=>t1 H' t fun a ha=>k a (List.mem_append_left _ ha)) (fun H' t k=>t2 H' t fun a ha=>k a (List.mem_append_right _ ha))
  have ch:∀ a∈Ra++Rb,Chg H1 a:=fun a ha=>(List.mem_append.mp ha).elim (fun z=>wa.chg a z) fun z=>wb.chg a z
  refine⟨c1,c2,a1,a2,rfl,⟨xs,hL⟩,⟨ys,hR⟩,?_⟩
  split at h6
  ·rename_i hcb
   cases h6
   have eb:=wb.cp hcb
   subst eb
   rw[List.append_nil] at s2 it ch
   refine q _ H1 F2 Ra st2 it ?_ ch s2
   dsimp only
   split
   ·trivial
   ·cases oa with
    | sl i=>exact⟨_,oa1.1,wa⟩
    | vl c=>trivial
  ·split at h6
   ·rename_i hca
    cases h6
    have ea:=wa.cp hca
    subst ea
    rw[List.nil_append] at s2 it ch
    refine q _ H1 F2 Rb st2 it ?_ ch s2
    cases ob with
    | sl i=>exact⟨_,ob1.1,wb⟩
    | vl c=>trivial
   ·cases h6
 ·cases h4
end
section
variable {prog:Program}{w:World}{A:Around}{E:Value→Shared→Prop}{s:Shared}
end
section
variable {X:Cx}
end
section
variable {X:Cx}
noncomputable def xm:List Int→Option Int
 | []=>none
 | x::r=>some (r.foldl max x)
@[simp] noncomputable def Aw:OpN:=fun ds=>match ds with
 | [.lst x]=>(ints? x).bind fun ns=>(xm ns).map fun m=>.im (.int m)
 | _=>none
@[simp] noncomputable def pg (g:M (List Opd)):M Vl:=fun D=>(g D).bind fun p=>(bW p.2 p.1).bind fun ds=>match ds with
 | [d1,d2]=>(cL d1).bind fun x=>(cL d2).map fun y=>(.im (.tup (aY x y)),p.2)
 | _=>none
end
noncomputable abbrev gI (h:Heap) (z TI TO T:Addr) (c:Bool):Prop:=h.get? z=some { cls:=.type "zip",dict:=none,data:=.fields #[rawInt T,.bool c,.bool false,.ref TI,.ref TO],slots:=#[] }
section
variable {prog:Program}{w:World}{A:Around}{E:Value→Shared→Prop}{s:Shared}
theorem xn {M:Model}{a:Addr}{Q:Option Obj→Shared→Prop} (h:Q (s.heap.get? a) s):wpAny M A (loadIfAlive a) Q E s:=fun Γ p hΓ=>by
 show Sem.wp M Γ (.loadIfAlive a .pure) _ _ p s
 rw[Sem.wp,Sem.wp]
 exact h
theorem ph {z TI TO T:Addr}{c:Bool}{oT:Obj}{Q:Bool→Shared→Prop} (hz:gI s.heap z TI TO T c) (hT:s.heap.get? T=some oT)
  (q:∀ h',gI h' z TI TO T true→Heap.SameBut z s.heap h'→Q false { s with heap:=h' }):wpAny (model prog w) A (Builtin.SmallTypes.ownedTupleIsFree (.ref z)) Q E s:=by
 unfold Builtin.SmallTypes.ownedTupleIsFree
 refine wpAny_bind (wpAny_field hz rfl (x:=rawInt T) rfl ?_)
 show wpAny _ _ (loadIfAlive ((T:Int).toNat) >>= _) _ _ _
 refine wpAny_bind (xn ?_)
 rw[Int.toNat_natCast,hT]
 show wpAny _ _ (field (.ref z) 1 >>= _) _ _ _
 refine wpAny_bind (wpAny_field hz rfl (x:=.bool c) rfl ?_)
 cases c with
 | true=>
  show wpAny _ _ (pure false) _ _ _
  exact wpAny_pure (q s.heap hz ⟨rfl,fun _ _=>rfl⟩)
 | false=>
  show wpAny _ _ (setField (.ref z) 1 (.bool true) >>= _) _ _ _
  refine wpAny_bind (wpAny_setField_rec hz (by simp) fun h' z' s'=>wpAny_pure (q h' z' s'))
theorem xo {b1 b2 c:Bool}{z TI TO T i1 i2 l1 l2:Addr}{k1 k2:Nat}{xs ys:Array Value}{x y:Value}{oT:Obj}{Q:Value→Shared→Prop} (D:ZipApart z TI TO i1 i2 l1 l2)
  (hz:gI s.heap z TI TO T c) (hT:s.heap.get? T=some oT) (hTI:IsPair s.heap TI (.ref i1) (.ref i2))
  (h1:bd b1 s.heap i1 l1 k1) (h2:bd b2 s.heap i2 l2 k2) (hl1:bB b1 s.heap l1 xs) (hl2:bB b2 s.heap l2 ys) (hx:xs[k1]?=some x) (hy:ys[k2]?=some y)
  (hQ:∀ h',gI h' z TI TO T true→bd b1 h' i1 l1 (k1+1)→bd b2 h' i2 l2 (k2+1)→IsPair h' s.heap.objs.size x y→h'.objs.size=s.heap.objs.size+1→
   (∀ c o,c≠z→c≠i1→c≠i2→s.heap.get? c=some o→h'.get? c=some o)→Q (.ref s.heap.objs.size) { s with heap:=h' }):
  wpAny (model prog w) A (Builtin.«zip.__next__» ⟨[.ref z],[]⟩) (fun fin s'=>∃ v,fin=.done (.ret v)∧Q v s') E s:=by
 refine wpAny_bind (m:=field (.ref z) 2) (wpAny_field hz rfl (x:=.bool false) rfl ?_)
 refine wpAny_bind (m:=field (.ref z) 3) (wpAny_field hz rfl (x:=.ref TI) rfl (wpAny_bind (wpAny_seqItems hTI rfl ?_)))
 refine wpAny_bind (m:=Builtin.SmallTypes.ownedTupleIsFree (.ref z)) (ph hz hT fun j1 z1 s1=>?_)
 simp only[Bool.false_eq_true,if_false]
 rw[← Array.forIn_toList]
 simp only[List.forIn_cons,List.forIn_nil]
 refine wpAny_bind (wpAny_bind (wpAny_bind (wpAny_holding ?_)))
 show wpAny _ _ (Builtin.SmallTypes.nextOf (.ref i1) >>= _) _ _ _
 refine wpAny_bind (gu (s:={ s with heap:=j1 }) (bb h1 fun o e=>s1.extBut _ o D.i1z e) (c8 hl1 fun o e=>s1.extBut _ o D.l1z e) hx fun j2 a2 s2=>wpAny_pure (wpAny_pure ?_))
 refine wpAny_bind (wpAny_bind (wpAny_holding ?_))
 show wpAny _ _ (Builtin.SmallTypes.nextOf (.ref i2) >>= _) _ _ _
 refine wpAny_bind (gu (s:={ s with heap:=j2 }) (bb h2 fun o e=>s2.extBut _ o D.i12.symm (s1.extBut _ o D.i2z e)) (c8 hl2 fun o e=>s2.extBut _ o D.l2i1 (s1.extBut _ o D.l2z e)) hy fun j3 a3 s3=>wpAny_pure (wpAny_pure (wpAny_pure ?_)))
 refine wpAny_bind (m:=newTuple [x,y]) (wpAny_newTuple (wpAny_pure ⟨_,rfl,?_⟩))
 have hsz:j3.objs.size=s.heap.objs.size:=by rw[s3.1,s2.1,s1.1]
 show Q (.ref j3.objs.size) _
 have hp:IsPair (j3.push { cls:=.type "tuple",data:=.seq #[x,y] }) j3.objs.size x y:=Heap.get?_push_size _ rfl
 have hn:(j3.push { cls:=.type "tuple",data:=.seq #[x,y] }).objs.size=j3.objs.size+1:=Heap.size_push ..
 have up:∀ c o,j3.get? c=some o→(j3.push { cls:=.type "tuple",data:=.seq #[x,y] }).get? c=some o:=fun c o e=>Heap.get?_push_of_some _ e
 rw[hsz] at hp hn ⊢
 refine hQ _ (up _ _ (s3.extBut _ _ D.i2z.symm (s2.extBut _ _ D.i1z.symm z1))) (bb a2 fun o e=>up _ _ (s3.extBut _ _ D.i12 e)) (bb a3 fun o e=>up _ _ e) hp hn fun c o c1 c2 c3 e=>up _ _ (s3.extBut _ _ c3 (s2.extBut _ _ c2 (s1.extBut _ _ c1 e)))
end
section
variable {prog:Program}{w:World}{A:Around}{E:Value→Shared→Prop}{s:Shared}
theorem xp {b1 b2 c:Bool}{z TI TO T i1 i2 l1 l2:Addr}{k1 k2:Nat}{xs ys:Array Value}{oT:Obj}{Q:PySem.Fin→Shared→Prop} (hh:A.handled=none) (D:ZipApart z TI TO i1 i2 l1 l2)
  (hz:gI s.heap z TI TO T c) (hT:s.heap.get? T=some oT) (hTI:IsPair s.heap TI (.ref i1) (.ref i2))
  (h1:bd b1 s.heap i1 l1 k1) (h2:bd b2 s.heap i2 l2 k2) (hl1:bB b1 s.heap l1 xs) (hl2:bB b2 s.heap l2 ys) (hend:xs[k1]?=none∨ys[k2]?=none)
  (hE:∀ h' e,(∀ c o,c≠z→c≠i1→c≠i2→s.heap.get? c=some o→h'.get? c=some o)→(∃ o,h'.get? e=some o∧o.cls=.type "StopIteration")→E (.ref e) { s with heap:=h' }):
  wpAny (model prog w) A (Builtin.«zip.__next__» ⟨[.ref z],[]⟩) Q E s:=by
 refine wpAny_bind (m:=field (.ref z) 2) (wpAny_field hz rfl (x:=.bool false) rfl ?_)
 refine wpAny_bind (m:=field (.ref z) 3) (wpAny_field hz rfl (x:=.ref TI) rfl (wpAny_bind (wpAny_seqItems hTI rfl ?_)))
 refine wpAny_bind (m:=Builtin.SmallTypes.ownedTupleIsFree (.ref z)) (ph hz hT fun j1 z1 s1=>?_)
 simp only[Bool.false_eq_true,if_false]
 rw[← Array.forIn_toList]
 simp only[List.forIn_cons,List.forIn_nil]
 refine wpAny_bind (wpAny_bind (wpAny_bind (wpAny_holding ?_)))
 show wpAny _ _ (Builtin.SmallTypes.nextOf (.ref i1) >>= _) _ _ _
 cases hx:xs[k1]? with
 | none=>
  refine wpAny_bind (jh (s:={ s with heap:=j1 }) hh (bb h1 fun o e=>s1.extBut _ o D.i1z e) (c8 hl1 fun o e=>s1.extBut _ o D.l1z e) hx fun j2 e s2 oe=>?_)
  exact hE j2 e (fun c o c1 c3 _ q=>s2 _ _ c3 (s1.extBut _ _ c1 q)) oe
 | some x=>
  have hy:ys[k2]?=none:=hend.resolve_left fun h=>by rw[hx] at h;cases h
  refine wpAny_bind (gu (s:={ s with heap:=j1 }) (bb h1 fun o e=>s1.extBut _ o D.i1z e) (c8 hl1 fun o e=>s1.extBut _ o D.l1z e) hx fun j2 a2 s2=>wpAny_pure (wpAny_pure ?_))
  refine wpAny_bind (wpAny_bind (wpAny_holding ?_))
  show wpAny _ _ (Builtin.SmallTypes.nextOf (.ref i2) >>= _) _ _ _
  refine wpAny_bind (jh (s:={ s with heap:=j2 }) hh (bb h2 fun o e=>s2.extBut _ o D.i12.symm (s1.extBut _ o D.i2z e)) (c8 hl2 fun o e=>s2.extBut _ o D.l2i1 (s1.extBut _ o D.l2z e)) hy fun j3 e s3 oe=>?_)
  exact hE j3 e (fun c o c1 c2 c3 q=>s3 _ _ c3 (s2.extBut _ _ c2 (s1.extBut _ _ c1 q))) oe
theorem jF {z:Addr}{Q:Option Value→Shared→Prop} (hT:s.TypeIs (.ref z) "zip")
  (h:wpAny (model prog w) A.in1 (Builtin.«zip.__next__» ⟨[.ref z],[]⟩) (fun fin s'=>∃ v,fin=.done (.ret v)∧Q (some v) s') (fun e s'=>∃ a,e=.ref a∧(∃ o,s'.heap.get? a=some o∧o.cls=.type "StopIteration")∧Q none s') s):
  wpAny (model prog w) A (pyNext (.ref z)) Q E s:=by
 unfold pyNext
 refine wpAny_bind (wpAny_attempt (wpAny_callSpecial?_slot (name:=Str.ofString "__next__") hT F.slot_zip_next (wpAny_call_entry F.slot_zip_next hT F.entry_zip_next (wpAny_mono h (fun fin s' ⟨v,e,q⟩=>⟨v,e,?_⟩) (fun e s' ⟨a,e1,oe,q⟩=>?_)) (F.args_zip_next_1 _))))
 ·exact wpAny_pure q
 ·subst e1
  obtain⟨o,ho,hcl⟩:=oe
  exact wpAny_bind (wpAny_isInstance (T := "StopIteration") (b:=true) ⟨o,ho,hcl⟩ isSubtype_stop (wpAny_pure q))
end
theorem bH.upd {X:Cx}{pins:List (Addr×Obj)}{H:Hp}{b T:Addr}{o:HO} (h:bH X pins H b) (n:b≠T):bH X pins (upd H T o) b:=⟨by rw[aI n];exact h.1,h.2⟩
noncomputable def dU (H:Hp) (xs ys zs:List V):Prop:=∀ (i:Nat) (v:V),zs[i]?=some v→∃ T x y,v=.ref T∧H T=some (.tup [x,y])∧xs[i]?=some x∧ys[i]?=some y
theorem dU.push {H H':Hp}{xs ys zs:List V}{T:Addr}{x y:V} (h:dU H xs ys zs) (sm:ap H H') (hT:H' T=some (.tup [x,y])) (hx:xs[zs.length]?=some x) (hy:ys[zs.length]?=some y):dU H' xs ys (zs++[.ref T]):=by
 intro i v e
 by_cases hi:i<zs.length
 ·rw[List.getElem?_append_left hi] at e
  obtain⟨T',x',y',e1,e2,e3⟩:=h i v e
  exact⟨T',x',y',e1,sm _ _ e2,e3⟩
 ·rw[List.getElem?_append_right (by lia)] at e
  have hi2:i - zs.length=0:=by
   cases q:i - zs.length with
   | zero=>rfl
   | succ n=>rw[q] at e;simp at e
  rw[hi2] at e
  cases e
  have:i=zs.length:=by lia
  subst this
  exact⟨T,x,y,rfl,hT,hx,hy⟩
noncomputable abbrev LiS (h:Heap) (S:Addr) (acc:Array Value) (c:Nat):Prop:=h.get? S=some { cls:=.type "list",dict:=none,data:=.seq acc c,slots:=#[] }
noncomputable def pi (b1 b2:Bool) (a b z TI TO i1 i2 S:Addr) (i:Nat) (h:Heap):Prop:=∃ T c oT,gI h z TI TO T c∧h.get? T=some oT∧T∉[S,z,TI,TO,i1,i2]∧IsPair h TI (.ref i1) (.ref i2)∧(∃ p q,IsPair h TO p q)∧bd b1 h i1 a i∧bd b2 h i2 b i
section
variable {X:Cx}
theorem xq {b1 b2:Bool}{pins:List (Addr×Obj)}{σ:St}{a b z TI TO i1 i2 S:Addr}{A:Around} (hh:A.handled=none) (D:ZipApart z TI TO i1 i2 a b) (hSn:S∉[z,TI,TO,i1,i2]) (hSa:S≠a) (hSb:S≠b) {xs ys:List V}{H0:Hp} (q1:∀ H',ap H0 H'→SqB b1 X.K H' a xs) (q2:∀ H',ap H0 H'→SqB b2 X.K H' b ys)
  (hlen:min xs.length ys.length≤sizeLine) (res:Value) {R:Result→Shared→Prop} 
  (hR:∀ s' H' zs' acc' c',ap H0 H'→Inv X pins σ H' s'→(∀ c∈[S,z,TI,TO,i1,i2],bH X pins H' c)→LiS s'.heap S acc' c'→am zs' acc'.toList→zs'.length=min xs.length ys.length→dU H' xs ys zs'→R (.ok (.ret res)) s'):
  ∀ (m i:Nat) (s:Shared) (H:Hp) (zs:List V) (acc:Array Value) (c:Nat),min xs.length ys.length - i=m→i≤min xs.length ys.length→ap H0 H→Inv X pins σ H s→(∀ c∈[S,z,TI,TO,i1,i2],bH X pins H c)→
   (gv b1 b2 a b z TI TO i1 i2 i s.heap∨pi b1 b2 a b z TI TO i1 i2 S i s.heap)→LiS s.heap S acc c→am zs acc.toList→zs.length=i→dU H xs ys zs→
   codeAny (model X.prog X.w) A (.builtin "list.extend.loop" ⟨[.ref S,.ref z,res],[]⟩) R s:=by
 intro m
 have nS:S≠z∧S≠TI∧S≠TO∧S≠i1∧S≠i2:=by simpa [not_or] using hSn
 obtain⟨nSz,nSTI,nSTO,nS1,nS2⟩:=nS
 induction m with
 | zero=>
  intro i s H zs acc c hm hi sm I hf st hS rv hz pr
  obtain⟨its,rv1,p1,_⟩:=I.sqB (q1 H sm)
  obtain⟨its2,rv2,p2,_⟩:=I.sqB (q2 H sm)
  have l1:=rv1.length
  have l2:=rv2.length
  have hend:its.toArray[i]?=none∨its2.toArray[i]?=none:=by
   rcases Nat.lt_or_ge i xs.length with h | h
   ·exact .inr (by simp;lia)
   ·exact .inl (by simp;lia)
  refine codeAny_builtin F.entry_extend_loop ?_;rw[Around.under_plainId F.plain_extend_loop _];show wpAny _ A.in1 (pyNext (.ref z) >>= _) _ _ s
  have fin:∀ h' e,(∀ c o,c≠z→c≠TO→c≠i1→c≠i2→s.heap.get? c=some o→h'.get? c=some o)→(∃ o,h'.get? e=some o∧o.cls=.type "StopIteration")→R (.ok (.ret res)) { s with heap:=h' }:=fun h' e kk _=>by
   refine hR { s with heap:=h' } H zs acc c sm (I.turnL (t':=s.toks) hf fun d o hd e=>?_) hf (kk _ _ nSz nSTO nS1 nS2 hS) rv (by lia) pr
   simp only[List.mem_cons,List.mem_nil_iff,or_false,not_or] at hd
   exact kk d o hd.2.1 hd.2.2.2.1 hd.2.2.2.2.1 hd.2.2.2.2.2 e
  rcases st with ⟨g1,g2,⟨pa,pb,g3⟩,g4,g5⟩ | ⟨T,c',oT,g1,gT,nT,g2,g3,g4,g5⟩
  ·exact wpAny_bind (jF ⟨_,g1,rfl⟩ (n9 (A:=A.in1.in1) hh D g1 g2 g3 g4 g5 p1 p2 hend fun h' e kk oe=>⟨e,rfl,oe,wpAny_pure (fin h' e kk oe)⟩))
  ·exact wpAny_bind (jF ⟨_,g1,rfl⟩ (xp (A:=A.in1.in1) hh D g1 gT g2 g4 g5 p1 p2 hend fun h' e kk oe=>⟨e,rfl,oe,wpAny_pure (fin h' e (fun c o c1 _ c3 c4=>kk c o c1 c3 c4) oe)⟩))
 | succ m ih=>
  intro i s H zs acc c hm hi sm I hf st hS rv hz pr
  obtain⟨its,rv1,p1,_⟩:=I.sqB (q1 H sm)
  obtain⟨its2,rv2,p2,_⟩:=I.sqB (q2 H sm)
  have x1:xs[i]?=some xs[i]:=List.getElem?_eq_getElem (by lia)
  have y1:ys[i]?=some ys[i]:=List.getElem?_eq_getElem (by lia)
  obtain⟨u,hu,ru⟩:=rv1.get x1
  obtain⟨u2,hu2,ru2⟩:=rv2.get y1
  refine codeAny_builtin F.entry_extend_loop ?_;rw[Around.under_plainId F.plain_extend_loop _];show wpAny _ A.in1 (pyNext (.ref z) >>= _) _ _ s
  have lt:∀ c∈[S,z,TI,TO,i1,i2],c<s.heap.objs.size:=fun c hc=>by
   have there:(∃ o,s.heap.get? z=some o)∧(∃ o,s.heap.get? TI=some o)∧(∃ o,s.heap.get? TO=some o)∧(∃ o,s.heap.get? i1=some o)∧(∃ o,s.heap.get? i2=some o):=by
    rcases st with ⟨g1,g2,⟨pa,pb,g3⟩,g4,g5⟩ | ⟨T,c',oT,g1,gT,nT,g2,⟨pa,pb,g3⟩,g4,g5⟩
    ·exact⟨⟨_,g1⟩,⟨_,g2⟩,⟨_,g3⟩,let ⟨o,e,_⟩:=dq g4;⟨o,e⟩,let ⟨o,e,_⟩:=dq g5;⟨o,e⟩⟩
    ·exact⟨⟨_,g1⟩,⟨_,g2⟩,⟨_,g3⟩,let ⟨o,e,_⟩:=dq g4;⟨o,e⟩,let ⟨o,e,_⟩:=dq g5;⟨o,e⟩⟩
   obtain⟨⟨_,e1⟩,⟨_,e2⟩,⟨_,e3⟩,⟨_,e4⟩,⟨_,e5⟩⟩:=there
   simp only[List.mem_cons,List.mem_nil_iff,or_false] at hc
   rcases hc with rfl | rfl | rfl | rfl | rfl | rfl
   ·exact Heap.lt_size hS
   ·exact Heap.lt_size e1
   ·exact Heap.lt_size e2
   ·exact Heap.lt_size e3
   ·exact Heap.lt_size e4
   ·exact Heap.lt_size e5
  have neT:∀ c∈[S,z,TI,TO,i1,i2],c≠s.heap.objs.size:=fun c hc=>Nat.ne_of_lt (lt c hc)
  have fT:H s.heap.objs.size=none:=I.hok.fresh (Nat.le_refl _)
  have s2:ap H (upd H s.heap.objs.size (.tup [xs[i],ys[i]])):=(ap.refl H).upd fT
  have asz:acc.size=i:=by rw[← hz,← Array.length_toList];exact (Paired.length rv).symm
  have go:∀ h',IsPair h' s.heap.objs.size u u2→(∀ c o,c≠z→c≠TO→c≠i1→c≠i2→s.heap.get? c=some o→h'.get? c=some o)→(∀ h'',(∀ c o,c≠S→h'.get? c=some o→h''.get? c=some o)→gv b1 b2 a b z TI TO i1 i2 (i+1) h''∨pi b1 b2 a b z TI TO i1 i2 S (i+1) h'')→
    wpAny (model X.prog X.w) A.in1 (updateSeq S (·.push (.ref s.heap.objs.size)) >>= fun _=>again (.builtin "list.extend.loop" ⟨[.ref S,.ref z,res],[]⟩)) (fun fin s'=>match fin with | .done f=>R (.ok f) s' | .again c'=>c'.quiet=true∧codeAny (model X.prog X.w) A c' R s') (fun e s'=>R (.error e) s') { s with heap:=h' }:=by
   intro h' gp kk stt
   have hS':LiS h' S acc c:=kk _ _ nSz nSTO nS1 nS2 hS
   refine wpAny_bind (wpAny_updateSeq (s:={ s with heap:=h' }) hS' rfl (wpAny_pure ⟨plainId_quiet F.plain_extend_loop _,ih (i+1) _ (upd H s.heap.objs.size (.tup [xs[i],ys[i]])) (zs++[.ref s.heap.objs.size]) (acc.push (.ref s.heap.objs.size)) _ (by lia) (by lia) (sm.trans s2) ?_ (fun c hc=>(hf c hc).upd (neT c hc)) (stt _ fun c o hc e=>(Heap.get?_update_other _ _ (Ne.symm hc)).trans e) (Heap.get?_update_self _ hS' rfl) ?_ (by simp;lia) ?_⟩)
    (by rw[asz];lia) (by show (acc.push _).size≤sizeLine+1;rw[Array.size_push,asz];lia))
   ·refine I.turnT (t':=s.toks) hf (fun d o hd e=>?_) (Nat.le_refl _) ⟨by show 2≤sizeLine;decide,[u,u2],.cons ru (.cons ru2 .nil),?_⟩
    ·simp only[List.mem_cons,List.mem_nil_iff,or_false,not_or] at hd
     exact (Heap.get?_update_other _ _ (Ne.symm hd.1)).trans (kk d o hd.2.1 hd.2.2.2.1 hd.2.2.2.2.1 hd.2.2.2.2.2 e)
    ·exact⟨_,(Heap.get?_update_other _ _ (neT S (.head _))).trans gp,rfl,0,rfl⟩
   ·rw[Array.toList_push]
    exact rv.append (.cons rfl .nil)
   ·exact pr.push s2 bD (by rw[hz];exact x1) (by rw[hz];exact y1)
  rcases st with ⟨g1,g2,⟨pa,pb,g3⟩,g4,g5⟩ | ⟨T,c',oT,g1,gT,nT,g2,⟨pa,pb,g3⟩,g4,g5⟩
  ·refine wpAny_bind (jF ⟨_,g1,rfl⟩ (n6 (A:=A.in1.in1) D g1 g2 g3 g4 g5 p1 p2 (x:=u) (y:=u2) (by simpa using hu) (by simpa using hu2) fun h' j1 j2 j3 j4 j5 kk=>go h' j5 kk fun h'' k2=>.inr ?_))
   exact⟨_,_,_,k2 _ _ nSz.symm j1,k2 _ _ (neT S (.head _)).symm j5,fun hm=>absurd rfl (neT _ hm),k2 _ _ nSTI.symm (kk _ _ D.TIz D.TITO D.TIi1 D.TIi2 g2),⟨_,_,k2 _ _ nSTO.symm j2⟩,bb j3 fun o e=>k2 _ _ nS1.symm e,bb j4 fun o e=>k2 _ _ nS2.symm e⟩
  ·have nT':=nT
   simp only[List.mem_cons,List.mem_nil_iff,or_false,not_or] at nT'
   refine wpAny_bind (jF ⟨_,g1,rfl⟩ (xo (A:=A.in1.in1) D g1 gT g2 g4 g5 p1 p2 (x:=u) (y:=u2) (by simpa using hu) (by simpa using hu2) fun h' j1 j3 j4 j5 _ kk=>go h' j5 (fun c o c1 _ c3 c4=>kk c o c1 c3 c4) fun h'' k2=>.inr ?_))
   exact⟨T,true,oT,k2 _ _ nSz.symm j1,k2 _ _ nT'.1 (kk _ _ nT'.2.1 nT'.2.2.2.2.1 nT'.2.2.2.2.2 gT),nT,k2 _ _ nSTI.symm (kk _ _ D.TIz D.TIi1 D.TIi2 g2),⟨pa,pb,k2 _ _ nSTO.symm (kk _ _ D.TOz D.TOi1 D.TOi2 g3)⟩,bb j3 fun o e=>k2 _ _ nS1.symm e,bb j4 fun o e=>k2 _ _ nS2.symm e⟩
end
theorem xr:typeLookup (.type "zip") "__len__" = pure none:=by rw[typeLookup_type,builtinLookup_eq_fast];kernel_rfl
theorem xt:typeLookup (.type "zip") "__length_hint__" = pure none:=by rw[typeLookup_type,builtinLookup_eq_fast];kernel_rfl
section
variable {X:Cx}
theorem xu {b1 b2:Bool}{pins:List (Addr×Obj)}{σ:St}{a b z TI TO i1 i2:Addr}{A:Around}{s:Shared}{H:Hp}{E:Value→Shared→Prop}{Q:List Value→Shared→Prop} (hh:A.handled=none) (D:ZipApart z TI TO i1 i2 a b) {xs ys:List V} (q1:∀ H',ap H H'→SqB b1 X.K H' a xs) (q2:∀ H',ap H H'→SqB b2 X.K H' b ys)
  (I:Inv X pins σ H s) (hf:∀ c∈[z,TI,TO,i1,i2],bH X pins H c) (st:gv b1 b2 a b z TI TO i1 i2 0 s.heap)
  (hQ:∀ s' H' zs acc,ap H H'→Inv X pins σ H' s'→am zs acc→zs.length=min xs.length ys.length→dU H' xs ys zs→Q acc s'):wpAny (model X.prog X.w) A (collect (.ref z)) Q E s:=by
 obtain⟨its,rv1,p1,z1⟩:=I.sqB (q1 H (ap.refl H))
 obtain⟨its2,rv2,p2,z2⟩:=I.sqB (q2 H (ap.refl H))
 obtain⟨oa,ea⟩:=gr p1
 obtain⟨ob,eb⟩:=gr p2
 have lt:∀ c∈[z,TI,TO,i1,i2],c<s.heap.objs.size:=fun c hc=>by
  obtain⟨h1,h2,⟨p,q,h3⟩,h4,h5⟩:=st
  simp only[List.mem_cons,List.mem_nil_iff,or_false] at hc
  rcases hc with rfl | rfl | rfl | rfl | rfl
  ·exact Heap.lt_size h1
  ·exact Heap.lt_size h2
  ·exact Heap.lt_size h3
  ·obtain⟨o,e,_⟩:=dq h4;exact Heap.lt_size e
  ·obtain⟨o,e,_⟩:=dq h5;exact Heap.lt_size e
 have hSn:s.heap.objs.size∉[z,TI,TO,i1,i2]:=fun h=>Nat.lt_irrefl _ (lt _ h)
 have nSz:s.heap.objs.size≠z:=Nat.ne_of_gt (lt z (by simp))
 unfold collect
 refine wpAny_bind (wpAny_runValue (codeAny_builtin F.entry_proto_collect ?_));rw[Around.under_plainId F.plain_proto_collect _]
 show wpAny _ A.in1 (newList [] >>= fun l=>again (.builtin "list.__iadd__" ⟨[l,.ref z],[]⟩)) _ _ s
 refine wpAny_bind (wpAny_newObj_type (wpAny_pure ⟨plainId_quiet F.plain_list_iadd _,codeAny_builtin F.entry_list_iadd ?_⟩));rw[Around.under_plainId F.plain_list_iadd _]
 have up:∀ c o,s.heap.get? c=some o→(s.heap.push { cls:=.type "list",data:=.seq ([]:List Value).toArray }).get? c=some o:=fun c o e=>Heap.get?_push_of_some _ e
 have e1:(s.heap.push { cls:=.type "list",data:=.seq ([]:List Value).toArray }).get? s.heap.objs.size=some { cls:=.type "list",data:=.seq ([]:List Value).toArray }:=Heap.get?_push_size _ rfl
 have fS:bH X pins H s.heap.objs.size:=I.fpOk (Nat.le_refl _) (I.hok.fresh (Nat.le_refl _))
 have hT:Shared.TypeIs ({ s with heap:=s.heap.push { cls:=.type "list",data:=.seq ([]:List Value).toArray } }:Shared) (.ref z) "zip" := ⟨_,up _ _ st.1,rfl⟩
 show wpAny _ A.in1 (Builtin.List.listExtendWith (.ref s.heap.objs.size) (.ref z) (.ref s.heap.objs.size)) _ _ _
 unfold Builtin.List.listExtendWith
 refine wpAny_bind (wpAny_typeOf hT ?_)
 have c1:Builtin.List.listSameRef (.ref s.heap.objs.size) (.ref z)=false:=by simp[Builtin.List.listSameRef,nSz]
 rw[if_neg (by rw[c1];decide)]
 refine wpAny_bind (wpAny_pyIter_zip (up _ _ st.1) (wpAny_bind (wpAny_holding ?_)))
 unfold Builtin.List.listLengthHint
 refine wpAny_bind (wpAny_specialOf hT xr ?_)
 show wpAny _ A.in1 (specialOf (.ref z) (Str.ofString "__length_hint__") >>= _) _ _ _
 refine wpAny_bind (wpAny_specialOf hT xt (wpAny_pure ?_))
 show wpAny _ A.in1 (rule "list.extend.makes-room" >>= fun _=>Builtin.List.listTouch (.ref s.heap.objs.size) >>= fun _=>again (.builtin "list.extend.loop" ⟨[.ref s.heap.objs.size,.ref z,.ref s.heap.objs.size],[]⟩)) _ _ _
 refine wpAny_bind (wpAny_rule (wpAny_bind ?_))
 show wpAny _ A.in1 (updateSeq s.heap.objs.size (·.push .none) >>= fun _=>updateSeq s.heap.objs.size (·.pop)) _ _ _
 refine wpAny_bind (wpAny_updateSeq e1 rfl ?_)
 have e2:=Heap.get?_update_self (Obj.mapSeq (·.push Value.none)) e1 rfl
 refine wpAny_updateSeq e2 rfl ?_
 have e3:=Heap.get?_update_self (Obj.mapSeq (·.pop)) e2 rfl
 have oth:∀ c o,c≠s.heap.objs.size→s.heap.get? c=some o→
   (((s.heap.push { cls:=.type "list",data:=.seq ([]:List Value).toArray }).update s.heap.objs.size (Obj.mapSeq (·.push Value.none))).update s.heap.objs.size (Obj.mapSeq (·.pop))).get? c=some o:=
  fun c o hc e=>(Heap.get?_update_other _ _ (Ne.symm hc)).trans ((Heap.get?_update_other _ _ (Ne.symm hc)).trans (up c o e))
 refine wpAny_pure ⟨plainId_quiet F.plain_extend_loop _,xq (X:=X) (pins:=pins) (σ:=σ) (A:=A) hh D hSn (Nat.ne_of_gt (Heap.lt_size ea)) (Nat.ne_of_gt (Heap.lt_size eb)) q1 q2 (by rw[Nat.min_def];split<;>lia) _ (fun s' H' zs acc' c' sm I' _ hS' rv hz pr=>?_) _ 0 _ H [] #[] _ rfl (Nat.zero_le _) (ap.refl H) ?_ ?_ (.inl ?_) e3 .nil rfl (fun i v e=>by simp at e)⟩
 ·show wpAny _ A (load s.heap.objs.size >>= _) _ _ s'
  exact wpAny_bind (wpAny_load hS' (wpAny_pure (hQ s' H' zs _ sm I' rv hz pr)))
 ·exact I.kept (t':=s.toks) fun c o e=>oth c o (Nat.ne_of_lt (Heap.lt_size e)) e
 ·intro c hc
  rcases List.mem_cons.mp hc with rfl | hc
  ·exact fS
  ·exact hf c hc
 ·obtain⟨h1,h2,⟨p,q,h3⟩,h4,h5⟩:=st
  have o2:∀ c∈[z,TI,TO,i1,i2],∀ o,s.heap.get? c=some o→_:=fun c hc o e=>oth c o (Nat.ne_of_lt (lt c hc)) e
  exact⟨o2 z (by simp) _ h1,o2 TI (by simp) _ h2,⟨p,q,o2 TO (by simp) _ h3⟩,bb h4 fun o e=>o2 i1 (by simp) o e,bb h5 fun o e=>o2 i2 (by simp) o e⟩
theorem xv {b1 b2:Bool}{pins:List (Addr×Obj)}{σ:St}{a b z TI TO i1 i2:Addr}{A:Around}{s:Shared}{H:Hp}{E:Value→Shared→Prop}{Q:Value→Shared→Prop} (hh:A.handled=none) (D:ZipApart z TI TO i1 i2 a b) {xs ys:List V} (q1:∀ H',ap H H'→SqB b1 X.K H' a xs) (q2:∀ H',ap H H'→SqB b2 X.K H' b ys)
  (I:Inv X pins σ H s) (hf:∀ c∈[z,TI,TO,i1,i2],bH X pins H c) (st:gv b1 b2 a b z TI TO i1 i2 0 s.heap)
  (hQ:∀ s' H' zs T,ap H H'→Inv X pins σ (upd H' T (.tup zs)) s'→H' T=none→zs.length=min xs.length ys.length→dU H' xs ys zs→Q (.ref T) s'):
  wpAny (model X.prog X.w) A (call (.type "tuple") [.ref z]) Q E s:=by
 refine callType_codes (Q₁:=fun obj s₁=>s₁.TypeIs obj "tuple" ∧ Q obj s₁) F.called_tuple (F.typeCall_tuple_1 _) F.entry_object_init (codeAny_of_tree ?_) fun obj s₁ h₁=>⟨h₁.1,F.args_object_init_2 obj _,object_init_meets F.called_tuple.init.lookup F.called_tuple.made (by decide) X.prog X.w A.in1 _ s₁ ⟨h₁.1,rfl,h₁.2⟩⟩
 show wpAny _ _ (do checkBuiltinCall "tuple.__new__" ⟨[.type "tuple",.ref z],[]⟩;again (.builtin "tuple.__new__" ⟨[.type "tuple",.ref z],[]⟩)) _ _ s
 refine wpAny_bind (wpAny_of_eq (F.newCall_tuple_1 _) (wpAny_pure ⟨plainId_quiet F.plain_tuple_new _,codeAny_builtin F.entry_tuple_new ?_⟩));rw[Around.under_plainId F.plain_tuple_new _]
 have hsub:=sub_tuple_self
 have hinit:=init_tuple_lookup
 have hmh:=madeHere_tuple
 have hTI:s.TypeIs (.ref z) "zip" := ⟨_,st.1,rfl⟩
 wp_walk using wpAny_typeOf hTI,xu (A:=A.in1.in1) hh D q1 q2 I hf st
 intro s' H' zs acc sm I' rv hz pr
 have z2:acc.length≤sizeLine:=by
  obtain⟨_,_,_,y1⟩:=I.sqB (q1 H (ap.refl H))
  have:=rv.length
  rw[Nat.min_def] at hz
  split at hz<;>lia
 show wpAny _ _ (Builtin.Tuple.tupleExact acc.toArray >>= fun v=>ret v) _ _ _
 unfold Builtin.Tuple.tupleExact
 refine wpAny_bind (wpAny_newObj_type (wpAny_pure ?_) (by show acc.toArray.size≤sizeLine;simpa using z2))
 refine⟨⟨_,Heap.get?_push_size _ rfl,rfl⟩,hQ _ H' zs _ sm (I'.laid (t':=s'.toks) (fun c o e=>Heap.get?_push_of_some _ e) (Nat.le_refl _) ⟨by rw[rv.length];exact z2,acc,rv,?_⟩) (I'.hok.fresh (Nat.le_refl _)) hz pr⟩
 exact⟨_,Heap.get?_push_size _ rfl,rfl,0,rfl⟩
end
section
variable {X:Cx}
noncomputable def tTZ (K:PySem.W.Frag) (ta:TA):TE:=fun σ H Q=>ta σ H fun vs H1=>∃ b1 b2 a b xs ys,vs=[.ref a,.ref b]∧(∀ H',ap H1 H'→SqB b1 K H' a xs)∧(∀ H',ap H1 H'→SqB b2 K H' b ys)∧
 ∀ H' zs T,ap H1 H'→H' T=none→zs.length=min xs.length ys.length→dU H' xs ys zs→Q (.ref T) (upd H' T (.tup zs))
theorem xw {a b:Expr}{ta:TA}{p p2 pos pos2:Pos} (hc:X.calm=true) (hl:Gl X "tuple") (hlm:X.mg "tuple" = none) (hg:Gl X "zip") (hm:X.mg "zip" = none) (ha:PA X [a,b] ta) (hs:starEach [a,b] X.env=[(false,eval a X.env),(false,eval b X.env)]:=by rfl) (hs2:starEach [b] X.env=[(false,eval b X.env)]:=by rfl):
  PE X (.Call (.Name "tuple" p2) [.Call (.Name "zip" p) [a,b] [] pos] [] pos2) (tTZ X.K ta):=by
 intro pins s σ H Q I h
 refine wpAny_Call_Name_kw (cl I hl hlm (show bootBuiltins "tuple" = some (.type "tuple") by decide +kernel) (PyProof.Rows.callWith_type1 ?_ rfl rfl) (by decide) (by decide))
 refine Calls.spliced_cons ?_
 refine Call_ (cl I hg hm boot_zip (PyProof.Rows.callWith_type1 (thn (ha pos pins s σ H _ I h) fun us s1 ⟨vs,H1,I1,r1,q1⟩=>?_) (by rw[hs,hs2]) (by rw[hs2];rfl)))
 obtain⟨b1,b2,l1,l2,xs,ys,e,hx,hy,q⟩:=q1
 subst e
 obtain⟨_,_,rfl,ru,ru'⟩:=i7 r1
 cases ru
 cases ru'
 obtain⟨its,rv,p,hz⟩:=I1.sqB (hx H1 (ap.refl H1))
 obtain⟨its2,rv2,p2,hz2⟩:=I1.sqB (hy H1 (ap.refl H1))
 have lt1:l1<s1.heap.objs.size:=by obtain⟨o,e⟩:=gr p;exact Heap.lt_size e
 have lt2:l2<s1.heap.objs.size:=by obtain⟨o,e⟩:=gr p2;exact Heap.lt_size e
 refine callType_new F.called_zip (by decide) (F.typeCall_zip_2 _ _) (F.newCall_zip_2 _ _) (fun obj=>F.args_object_init_3 obj _ _) F.entry_zip_new (og b1 b2 l1 l2 its.toArray its2.toArray) ⟨p,p2,?_⟩
 have z1:(s1.heap.push { cls:=.type (itN b1),data:=.fields #[.ref l1,.int 0 0] }).objs.size=s1.heap.objs.size+1:=Heap.size_push ..
 have z2:((s1.heap.push { cls:=.type (itN b1),data:=.fields #[.ref l1,.int 0 0] }).push { cls:=.type (itN b2),data:=.fields #[.ref l2,.int 0 0] }).objs.size=s1.heap.objs.size+2:=by rw[Heap.size_push,z1]
 have z3:(((s1.heap.push { cls:=.type (itN b1),data:=.fields #[.ref l1,.int 0 0] }).push { cls:=.type (itN b2),data:=.fields #[.ref l2,.int 0 0] }).push
  { cls:=.type "tuple",data:=.seq #[.ref s1.heap.objs.size,.ref (s1.heap.push { cls:=.type (itN b1),data:=.fields #[.ref l1,.int 0 0] }).objs.size] }).objs.size=s1.heap.objs.size+3:=by rw[Heap.size_push,z2]
 have z4:(zmH b1 b2 s1.heap l1 l2).objs.size=s1.heap.objs.size+4:=by unfold zmH;rw[Heap.size_push,z3]
 show _∧_
 refine⟨⟨_,Heap.get?_push_size _ rfl,rfl⟩,Calls.spliced_nil ?_⟩
 rw[z2,z3,z4]
 have g5:((zmH b1 b2 s1.heap l1 l2).push { cls:=.type "zip",data:=.fields #[.none,.bool false,.bool false,.ref (s1.heap.objs.size+2),.ref (s1.heap.objs.size+3)] }).get? (s1.heap.objs.size+4)=some { cls:=.type "zip",data:=.fields #[.none,.bool false,.bool false,.ref (s1.heap.objs.size+2),.ref (s1.heap.objs.size+3)] }:=by rw[← z4];exact Heap.get?_push_size _ rfl
 have g4:((zmH b1 b2 s1.heap l1 l2).push { cls:=.type "zip",data:=.fields #[.none,.bool false,.bool false,.ref (s1.heap.objs.size+2),.ref (s1.heap.objs.size+3)] }).get? (s1.heap.objs.size+3)=some { cls:=.type "tuple",data:=.seq #[.none,.none] }:=by
  rw[← z3];exact Heap.get?_push_of_some _ (Heap.get?_push_size _ rfl)
 have g3:((zmH b1 b2 s1.heap l1 l2).push { cls:=.type "zip",data:=.fields #[.none,.bool false,.bool false,.ref (s1.heap.objs.size+2),.ref (s1.heap.objs.size+3)] }).get? (s1.heap.objs.size+2)=some { cls:=.type "tuple",data:=.seq #[.ref s1.heap.objs.size,.ref (s1.heap.objs.size+1)] }:=by
  rw[← z2,← z1];exact Heap.get?_push_of_some _ (Heap.get?_push_of_some _ (Heap.get?_push_size _ rfl))
 have g2:((zmH b1 b2 s1.heap l1 l2).push { cls:=.type "zip",data:=.fields #[.none,.bool false,.bool false,.ref (s1.heap.objs.size+2),.ref (s1.heap.objs.size+3)] }).get? (s1.heap.objs.size+1)=some { cls:=.type (itN b2),data:=.fields #[.ref l2,.int 0 0] }:=by
  rw[← z1];exact Heap.get?_push_of_some _ (Heap.get?_push_of_some _ (Heap.get?_push_of_some _ (Heap.get?_push_size _ rfl)))
 have g1:((zmH b1 b2 s1.heap l1 l2).push { cls:=.type "zip",data:=.fields #[.none,.bool false,.bool false,.ref (s1.heap.objs.size+2),.ref (s1.heap.objs.size+3)] }).get? s1.heap.objs.size=some { cls:=.type (itN b1),data:=.fields #[.ref l1,.int 0 0] }:=
  Heap.get?_push_of_some _ (Heap.get?_push_of_some _ (Heap.get?_push_of_some _ (Heap.get?_push_of_some _ (Heap.get?_push_size _ rfl))))
 have kp:∀ c o,s1.heap.get? c=some o→((zmH b1 b2 s1.heap l1 l2).push { cls:=.type "zip",data:=.fields #[.none,.bool false,.bool false,.ref (s1.heap.objs.size+2),.ref (s1.heap.objs.size+3)] }).get? c=some o:=fun c o e=>
  Heap.get?_push_of_some _ (Heap.get?_push_of_some _ (Heap.get?_push_of_some _ (Heap.get?_push_of_some _ (Heap.get?_push_of_some _ e))))
 generalize ((zmH b1 b2 s1.heap l1 l2).push { cls:=.type "zip",data:=.fields #[.none,.bool false,.bool false,.ref (s1.heap.objs.size+2),.ref (s1.heap.objs.size+3)] })=h5 at g1 g2 g3 g4 g5 kp ⊢
 have D:ZipApart (s1.heap.objs.size+4) (s1.heap.objs.size+2) (s1.heap.objs.size+3) s1.heap.objs.size (s1.heap.objs.size+1) l1 l2:=PySem.W.ktu_apart _ _ _ lt1 lt2
 refine xv (X:=X) (pins:=pins) (σ:=σ) (I1.ok.hd hc) D hx hy (I1.kept (t':=s1.toks) kp) (fun c hc=>?_) ⟨g5,g3,⟨_,_,g4⟩,jg g1,jg g2⟩ fun s' H' zs T sm I' fT hz pr=>⟨.ref T,_,I',rfl,q H' zs T sm fT hz pr⟩
 have:s1.heap.objs.size≤c:=by
  simp only[List.mem_cons,List.mem_nil_iff,or_false] at hc
  rcases hc with rfl | rfl | rfl | rfl | rfl
  ·exact Nat.le_add_right _ _
  ·exact Nat.le_add_right _ _
  ·exact Nat.le_add_right _ _
  ·exact Nat.le_refl _
  ·exact Nat.le_add_right _ _
 exact I1.fpOk this (I1.hok.fresh this)
theorem xx {H:Hp}:∀ {ds es:List Im}{xs ys zs:List V},ak H ds xs→ak H es ys→zs.length=min xs.length ys.length→dU H xs ys zs→ak H (aY ds es) zs:=by
 intro ds
 induction ds with
 | nil=>
  intro es xs ys zs h1 h2 hz pr
  have:=h1.length
  cases zs with
  | nil=>rfl
  | cons z r=>simp at this hz;lia
 | cons d ds ih=>
  intro es xs ys zs h1 h2 hz pr
  cases es with
  | nil=>
   have:=h2.length
   cases zs with
   | nil=>rfl
   | cons z r=>simp at this hz;lia
  | cons e es=>
   obtain⟨x,xs',rfl,k1,k2⟩:=h1
   obtain⟨y,ys',rfl,j1,j2⟩:=h2
   cases zs with
   | nil=>simp at hz
   | cons z r=>
    obtain⟨T,x',y',rfl,e1,e2,e3⟩:=pr 0 z rfl
    cases e2
    cases e3
    refine⟨.ref T,r,rfl,⟨T,[x,y],rfl,e1,⟨x,[y],rfl,k1,y,[],rfl,j1,rfl⟩⟩,ih k2 j2 (by simp at hz ⊢;lia) fun i v q=>?_⟩
    exact pr (i+1) v q
theorem xy {a b:Expr}{g:M (List Opd)}{p p2 pos pos2:Pos} (hl:Gl X "tuple") (hlm:X.mg "tuple" = none) (hg:Gl X "zip") (hm:X.mg "zip" = none) (ha:VA X [a,b] g) (hs:starEach [a,b] X.env=[(false,eval a X.env),(false,eval b X.env)]:=by rfl) (hs2:starEach [b] X.env=[(false,eval b X.env)]:=by rfl) (hc:X.calm=true:=by rfl):
  VE X (.Call (.Name "tuple" p2) [.Call (.Name "zip" p) [a,b] [] pos] [] pos2) (pg g):=by
 refine a5 (xw hc hl hlm hg hm ha hs hs2) fun σ H Q ⟨D,F,r,D',st,nd,hgg,q⟩=>?_
 obtain⟨⟨os,D1⟩,h1,h2⟩:=Option.bind_eq_some_iff.mp hgg
 obtain⟨ds,h3,h4⟩:=Option.bind_eq_some_iff.mp h2
 refine⟨D,F,os,D1,st,nd,h1,fun vs H1 F1 R1 st1 o1 s1=>?_⟩
 have rd:=o1.read st1 h3
 split at h4
 ·rename_i d1 d2
  obtain⟨x,e1,h5⟩:=Option.bind_eq_some_iff.mp h4
  obtain⟨y,e2,h6⟩:=Option.map_eq_some_iff.mp h5
  cases h6
  obtain⟨v,u,rfl,⟨Ra,wa⟩,⟨Rb,wb⟩⟩:=jv rd
  obtain⟨c1,a1,xs,rfl,i1,t1⟩:=jE (K:=X.K) wa e1
  obtain⟨c2,a2,ys,rfl,i2,t2⟩:=jE (K:=X.K) wb e2
  refine⟨c1,c2,a1,a2,xs,ys,rfl,fun H' sm=>t1 H' sm.tupS fun a _ o e=>sm a o e,fun H' sm=>t2 H' sm.tupS fun a _ o e=>sm a o e,fun H' zs T sm fT hz pr=>?_⟩
  have s3:ap H' (upd H' T (.tup zs)):=(ap.refl H').upd fT
  have s4:=sm.trans s3
  have ii:ak H' (aY x y) zs:=xx (i1.mono sm.tupS.tup) (i2.mono sm.tupS.tup) hz pr
  exact q _ _ F1 [] (st1.mono s4.tupS fun a _ o e=>s4 a o e) ⟨⟨T,zs,rfl,bD,ii.mono s3.tupS.tup⟩,rfl⟩ (s1.new s4 List.nodup_nil (fun a ha=>nomatch ha) st1.chg)
 ·cases h4
end
section
variable {X:Cx}
theorem xz {i0:Nat}{x0:Str}{pos' spos:Pos}{tg iter elt:Expr}{ifs:List Expr}{scope:Scope}{pos:Pos}{own:List Str}{caps:List Nat}{wi:TI}{g:Blk→TG}{tt:Blk→TT}{te:Blk→TE}
  (hN:X.N.Nodup) (hi0:X.N[i0]?=some x0) (hx0:Loc X.env.scope x0) (hc:X.calm=true) (S:CompScope X scope own caps) (hi:PI X tg iter wi)
  (hg:∀ Y,PG (X.blk (bI X own caps) scope Y) tg (g Y)) (ht:∀ Y,PTs (X.blk (bI X own caps) scope Y) ifs (tt Y)) (he:∀ Y,PE (X.blk (bI X own caps) scope Y) elt (te Y))
  (hs:∀ x,foldedSetIterable iter X.env x=pure x:=by intro _;rfl) (hsw:swapsWith (.ListComp elt [⟨tg,iter,ifs,0⟩] scope pos) (some (.Name x0 pos')) spos.line X.env=pure true:=by rfl)
  (hf0:X.fn x0=true∨X.env.scope.names.lookup x0=some .local:=by first | exact .inl rfl | exact .inr rfl | assumption):
  PS X (.Assign [.Name x0 pos'] (.ListComp elt [⟨tg,iter,ifs,0⟩] scope pos) spos) (ko (ja own caps wi g tt te) (kn i0)):=by
 intro pins s σ H Dn I h
 rw[exec_Assign_Name_used _ _ _ _ hsw]
 refine wpAny_bind (wpAny_standAt (wpAny_bind ?_))
 show wpAny _ X.A (do let _ ← comprehension (.ListComp elt [⟨tg,iter,ifs,0⟩] scope pos) scope X.env _ (newList []) false (eval iter X.env) (some (assign (.Name x0 pos') X.env))) _ _ s
 refine wpAny_bind (wpAny_mono (nL (use:=some (assign (.Name x0 pos') X.env)) (Qp:=fun _ s'=>SP X pins Dn .next s') hc S hi hg ht he hs I h fun D C H4 s4 m I4 hn f nLC nCC z p q=>?_) (fun _ s' hq=>wpAny_pure (wpAny_pure hq)) fun _ _ e=>e)
 show wpAny _ X.A (assign (.Name x0 pos') X.env (.ref D)) _ _ s4
 refine wpAny_assign_Name (mM I4 hN hi0 hx0 (v:=.ref D) rfl (fun s5 I5 h5=>?_) hf0)
 obtain⟨a,sb5,ha⟩:=h5
 have naC:C≠a:=by
  rcases ha with rfl | ha
  ·exact Ne.symm nLC
  ·exact Ne.symm (nCC _ _ ha)
 exact⟨m,hn.sameBut sb5 naC,fun h' sb=>⟨_,_,I5.turned (it:=C) (t':=s5.toks) (fun b o hb e=>(sb.2 b hb).trans e) f (Ne.symm nLC) (.inr z) nCC p,q⟩⟩
end
section
variable {X:Cx}
theorem xA {fix:List Nat}{i:Nat}{x0:Str}{pos' spos:Pos}{tg iter elt:Expr}{ifs:List Expr}{scope:Scope}{pos:Pos}{own:List Str}{caps:List Nat}{gi:MI}{gt:MG}{gc:M Bool}{ge:M Vl}
  (hN:X.N.Nodup) (hi0:X.N[i]?=some x0) (hx0:Loc X.env.scope x0) (hc:X.calm=true) (S:CompScope X scope own caps) (nd:caps.Nodup) (hi:VI X tg iter gi)
  (hg:∀ Y,VG (X.blk (bI X own caps) scope Y) (iy own.length caps.length) tg gt) (ht:∀ Y,VTs (X.blk (bI X own caps) scope Y) ifs gc) (he:∀ Y,VE (X.blk (bI X own caps) scope Y) elt ge) (hf:i∉fix)
  (hs:∀ x,foldedSetIterable iter X.env x=pure x:=by intro _;rfl) (hsw:swapsWith (.ListComp elt [⟨tg,iter,ifs,0⟩] scope pos) (some (.Name x0 pos')) spos.line X.env=pure true:=by rfl)
  (hf0:X.fn x0=true∨X.env.scope.names.lookup x0=some .local:=by first | exact .inl rfl | exact .inr rfl | assumption):
  VS X fix (.Assign [.Name x0 pos'] (.ListComp elt [⟨tg,iter,ifs,0⟩] scope pos) spos) (aA i (aO own.length caps gi gt gc ge)):=by
 refine eI (xz hN hi0 hx0 hc S hi hg ht he hs hsw hf0) fun E σ H ⟨D,F,fl,D',st,nd',hgg,q⟩=>?_
 obtain⟨⟨r,D1⟩,h1,h2⟩:=Option.bind_eq_some_iff.mp hgg
 split at h2
 ·rename_i hl
  cases h2
  refine oM nd ⟨D,F,r,_,st,nd',h1,fun v H1 F1 R st1 ow s1=>?_⟩
  obtain⟨F2,R2,st2,pm⟩:=st1.put (i:=i) ow hl
  exact q _ H1 F2 (aN.set hf) st2 (s1.less pm)
 ·cases h2
end
section
variable {X:Cx}
noncomputable def pj:Vl→Vl
 | .lst x=>.im (.fl x)
 | d=>d
@[simp] theorem Ax (x:List Im):pj (.lst x)=.im (.fl x):=rfl
@[simp] theorem Ay (d:Im):pj (.im d)=.im d:=rfl
theorem xB {CX:CXT}{k:Nat}{f:Addr}{fd:FuncData}{ps:List Str}{sp:Sp}{E:XK}{x:Str}{p pos:Pos}{e:Expr}{es:List Expr}{tv:TE}{t:TA}{ds:List Value}{dvs:List V}
  (F:FnOk X.prog X.w X.K X.mg X.base CX k f fd ps sp) (hr:Room k X.A) (hv:PE X (.Name x p) tv) (hk:PySem.W.keepIn X.K (.ref f)=true) (hb:az X.K fd ps ds) (hd:am dvs ds) (hx:i8 CX X E)
  (ha:PA X (e::es) t) (he:starEach (e::es) X.env=(false,eval e X.env)::starEach es X.env:=by rfl) (hpl:(backTo pos (starEach es X.env)).any (·.1)=false:=by rfl):
  PE X (.Call (.Name x p) (e::es) [] pos) (fun σ H Q=>tv σ H fun v H1=>v=.ref f∧kz sp dvs E t σ H1 Q):=by
 intro pins s σ H Q I h
 refine wpAny_Call_Name_kw (thn (hv pins s σ H _ I h) fun v s1 ⟨y,H1,I1,r1,e1,q1⟩=>?_)
 subst e1
 cases r1
 refine PySem.W.callWith_K (h₀:=X.base) I1.ok.mod.kin hk (thn (ha pos pins s1 σ H1 _ I1 q1) fun us s2 ⟨vs,H2,I2,r,q⟩=>⟨I2.kIn,?_⟩) he hpl
 exact mY F hr hb hd hx I2 r q
@[simp] noncomputable def lH (i:Nat) (f:Addr) (n:Nat) (G:Fn) (g:M (List Opd)):M Vl:=fun D=>match D[i]? with
 | some (some (.im (.fn a)))=>if a=f then av n G g D else none
 | _=>none
theorem xC {i n k:Nat}{G:Fn}{f:Addr}{fd:FuncData}{ps:List Str}{x:Str}{p pos:Pos}{e:Expr}{es:List Expr}{g:M (List Opd)} (F:FnOk X.prog X.w X.K X.mg X.base CX0 k f fd ps (spV n G)) (hr:Room k X.A) (hv:PE X (.Name x p) (fy i)) (hk:PySem.W.keepIn X.K (.ref f)=true) (hb:az X.K fd ps [])
  (ha:VA X (e::es) g) (he:starEach (e::es) X.env=(false,eval e X.env)::starEach es X.env:=by rfl) (hpl:(backTo pos (starEach es X.env)).any (·.1)=false:=by rfl):
  VE X (.Call (.Name x p) (e::es) [] pos) (lH i f n G g):=by
 refine a5 (xB F hr hv hk hb .nil nG ha he hpl) fun σ H Q ⟨D,F0,r,D',st,nd,hg,q⟩=>?_
 unfold lH at hg
 split at hg
 ·rename_i a hd
  split at hg
  ·rename_i ha
   subst ha
   obtain⟨v,F1,F2,h1,h2,h3,h4⟩:=st.out hd
   exact⟨v,h1,h2.1,oz ⟨D,F0,r,D',st,nd,hg,q⟩⟩
  ·cases hg
 ·cases hg
end
end L2
namespace HT
open PySem PySem.Spec PyProof.Rows
section
variable {prog:Program}{w:World}{A:Around}{E:Value→Shared→Prop}{s:Shared}
end
end HT
namespace L2
open PySem PySem.Spec PyProof.Rows
section
variable {X:Cx}
end
noncomputable abbrev cC (xs:Array Nat):Prop:=xs.toList.Pairwise (· < ·)
theorem jG {xs:Array Nat} (r:cC xs) {i k:Nat}{d:Nat} (h:i<k) (hk:k<xs.size):xs.getD i d<xs.getD k d:=by
 have hi:i<xs.size:=Nat.lt_trans h hk
 have e:∀ m (hm:m<xs.size),xs.getD m d=xs.toList[m]'(by simpa using hm):=fun m hm=>by simp[Array.getD,hm]
 rw[e i hi,e k hk]
 exact List.pairwise_iff_getElem.mp r i k _ _ h
theorem lJ (xs:Array Nat) (r:cC xs) (j:Nat):∀ (fuel lo hi:Nat),hi - lo≤fuel→lo≤hi→hi≤xs.size→(∀ i,i<lo→xs.getD i j<j)→(∀ i,hi≤i→i<xs.size→j≤xs.getD i j)→
  (SetTable.below.go xs j fuel lo hi≤xs.size∧(∀ i,i<SetTable.below.go xs j fuel lo hi→xs.getD i j<j)∧∀ i,SetTable.below.go xs j fuel lo hi≤i→i<xs.size→j≤xs.getD i j)
 | 0,lo,hi,h1,h2,h3,a,b=>by
  have e:lo=hi:=by lia
  subst e
  exact⟨h3,a,b⟩
 | fuel+1,lo,hi,h1,h2,h3,a,b=>by
  unfold SetTable.below.go
  by_cases h:lo<hi
  ·rw[if_pos h]
   dsimp only
   by_cases hm:xs.getD ((lo+hi) / 2) j<j
   ·rw[if_pos hm]
    refine lJ xs r j fuel _ _ (by lia) (by lia) h3 (fun i hi'=>?_) b
    rcases Nat.lt_or_ge i ((lo+hi) / 2) with h' | h'
    ·exact Nat.lt_trans (jG r h' (by lia)) hm
    ·have:i=(lo+hi) / 2:=by lia
     rw[this];exact hm
   ·rw[if_neg hm]
    refine lJ xs r j fuel _ _ (by lia) (by lia) (by lia) a (fun i hi' hi2=>?_)
    rcases Nat.lt_or_ge ((lo+hi) / 2) i with h' | h'
    ·exact Nat.le_of_lt (Nat.lt_of_le_of_lt (Nat.not_lt.mp hm) (jG r h' hi2))
    ·have:i=(lo+hi) / 2:=by lia
     rw[this];exact Nat.not_lt.mp hm
  ·rw[if_neg h]
   have e:lo=hi:=by lia
   subst e
   exact⟨h3,a,b⟩
theorem lK {xs:Array Nat} (r:cC xs) (j:Nat):SetTable.below xs j≤xs.size∧(∀ i,i<SetTable.below xs j→xs.getD i j<j)∧∀ i,SetTable.below xs j≤i→i<xs.size→j≤xs.getD i j:=
 lJ xs r j xs.size 0 xs.size (by lia) (by lia) (by lia) (fun i h=>absurd h (Nat.not_lt_zero _)) fun i h h'=>absurd h' (by lia)
theorem xD {xs:Array Nat} (r:cC xs) {i j:Nat} (h:xs[i]?=some j):SetTable.below xs (j+1)=i+1:=by
 obtain⟨a,b,c⟩:=lK r (j+1)
 obtain⟨hi,e⟩:=Array.getElem?_eq_some_iff.mp h
 have ei:xs.getD i (j+1)=j:=by simp[Array.getD,hi,e]
 rcases Nat.lt_trichotomy (SetTable.below xs (j+1)) (i+1) with h1 | h1 | h1
 ·have:=c i (by lia) hi
  lia
 ·exact h1
 ·have h2:=b (i+1) h1
  have h3:=jG r (d:=j+1) (Nat.lt_succ_self i) (by lia)
  lia
theorem xE {xs:Array Nat} (r:cC xs):SetTable.below xs 0=0:=by
 obtain⟨a,b,c⟩:=lK r 0
 rcases Nat.eq_zero_or_pos (SetTable.below xs 0) with h | h
 ·exact h
 ·exact absurd (b 0 h) (Nat.not_lt_zero _)
theorem xF {xs:Array Nat} (r:cC xs) {j:Nat} (h:¬ (xs[SetTable.below xs j]?=some j)):cC (SetTable.insertAt xs (SetTable.below xs j) j):=by
 obtain⟨a,b,c⟩:=lK r j
 unfold cC
 rw[SetTable.toList_insertAt]
 refine List.pairwise_append.mpr ⟨List.Pairwise.sublist (List.take_sublist _ _) r,List.pairwise_cons.mpr ⟨fun y hy=>?_,List.Pairwise.sublist (List.drop_sublist _ _) r⟩,fun x hx y hy=>?_⟩
 ·obtain⟨k,hk,rfl⟩:=List.mem_iff_getElem.mp hy
  rw[List.getElem_drop]
  have hs:SetTable.below xs j+k<xs.size:=by simp at hk;lia
  have h1:=c (SetTable.below xs j+k) (Nat.le_add_right _ _) hs
  have e:xs.getD (SetTable.below xs j+k) j=xs.toList[SetTable.below xs j+k]:=by simp[Array.getD,hs]
  rw[e] at h1
  refine Nat.lt_of_le_of_ne h1 fun he=>?_
  rcases Nat.eq_zero_or_pos k with h0 | h0
  ·subst h0
   apply h
   rw[Array.getElem?_eq_some_iff]
   exact⟨by lia,by simpa using he.symm⟩
  ·have h2:=jG r (d:=j) (Nat.lt_add_of_pos_right (n:=SetTable.below xs j) h0) hs
   have h3:=c (SetTable.below xs j) (Nat.le_refl _) (by lia)
   rw[e] at h2
   exact absurd he (Nat.ne_of_lt (Nat.lt_of_le_of_lt h3 h2))
 ·obtain⟨k,hk,rfl⟩:=List.mem_iff_getElem.mp hx
  rw[List.getElem_take]
  have hk':k<SetTable.below xs j:=by simp at hk;lia
  have hs:k<xs.size:=by lia
  have h1:=b k hk'
  have e:xs.getD k j=xs.toList[k]:=by simp[Array.getD,hs]
  rw[e] at h1
  rcases List.mem_cons.mp hy with rfl | hy
  ·exact h1
  ·obtain⟨m,hm,rfl⟩:=List.mem_iff_getElem.mp hy
   rw[List.getElem_drop]
   have hs2:SetTable.below xs j+m<xs.size:=by simp at hm;lia
   have h2:=c (SetTable.below xs j+m) (Nat.le_add_right _ _) hs2
   have e2:xs.getD (SetTable.below xs j+m) j=xs.toList[SetTable.below xs j+m]:=by simp[Array.getD,hs2]
   rw[e2] at h2
   exact Nat.lt_of_lt_of_le h1 h2
structure TabOk (t:SetTable) (led:Bool):Prop where
 rise:cC t.place
 dum:t.dummies=#[]
 led:t.led=led
theorem xG (n:Nat):cC (Array.range n):=by
 unfold cC
 rw[Array.toList_range]
 exact List.pairwise_lt_range
theorem TabOk.standIn {t:SetTable}{led:Bool} (h:TabOk t led) (n:Nat):TabOk (t.standIn n) led:=⟨xG n,rfl,h.led⟩
theorem TabOk.orStandIn {t:SetTable}{led:Bool} (h:TabOk t led) (n:Nat):TabOk (t.orStandIn n) led:=by
 unfold SetTable.orStandIn
 split
 ·exact h
 ·exact h.standIn n
theorem TabOk.plainOff {t:SetTable}{led:Bool} (h:TabOk t led) (b:Bool):TabOk { t with plain:=b } led:=⟨h.rise,h.dum,h.led⟩
theorem pk (j:Nat):SetTable.has #[] j=false:=rfl
theorem xH {t:SetTable} (hd:t.dummies=#[]) (j:Nat):(∃ i,t.slot j=.live i)∨(t.slot j=.empty∧¬ (t.place[SetTable.below t.place j]?=some j)):=by
 unfold SetTable.slot
 dsimp only
 by_cases h:(t.place[SetTable.below t.place j]? == some j)=true
 ·rw[if_pos h]
  exact .inl ⟨_,rfl⟩
 ·rw[if_neg h,hd,pk]
  exact .inr ⟨rfl,fun e=>h (by rw[e];exact beq_self_eq_true _)⟩
theorem xI (t:SetTable) (p:SetTable.Probe):(t.advance p).dummy=p.dummy:=by
 unfold SetTable.advance
 split<;>rfl
theorem pp {t:SetTable} (hd:t.dummies=#[]) (h:Int):∀ (fuel:Nat) (p:SetTable.Probe),p.dummy=none→∀ m,SetTable.probe.go t (fun _=>h+1) h fuel p=some m→∃ j,m=.empty j none∧¬ (t.place[SetTable.below t.place j]?=some j)
 | 0,p,_,m,e=>by simp[SetTable.probe.go] at e
 | fuel+1,p,hp,m,e=>by
  unfold SetTable.probe.go at e
  rcases xH hd p.j with ⟨i,h1⟩ | ⟨h1,h2⟩
  ·rw[h1] at e
   dsimp only at e
   rw[if_neg (by rw[beq_iff_eq];lia)] at e
   exact pp hd h fuel _ ((xI t p).trans hp) m e
  ·rw[h1] at e
   dsimp only at e
   cases e
   exact⟨p.j,by rw[hp],h2⟩
theorem xJ {t:SetTable} (hd:t.dummies=#[]) {h:Int}{r:Nat×Bool} (e:t.freeSlot h=some r):r.2=false∧¬ (t.place[SetTable.below t.place r.1]?=some r.1):=by
 unfold SetTable.freeSlot at e
 split at e
 ·next j d e2=>
  cases e
  obtain⟨j',e3,h2⟩:=pp hd h _ _ rfl _ e2
  cases e3
  exact⟨rfl,h2⟩
 ·cases e
theorem TabOk.put {t:SetTable}{led:Bool} (h:TabOk t led) {j:Nat} (hj:¬ (t.place[SetTable.below t.place j]?=some j)):TabOk (t.put j).1 led:=by
 refine⟨xF h.rise hj,?_,h.led⟩
 show (if SetTable.has t.dummies j=true then _ else t.dummies)=#[]
 rw[h.dum,pk]
 rfl
theorem TabOk.layNew {t:SetTable}{led:Bool} (k:TabOk t led) (es:Array (Int×Value)) (h:Int) (x:Value):TabOk (layNew t es h x).2.1 led:=by
 unfold PySem.layNew
 split
 ·next slot wd e=>exact (k.put (xJ k.dum e).2).orStandIn _
 ·exact k.standIn _
theorem xK {mask finger moves:Nat}{led plain:Bool}{hs:Array Int}{t:SetTable}{o:Array Nat} (e:SetTable.laid mask finger moves led plain hs=some (t,o)):TabOk t led:=by
 unfold SetTable.laid at e
 cases h:SetTable.layClean mask hs with
 | none=>rw[h] at e;cases e
 | some ow=>
  rw[h] at e
  cases e
  refine⟨?_,rfl,rfl⟩
  show (List.map (fun x:Nat×Nat=>x.1) (List.filterMap (fun j=>Option.map (fun x=>(j,x)) (ow.getD j none)) (List.range (mask+1)))).Pairwise (· < ·)
  rw[List.map_filterMap]
  refine List.Pairwise.filterMap _ (R:=(· < ·)) (fun a b hab x hx y hy=>?_) List.pairwise_lt_range
  cases ha:ow.getD a none with
  | none=>rw[ha] at hx;cases hx
  | some u=>
   cases hb:ow.getD b none with
   | none=>rw[hb] at hy;cases hy
   | some v=>
    rw[ha] at hx
    rw[hb] at hy
    cases hx
    cases hy
    exact hab
theorem TabOk.relayAll {t:SetTable}{led:Bool} (k:TabOk t led) (es:Array (Int×Value)) (n:Nat):TabOk (relayAll t es n).2.1 led:=by
 unfold PySem.relayAll
 split
 ·next t' o e=>
  dsimp only
  have:=xK e
  rw[k.led] at this
  split
  ·exact this
  ·exact k.standIn _
 ·exact k.standIn _
noncomputable def cD:Int×Value→Int
 | (_,.int n _)=>n
 | _=>0
noncomputable def gJ (e:Int×Value):Prop:=e.1=hashInt (cD e)∧∃ t,e.2=.int (cD e) t
structure SetD (es:Array (Int×Value)) (t:SetTable) (led:Bool) (ns:List Int):Prop where
 els:∀ e∈es.toList,gJ e
 fit:t.fits es.size=true
 tab:TabOk t led
 perm:(es.toList.map cD).Perm ns
 nd:ns.Nodup
 few:ns.length<scanBound
noncomputable def bw (h:Heap) (a:Addr) (led:Bool) (ns:List Int):Prop:=∃ o es ep t,h.get? a=some o∧o.ExactSet∧o.data=.set es ep t∧SetD es t led ns
noncomputable def cb (ns:List Int) (k:Int):List Int:=if ns.contains k then ns else ns++[k]
section
variable {prog:Program}{w:World}{A:Around}{E:Value→Shared→Prop}{s:Shared}
theorem gJ.is {e:Int×Value} (h:gJ e) (k:Int):(intKind prog w).is k e.2=decide (k=cD e):=by
 obtain⟨t,ht⟩:=h.2
 exact KeyKind.is_eq_decide (knd:=intKind prog w) (by rw[ht];exact intKind_is _ _ _ _) k
theorem SetD.elems {es:Array (Int×Value)}{t:SetTable}{led:Bool}{ns:List Int} (h:SetD es t led ns):ElemsOf (intKind prog w) es.toList:=fun e he=>by
 obtain⟨h1,tk,h2⟩:=h.els e he
 refine⟨⟨cD e,?_,h1⟩,?_⟩
 ·rw[h2];exact intKind_is _ _ _ _
 ·rw[h2];rfl
theorem SetD.size {es:Array (Int×Value)}{t:SetTable}{led:Bool}{ns:List Int} (h:SetD es t led ns):es.size=ns.length:=by
 rw[← h.perm.length_eq,List.length_map,Array.length_toList]
theorem SetD.small {es:Array (Int×Value)}{t:SetTable}{led:Bool}{ns:List Int} (h:SetD es t led ns):es.size<scanBound:=by rw[h.size];exact h.few
theorem xL {k:Int}:∀ {l:List (Int×Value)},(∀ e∈l,gJ e)→k∉l.map cD→l.findIdx? (fun e=>(intKind prog w).is k e.2)=none:=fun {l} h hk=>
 List.findIdx?_eq_none_iff.mpr fun e he=>by
  rw[(h e he).is k]
  exact decide_eq_false fun x=>hk (x ▸ List.mem_map_of_mem he)
theorem xM {k:Int}{l:List (Int×Value)} (h:∀ e∈l,gJ e) (hk:k∈l.map cD):∃ j,l.findIdx? (fun e=>(intKind prog w).is k e.2)=some j:=by
 cases hf:l.findIdx? (fun e=>(intKind prog w).is k e.2) with
 | some j=>exact⟨j,rfl⟩
 | none=>
  obtain⟨e,he,hx⟩:=List.mem_map.mp hk
  have:=List.findIdx?_eq_none_iff.mp hf e he
  rw[(h e he).is k,hx,decide_eq_true rfl] at this
  exact absurd this (by decide)
theorem pq {h:Heap}{a:Addr}{o:Obj}{es es':Array (Int×Value)}{ep:Nat}{t t':SetTable}{led:Bool}{ns:List Int} (ho:h.get? a=some o) (hex:o.ExactSet) (hd:o.data=.set es ep t) (D:SetD es' t' led ns):
  (h.update a (Obj.putSet es' t')).get? a=some { o with data:=.set es' (ep+1) t' }∧bw (h.update a (Obj.putSet es' t')) a led ns:=by
 have hg:(h.update a (Obj.putSet es' t')).get? a=some { o with data:=.set es' (ep+1) t' }:=by
  have:=Heap.get?_update_self (Obj.putSet es' t') ho (by rw[putSet_of es' t' hd];rfl)
  rw[putSet_of es' t' hd] at this;exact this
 exact⟨hg,_,es',ep+1,t',hg,hex,rfl,D⟩
theorem px {a : Addr} {o : Obj} {es es1 : Array (Int × Value)} {ep : Nat} {t t2 : SetTable} {led : Bool} {ns : List Int} {wd : Bool} {g : Bool → Sem Unit} {R : Option Bool → Shared → Prop}
    (hg : ∀ (b : Bool) (s₁ : Shared) (Q' : Unit → Shared → Prop), Q' () s₁ → wpAny (model prog w) A (g b) Q' E s₁)
    (ho : s.heap.get? a = some o) (hex : o.ExactSet) (hd : o.data = .set es ep t) (D : SetD es1 t2 led ns)
    (h : ∀ h', Heap.SameBut a s.heap h' → bw h' a led ns → R (some true) { s with heap := h' }) :
    wpAny (model prog w) A (do
        storeSet a es1 t2
        if (!wd && t2.tooFull) = true then do
            g (relayAll t2 es1 (SetTable.grown es1.size)).2.2
            storeSet a (relayAll t2 es1 (SetTable.grown es1.size)).1 (relayAll t2 es1 (SetTable.grown es1.size)).2.1
            pure (some true)
          else pure (some true)) R E s := by
  refine wpAny_bind (wpAny_storeSet_of ho hd ?_ (fits_of_scanBound D.small))
  obtain ⟨ho1, hS1⟩ := pq ho hex hd D
  have hsb1 := Heap.SameBut.update s.heap a (Obj.putSet es1 t2)
  split
  · have hp := relayAll_perm t2 es1 (SetTable.grown es1.size)
    have D2 : SetD (relayAll t2 es1 (SetTable.grown es1.size)).1 (relayAll t2 es1 (SetTable.grown es1.size)).2.1 led ns :=
      ⟨fun e he => D.els e (hp.mem_iff.mp he), relayAll_fits _ _ _, D.tab.relayAll _ _, (hp.map _).trans D.perm, D.nd, D.few⟩
    refine wpAny_bind (hg _ _ _ ?_)
    refine wpAny_bind (wpAny_storeSet_of ho1 rfl ?_ (fits_of_scanBound D2.small))
    obtain ⟨_, hS2⟩ := pq ho1 hex rfl D2
    exact wpAny_pure (h _ (hsb1.trans (Heap.SameBut.update _ a _)) hS2)
  · exact wpAny_pure (h _ hsb1 hS1)
theorem xN {a:Addr}{led:Bool}{ns:List Int}{k:Int}{tk:Tok}{Q:Bool→Shared→Prop} (S:bw s.heap a led ns) (hl:ns.length+1<scanBound)
  (h:∀ b h',Heap.SameBut a s.heap h'→bw h' a led (cb ns k)→Q b { s with heap:=h' }):
  wpAny (model prog w) A (setAddHashed a (.int k tk) (hashInt k)) Q E s:=by
 obtain⟨o,es,ep,t,ho,hex,hd,D⟩:=S
 have hkey:=intKind_is prog w k tk
 have hsc:(Value.int k tk).scannable=true:=rfl
 have hel:ElemsOf (intKind prog w) es.toList:=D.elems
 unfold setAddHashed setAddHashedIn
 refine wpAny_holding (wpAny_bind (wpAny_setState_of ho hd D.fit ?_))
 dsimp only
 rw[byScan_of hsc D.small hel]
 simp only[↓reduceIte]
 unfold setAddByScan
 refine wpAny_bind ?_
 refine wpAny_bind (wpAny_rule ?_)
 refine wpAny_bind (wpAny_setScan_of (knd:=intKind prog w) hkey ho hd D.fit hel ?_)
 have hmem:k∈es.toList.map cD↔k∈ns:=D.perm.mem_iff
 by_cases hk:k∈ns
 ·obtain⟨j,hj⟩:=xM (prog:=prog) (w:=w) D.els (hmem.mpr hk)
  rw[hj]
  dsimp only
  refine wpAny_pure (wpAny_pure ?_)
  have e:s={ s with heap:=s.heap }:=by cases s;rfl
  rw[e]
  refine h _ _ (Heap.SameBut.refl a s.heap) ?_
  rw[cb,if_pos (by simpa using hk)]
  exact⟨o,es,ep,t,ho,hex,hd,D⟩
 ·rw[xL (prog:=prog) (w:=w) D.els fun x=>hk (hmem.mp x)]
  dsimp only
  have hgw:∀ (b:Bool) {s₁:Shared}{Q':Unit→Shared→Prop},Q' () s₁→wpAny (model prog w) A (match b with | true=>rule "set.scan.the-table-gave-way" | false=>pure ()) Q' E s₁:=
   fun b s₁ Q' hq=>by cases b<;>first | exact wpAny_pure hq | exact wpAny_rule hq
  have hperm:=layNew_perm t es (hashInt k) (.int k tk)
  have hfits:=layNew_fits t es (hashInt k) (.int k tk)
  have htab:=D.tab.layNew es (hashInt k) (.int k tk)
  have hD:∀ b,SetD (layNew t es (hashInt k) (.int k tk)).1 { (layNew t es (hashInt k) (.int k tk)).2.1 with plain:=b } led (ns++[k]):=fun b=>by
   refine⟨fun e he=>?_,hfits,htab.plainOff b,?_,List.nodup_append.mpr ⟨D.nd,List.pairwise_singleton _ k,fun x hx y hy=>?_⟩,by rw[List.length_append];exact hl⟩
   ·have:=hperm.mem_iff.mp he
    rw[Array.toList_push] at this
    rcases List.mem_append.mp this with h1 | h1
    ·exact D.els e h1
    ·cases List.mem_singleton.mp h1
     exact⟨rfl,tk,rfl⟩
   ·refine (hperm.map cD).trans ?_
    rw[Array.toList_push,List.map_append]
    exact D.perm.append_right _
   ·cases List.mem_singleton.mp hy
    exact fun e=>hk (e ▸ hx)
  have hend:∀ h',Heap.SameBut a s.heap h'→bw h' a led (ns++[k])→Q true { s with heap:=h' }:=fun h' hsb hS=>h true h' hsb (by rw[cb,if_neg (by simpa using hk)];exact hS)
  generalize hL:layNew t es (hashInt k) (.int k tk)=L at hD ⊢
  obtain⟨es1,t1,wd,gave⟩:=L
  dsimp only at hD ⊢
  show wpAny _ _ (_ >>= _) _ _ _
  refine wpAny_bind (hgw _ ?_)
  split
  ·refine wpAny_bind ?_
   rw[hashByValue_scannable 8 hsc]
   refine wpAny_pure ?_
   refine px ?_ ho hex hd (hD _) ?_
   ·intro b s₁ Q' hq;cases b<;>first | exact wpAny_pure hq | exact wpAny_rule hq
   ·intro h' hsb hS';dsimp only;exact wpAny_pure (hend h' hsb hS')
  ·refine wpAny_bind (wpAny_pure ?_)
   simp only[↓reduceIte]
   refine px ?_ ho hex hd (hD t1.plain) ?_
   ·intro b s₁ Q' hq;cases b<;>first | exact wpAny_pure hq | exact wpAny_rule hq
   ·intro h' hsb hS';dsimp only;exact wpAny_pure (hend h' hsb hS')
end
noncomputable def cj (w:World):Bool:=!w.params.followText "set-order"
noncomputable def dW (led:Bool):Obj:={ cls:=.type "set",dict:=none,data:=.set #[] 0 (.fresh 0 0 led) }
noncomputable def dz (val:Nat→Int):Nat→List Int
 | 0=>[]
 | i+1=>cb (dz val i) (val i)
theorem py (ns:List Int) (k:Int):(cb ns k).length≤ns.length+1:=by
 unfold cb
 split
 ·exact Nat.le_succ _
 ·rw[List.length_append];exact Nat.le_refl _
theorem pz (val:Nat→Int):∀ i,(dz val i).length≤i
 | 0=>Nat.le_refl _
 | i+1=>Nat.le_trans (py _ _) (Nat.succ_le_succ (pz val i))
theorem xO:isSubtype (.type "tuple") (.type "set")=pure false:=by rw[isSubtype_type];kernel_rfl
theorem xP:isSubtype (.type "tuple") (.type "frozenset")=pure false:=by rw[isSubtype_type];kernel_rfl
theorem bw.fresh {h:Heap} (led:Bool):bw (h.push (dW led)) h.objs.size led []:=
 ⟨_,#[],0,_,Heap.get?_push_size _ rfl,⟨rfl,rfl,rfl⟩,rfl,⟨fun e he=>(List.not_mem_nil he).elim,rfl,⟨List.Pairwise.nil,rfl,rfl⟩,.refl _,List.nodup_nil,by decide⟩⟩
theorem bw.at {h h':Heap}{a:Addr}{led:Bool}{ns:List Int} (S:bw h a led ns) (k:∀ o,h.get? a=some o→h'.get? a=some o):bw h' a led ns:=by
 obtain⟨o,es,ep,t,ho,r⟩:=S
 exact⟨o,es,ep,t,k o ho,r⟩
section
variable {prog:Program}{w:World}{A:Around}{E:Value→Shared→Prop}{s:Shared}
theorem xQ {R:Result→Shared→Prop}{I S:Addr}{fp wr:List Addr}{n:Nat}{P:Nat→Value→Prop}{St:Nat→Heap→Prop}{led:Bool} (W:Walks prog w A.in1 I fp wr n P St) (hSf:S∉fp)
  (val:Nat→Int) (hval:∀ i v,P i v→∃ t,v=.int (val i) t) (hb:n+1<scanBound):
  ∀ (k i:Nat) (s:Shared),n - i=k→i≤n→St i s.heap→bw s.heap S led (dz val i)→
   (∀ h' tk,(∀ b o,b≠S→b∉wr→s.heap.get? b=some o→h'.get? b=some o)→bw h' S led (dz val n)→R (.ok (.ret .none)) { s with heap:=h',toks:=tk })→
   codeAny (model prog w) A (.builtin "set.update.loop" ⟨[.ref S,.ref I],[]⟩) R s:=by
 have hSw:S∉wr:=fun h=>hSf (W.sub _ h)
 intro k
 induction k with
 | zero=>
  intro i s hk hi hst hS hR
  have hin:i=n:=by lia
  subst hin
  refine codeAny_builtin PyProof.Rows.F.entry_set_update_loop ?_
  rw[Around.under_plainId PyProof.Rows.F.plain_set_update_loop _]
  show wpAny _ A.in1 (pyNext (.ref I) >>= _) _ _ s
  refine wpAny_bind (W.done s _ _ hst fun h' tk hm=>?_)
  show wpAny _ A.in1 (ret Value.none) _ _ _
  exact wpAny_pure (hR h' tk (fun b o _ hw e=>hm b o hw e) (hS.at fun o e=>hm S o hSw e))
 | succ k ih=>
  intro i s hk hi hst hS hR
  have hlt:i<n:=by lia
  refine codeAny_builtin PyProof.Rows.F.entry_set_update_loop ?_
  rw[Around.under_plainId PyProof.Rows.F.plain_set_update_loop _]
  show wpAny _ A.in1 (pyNext (.ref I) >>= _) _ _ s
  refine wpAny_bind (W.item i s _ _ hlt hst fun v h1 tk1 hP hst' hm=>?_)
  obtain⟨t,rfl⟩:=hval i v hP
  show wpAny _ A.in1 (holding [Value.int (val i) t] (setAdd S (.int (val i) t)) >>= _) _ _ _
  refine wpAny_bind (wpAny_holding ?_)
  unfold setAdd
  refine wpAny_holding ?_
  refine wpAny_bind ((intKind prog w).pyHash (k:=val i) (intKind_is _ _ _ _) ?_)
  refine xN (s:={ s with heap:=h1,toks:=tk1+1 }) (hS.at fun o e=>hm S o hSw e) (Nat.lt_of_le_of_lt (Nat.succ_le_succ (pz val i)) (by lia)) fun b h2 hsb hS2=>?_
  refine wpAny_pure ⟨plainId_quiet PyProof.Rows.F.plain_set_update_loop _,ih (i+1) _ (by lia) hlt (W.frame _ h1 h2 hst' fun b hb o e=>?_) hS2 fun h3 tk3 hk3 hS3=>?_⟩
  ·rw[hsb.2 b (fun h:b=S=>hSf (by rw[← h];exact hb))];exact e
  ·refine hR h3 tk3 (fun b o hb hw e=>hk3 b o hb hw ?_) hS3
   show h2.get? b=some o
   rw[hsb.2 b hb];exact hm b o hw e
theorem xR (a:Value) {Q₁:Value→Shared→Prop} (h:Q₁ (.ref s.heap.objs.size) { s with heap:=s.heap.push (dW (cj w)) }):
  codeAny (model prog w) A (.call (.builtin "set.__new__") ⟨[.type "set",a],[]⟩) (wants Q₁ E) s:=by
 refine codeAny_of_tree ?_
 show wpAny _ A.in1 (do checkBuiltinCall "set.__new__" ⟨[.type "set",a],[]⟩;again (.builtin "set.__new__" ⟨[.type "set",a],[]⟩)) _ _ s
 refine wpAny_bind (wpAny_of_eq (PySem.F.newCall_set_1 a) (wpAny_pure ⟨plainId_quiet PySem.F.plain_set_new _,codeAny_builtin PySem.F.entry_set_new ?_⟩))
 rw[Around.under_plainId PySem.F.plain_set_new _]
 unfold Builtin.«set.__new__» Builtin.Frozenset.newClass
 have hsub:=sub_set_self
 obtain⟨hp,g,d,tk,os⟩:=s
 dsimp only
 wp_walk
 refine wpAny_askSetting (wpAny_pure ?_)
 dsimp only
 simp only[newObj]
 refine wpAny_bind (wpAny_alloc (wpAny_pure ?_))
 exact wpAny_pure h
end
section
variable {prog:Program}{w:World}{A:Around}{E:Value→Shared→Prop}{s:Shared}
set_option maxHeartbeats 3200000 in
theorem xS {l S:Addr}{items:Array Value}{ns:List Int}{Q:Value→Shared→Prop}{o:Obj}{nl:Nat}{led:Bool} (hh:A.handled=none) (hol:s.heap.get? l=some o) (hcl:o.cls=.type "tuple") (hdl:o.data=.seq items nl)
  (hi:IntsAre items.toList ns) (hb:items.size+1<scanBound) (hne:l≠S) (hS:s.heap.get? S=some (dW led)) (hS0:bw s.heap S led [])
  (h:∀ h' tk,bw h' S led (dz (fun i=>ns.getD i 0) items.size)→(∀ b o,b≠S→s.heap.get? b=some o→h'.get? b=some o)→Q .none { s with heap:=h',toks:=tk }):
  wpAny (model prog w) A (Builtin.«set.__init__» ⟨[.ref S,.ref l],[]⟩) (fun fin s'=>∃ r,fin=.done (.ret r)∧Q r s') E s:=by
 obtain⟨ocls,odict,odata,oslots⟩:=o
 simp only at hcl hdl
 subst hcl;subst hdl
 have hsls:=xO
 have hslf:=xP
 have hne1:(Value.type "tuple" == Value.type "dict")=false:=by decide
 unfold dW at hS
 have hl1:s.heap.IsTuple l items:=⟨_,hol,rfl,nl,rfl⟩
 unfold Builtin.«set.__init__» noKeywords Builtin.Frozenset.updateFrom
 generalize hPI:pyIter=PI
 wp_walk
 subst hPI
 refine wpAny_pyIter_tuple hl1 ?_
 refine wpAny_bind (wpAny_runValue ?_)
 have hlS:l<s.heap.objs.size:=Heap.lt_size hol
 have hSS:S<s.heap.objs.size:=Heap.lt_size hS
 have hh1:A.in1.handled=none:=by simp[hh]
 refine xQ (led:=led) (Walks.tuple hh1 _ l (Nat.ne_of_lt hlS) items) ?_ (fun i=>ns.getD i 0) (fun i v hv=>IntsAre.int_at hi i v (by rw[Array.getElem?_toList];exact hv)) hb (items.size - 0) 0 _ (by lia) (Nat.zero_le _) ⟨⟨_,Heap.get?_push_size _ rfl,rfl,rfl⟩,?_⟩ ?_ fun h' tk hk hS'=>?_
 ·simp only[List.mem_cons,List.not_mem_nil,or_false,not_or]
  exact⟨Nat.ne_of_lt hSS,fun e=>hne e.symm⟩
 ·obtain⟨o,ho,r⟩:=hl1
  exact⟨o,Heap.get?_push_of_some _ ho,r⟩
 ·exact hS0.at fun o e=>Heap.get?_push_of_some _ e
 ·show wpAny _ _ _ _ _ _
  refine wpAny_pure ?_
  show wpAny _ _ (ret Value.none) _ _ _
  refine wpAny_pure ⟨_,rfl,h h' tk hS' fun b o hb e=>hk b o hb ?_ (Heap.get?_push_of_some _ e)⟩
  rw[List.mem_singleton]
  exact Nat.ne_of_lt (Heap.lt_size e)
set_option maxHeartbeats 3200000 in
theorem xT {l:Addr}{items:Array Value}{ns:List Int}{Q:Value→Shared→Prop}{o:Obj}{nl:Nat} (hh:A.handled=none) (hol:s.heap.get? l=some o) (hcl:o.cls=.type "tuple") (hdl:o.data=.seq items nl)
  (hi:IntsAre items.toList ns) (hb:items.size+1<scanBound)
  (h:∀ h' tk,bw h' s.heap.objs.size (cj w) (dz (fun i=>ns.getD i 0) items.size)→(∀ b o,s.heap.get? b=some o→h'.get? b=some o)→Q (.ref s.heap.objs.size) { s with heap:=h',toks:=tk }):
  wpAny (model prog w) A (call (.type "set") [.ref l]) Q E s:=by
 obtain⟨c,tl,hmro⟩:=PySem.F.called_set.mro
 have hmade:=PySem.F.called_set.made
 have hsub:=PySem.F.called_set.sub
 refine wpAny_call (codeAny_of_tree ?_)
 show wpAny _ _ (callAny (.type "set") _) _ _ _
 refine wpAny_pure ⟨Code.quiet_builtin _ (by decide +kernel),codeAny_builtin F.entry_type_call ?_⟩
 rw[Around.under_plain (weight_type_call_type "set" [.ref l] []) rfl]
 have h1:=PySem.F.called_set.notType
 have h2:=PySem.F.called_set.canCreate
 have hct:=PySem.F.typeCall_set_1 (.ref l)
 repeat (any_goals (first | assumption | wp_step))
 refine codeAny_mono (xR (.ref l) (E:=E) (Q₁:=fun obj s₁=>obj=.ref s.heap.objs.size∧s₁={ s with heap:=s.heap.push (dW (cj w)) }) ⟨rfl,rfl⟩) fun r s₁ hr=>?_
 cases r with
 | error e=>exact hr
 | ok fl=>
  cases fl with
  | ret obj=>
   obtain⟨rfl,rfl⟩:=hr
   have hS:(s.heap.push (dW (cj w))).get? s.heap.objs.size=some (dW (cj w)):=Heap.get?_push_size _ rfl
   have hT:Shared.TypeIs { s with heap:=s.heap.push (dW (cj w)) } (.ref s.heap.objs.size) "set" := ⟨_,hS,rfl⟩
   have hli:=PySem.F.called_set.init.lookup
   have hbi:=PySem.F.called_set.init.bind (.ref s.heap.objs.size)
   repeat (any_goals (first | assumption | wp_step))
   refine codeAny_mono (codeAny_call_builtin (R:=wants (fun r s₂=>r=.none∧∃ h' tk,s₂={ s with heap:=h',toks:=tk }∧
     bw h' s.heap.objs.size (cj w) (dz (fun i=>ns.getD i 0) items.size)∧(∀ b o,s.heap.get? b=some o→h'.get? b=some o)) E) PySem.F.called_set.init.plain PySem.F.entry_set_init (check_set_init_1 hT ?_)) fun r₂ s₂ hr₂=>?_
   ·refine wpAny_mono (xS (s:={ s with heap:=s.heap.push (dW (cj w)) }) (by simp[hh]) (Heap.get?_push_of_some _ hol) hcl hdl hi hb (Nat.ne_of_lt (Heap.lt_size hol)) hS (bw.fresh _) (Q:=fun r s₂=>r=.none∧∃ h' tk,s₂={ s with heap:=h',toks:=tk }∧
     bw h' s.heap.objs.size (cj w) (dz (fun i=>ns.getD i 0) items.size)∧(∀ b o,s.heap.get? b=some o→h'.get? b=some o)) fun h' tk hS' hk=>⟨rfl,h',tk,rfl,hS',fun b o e=>hk b o (Nat.ne_of_lt (Heap.lt_size e)) (Heap.get?_push_of_some _ e)⟩) (fun fin s' hq=>?_) fun _ _ e=>e
    obtain⟨r,rfl,hq⟩:=hq
    exact hq
   ·cases r₂ with
    | error e=>exact hr₂
    | ok fl₂=>
     cases fl₂ with
     | ret r=>
      obtain⟨rfl,h',tk,rfl,hS',hk'⟩:=hr₂
      repeat (any_goals (first | assumption | wp_step))
      exact h _ _ hS' hk'
     | _=>exact hr₂.elim
  | _=>exact hr.elim
end
theorem iF:Slot "set_iterator" "__next__" "set_iterator.__next__" :=
 .of (owner := "set_iterator") (n := "__next__") (by rw[typeLookup_type,builtinLookup_eq_fast];kernel_rfl) (by decide +kernel) (by decide +kernel) (by decide +kernel)
  (by first | exact .inl (by decide +kernel) | exact .inr (by decide +kernel)) (by rw[isSubtype_type];kernel_rfl)
theorem xU:entryFor table "set_iterator.__next__" = some Builtin.«set_iterator.__next__»:=entryFor_of_tree (by kernel_rfl)
theorem pA:Manifest.owners.lookup (String.ofList ['r','o','t','a','r','e','t','i','_','t','e','s'].reverse)=some Manifest.sig_set_iterator:=by kernel_rfl
theorem xV (a:Value):argsOk "set_iterator.__next__" ⟨[a],[]⟩:=by
 unfold argsOk;rw[signature?_of (id := "set_iterator.__next__") (n:=['_','_','t','x','e','n','_','_']) (o:=['r','o','t','a','r','e','t','i','_','t','e','s']) (by kernel_rfl) pA];kernel_rfl
theorem xW:entryFor table "set.__iter__" = some Builtin.«frozenset.__iter__»:=
 entryFor_alias (id' := "frozenset.__iter__") (by kernel_rfl) rfl (by decide +kernel) (by kernel_rfl)
theorem pB:Slot "set_iterator" "__iter__" "set_iterator.__iter__" :=
 .of (owner := "set_iterator") (n := "__iter__") (by rw[typeLookup_type,builtinLookup_eq_fast];kernel_rfl) (by decide +kernel) (by decide +kernel) (by decide +kernel)
  (by first | exact .inl (by decide +kernel) | exact .inr (by decide +kernel)) (by rw[isSubtype_type];kernel_rfl)
theorem xX (a:Value):argsOk "set_iterator.__iter__" ⟨[a],[]⟩:=by
 unfold argsOk;rw[signature?_of (id := "set_iterator.__iter__") (n:=['_','_','r','e','t','i','_','_']) (o:=['r','o','t','a','r','e','t','i','_','t','e','s']) (by kernel_rfl) pA];kernel_rfl
theorem xY:entryFor table "set_iterator.__iter__" = some Builtin.«dict_keyiterator.__iter__»:=
 entryFor_alias (id' := "dict_keyiterator.__iter__") (by kernel_rfl) (by first | rfl | decide +kernel | (unfold String.splitOn;simp +decide [String.splitOnAux])) (by decide +kernel) (by kernel_rfl)
noncomputable def SIt (h:Heap) (I:Addr) (f0:Value) (i:Nat) (S:Addr) (n ep:Nat):Prop:=∃ o,h.get? I=some o∧o.cls=.type "set_iterator" ∧ o.data=.fields #[f0,.int i 0,.ref S,.int n 0,.int ep 0]
noncomputable def SAt (h:Heap) (S:Addr) (es:Array (Int×Value)) (ep:Nat) (t:SetTable):Prop:=∃ o,h.get? S=some o∧o.ExactSet∧o.data=.set es ep t
theorem SIt.go {h h':Heap}{I:Addr}{f0:Value}{i:Nat}{S:Addr}{n ep:Nat} (x:SIt h I f0 i S n ep) (k:∀ o,h.get? I=some o→h'.get? I=some o):SIt h' I f0 i S n ep:=let ⟨o,e,r⟩:=x;⟨o,k o e,r⟩
theorem SAt.go {h h':Heap}{S:Addr}{es:Array (Int×Value)}{ep:Nat}{t:SetTable} (x:SAt h S es ep t) (k:∀ o,h.get? S=some o→h'.get? S=some o):SAt h' S es ep t:=let ⟨o,e,r⟩:=x;⟨o,k o e,r⟩
section
variable {prog:Program}{w:World}{A:Around}{E:Value→Shared→Prop}{s:Shared}
theorem SIt.ty {I:Addr}{f0:Value}{i:Nat}{S:Addr}{n ep:Nat} (x:SIt s.heap I f0 i S n ep):s.TypeIs (.ref I) "set_iterator" := let ⟨o,e,c,_⟩:=x;⟨o,e,c⟩
theorem xZ {M:Model}{src:Source}{n:Nat}{Q:Nat→Shared→Prop} (hn:0<n) (h:∀ i,i<n→Q i { s with drawn:=s.drawn.bump src }):wpAny M A (choose src n) Q E s:=
 fun _ _ _=>⟨Nat.ne_of_gt hn,h _ (Nat.mod_lt _ hn)⟩
theorem lL {α:Type}:∀ (l:List α) (i:Nat) (h:i<l.length),(l[i]::l.eraseIdx i).Perm l
 | x::xs,0,_=>.refl _
 | x::xs,i+1,h=>(List.Perm.swap x _ _).trans (List.Perm.cons x (lL xs i (Nat.lt_of_succ_lt_succ h)))
theorem pC {α:Type}{M:Model}:∀ (n:Nat) (xs:List α) (s:Shared) (Q:List α→Shared→Prop),xs.length=n→(∀ d ys,List.Perm ys xs→Q ys { s with drawn:=d })→wpAny M A (drawOrder n xs) Q E s
 | 0,xs,s,Q,hl,h=>by
  have e:xs=[]:=List.eq_nil_of_length_eq_zero hl
  subst e
  unfold drawOrder
  exact wpAny_pure (h s.drawn [] .nil)
 | n+1,[],s,Q,hl,h=>by cases hl
 | n+1,x::xs,s,Q,hl,h=>by
  unfold drawOrder
  refine wpAny_bind (xZ (by rw[hl];exact Nat.succ_pos _) fun i hi=>?_)
  have e:(x::xs)[i]?=some (x::xs)[i]:=List.getElem?_eq_getElem hi
  rw[e]
  dsimp only
  refine wpAny_bind (pC n _ _ _ (by rw[List.length_eraseIdx_of_lt hi,hl];rfl) fun d ys hp=>?_)
  refine wpAny_pure (h d _ ?_)
  refine (List.Perm.cons _ hp).trans ?_
  exact lL _ i hi
theorem jH {I S:Addr}{f0:Value}{i n ep:Nat}{Q:Option Value→Shared→Prop} (hit:SIt s.heap I f0 i S n ep)
  (h:wpAny (model prog w) A.in1 (Builtin.«set_iterator.__next__» ⟨[.ref I],[]⟩) (fun fin s'=>∃ v,fin=.done (.ret v)∧Q (some v) s') (fun e s'=>wpAny (model prog w) A (do let b ← isInstance e (.type "StopIteration");if b=true then pure none else throw e) Q E s') s):
  wpAny (model prog w) A (pyNext (.ref I)) Q E s:=by
 unfold pyNext
 refine wpAny_bind (wpAny_attempt (wpAny_callSpecial?_slot (name:=Str.ofString "__next__") hit.ty iF (wpAny_call_entry iF hit.ty xU ?z (xV _))))
 case z=>
  refine wpAny_mono h (fun fin s' ⟨v,e,q⟩=>⟨v,e,wpAny_pure q⟩) fun e s' q=>q
theorem jI {I S:Addr}{f0 f0':Value}{i i' n ep:Nat}{Q:Unit→Shared→Prop}{k:Nat}{x:Value} (hit:SIt s.heap I f0 i S n ep) (hk:k<5) (he:(#[f0,.int i 0,.ref S,.int n 0,.int ep 0]:Array Value).setIfInBounds k x=#[f0',.int i' 0,.ref S,.int n 0,.int ep 0])
  (q:∀ h',SIt h' I f0' i' S n ep→Heap.SameBut I s.heap h'→Q () { s with heap:=h' }):wpAny (model prog w) A (setField (.ref I) k x) Q E s:=by
 obtain⟨o,f1,f2,f3⟩:=hit
 refine wpAny_setField f1 f3 hk (q _ ⟨_,Heap.get?_update_self _ f1 (Obj.isFreed_of_fields (Obj.data_mapFields f3 _)),(Obj.cls_mapFields ..).trans f2,?_⟩ (Heap.SameBut.update ..))
 rw[Obj.data_mapFields f3,he]
theorem pD {I:Addr}{Q:Option Value→Shared→Prop} (hh:A.handled=none) (q:∀ h',Heap.ExtBut I s.heap h'→Q none { s with heap:=h' }):
  wpAny (model prog w) A.in1 (newExc (.type "StopIteration") [] >>= fun x=>(raiseNew x:Sem PySem.Fin)) (fun fin s'=>∃ v,fin=.done (.ret v)∧Q (some v) s') (fun e s'=>wpAny (model prog w) A (do let b ← isInstance e (.type "StopIteration");if b=true then pure none else throw e) Q E s') s:=by
 apply wpAny_bind
 simp only[newExc,newTuple]
 refine wpAny_bind (wpAny_newObj_type (wpAny_bind (m:=firstArgMember _ _) (wpAny_of_eq (a:=Value.none) (by first | rfl | (simp only[firstArgMember];rfl)) (wpAny_newObj_type ?_ (by size_fits)))) (by size_fits))
 simp only[raiseNew]
 apply wpAny_bind
 apply wpAny_handled
 rw[show A.in1.handled=none from hh]
 refine wpAny_bind (m:=pure _) (wpAny_pure (wpAny_throw ?_))
 apply wpAny_bind
 refine wpAny_isInstance (T := "StopIteration") (b:=true) ⟨_,Heap.get?_push_size _ rfl,rfl⟩ isSubtype_stop ?_
 exact wpAny_pure (q _ (fun b o _ e=>Heap.get?_push_of_some _ (Heap.get?_push_of_some _ e)))
theorem pE {I S:Addr}{slot next i n ep:Nat}{es:Array (Int×Value)}{t:SetTable}{x:Value}{Q:Option Value→Shared→Prop} (hit:SIt s.heap I (.int slot 0) i S n ep) (hS:SAt s.heap S es ep t) (hf:t.fits es.size=true) (hn:es.size=n)
  (hx:∀ (Q':Option (Value×Nat)→Shared→Prop) (E':Value→Shared→Prop),Q' (some (x,next)) s→wpAny (model prog w) A.in1 (setNext S slot i ep) Q' E' s)
  (q:∀ h',SIt h' I (.int next 0) (i+1) S n ep→Heap.SameBut I s.heap h'→Q (some x) { s with heap:=h' }):wpAny (model prog w) A (pyNext (.ref I)) Q E s:=by
 refine jH hit ?_
 obtain⟨o,f1,f2,f3⟩:=id hit
 obtain⟨oS,e1,e2,e3⟩:=hS
 unfold Builtin.«set_iterator.__next__»
 refine wpAny_bind (wpAny_pure (wpAny_bind (wpAny_fieldsOf f1 f3 ?_)))
 show wpAny _ _ (setEntries S >>= _) _ _ _
 refine wpAny_bind (wpAny_setEntries_of e1 e3 hf ?_)
 dsimp only
 rw[if_neg (by rw[hn];simp)]
 refine wpAny_bind (m:=setNext S _ _ _) (hx _ _ ?_)
 dsimp only
 refine wpAny_bind (jI (f0':=.int next 0) (i':=i) hit (by decide) rfl fun h1 hit1 hb1=>?_)
 refine wpAny_bind (jI (s:={ s with heap:=h1 }) (f0':=.int next 0) (i':=i+1) hit1 (by decide) rfl fun h2 hit2 hb2=>?_)
 exact wpAny_pure ⟨_,rfl,q h2 hit2 (hb1.trans hb2)⟩
theorem pF {I S:Addr}{slot i n ep:Nat}{es:Array (Int×Value)}{t:SetTable}{Q:Option Value→Shared→Prop} (hh:A.handled=none) (hit:SIt s.heap I (.int slot 0) i S n ep) (hS:SAt s.heap S es ep t) (hf:t.fits es.size=true) (hn:es.size=n)
  (hx:∀ (Q':Option (Value×Nat)→Shared→Prop) (E':Value→Shared→Prop),Q' none s→wpAny (model prog w) A.in1 (setNext S slot i ep) Q' E' s)
  (q:∀ h',Heap.ExtBut I s.heap h'→Q none { s with heap:=h' }):wpAny (model prog w) A (pyNext (.ref I)) Q E s:=by
 refine jH hit ?_
 obtain⟨o,f1,f2,f3⟩:=id hit
 obtain⟨oS,e1,e2,e3⟩:=hS
 unfold Builtin.«set_iterator.__next__»
 refine wpAny_bind (wpAny_pure (wpAny_bind (wpAny_fieldsOf f1 f3 ?_)))
 show wpAny _ _ (setEntries S >>= _) _ _ _
 refine wpAny_bind (wpAny_setEntries_of e1 e3 hf ?_)
 dsimp only
 rw[if_neg (by rw[hn];simp)]
 refine wpAny_bind (m:=setNext S _ _ _) (hx _ _ ?_)
 dsimp only
 refine wpAny_bind (wpAny_setField f1 f3 (show 2<5 by decide) ?_)
 exact pD (I:=I) hh fun h' hb=>q h' fun b o hb' e=>hb b o hb' ((Heap.SameBut.update ..).extBut b o hb' e)
theorem x4 {I S a2:Addr}{place i n ep:Nat}{tk:Tok}{es:Array (Int×Value)}{t:SetTable}{x:Int×Value}{o2:Obj}{pl:Array Value}{n2:Nat}{Q:Option Value→Shared→Prop} (hit:SIt s.heap I (.ref a2) i S n ep) (hS:SAt s.heap S es ep t) (hf:t.fits es.size=true) (hn:es.size=n)
  (h2:s.heap.get? a2=some o2) (d2:o2.data=.seq pl n2) (hp:pl[i]?=some (.int place tk)) (hx:es[place]?=some x)
  (q:∀ h',SIt h' I (.ref a2) (i+1) S n ep→Heap.SameBut I s.heap h'→Q (some x.2) { s with heap:=h' }):wpAny (model prog w) A (pyNext (.ref I)) Q E s:=by
 refine jH hit ?_
 obtain⟨o,f1,f2,f3⟩:=id hit
 obtain⟨oS,e1,e2,e3⟩:=hS
 unfold Builtin.«set_iterator.__next__»
 refine wpAny_bind (wpAny_pure (wpAny_bind (wpAny_fieldsOf f1 f3 ?_)))
 show wpAny _ _ (setEntries S >>= _) _ _ _
 refine wpAny_bind (wpAny_setEntries_of e1 e3 hf ?_)
 dsimp only
 rw[if_neg (by rw[hn];simp)]
 show wpAny _ _ (seqItems? (.ref a2) >>= _) _ _ _
 refine wpAny_bind (wpAny_seqItems h2 d2 ?_)
 dsimp only
 rw[Int.toNat_natCast,hp]
 dsimp only
 show wpAny _ _ (setNextDrawn S _ _ >>= _) _ _ _
 unfold setNextDrawn
 refine wpAny_bind (wpAny_bind (wpAny_setState_of e1 e3 hf ?_))
 dsimp only
 rw[if_neg (by simp),Int.toNat_natCast,hx]
 dsimp only
 refine wpAny_pure ?_
 refine wpAny_bind (jI (f0':=.ref a2) (i':=i+1) hit (by decide) rfl fun h1 hit1 hb1=>?_)
 exact wpAny_pure ⟨_,rfl,q h1 hit1 hb1⟩
theorem x5 {I S a2:Addr}{i n ep:Nat}{es:Array (Int×Value)}{t:SetTable}{o2:Obj}{pl:Array Value}{n2:Nat}{Q:Option Value→Shared→Prop} (hh:A.handled=none) (hit:SIt s.heap I (.ref a2) i S n ep) (hS:SAt s.heap S es ep t) (hf:t.fits es.size=true) (hn:es.size=n)
  (h2:s.heap.get? a2=some o2) (d2:o2.data=.seq pl n2) (hp:pl[i]?=none)
  (q:∀ h',Heap.ExtBut I s.heap h'→Q none { s with heap:=h' }):wpAny (model prog w) A (pyNext (.ref I)) Q E s:=by
 refine jH hit ?_
 obtain⟨o,f1,f2,f3⟩:=id hit
 obtain⟨oS,e1,e2,e3⟩:=hS
 unfold Builtin.«set_iterator.__next__»
 refine wpAny_bind (wpAny_pure (wpAny_bind (wpAny_fieldsOf f1 f3 ?_)))
 show wpAny _ _ (setEntries S >>= _) _ _ _
 refine wpAny_bind (wpAny_setEntries_of e1 e3 hf ?_)
 dsimp only
 rw[if_neg (by rw[hn];simp)]
 show wpAny _ _ (seqItems? (.ref a2) >>= _) _ _ _
 refine wpAny_bind (wpAny_seqItems h2 d2 ?_)
 dsimp only
 rw[Int.toNat_natCast,hp]
 dsimp only
 refine wpAny_bind (jI (f0':=.int 0 0) (i':=i) hit (by decide) rfl fun h1 hit1 hb1=>?_)
 obtain⟨o',g1,g2,g3⟩:=hit1
 refine wpAny_bind (wpAny_setField (s:={ s with heap:=h1 }) g1 g3 (show 2<5 by decide) ?_)
 exact pD (I:=I) hh fun h' hb=>q h' fun b o hb' e=>hb b o hb' ((Heap.SameBut.update ..).extBut b o hb' (hb1.extBut b o hb' e))
end
section
variable {prog:Program}{w:World}{A:Around}{E:Value→Shared→Prop}{s:Shared}
theorem pG {α:Type} (next:Nat→Nat):∀ (fuel k:Nat) (left:List α) (out:Array α),left.length=fuel→(pickOrder.go next fuel k left out).toList.Perm (out.toList++left)
 | 0,k,left,out,h=>by
  have e:left=[]:=List.eq_nil_of_length_eq_zero h
  subst e
  unfold pickOrder.go
  rw[List.append_nil]
 | fuel+1,k,left,out,h=>by
  unfold pickOrder.go
  have hi:next k % left.length<left.length:=Nat.mod_lt _ (by rw[h];exact Nat.succ_pos _)
  rw[List.getElem?_eq_getElem hi]
  dsimp only
  refine (pG next fuel (k+1) _ _ (by rw[List.length_eraseIdx_of_lt hi,h];rfl)).trans ?_
  rw[Array.toList_push,List.append_assoc]
  exact List.Perm.append_left _ (lL _ _ hi)
theorem x6 {α:Type} (next:Nat→Nat) (xs:Array α):(pickOrder next xs).toList.Perm xs.toList:=pG next xs.size 0 xs.toList #[] (by rw[Array.length_toList])
theorem jJ {Q:Bool→Shared→Prop} (h:Q (w.params.followText "set-order") s):wpAny (model prog w) A setsByText Q E s:=by
 unfold setsByText
 exact wpAny_bind (wpAny_askSetting (wpAny_pure h))
theorem pH {S:Addr}{slot i g ep:Nat}{es:Array (Int×Value)}{t:SetTable}{Q:Option (Value×Nat)→Shared→Prop} (hS:SAt s.heap S es ep t) (hf:t.fits es.size=true) (hbt:w.params.followText "set-order" = false) (hdr:(!t.plain && decide (es.size > 1))=false) (hl:t.led=true) (hb:SetTable.below t.place slot=i)
  (q:Q (match es[i]?,t.place[i]? with | some (_,x),some j=>some (x,j+1) | _,_=>none) s):wpAny (model prog w) A (setNext S slot g ep) Q E s:=by
 obtain⟨o,e1,e2,e3⟩:=hS
 unfold setNext
 refine wpAny_bind (wpAny_setState_of e1 e3 hf ?_)
 dsimp only
 refine wpAny_bind (jJ ?_)
 rw[hbt,if_neg Bool.false_ne_true]
 show wpAny _ _ (if (!t.plain && decide (es.size > 1))=true then _ else _) _ _ _
 rw[hdr,if_neg Bool.false_ne_true]
 show wpAny _ _ ((if (!t.led && !es.isEmpty)=true then (unsupported "set:maker-not-led" : Sem Unit) else pure ()) >>= _) _ _ _
 rw[hl]
 refine wpAny_bind (m:=pure ()) (wpAny_pure ?_)
 rw[hb]
 exact wpAny_pure q
theorem pJ {S:Addr}{slot g ep:Nat}{es:Array (Int×Value)}{t:SetTable}{Q:Option (Value×Nat)→Shared→Prop} (hS:SAt s.heap S es ep t) (hf:t.fits es.size=true) (hbt:w.params.followText "set-order" = true)
  (q:Q (((pickOrder (w.params.setOrder S ep) es)[g]?).map fun e=>(e.2,slot)) s):wpAny (model prog w) A (setNext S slot g ep) Q E s:=by
 obtain⟨o,e1,e2,e3⟩:=hS
 unfold setNext
 refine wpAny_bind (wpAny_setState_of e1 e3 hf ?_)
 dsimp only
 refine wpAny_bind (jJ ?_)
 rw[hbt,if_pos rfl,if_neg (by simp)]
 unfold setWalk
 refine wpAny_bind (wpAny_bind (wpAny_setState_of e1 e3 hf ?_))
 dsimp only
 refine wpAny_bind (jJ ?_)
 rw[hbt,if_pos rfl]
 exact wpAny_bind (wpAny_askSetting (wpAny_pure (wpAny_pure q)))
theorem lM {I S:Addr}{f0:Value}{i n ep:Nat}{Q:Value→Shared→Prop} (hit:SIt s.heap I f0 i S n ep) (q:Q (.ref I) s):wpAny (model prog w) A (pyIter (.ref I)) Q E s:=by
 refine wpAny_pyIter_slot hit.ty pB (wpAny_call_entry pB hit.ty xY ?_ (xX _))
 show wpAny _ _ (ret (.ref I)) _ _ s
 exact wpAny_pure ⟨_,rfl,"set_iterator",_,hit.ty,iF.lookup,q⟩
noncomputable def lN (place:Array Nat):Nat→Nat
 | 0=>0
 | i+1=>place.getD i 0+1
theorem pK {place:Array Nat} (r:cC place):∀ {i:Nat},i≤place.size→SetTable.below place (lN place i)=i
 | 0,_=>xE r
 | i+1,h=>by
  have e:place[i]?=some (place.getD i 0):=by simp[Array.getD,show i<place.size from h]
  exact xD r e
noncomputable def dA (es:Array (Int×Value)):List Value:=es.toList.map (·.2)
theorem jK (es:Array (Int×Value)):(dA es).length=es.size:=by rw[dA,List.length_map,Array.length_toList]
theorem x8 {I S:Addr}{ep:Nat}{es:Array (Int×Value)}{t:SetTable} (hh:A.handled=none) (ne:S≠I) (hf:t.fits es.size=true) (hbt:w.params.followText "set-order" = false) (hdr:(!t.plain && decide (es.size > 1))=false) (hl:t.led=true) (r:cC t.place):
  Walks prog w A I [I,S] [I] (dA es).length (fun i v=>(dA es)[i]?=some v) (fun i h=>SIt h I (.int (lN t.place i) 0) i S es.size ep∧SAt h S es ep t) where
 sub:=fun b hb=>by
  have:b=I:=by simpa using hb
  simp[this]
 frame:=fun i h h' st k=>⟨st.1.go (k I (by simp)),st.2.go (k S (by simp))⟩
 item:=fun i s Q E hi st hQ=>by
  rw[jK] at hi
  have hp:t.place.size=es.size:=by
   simp only[SetTable.fits,Bool.and_eq_true,beq_iff_eq] at hf
   exact hf.1
  have e1:es[i]?=some es[i]:=Array.getElem?_eq_getElem hi
  have e2:t.place[i]?=some (t.place.getD i 0):=by simp[Array.getD,show i<t.place.size by lia]
  have hv:(dA es)[i]?=some es[i].2:=by rw[dA,List.getElem?_map,Array.getElem?_toList,e1];rfl
  refine pE (next:=lN t.place (i+1)) (x:=es[i].2) st.1 st.2 hf rfl (fun Q' E' q=>pH st.2 hf hbt hdr hl (pK r (by lia)) ?_) fun h' a b=>hQ _ h' s.toks hv ⟨a,st.2.go fun o e=>b.extBut S o ne e⟩ fun c o hc e=>b.extBut c o (by simpa using hc) e
  rw[e1,e2]
  exact q
 done:=fun s Q E st hQ=>by
  rw[jK] at st
  have hp:t.place.size=es.size:=by
   simp only[SetTable.fits,Bool.and_eq_true,beq_iff_eq] at hf
   exact hf.1
  refine pF hh st.1 st.2 hf rfl (fun Q' E' q=>pH st.2 hf hbt hdr hl (pK r (by lia)) ?_) fun h' b=>hQ h' s.toks fun c o hc e=>b c o (by simpa using hc) e
  rw[Array.getElem?_eq_none (Nat.le_refl _)]
  exact q
 self:=fun i s Q E st hQ=>lM st.1 hQ
theorem x9 {I S:Addr}{ep:Nat}{es:Array (Int×Value)}{t:SetTable} (hh:A.handled=none) (ne:S≠I) (hf:t.fits es.size=true) (hbt:w.params.followText "set-order" = true):
  Walks prog w A I [I,S] [I] (dA (pickOrder (w.params.setOrder S ep) es)).length (fun i v=>(dA (pickOrder (w.params.setOrder S ep) es))[i]?=some v) (fun i h=>SIt h I (.int (0:Nat) 0) i S es.size ep∧SAt h S es ep t) where
 sub:=fun b hb=>by
  have:b=I:=by simpa using hb
  simp[this]
 frame:=fun i h h' st k=>⟨st.1.go (k I (by simp)),st.2.go (k S (by simp))⟩
 item:=fun i s Q E hi st hQ=>by
  rw[jK] at hi
  have e1:(pickOrder (w.params.setOrder S ep) es)[i]?=some (pickOrder (w.params.setOrder S ep) es)[i]:=Array.getElem?_eq_getElem hi
  have hv:(dA (pickOrder (w.params.setOrder S ep) es))[i]?=some (pickOrder (w.params.setOrder S ep) es)[i].2:=by rw[dA,List.getElem?_map,Array.getElem?_toList,e1];rfl
  refine pE (next:=0) (x:=(pickOrder (w.params.setOrder S ep) es)[i].2) st.1 st.2 hf rfl (fun Q' E' q=>pJ st.2 hf hbt ?_) fun h' a b=>hQ _ h' s.toks hv ⟨a,st.2.go fun o e=>b.extBut S o ne e⟩ fun c o hc e=>b.extBut c o (by simpa using hc) e
  rw[e1]
  exact q
 done:=fun s Q E st hQ=>by
  rw[jK] at st
  refine pF hh st.1 st.2 hf rfl (fun Q' E' q=>pJ st.2 hf hbt ?_) fun h' b=>hQ h' s.toks fun c o hc e=>b c o (by simpa using hc) e
  rw[Array.getElem?_eq_none (Nat.le_refl _)]
  exact q
 self:=fun i s Q E st hQ=>lM st.1 hQ
noncomputable def fO (ps:List Nat):List Value:=ps.map fun (i:Nat)=>rawInt i
noncomputable def dB (es:Array (Int×Value)) (ps:List Nat):List Value:=ps.filterMap fun i=>es[i]?.map (·.2)
theorem pL {es:Array (Int×Value)}:∀ {ps:List Nat},(∀ p∈ps,p<es.size)→∀ (i:Nat) (h:i<ps.length),∃ x,es[ps[i]]?=some x∧(dB es ps)[i]?=some x.2
 | [],_,i,h=>by cases h
 | p::ps,hp,i,h=>by
  have hp1:p<es.size:=hp p (.head _)
  have e:es[p]?=some es[p]:=Array.getElem?_eq_getElem hp1
  have e2:dB es (p::ps)=es[p].2::dB es ps:=by rw[dB,List.filterMap_cons_some (b:=es[p].2) (by rw[e];rfl)];rfl
  rw[e2]
  cases i with
  | zero=>exact⟨es[p],e,rfl⟩
  | succ i=>
   obtain⟨x,h1,h2⟩:=pL (fun p h=>hp p (.tail _ h)) i (Nat.lt_of_succ_lt_succ h)
   exact⟨x,h1,h2⟩
theorem lO {es:Array (Int×Value)}:∀ {ps:List Nat},(∀ p∈ps,p<es.size)→(dB es ps).length=ps.length
 | [],_=>rfl
 | p::ps,hp=>by
  have hp1:p<es.size:=hp p (.head _)
  have e:es[p]?=some es[p]:=Array.getElem?_eq_getElem hp1
  rw[dB,List.filterMap_cons_some (b:=es[p].2) (by rw[e];rfl),List.length_cons,List.length_cons]
  exact congrArg (·+1) (lO fun p h=>hp p (.tail _ h))
theorem ya {I S a2:Addr}{ep:Nat}{es:Array (Int×Value)}{t:SetTable}{ps:List Nat}{n2:Nat} (hh:A.handled=none) (ne:S≠I) (ne2:a2≠I) (hf:t.fits es.size=true) (hp:∀ p∈ps,p<es.size):
  Walks prog w A I [I,S,a2] [I] (dB es ps).length (fun i v=>(dB es ps)[i]?=some v) (fun i h=>SIt h I (.ref a2) i S es.size ep∧SAt h S es ep t∧∃ o,h.get? a2=some o∧o.data=.seq (fO ps).toArray n2) where
 sub:=fun b hb=>by
  have:b=I:=by simpa using hb
  simp[this]
 frame:=fun i h h' st k=>⟨st.1.go (k I (by simp)),st.2.1.go (k S (by simp)),let ⟨o,e,r⟩:=st.2.2;⟨o,k a2 (by simp) o e,r⟩⟩
 item:=fun i s Q E hi st hQ=>by
  obtain⟨st1,st2,o,e,r⟩:=st
  rw[lO hp] at hi
  obtain⟨x,h1,h2⟩:=pL hp i hi
  refine x4 (x:=x) (place:=ps[i]) (tk:=0) st1 st2 hf rfl e r ?_ h1 fun h' a b=>hQ _ h' s.toks h2 ⟨a,st2.go fun o e=>b.extBut S o ne e,o,b.extBut a2 o ne2 e,r⟩ fun c o hc e=>b.extBut c o (by simpa using hc) e
  rw[List.getElem?_toArray,fO,List.getElem?_map,List.getElem?_eq_getElem hi]
  rfl
 done:=fun s Q E st hQ=>by
  obtain⟨st1,st2,o,e,r⟩:=st
  refine x5 hh st1 st2 hf rfl e r ?_ fun h' b=>hQ h' s.toks fun c o hc e=>b c o (by simpa using hc) e
  rw[List.getElem?_toArray,fO,List.getElem?_map,List.getElem?_eq_none (by rw[lO hp];exact Nat.le_refl _)]
  rfl
 self:=fun i s Q E st hQ=>lM st.1 hQ
end
section
variable {prog:Program}{w:World}{A:Around}{E:Value→Shared→Prop}{s:Shared}
theorem jL:∀ {l:List (Int×Value)},(∀ e∈l,gJ e)→IntsAre (l.map (·.2)) (l.map cD)
 | [],_=>.nil
 | e::l,h=>by
  obtain⟨_,t,ht⟩:=h e (.head _)
  rw[List.map_cons,List.map_cons,ht]
  exact .cons _ t (jL fun e he=>h e (.tail _ he))
theorem yb {r:Addr}{Q:Bool→Shared→Prop} (hT:s.TypeIs (.ref r) "set") (h:Q false s):wpAny (model prog w) A (Builtin.List.listLengthHint (.ref r)) Q E s:=by
 unfold Builtin.List.listLengthHint
 refine wpAny_bind (wpAny_specialOf hT PySem.F.slot_set_len.lookup ?_)
 generalize hid:("set.__len__" : String)=id0
 wp_delta
 rw[show splitId id0=some ("set","__len__") from by subst hid;decide +kernel]
 subst hid
 refine wpAny_bind (wpAny_isInstance (T := "set") (b:=true) hT (by rw[isSubtype_type];kernel_rfl) ?_)
 refine wpAny_ite_split (fun hab=>absurd hab (by decide)) (fun _=>?_)
 refine wpAny_ite_split (fun _=>?_) (fun hab=>absurd (by decide +kernel) hab)
 refine wpAny_bind (wpAny_typeOf hT ?_)
 exact wpAny_pure h
theorem yc {es:Array (Int×Value)}{ps:List Nat} (hp:ps.Perm (List.range es.size)):dB es ps=(ps.filterMap fun i=>es[i]?).map (·.2)∧(ps.filterMap fun i=>es[i]?).Perm es.toList:=by
 refine⟨?_,(hp.filterMap _).trans (by rw[filterMap_getElem?_range])⟩
 rw[List.map_filterMap]
 rfl
theorem yd {S:Addr}{ns:List Int}{Q:Value→Shared→Prop} (hh:A.handled=none) (hS:bw s.heap S (cj w) ns)
  (h:∀ (h1:Heap) (d:_) (I:Addr) (fp:List Addr) (vs:List Value) (ms:List Int) (St:Nat→Heap→Prop),(∀ b o,s.heap.get? b=some o→h1.get? b=some o)→s.heap.objs.size≤I→(∀ b∈fp,b=S∨s.heap.objs.size≤b)→
   Walks prog w A I fp [I] vs.length (fun i v=>vs[i]?=some v) St→St 0 h1→ms.Perm ns→IntsAre vs ms→Q (.ref I) { s with heap:=h1,drawn:=d }):
  wpAny (model prog w) A (pyIter (.ref S)) Q E s:=by
 obtain⟨o,es,ep,t,e1,e2,e3,D⟩:=hS
 have ty:s.TypeIs (.ref S) "set" := ⟨o,e1,e2.1⟩
 have hSl:S<s.heap.objs.size:=Heap.lt_size e1
 have hsz:es.size≤sizeLine:=fits_of_scanBound D.small
 refine wpAny_pyIter_slot ty PySem.F.slot_set_iter (wpAny_call_entry PySem.F.slot_set_iter ty xW ?z (PySem.F.args_set_iter_1 _))
 case z=>
  unfold Builtin.«frozenset.__iter__» Builtin.Frozenset.slot0 Builtin.Frozenset.addrOf Builtin.Frozenset.sizeOf
  refine wpAny_bind (wpAny_bind (wpAny_pure (wpAny_pure ?_)))
  refine wpAny_bind (wpAny_bind (wpAny_setEntries_of e1 e3 D.fit (wpAny_pure ?_)))
  refine wpAny_bind ?_
  unfold setDrawn
  refine wpAny_bind (wpAny_setState_of e1 e3 D.fit ?_)
  dsimp only
  refine wpAny_bind (jJ (wpAny_pure ?_))
  have fin0:w.params.followText "set-order" = true∨(!t.plain && decide (es.size > 1))=false→
    wpAny (model prog w) A.in1 (do let ep ← setEpoch S;let r ← newFields "set_iterator" [rawInt 0,rawInt 0,.ref S,rawInt es.size,rawInt ep];ret r) (fun fin s'=>∃ r,fin=PySem.Fin.done (.ret r)∧∃ T' q,s'.TypeIs r T'∧typeLookup (.type T') "__next__" = pure (some q)∧Q r s') E s:=by
   intro hc
   refine wpAny_bind (wpAny_setEpoch_of e1 e3 D.fit (wpAny_bind (wpAny_newObj_type (wpAny_pure ⟨_,rfl,"set_iterator",_,⟨_,Heap.get?_push_size _ rfl,rfl⟩,iF.lookup,?_⟩))))
   have kp:∀ b o,s.heap.get? b=some o→(s.heap.push { cls:=.type "set_iterator",dict:=none,data:=.fields [rawInt 0,rawInt 0,.ref S,rawInt es.size,rawInt ep].toArray }).get? b=some o:=fun b o e=>Heap.get?_push_of_some _ e
   have sit:SIt (s.heap.push { cls:=.type "set_iterator",dict:=none,data:=.fields [rawInt 0,rawInt 0,.ref S,rawInt es.size,rawInt ep].toArray }) s.heap.objs.size (.int (0:Nat) 0) 0 S es.size ep:=⟨_,Heap.get?_push_size _ rfl,rfl,rfl⟩
   have sat:SAt (s.heap.push { cls:=.type "set_iterator",dict:=none,data:=.fields [rawInt 0,rawInt 0,.ref S,rawInt es.size,rawInt ep].toArray }) S es ep t:=⟨o,kp _ _ e1,e2,e3⟩
   have fp:∀ b∈[s.heap.objs.size,S],b=S∨s.heap.objs.size≤b:=fun b hb=>by
    rcases List.mem_cons.mp hb with rfl | hb
    ·exact .inr (Nat.le_refl _)
    ·exact .inl (List.mem_singleton.mp hb)
   cases hbt:w.params.followText "set-order" with
   | true=>
    have hp:=x6 (w.params.setOrder S ep) es
    exact h _ s.drawn _ _ _ _ _ kp (Nat.le_refl _) fp (x9 hh (Nat.ne_of_lt hSl) D.fit hbt) ⟨sit,sat⟩ ((hp.map cD).trans D.perm) (jL fun e he=>D.els e (hp.mem_iff.mp he))
   | false=>
    have hdr:=hc.resolve_left (by rw[hbt];exact Bool.false_ne_true)
    exact h _ s.drawn _ _ _ _ _ kp (Nat.le_refl _) fp (x8 hh (Nat.ne_of_lt hSl) D.fit hbt hdr (by rw[D.tab.led,cj,hbt];rfl) D.tab.rise) ⟨sit,sat⟩ D.perm (jL D.els)
  show wpAny _ _ (if (!w.params.followText "set-order" && (!t.plain && decide (es.size > 1)))=true then _ else _) _ _ _
  cases hd:(!w.params.followText "set-order" && (!t.plain && decide (es.size > 1))) with
  | false=>
   rw[if_neg Bool.false_ne_true]
   refine wpAny_bind (m:=pure (rawInt 0)) (wpAny_pure (fin0 ?_))
   cases hbt:w.params.followText "set-order" with
   | true=>exact .inl rfl
   | false=>rw[hbt] at hd;exact .inr hd
  | true=>
   rw[if_pos rfl]
   refine wpAny_bind (pC es.size (List.range es.size) s _ List.length_range fun d ps hp=>?_)
   have hps:∀ p∈ps,p<es.size:=fun p h=>List.mem_range.mp (hp.mem_iff.mp h)
   have hlp:ps.length=es.size:=by rw[hp.length_eq,List.length_range]
   refine wpAny_bind (m:=newObj (.type "tuple") (.seq (fO ps).toArray)) (wpAny_newObj_type ?_ (show (fO ps).toArray.size≤sizeLine by rw[List.size_toArray,fO,List.length_map,hlp];exact hsz))
   refine wpAny_bind (wpAny_setEpoch_of (Heap.get?_push_of_some _ e1) e3 D.fit (wpAny_bind (wpAny_newObj_type (wpAny_pure ⟨_,rfl,"set_iterator",_,⟨_,Heap.get?_push_size _ rfl,rfl⟩,iF.lookup,?_⟩))))
   obtain⟨q1,q2⟩:=yc hp
   have hI:({ s with heap:=s.heap.push { cls:=.type "tuple",dict:=none,data:=.seq (fO ps).toArray },drawn:=d }:Shared).heap.objs.size=s.heap.objs.size+1:=Heap.size_push ..
   refine h _ d _ [_,S,s.heap.objs.size] (dB es ps) ((ps.filterMap fun i=>es[i]?).map cD) _ (fun b o e=>Heap.get?_push_of_some _ (Heap.get?_push_of_some _ e)) ?_ ?_ (ya (ep:=ep) (t:=t) (n2:=0) hh ?_ ?_ D.fit hps) ⟨⟨_,Heap.get?_push_size _ rfl,rfl,rfl⟩,⟨o,Heap.get?_push_of_some _ (Heap.get?_push_of_some _ e1),e2,e3⟩,⟨_,Heap.get?_push_of_some _ (Heap.get?_push_size _ rfl),rfl⟩⟩ ((q2.map cD).trans D.perm) ?_
   ·exact Nat.le_of_lt (by rw[Heap.size_push];exact Nat.lt_succ_self _)
   ·intro b hb
    rcases List.mem_cons.mp hb with rfl | hb
    ·exact .inr (by rw[Heap.size_push];exact Nat.le_succ _)
    ·rcases List.mem_cons.mp hb with rfl | hb
     ·exact .inl rfl
     ·exact .inr (by rw[List.mem_singleton.mp hb];exact Nat.le_refl _)
   ·rw[Heap.size_push];exact Nat.ne_of_lt (Nat.lt_succ_of_lt hSl)
   ·rw[Heap.size_push];exact Nat.ne_of_lt (Nat.lt_succ_self _)
   ·rw[q1];exact jL fun e he=>D.els e (q2.mem_iff.mp he)
end
section
variable {prog:Program}{w:World}{A:Around}{E:Value→Shared→Prop}{s:Shared}
theorem IntsAre.len:∀ {vs:List Value}{ns:List Int},IntsAre vs ns→vs.length=ns.length
 | _,_,.nil=>rfl
 | _,_,.cons _ _ r=>congrArg (·+1) (IntsAre.len r)
theorem ye {S:Addr}{ns:List Int}{Q:List Value→Shared→Prop} (hh:A.handled=none) (hS:bw s.heap S (cj w) ns) (hl:ns.length≤sizeLine)
  (h:∀ (h':Heap) (tk:Nat) (d:_) (vs:List Value) (ms:List Int),(∀ b o,s.heap.get? b=some o→h'.get? b=some o)→ms.Perm ns→IntsAre vs ms→Q vs { s with heap:=h',toks:=tk,drawn:=d }):
  wpAny (model prog w) A (collect (.ref S)) Q E s:=by
 have hSl:S<s.heap.objs.size:=let ⟨_,_,_,_,e,_⟩:=hS;Heap.lt_size e
 unfold collect
 refine wpAny_bind (wpAny_runValue (codeAny_builtin entry_proto_collect' ?_))
 rw[Around.under_plainId PySem.F.plain_proto_collect _]
 show wpAny _ A.in1 (newList [] >>= fun l=>again (.builtin "list.__iadd__" ⟨[l,.ref S],[]⟩)) _ _ s
 refine wpAny_bind (wpAny_newObj_type ?_)
 refine wpAny_pure ⟨plainId_quiet PySem.F.plain_list_iadd _,codeAny_builtin entry_list_iadd' ?_⟩
 rw[Around.under_plainId PySem.F.plain_list_iadd _]
 generalize hH:s.heap.push { cls:=.type "list",dict:=none,data:=.seq ([]:List Value).toArray }=H1
 have kH:∀ b o,s.heap.get? b=some o→H1.get? b=some o:=fun b o e=>by rw[← hH];exact Heap.get?_push_of_some _ e
 have hB:H1.get? s.heap.objs.size=some { cls:=.type "list",dict:=none,data:=.seq #[] }:=by rw[← hH];exact Heap.get?_push_size _ rfl
 have hBl:s.heap.objs.size<H1.objs.size:=Heap.lt_size hB
 have hS1:bw H1 S (cj w) ns:=hS.at fun o e=>kH S o e
 have ty:Shared.TypeIs { s with heap:=H1 } (.ref S) "set" := let ⟨o,_,_,_,e,x,_⟩:=hS1;⟨o,e,x.1⟩
 show wpAny _ A.in1 (Builtin.List.listExtendWith (.ref s.heap.objs.size) (.ref S) (.ref s.heap.objs.size)) _ _ _
 unfold Builtin.List.listExtendWith
 refine wpAny_bind (wpAny_typeOf (T := "set") ty ?_)
 have h1:Builtin.List.listSameRef (.ref s.heap.objs.size) (.ref S)=false:=by simp[Builtin.List.listSameRef,Nat.ne_of_gt hSl]
 have h2:(Value.type "set" == Value.type "list")=false:=by decide
 have h3:(Value.type "set" == Value.type "tuple")=false:=by decide
 simp only[h1,h2,h3,Bool.or_false,Bool.false_eq_true,if_false]
 refine wpAny_bind (yd (s:={ s with heap:=H1 }) hh hS1 fun h2 d I fp vs ms St k2 hI hfp W st pm iv=>?_)
 have hn:vs.length≤sizeLine:=by rw[IntsAre.len iv,pm.length_eq];exact hl
 have hBf:s.heap.objs.size∉fp:=fun hm=>by
  rcases hfp _ hm with e | e
  ·exact absurd e (Nat.ne_of_gt hSl)
  ·exact absurd hBl (Nat.not_lt.mpr e)
 have hS2:h2.get? s.heap.objs.size=some { cls:=.type "list",dict:=none,data:=.seq #[] }:=k2 _ _ hB
 have ty2:Shared.TypeIs { s with heap:=h2,drawn:=d } (.ref S) "set" := let ⟨o,e,c⟩:=ty;⟨o,k2 _ _ e,c⟩
 have key:∀ (hp:Heap) (c:Nat) (R:Result→Shared→Prop),St 0 hp→(∀ b o,b≠s.heap.objs.size→h2.get? b=some o→hp.get? b=some o)→hp.get? s.heap.objs.size=some { cls:=.type "list",dict:=none,data:=.seq #[] c }→
   (∀ (h':Heap) (tk:Nat) (c':Nat),(∀ b o,s.heap.get? b=some o→h'.get? b=some o)→h'.get? s.heap.objs.size=some { cls:=.type "list",dict:=none,data:=.seq vs.toArray c' }→R (.ok (.ret (.ref s.heap.objs.size))) { s with heap:=h',toks:=tk,drawn:=d })→
   codeAny (model prog w) A (.builtin "list.extend.loop" ⟨[.ref s.heap.objs.size,.ref I,.ref s.heap.objs.size],[]⟩) R { s with heap:=hp,drawn:=d }:=fun hp c R st kp hB' hR=>
  codeAny_extend_loopS W.toS hn s.heap.objs.size hBf (.ref s.heap.objs.size) vs.length 0 _ #[] c rfl (Nat.zero_le _) st hB' (ItemsOf.nil _) fun s' acc c' hm hB2 hacc=>by
   rw[show s'={ s with heap:=s'.heap,toks:=s'.toks,drawn:=d } from by obtain⟨_,hg,hd2,ho,_⟩:=hm;cases s';cases hg;cases hd2;cases ho;rfl]
   have ea:acc=vs.toArray:=by
    apply Array.toList_inj.mp
    apply List.ext_getElem
    ·rw[Array.length_toList];exact hacc.1
    ·intro i g1 g2
     have:=hacc.2 i acc.toList[i] (by rw[← Array.getElem?_toList];exact List.getElem?_eq_getElem g1)
     have this:vs[i]?=some acc.toList[i]:=this
     rw[List.getElem?_eq_getElem g2] at this
     exact (Option.some.inj this).symm
   rw[ea] at hB2
   refine hR s'.heap s'.toks c' (fun b o e=>hm.heap b o (fun hmem=>?_) (kp b o (Nat.ne_of_lt (Heap.lt_size e)) (k2 b o (kH b o e)))) hB2
   rcases List.mem_cons.mp hmem with e' | hmem
   ·exact absurd (Heap.lt_size e) (by rw[e'];exact Nat.lt_irrefl _)
   ·have e3:=Heap.lt_size e
    rw[List.mem_singleton.mp hmem] at e3
    have:s.heap.objs.size≤I:=Nat.le_trans (Nat.le_of_lt hBl) hI
    exact absurd e3 (Nat.not_lt.mpr this)
 refine wpAny_bind (wpAny_holding (yb (s:={ s with heap:=h2,drawn:=d }) ty2 ?_))
 refine wpAny_ite_split (fun _=>?_) (fun _=>wpAny_pure ⟨plainId_quiet PySem.F.plain_extend_loop _,key _ 0 _ st (fun b o _ e=>e) hS2 fun h' tk c' k3 hB3=>wpAny_bind (wpAny_load hB3 (wpAny_pure (h h' tk d vs ms k3 pm iv)))⟩)
 refine wpAny_bind (wpAny_rule ?_)
 refine wpAny_bind ?_
 show wpAny _ _ (updateSeq s.heap.objs.size (·.push .none) >>= fun _=>updateSeq s.heap.objs.size (·.pop)) _ _ _
 refine wpAny_bind (wpAny_updateSeq (s:={ s with heap:=h2,drawn:=d }) hS2 rfl ?_)
 have hS3:=Heap.get?_update_self (Obj.mapSeq (·.push Value.none)) hS2 rfl
 refine wpAny_updateSeq (hz:=by seq_fits) hS3 rfl ?_
 have hS4:=Heap.get?_update_self (Obj.mapSeq (·.pop)) hS3 rfl
 refine wpAny_pure ⟨plainId_quiet PySem.F.plain_extend_loop _,key _ _ _ ?_ (fun b o hb e=>?_) hS4 fun h' tk c' k3 hB3=>wpAny_bind (wpAny_load hB3 (wpAny_pure (h h' tk d vs ms k3 pm iv)))⟩
 ·refine W.frame 0 _ _ st fun b hb o e=>?_
  have hbS:b≠s.heap.objs.size:=fun h=>hBf (h ▸ hb)
  exact (Heap.get?_update_other _ _ (Ne.symm hbS)).trans ((Heap.get?_update_other _ _ (Ne.symm hbS)).trans e)
 ·exact (Heap.get?_update_other _ _ (Ne.symm hb)).trans ((Heap.get?_update_other _ _ (Ne.symm hb)).trans e)
end
end L2
namespace L2
open PySem PySem.Spec PyProof.Rows PySem.W
noncomputable def bG (ns:List Int):List Int:=ns.foldl cb []
theorem pM (ns:List Int):∀ i,i≤ns.length→dz (fun i=>ns.getD i 0) i=(ns.take i).foldl cb []
 | 0,_=>by rw[List.take_zero];rfl
 | i+1,h=>by
  rw[List.take_succ_eq_append_getElem (show i<ns.length from h),List.foldl_append,← pM ns i (Nat.le_of_succ_le h)]
  show cb _ (ns.getD i 0)=cb _ ns[i]
  rw[List.getD_eq_getElem?_getD,List.getElem?_eq_getElem (show i<ns.length from h)]
  rfl
theorem yf (ns:List Int):dz (fun i=>ns.getD i 0) ns.length=bG ns:=by
 rw[pM ns _ (Nat.le_refl _),List.take_length]
 rfl
theorem yg (l:List Int):∀ acc:List Int,(l.foldl cb acc).length≤acc.length+l.length:=by
 induction l with
 | nil=>intro acc;exact Nat.le_refl _
 | cons n r ih=>
  intro acc
  refine Nat.le_trans (ih _) ?_
  have:=py acc n
  rw[List.length_cons]
  lia
theorem pN (ns:List Int):(bG ns).length≤ns.length:=by
 have:=yg ns []
 rw[List.length_nil,Nat.zero_add] at this
 exact this
theorem pO:∀ {vs:List Value}{ns:List Int},IntsAre vs ns→am (ns.map V.int) vs
 | _,_,.nil=>.nil
 | _,_,.cons n t r=>.cons ⟨t,rfl⟩ (pO r)
theorem pP:∀ {ns:List Int}{vs:List Value},am (ns.map V.int) vs→IntsAre vs ns
 | [],_,.nil=>.nil
 | n::r,_,.cons a b=>by obtain⟨t,rfl⟩:=a;exact .cons n t (pP b)
section
variable {X:Cx}{pins:List (Addr×Obj)}{σ:St}{H:Hp}{s:Shared}
theorem Inv.drawnAny (I:Inv X pins σ H s) (d:Drawn):Inv X pins σ H { s with drawn:=d }:=⟨I.ok,I.os,I.bare,I.base,I.loc,I.cell,I.free,I.freeC,I.pin,I.hok,I.len⟩
theorem yh (hc:X.calm=true) {S:Addr}{ns:List Int}{Q:VK} (I:Inv X pins σ H s) (hS:bw s.heap S (cj X.w) ns) (hz:ns.length≤1000)
  (q:∀ l (ns':List Int),H l=none→ns'.Perm ns→ns'.Pairwise (· < ·)→Q (.ref l) (upd H l (.lst (ns'.map V.int)))):
  wpAny (model X.prog X.w) X.A (call (.builtin "sorted") [.ref S]) (EP X pins σ Q) X.xe s:=by
 have nd:ns.Nodup:=let ⟨_,_,_,_,_,_,_,D⟩:=hS;D.nd
 have hsl:ns.length≤sizeLine:=Nat.le_trans hz (show 1000≤sizeLine by decide)
 refine Calls.call_function_entry kind_sorted plain_sorted entry_sorted (args_sorted1 _) ?z
 case z=>
  unfold Builtin.«sorted»
  refine wpAny_bind (m:=checkCount "sorted" 1 1 _) (wpAny_pure (wpAny_bind (ye (A:=X.A.in1) (I.ok.hd hc) hS hsl fun h' tk d its ms hkp pm iv=>?_)))
  have li:its.length=ms.length:=IntsAre.len iv
  have lm:ms.length=ns.length:=pm.length_eq
  have ndm:ms.Nodup:=pm.nodup_iff.mpr nd
  have rv:am (ms.map V.int) its:=pO iv
  show wpAny _ _ (newList its >>= _) _ _ _
  refine wpAny_bind (wpAny_newList ?_ (by lia))
  have oB:(h'.push (seqObj "list" its.toArray 0)).get? h'.objs.size=some (seqObj "list" its.toArray 0):=Heap.get?_push_size _ rfl
  have kB:∀ b o,s.heap.get? b=some o→(h'.push (seqObj "list" its.toArray 0)).get? b=some o:=fun b o e=>Heap.get?_push_of_some _ (hkp b o e)
  have I1:Inv X pins σ H { s with heap:=h',toks:=tk,drawn:=d }:=(I.drawnAny d).kept (t':=tk) hkp
  refine wpAny_bind (wpAny_holding (wpAny_call_entry slot_list_sort ⟨_,oB,rfl⟩ entry_list_sort ?y (args_list_sort _)))
  case y=>
   refine n5 (s:={ s with heap:=h'.push (seqObj "list" its.toArray 0),toks:=tk,drawn:=d }) (fK ms) oneType' oB (fun h2 h6 k6 Q hq=>?_) (fun h6 k6=>?_) (by rw[li];exact kQ ndm) (.inl (by lia)) (by lia) fun p h2 r1 r2 k2 ⟨e9,oB2⟩=>⟨_,rfl,wpAny_pure ⟨_,rfl,?_⟩⟩
   ·refine kas_kind (T:=Value.type "int") h2 (fun v hv=>?_) (by decide) (by decide) hq
    obtain⟨i,hi⟩:=List.getElem?_of_mem hv
    obtain⟨t,ht⟩:=eh (H:=H) rv i (by rw[← li];exact (List.getElem?_eq_some_iff.mp hi).1)
    rw[hi] at ht
    cases ht
    exact Looks.of_pure rfl
   ·intro i j C hi hj q
    obtain⟨t,h1⟩:=eh (H:=H) rv i (by lia)
    obtain⟨u,h2⟩:=eh (H:=H) rv j (by lia)
    unfold kas_cmp
    rw[kat_item rfl,kat_item rfl,List.getD_eq_getElem?_getD,List.getD_eq_getElem?_getD,h1,h2]
    show wpAny _ _ (keyLt' oneType' (.int _ t) (.int _ u)) _ _ _
    rw[keyLt'_oneType]
    exact oneLt_int q
   ·have fB:H h'.objs.size=none:=I1.hok.fresh (Nat.le_refl _)
    have neB:∀ b o,h'.get? b=some o→b≠h'.objs.size:=fun b o e=>Nat.ne_of_lt (Heap.lt_size e)
    rw[li] at r1 r2
    refine⟨.ref h'.objs.size,upd H h'.objs.size (.lst ((p.toList.map fun i=>ms.getD i 0).map V.int)),?_,rfl,q _ _ fB ((n4 r1).trans pm) (upZ r1 r2 ndm)⟩
    refine I1.laid (t':=tk) (fun b u e=>k2 b u (neB b u e) (Heap.get?_push_of_some _ e)) (Nat.le_refl _) ⟨?_,_,e9,?_,oB2⟩
    ·rw[List.length_map,List.length_map,Array.length_toList,r1.size]
     lia
    ·refine jf (by simp) fun i v u h1 h2=>?_
     rw[List.getElem?_map,List.getElem?_map] at h1
     rw[List.getElem?_map] at h2
     cases hpi:p.toList[i]? with
     | none=>rw[hpi] at h1;cases h1
     | some k=>
      rw[hpi] at h1 h2
      cases h1
      cases h2
      have hk:k<ms.length:=List.mem_range.mp (r1.mem_iff.mp (List.mem_of_getElem? hpi))
      obtain⟨t,h3⟩:=eh (H:=H) rv k hk
      show ay (V.int (ms.getD k 0)) (its.getD k .none)
      rw[List.getD_eq_getElem?_getD (l:=its),h3]
      exact⟨t,rfl⟩
noncomputable def tSS (ta:TA):TE:=fun σ H Q=>ta σ H fun vs H1=>∃ (a:Addr) (ns:List Int),vs=[.ref a]∧H1 a=some (.tup (ns.map V.int))∧ns.length≤1000∧∀ l (ns':List Int),H1 l=none→ns'.Perm (bG ns)→ns'.Pairwise (· < ·)→Q (.ref l) (upd H1 l (.lst (ns'.map V.int)))
theorem yi {a:Expr}{ta:TA}{p p2 pos pos2:Pos} (hc:X.calm=true) (hl:Gl X "sorted") (hlm:X.mg "sorted" = none) (hg:Gl X "set") (hm:X.mg "set" = none) (ha:PA X [a] ta) (hs:starEach [a] X.env=[(false,eval a X.env)]:=by rfl):
  PE X (.Call (.Name "sorted" p2) [.Call (.Name "set" p) [a] [] pos] [] pos2) (tSS ta):=by
 intro pins s σ H Q I h
 refine wpAny_Call_Name_kw (cl I hl hlm (show bootBuiltins "sorted" = some (.builtin "sorted") by decide +kernel) (PyProof.Rows.callWith_builtin1 ?_ rfl rfl) (by decide) (by decide))
 refine Calls.spliced_cons ?_
 refine Call_ (cl I hg hm (show bootBuiltins "set" = some (.type "set") by decide +kernel) (PyProof.Rows.callWith_type1 (thn (ha pos pins s σ H _ I h) fun us s1 ⟨vs,H1,I1,r1,q1⟩=>?_) hs rfl))
 obtain⟨l,ns,e,hl2,hz,q⟩:=q1
 subst e
 obtain⟨u,rfl,ru⟩:=c5 r1
 cases ru
 obtain⟨z,its,rv,o,e1,e2,n,e3⟩:=I1.hok l _ hl2
 have li:its.length=ns.length:=by rw[← rv.length,List.length_map]
 have hb:its.toArray.size=ns.length:=by rw[List.size_toArray,li]
 refine xT (items:=its.toArray) (ns:=ns) (I1.ok.hd hc) e1 e2 e3 (pP rv) (by rw[hb];exact Nat.lt_of_le_of_lt (Nat.succ_le_succ hz) (by decide)) fun h' tk hS kp=>?_
 rw[hb,yf] at hS
 refine Calls.spliced_nil ?_
 have I2:Inv X pins σ H1 { s1 with heap:=h',toks:=tk }:=I1.kept (t':=tk) kp
 exact yh hc I2 hS (Nat.le_trans (pN ns) hz) q
end
theorem pQ (ns:List Int):(bG ns).Nodup:=by
 have:∀ (l acc:List Int),acc.Nodup→(l.foldl cb acc).Nodup:=by
  intro l
  induction l with
  | nil=>intro acc h;exact h
  | cons n r ih=>
   intro acc h
   refine ih _ ?_
   unfold cb
   split
   ·exact h
   ·next hn=>exact List.nodup_append.mpr ⟨h,List.pairwise_singleton _ n,fun x hx y hy=>by cases List.mem_singleton.mp hy;exact fun e=>hn (by simpa using e ▸ hx)⟩
 exact this ns [] List.nodup_nil
section
variable {X:Cx}
@[simp] noncomputable def jM (g:M (List Opd)):M Vl:=fun D=>(g D).bind fun p=>(bW p.2 p.1).bind fun ds=>match ds with
 | [.im (.tup x)]=>(ints? x).bind fun ns=>if ns.length≤1000 then some (.lst ((aM (bG ns)).map .int),p.2) else none
 | _=>none
theorem yj {a:Expr}{g:M (List Opd)}{p p2 pos pos2:Pos} (hl:Gl X "sorted") (hlm:X.mg "sorted" = none) (hg:Gl X "set") (hm:X.mg "set" = none) (ha:VA X [a] g) (hs:starEach [a] X.env=[(false,eval a X.env)]:=by rfl) (hc:X.calm=true:=by rfl):
  VE X (.Call (.Name "sorted" p2) [.Call (.Name "set" p) [a] [] pos] [] pos2) (jM g):=by
 refine a5 (yi hc hl hlm hg hm ha hs) fun σ H Q ⟨D,F,r,D',st,nd,hgg,q⟩=>?_
 obtain⟨⟨os,D1⟩,h1,h2⟩:=Option.bind_eq_some_iff.mp hgg
 obtain⟨ds,h3,h4⟩:=Option.bind_eq_some_iff.mp h2
 refine⟨D,F,os,D1,st,nd,h1,fun vs H1 F1 R1 st1 o1 s1=>?_⟩
 have rd:=o1.read st1 h3
 split at h4
 ·rename_i x
  obtain⟨ns,e1,e2⟩:=Option.bind_eq_some_iff.mp h4
  split at e2
  ·rename_i hn
   cases e2
   obtain⟨v,rfl,e⟩:=jo rd
   obtain⟨b,xs,rfl,hb,hi⟩:=(show ∃ a xs,v=V.ref a∧H1 a=some (.tup xs)∧ak H1 x xs from e)
   cases lE e1
   cases lF hi
   refine⟨b,ns,rfl,hb,hn,fun l ns' fl pm up=>?_⟩
   rw[lD (pm.trans (b6 (bG ns)).symm) up (iE (pQ ns))]
   have s2:ap H1 (upd H1 l (.lst ((aM (bG ns)).map V.int))):=(ap.refl H1).upd fl
   exact q _ _ F1 [l] (st1.mono s2.tupS fun a _ o e=>s2 a o e) ⟨l,_,rfl,bD,lG _,rfl⟩ (s1.new s2 (List.pairwise_singleton _ _) (fun a ha=>by rw[List.mem_singleton.mp ha];exact fl) st1.chg)
  ·cases e2
 ·cases h4
end
end L2
namespace L2
open PySem
@[simp] theorem yk (d:Im) (D:SD):eC d D=some (.im d,D):=rfl
@[simp] theorem gK (D:SD):aNil D=some ([],D):=rfl
@[simp] theorem Az (D:SD):sNil D=some (.nx,D):=rfl
@[simp] theorem yl (D:SD):pNone D=some (none,D):=rfl
@[simp] theorem AA (D:SD):kYes D=some (true,D):=rfl
@[simp] theorem AB (d:Im):(Vl.im d).cp=true:=rfl
@[simp] theorem AC (d:List Im):(Vl.fz d).cp=true:=rfl
@[simp] theorem AD (d:List Im):(Vl.lst d).cp=false:=rfl
@[simp] theorem AE (d:List (List Im×Im)):(Vl.dT d).cp=false:=rfl
@[simp] theorem AF (d:List (Key×Im)):(Vl.dK d).cp=false:=rfl
@[simp] theorem gL (D:SD) (d:Vl):rsl D (.vl d)=some d:=rfl
@[simp] theorem ym (D:SD) (i:Nat):rsl D (.sl i)=(D[i]?).getD none:=rfl
@[simp] theorem gM (D:SD):bW D []=some []:=rfl
@[simp] theorem gO (D:SD) (o:Opd) (os:List Opd):bW D (o::os)=(rsl D o).bind fun d=>(bW D os).map fun ds=>d::ds:=rfl
@[simp] theorem AG (D:SD):bP [] D=some ([],D):=rfl
@[simp] theorem AH (d:Vl) (os:List Opd) (D:SD):bP (.vl d::os) D=(bP os D).map fun p=>(d::p.1,p.2):=rfl
@[simp] theorem AI (i:Nat) (os:List Opd) (D:SD):bP (.sl i::os) D=(cu i D).bind fun p=>(bP os p.2).map fun q=>(p.1::q.1,q.2):=rfl
@[simp] theorem AJ:ims []=some []:=rfl
@[simp] theorem AK (d:Im) (ds:List Vl):ims (.im d::ds)=(ims ds).map fun r=>d::r:=rfl
@[simp] theorem AL (b:Bool):asB (.im (.bl b))=some b:=rfl
theorem iG {i j:Int} (h1 : -(2 ^ 64)<j) (h2:j<2 ^ 64):bN i j=true:=by
 have:Builtin.Int.intBits j≤64:=intBits_le_64 h1 h2
 have h':¬ (Builtin.Int.intBits j > shortFactorBits):=Nat.not_lt.mpr this
 unfold bN
 rw[decide_eq_false h']
 simp
theorem iH {i j:Int} (h1 : -(2 ^ 64)<i) (h2:i<2 ^ 64):bN i j=true:=by
 have:Builtin.Int.intBits i≤64:=intBits_le_64 h1 h2
 have h':¬ (Builtin.Int.intBits i > shortFactorBits):=Nat.not_lt.mpr this
 unfold bN
 rw[decide_eq_false h']
 simp
theorem pR {α:Type}{xs:List α}{n:Nat} (h:xs.length≤n):xs.take n=xs:=List.take_of_length_le h
theorem lP {α:Type} (xs:List α) (k:Nat):bv xs (some (k:Int)) none=xs.drop k:=by
 unfold bv
 rw[HT.nh,HT.ng]
 by_cases h:k≤xs.length
 ·rw[Nat.min_eq_left h,pR (by rw[List.length_drop];lia)]
 ·rw[Nat.min_eq_right (by lia),Nat.sub_self,List.take_zero,List.drop_of_length_le (by lia)]
theorem pS {α:Type} (xs:List α) (k:Nat):bv xs none (some (k:Int))=xs.take k:=by
 unfold bv
 rw[HT.nh,HT.ng,List.drop_zero,Nat.sub_zero]
 by_cases h:k≤xs.length
 ·rw[Nat.min_eq_left h]
 ·rw[Nat.min_eq_right (by lia),List.take_length,pR (by lia)]
theorem yn {α:Type} (xs:List α):bv xs none (some (-1))=xs.dropLast:=by
 unfold bv HT.sIx
 simp only[List.drop_zero,Nat.sub_zero]
 rw[if_pos (by decide),List.dropLast_eq_take]
 congr 1
 lia
theorem jN {α:Type}{xs:List α}{i:Int}{d:α} (h0:0≤i) (h:xs[i.toNat]?=some d):atI xs i=some d:=by
 unfold atI ixN
 have hi:i.toNat<xs.length:=(List.getElem?_eq_some_iff.mp h).1
 rw[if_pos h0,if_pos (by lia)]
 exact h
theorem pT {α:Type}{xs:List α}{d:α} (h:xs.getLast?=some d):atI xs (-1)=some d:=by
 rw[List.getLast?_eq_getElem?] at h
 have hi:xs.length - 1<xs.length:=(List.getElem?_eq_some_iff.mp h).1
 unfold atI ixN
 rw[if_neg (by decide),if_pos (by lia)]
 show xs[(-1+(xs.length:Int)).toNat]?=some d
 rw[show (-1+(xs.length:Int)).toNat=xs.length - 1 by lia]
 exact h
theorem yo {tg:MG}{b:MS} (I:Nat→SD→Prop) (R:Vl→SD→Prop):∀ {xs:List Im}{D:SD},I 0 D→
  (∀ (i:Nat) (x:Im) (D:SD),xs[i]?=some x→I i D→∃ D1 fl D2,tg (.im x) D=some D1∧b D1=some (fl,D2)∧(((fl=.nx∨fl=.ct)∧I (i+1) D2)∨∃ d,fl=.rt d∧R d D2))→
  (∃ D',bu tg b xs D=some (.nx,D')∧I xs.length D')∨∃ d D',bu tg b xs D=some (.rt d,D')∧R d D':=by
 intro xs
 induction xs generalizing I with
 | nil=>intro D h0 _;exact .inl ⟨D,rfl,h0⟩
 | cons x r ih=>
  intro D h0 h
  obtain⟨D1,fl,D2,h1,h2,h3⟩:=h 0 x D rfl h0
  rcases h3 with ⟨hf,hI⟩ | ⟨d,rfl,hR⟩
  ·have:=ih (fun i=>I (i+1)) (D:=D2) hI fun i y D' hy hI'=>h (i+1) y D' (by simpa using hy) hI'
   have e:bu tg b (x::r) D=bu tg b r D2:=by
    rw[bu]
    dsimp only
    rw[h1]
    show (b D1).bind _=_
    rw[h2]
    rcases hf with rfl | rfl<;>rfl
   rw[e]
   exact this
  ·refine .inr ⟨d,D2,?_,hR⟩
   rw[bu]
   dsimp only
   rw[h1]
   show (b D1).bind _=_
   rw[h2]
   rfl
theorem pU {tg:MG}{b:MS} (I:Nat→SD→Prop) {xs:List Im}{D:SD} (h0:I 0 D)
  (h:∀ (i:Nat) (x:Im) (D:SD),xs[i]?=some x→I i D→∃ D1 fl D2,tg (.im x) D=some D1∧b D1=some (fl,D2)∧(fl=.nx∨fl=.ct)∧I (i+1) D2):
  ∃ D',bu tg b xs D=some (.nx,D')∧I xs.length D':=by
 rcases yo I (fun _ _=>False) h0 (fun i x D hx hI=>by
  obtain⟨D1,fl,D2,h1,h2,h3,h4⟩:=h i x D hx hI
  exact⟨D1,fl,D2,h1,h2,.inl ⟨h3,h4⟩⟩) with h | ⟨_,_,_,h⟩
 ·exact h
 ·exact h.elim
theorem yp {c:M Bool}{b:MS} (I:Nat→SD→Prop) (Post:SD→Prop) (step:∀ m D,I m D→∃ t D1,c D=some (t,D1)∧(t=true→∃ fl D2,b D1=some (fl,D2)∧(fl=.nx∨fl=.ct)∧∃ m',m'<m∧I m' D2)∧(t=false→Post D1)):
  ∀ (n m:Nat) (D:SD),I m D→m<n→∃ D',dQ c b n D=some (.nx,D')∧Post D':=by
 intro n
 induction n with
 | zero=>intro m D _ h;lia
 | succ n ih=>
  intro m D hI hm
  obtain⟨t,D1,h1,h2,h3⟩:=step m D hI
  rw[dQ]
  dsimp only
  rw[h1]
  cases t with
  | false=>exact⟨D1,rfl,h3 rfl⟩
  | true=>
   obtain⟨fl,D2,h4,hf,m',hm',hI'⟩:=h2 rfl
   obtain⟨D',h5,h6⟩:=ih m' D2 hI' (by lia)
   refine⟨D',?_,h6⟩
   simp only[Option.bind_some,if_true,h4]
   rcases hf with rfl | rfl<;>exact h5
theorem yq {α:Type} (xs:List α):xs.filter (fun _=>true)=xs:=List.filter_eq_self.mpr fun _ _=>rfl
theorem aE {g h:MS}{D D1:SD} (e:g D=some (.nx,D1)):ar g h D=h D1:=by unfold ar;rw[e];rfl
theorem lQ {g h:MS}{D D1:SD}{d:Vl} (e:g D=some (.rt d,D1)):ar g h D=some (.rt d,D1):=by unfold ar;rw[e];rfl
theorem gP {g:MI}{tg:MG}{b:MS}{D D1 D2:SD}{xs:List Im}{o:Option (Nat×Vl)}{fl:Fl} (e:g D=some ((xs,o),D1)) (h:bu tg b xs D1=some (fl,D2)):dR g tg b D=some (fl,rst o D2):=by
 unfold dR;rw[e];show (bu tg b xs D1).map _=_;rw[h];rfl
theorem yr {n m:Nat}{fix:List Nat}{g:MS}{ds:List Vl}{D:SD}{r:Vl} (hl:ds.length=n) (e:g (ds.map some++List.replicate (m - n) none)=some (.rt r,D)):aX n m fix g ds=some (r,dh fix ds D 0):=by
 unfold aX;rw[if_pos hl,e]
theorem dC {own:Nat}{caps:List Nat}{gi:MI}{tg:MG}{c:M Bool}{e:M Vl}{D D1 C':SD}{xs ds:List Im}{o:Option (Nat×Vl)} (h1:gi D=some ((xs,o),D1)) (h2:bY own tg c e xs [] (du caps D1)=some (ds,C')):aO own caps gi tg c e D=some (.lst ds,rst o (cx caps C' D1)):=by
 unfold aO;rw[h1];show (bY own tg c e xs [] (du caps D1)).map _=_;rw[h2];rfl
theorem eU {g:M Vl}{D D1:SD}{d:Vl} (e:g D=some (d,D1)):aF g D=some (.rt d,D1):=by unfold aF;rw[e];rfl
theorem pV {i:Nat}{g:M Vl}{D D1:SD}{d:Vl} (e:g D=some (d,D1)) (h:i<D1.length):aA i g D=some (.nx,D1.set i (some d)):=by unfold aA;rw[e];show (if i<D1.length then _ else _)=_;rw[if_pos h]
theorem pW {c:M Bool}{a b:MS}{D D1:SD} (e:c D=some (true,D1)):sIf c a b D=a D1:=by unfold sIf;rw[e];rfl
theorem lR {c:M Bool}{a b:MS}{D D1:SD} (e:c D=some (false,D1)):sIf c a b D=b D1:=by unfold sIf;rw[e];rfl
theorem cc {n m:Nat}{fix:List Nat}{g:MS}{ds:List Vl} (D:SD) {r:Vl}{outs:List Vl} (hl:ds.length=n) (e:g (ds.map some++List.replicate (m - n) none)=some (.rt r,D)) (ho:dh fix ds D 0=outs):aX n m fix g ds=some (r,outs):=by
 rw[yr hl e,ho]
theorem jO {α:Type}{own:Nat}{tg:MG}{c:M Bool}{e:M Vl}{C:SD} (φ:α→Im) (p:α→Bool) (f:α→Im):∀ (xs:List α) (acc:List Im),(∀ x∈xs,∃ D1 D2,tg (.im (φ x)) (List.replicate own none++C)=some D1∧c D1=some (p x,D2)∧(p x=false→D2.drop own=C)∧(p x=true→∃ D3,e D2=some (.im (f x),D3)∧D3.drop own=C))→
  acc.length+xs.length≤100000→bY own tg c e (xs.map φ) acc C=some (acc++(xs.filter p).map f,C)
 | [],acc,_,_=>by simp[bY]
 | x::r,acc,h,hl=>by
  obtain⟨D1,D2,h1,h2,h3,h4⟩:=h x (.head _)
  rw[List.length_cons] at hl
  rw[List.map_cons,bY,h1]
  show (c D1).bind _=_
  rw[h2]
  show (if p x=true then _ else _)=_
  cases hp:p x with
  | false=>
   rw[if_neg Bool.false_ne_true]
   show bY own tg c e (r.map φ) acc (D2.drop own)=_
   rw[h3 hp,jO φ p f r acc (fun y hy=>h y (.tail _ hy)) (by lia),List.filter_cons,hp]
   rfl
  | true=>
   obtain⟨D3,h5,h6⟩:=h4 hp
   rw[if_pos rfl]
   show (e D2).bind _=_
   rw[h5]
   show (if acc.length<100000 then bY own tg c e (r.map φ) (acc++[f x]) (D3.drop own) else none)=_
   rw[if_pos (by lia),h6,jO φ p f r (acc++[f x]) (fun y hy=>h y (.tail _ hy)) (by rw[List.length_append,List.length_singleton];lia),List.filter_cons,hp]
   simp
theorem di {α:Type}{own:Nat}{tg:MG}{c:M Bool}{e:M Vl}{C:SD} (φ:α→Im) (f:α→Im) (xs:List α) (h:∀ x∈xs,∃ D1 D2 D3,tg (.im (φ x)) (List.replicate own none++C)=some D1∧c D1=some (true,D2)∧e D2=some (.im (f x),D3)∧D3.drop own=C)
  (hl:xs.length≤100000):bY own tg c e (xs.map φ) [] C=some (xs.map f,C):=by
 have:=jO (own:=own) (tg:=tg) (c:=c) (e:=e) (C:=C) φ (fun _=>true) f xs [] (fun x hx=>by
  obtain⟨D1,D2,D3,h1,h2,h3,h4⟩:=h x hx
  exact⟨D1,D2,h1,h2,(fun z=>by cases z),(fun _=>⟨D3,h3,h4⟩)⟩) (by rw[List.length_nil];lia)
 rw[yq] at this
 exact this
theorem iJ {α β:Type} (φ:α→Im) (ψ:β→Im):∀ (xs:List α) (ys:List β),aY (xs.map φ) (ys.map ψ)=(xs.zip ys).map fun p=>.tup [φ p.1,ψ p.2]
 | [],ys=>by simp[aY]
 | x::xs,[]=>by simp[aY]
 | x::xs,y::ys=>by simp[aY,iJ φ ψ xs ys]
theorem iK {α β:Type} (f:α→β) (xs:List α) (lo hi:Option Int):bv (xs.map f) lo hi=(bv xs lo hi).map f:=by
 unfold bv
 rw[List.length_map,List.map_take,List.map_drop]
section
variable {D D1 D2:SD}
theorem v_ {g:M Vl}{d:Vl} (h:g D=some (d,D1)):oV g D=some (.vl d,D1):=by unfold oV;rw[h];rfl
theorem a_ {g:M Opd}{h:M (List Opd)}{x:Opd}{xs:List Opd} (e1:g D=some (x,D1)) (e2:h D1=some (xs,D2)):aa g h D=some (x::xs,D2):=by unfold aa;rw[e1];show (h D1).map _=_;rw[e2];rfl
theorem b_ {op:Vl→Vl→Option Vl}{ga gb:M Opd}{x y:Opd}{d1 d2 d:Vl} (e1:ga D=some (x,D1)) (e2:gb D1=some (y,D2)) (e3:rsl D2 x=some d1) (e4:rsl D2 y=some d2) (e5:op d1 d2=some d):af op ga gb D=some (d,D2):=by
 unfold af;rw[e1];show (gb D1).bind _=_;rw[e2];show (rsl D2 x).bind _=_;rw[e3];show (rsl D2 y).bind _=_;rw[e4];show (op d1 d2).map _=_;rw[e5];rfl
theorem cb_ {op:List Vl→Option Vl}{g:M (List Opd)}{os:List Opd}{ds:List Vl}{d:Vl} (e1:g D=some (os,D1)) (e2:bW D1 os=some ds) (e3:op ds=some d):ax op g D=some (d,D1):=by
 unfold ax;rw[e1];show (bW D1 os).bind _=_;rw[e2];show (op ds).map _=_;rw[e3];rfl
theorem ex_ {g:M Vl}{d:Vl} (e:g D=some (d,D1)):eJ g D=some (.nx,D1):=by unfold eJ;rw[e];rfl
theorem mu_ {D3:SD}{ty:Vl→Bool}{i:Nat}{mt:Vl→List Vl→Option (Vl×Vl)}{g:M (List Opd)}{c0 c r c':Vl}{os:List Opd}{ds:List Vl} (e0:D[i]?=some (some c0)) (e1:ty c0=true) (e2:g D=some (os,D1)) (e3:bP os D1=some (ds,D2)) (e4:D2[i]?=some (some c)) (e5:mt c ds=some (r,c')) (k:D2.set i (some c')=D3):cT ty i mt g D=some (r,D3):=by
 subst k
 unfold cT
 rw[e0]
 show (if ty c0=true then _ else _)=_
 rw[if_pos e1,e2]
 show (bP os D1).bind _=_
 rw[e3]
 show (match D2[i]? with | some (some c)=>_ | _=>none)=_
 rw[e4]
 show (mt c ds).map _=_
 rw[e5]
 rfl
theorem pX {i j:Int} (h:0<j):vMod (.im (.int i)) (.im (.int j))=some (.im (.int (i % j))):=if_pos (decide_eq_true h)
theorem lS {i:Nat}{g:M Vl}{d:Vl} (e:g D=some (d,D1)) (h:i<D1.length) (k:D1.set i (some d)=D2):aA i g D=some (.nx,D2):=(pV e h).trans (by rw[k])
theorem cp_ {own:Nat}{caps:List Nat}{gi:MI}{tg:MG}{c:M Bool}{e:M Vl}{C' D3:SD}{xs ds:List Im}{o:Option (Nat×Vl)} (h1:gi D=some ((xs,o),D1)) (h2:bY own tg c e xs [] (du caps D1)=some (ds,C')) (k:rst o (cx caps C' D1)=D3):aO own caps gi tg c e D=some (.lst ds,D3):=(dC h1 h2).trans (by rw[k])
end
end L2
namespace G
open PySem L2
noncomputable def pY:M Vl:=(af vMod (oV (af vSub (oV (af vSub (oSl 1) (oSl 0))) (oV (eC (.int 1))))) (oSl 2))
noncomputable def pZ:MS:=(aF (aO 2 [0] (iZ (aa (oSl 1) (aa (oV (af vAdd (oV (eSl (oSl 1) (cQ (eC (.int 1))) pNone)) (oV (eSl (oSl 1) pNone (cQ (eC (.int 1))))))) aNil))) (gT 2 (a9 (gN 0) (a9 (gN 1) gNil'))) kYes G.pY))
noncomputable def cV:Fn:=aX 2 2 [0,1] pZ
noncomputable def lT:MS:=(ar (sIf (kB (af vGt (oSl 1) (oSl 0))) (aF (eC .non)) sNil) (ar (sIf (kB (af vLe (oV (af vMul (oSl 1) (oV (eC (.int 3))))) (oSl 0))) (aF (af vSub (oSl 0) (oV (af vMul (oSl 1) (oV (eC (.int 2))))))) sNil) (aF (af vDiv (oV (af vSub (oSl 0) (oSl 1))) (oV (eC (.int 2)))))))
noncomputable def dX:Fn:=aX 2 2 [0,1] lT
noncomputable def qc:MS:=(aF (ax vMin2 (aa (oSl 1) (aa (oV (af vIx (oSl 0) (oV (dy (eC (.int 1)))))) aNil))))
noncomputable def fP:Fn:=aX 2 2 [0,1] qc
noncomputable def iL:MS:=(ar (aA 5 (av 2 G.dX (aa (oSl 1) (aa (oV (af vIx (oSl 3) (oV (dy (eC (.int 1)))))) aNil)))) (ar (sIf (kB (af (oIs false) (oSl 5) (oV (eC .non)))) (aF (ax vTuple (aa (oSl 3) aNil))) sNil) (eJ (cT eS 3 mAppend (aa (oV (ax vMax2 (aa (oV (eC (.int 0))) (aa (oV (af vSub (oSl 4) (oSl 5))) aNil)))) aNil)))))
noncomputable def qd:MS:=(ar (aA 3 (dP (aa (oSl 2) aNil))) (ar (dR (bt (oV (eSl (oSl 0) pNone (cQ (dy (eC (.int 1))))))) (gN 4) G.iL) (aF (ax vTuple (aa (oSl 3) aNil)))))
noncomputable def iM:Fn:=aX 3 6 [0,1,2] qd
noncomputable def lU:MS:=(ar (aA 3 (av 2 G.dX (aa (oSl 1) (aa (oV (af vIx (oSl 2) (oV (dy (eC (.int 1)))))) aNil)))) (aF (eB (c9 (kB (af (oIs true) (oSl 3) (oV (eC .non)))) (kB (af vGe (oV (af vAdd (oSl 3) (oV (af vIx (oSl 2) (oV (eC (.int 0))))))) (oV (af vIx (oSl 0) (oV (dy (eC (.int 1))))))))))))
noncomputable def eV:Fn:=aX 3 4 [0,1,2] lU
noncomputable def qe:M Vl:=(av 3 G.iM (aa (oSl 1) (aa (oSl 2) (aa (oSl 0) aNil))))
noncomputable def qf:MS:=(aF (aO 1 [0,1] (iR1 (aa (oV (af vAdd (oV (av 2 G.fP (aa (oSl 0) (aa (oSl 1) aNil)))) (oV (eC (.int 1))))) aNil)) (gN 0) kYes G.qe))
noncomputable def eZ:Fn:=aX 2 2 [0,1] qf
noncomputable def qg:M Vl:=(cu 0)
noncomputable def qh:M Bool:=(bC (oV (av 3 G.eV (aa (oSl 1) (aa (oSl 2) (aa (oSl 0) aNil))))))
noncomputable def qi:MS:=(aF (aO 1 [0,1] (bt (oV (av 2 G.eZ (aa (oSl 0) (aa (oSl 1) aNil))))) (gN 0) G.qh G.qg))
noncomputable def e8:Fn:=aX 2 2 [0,1] qi
noncomputable def lV:M Bool:=(kB (af vLt (oSl 3) (oSl 4)))
noncomputable def qj:MS:=(ar (aA 5 (af vDiv (oV (af vAdd (oSl 3) (oSl 4))) (oV (eC (.int 2))))) (sIf (bC (oV (av 2 G.e8 (aa (oSl 2) (aa (oSl 5) aNil))))) (aA 4 (cu 5)) (aA 3 (af vAdd (oSl 5) (oV (eC (.int 1)))))))
noncomputable def qk:MS:=(ar (aA 2 (av 2 G.cV (aa (oSl 0) (aa (oSl 1) aNil)))) (ar (aA 3 (eC (.int 0))) (ar (aA 4 (af vSub (oSl 0) (oV (eC (.int 1))))) (ar (dQ G.lV G.qj 1000000) (aF (cu 3))))))
noncomputable def ck:Fn:=aX 2 6 [0,1] qk
noncomputable def jP:M Vl:=(av 3 G.eV (aa (oSl 1) (aa (oSl 2) (aa (oSl 0) aNil))))
noncomputable def ql:MS:=(ar (aA 3 (av 2 G.cV (aa (oSl 0) (aa (oSl 1) aNil)))) (ar (aA 4 (av 2 G.eZ (aa (oSl 3) (aa (oSl 2) aNil)))) (ar (sIf (bC (oV (ax vAny (aa (oV (aO 1 [3,2] (bt (oSl 4)) (gN 0) kYes G.jP)) aNil)))) (aF (eC .non)) sNil) (aF (ax vTuple (aa (oSl 4) aNil))))))
noncomputable def dD:Fn:=aX 3 5 [0,1,2] ql
noncomputable def lW:MS:=(ar (aA 2 (eC (.int 0))) (ar (sIf (kB (af vLt (oSl 1) (oV (ax vLen (aa (oSl 0) aNil))))) (aA 2 (af vIx (oSl 0) (oSl 1))) sNil) (ar (aA 3 (af vMul (oV (af vMul (oV (af vPow (oV (eC (.int 10))) (oV (eC (.int 60))))) (oV (af vPow (oV (eC (.int 10))) (oV (eC (.int 60))))))) (oV (af vPow (oV (eC (.int 10))) (oV (eC (.int 60))))))) (ar (aA 4 (af vMul (oV (af vMod (oSl 2) (oSl 3))) (oV (ax vInt (aa (oV (af vGe (oSl 2) (oV (af vPow (oV (eC (.int 10))) (oV (eC (.int 18))))))) aNil))))) (aF (dP (aa (oSl 4) (aa (oV (af vAdd (oV (af vAdd (oV (af vMod (oSl 2) (oV (eC (.int 2305843009213693951))))) (oV (af vMul (oV (eC (.int 7919))) (oSl 1))))) (oV (eC (.int 3))))) (aa (oV (eC (.int 0))) aNil)))))))))
noncomputable def gQ:Fn:=aX 2 5 [0,1] lW
noncomputable def lX:MS:=(ar (sIf (kB (af vGt (oV (af vIx (oSl 0) (oV (eC (.int 0))))) (oV (eC (.int 0))))) (ar (aA 2 (af vMod (oV (af vIx (oSl 0) (oV (eC (.int 0))))) (oSl 1))) (ar (jn (af vDiv (oV (af vIx (oSl 0) (oV (eC (.int 0))))) (oSl 1)) (gIx 0 (eC (.int 0)) putV)) (aF (cu 2)))) sNil) (ar (jn (af vAdd (oV (af vIx (oSl 0) (oV (eC (.int 2))))) (oV (eC (.int 1)))) (gIx 0 (eC (.int 2)) putV)) (ar (aA 3 (af vIx (oSl 0) (oV (eC (.int 2))))) (ar (aA 4 (af vMod (oV (af vMul (oV (af vIx (oSl 0) (oV (eC (.int 1))))) (oV (af vAdd (oV (af vAdd (oV (eC (.int 48271))) (oV (af vMul (oV (af vMul (oV (eC (.int 2))) (oSl 3))) (oSl 3))))) (oV (af vMul (oV (eC (.int 65537))) (oSl 3))))))) (oV (eC (.int 2305843009213693921))))) (ar (aA 5 (af vAdd (oV (af vAdd (oV (af vMod (oSl 4) (oV (eC (.int 1000003))))) (oV (af vMul (oSl 3) (oV (eC (.int 99991))))))) (oV (eC (.int 11))))) (ar (aA 4 (af vMod (oV (af vMul (oSl 4) (oSl 5))) (oV (eC (.int 2305843009213693907))))) (aF (af vMod (oV (af vAdd (oV (af vDiv (oSl 4) (oV (eC (.int 97))))) (oV (af vDiv (oSl 4) (oV (eC (.int 1000033))))))) (oSl 1)))))))))
noncomputable def bR:Fn:=aX 2 6 [0,1] lX
noncomputable def qm:MS:=(aF (af vIx (oSl 1) (oV (av 2 G.bR (aa (oSl 0) (aa (oV (ax vLen (aa (oSl 1) aNil))) aNil))))))
noncomputable def gR:Fn:=aX 2 2 [0,1] qm
noncomputable def gS:MS:=(ar (aA 6 (av 2 G.bR (aa (oSl 0) (aa (oV (ax vLen (aa (oSl 3) aNil))) aNil)))) (ar (sIf (c9 (kB (af vGt (oSl 5) (oV (eC (.int 0))))) (kB (af vEq (oV (av 2 G.bR (aa (oSl 0) (aa (oV (eC (.int 4))) aNil)))) (oV (eC (.int 0)))))) (aA 6 (ax vMin3 (aa (oSl 6) (aa (oV (af vSub (oV (ax vLen (aa (oSl 3) aNil))) (oV (eC (.int 1))))) (aa (oV (eC (.int 1))) aNil))))) sNil) (eJ (cT eS 4 mAppend (aa (oV (cT eS 3 mPopAt (aa (oSl 6) aNil))) aNil)))))
noncomputable def qo:MS:=(ar (aA 1 (af vAdd (oV (eC (.int 1))) (oV (av 2 G.bR (aa (oSl 0) (aa (oV (av 2 G.gR (aa (oSl 0) (aa (oV (dP (aa (oV (eC (.int 4))) (aa (oV (eC (.int 10))) (aa (oV (eC (.int 20))) (aa (oV (eC (.int 20))) (aa (oV (eC (.int 40))) (aa (oV (eC (.int 40))) (aa (oV (eC (.int 40))) (aa (oV (eC (.int 200))) aNil)))))))))) aNil)))) aNil)))))) (ar (aA 2 (af vAdd (oV (eC (.int 1))) (oV (av 2 G.bR (aa (oSl 0) (aa (oV (ax vMin2 (aa (oSl 1) (aa (oV (av 2 G.gR (aa (oSl 0) (aa (oV (dP (aa (oV (eC (.int 2))) (aa (oV (eC (.int 3))) (aa (oV (eC (.int 4))) (aa (oV (eC (.int 8))) aNil)))))) aNil)))) aNil)))) aNil)))))) (ar (aA 3 (ly (aa (oSl 1) aNil))) (ar (aA 4 (dP aNil)) (ar (dR (iR1 (aa (oSl 2) aNil)) (gN 5) G.gS) (aF (jm (aa (oSl 1) (aa (oV (ax vTuple (aa (oV (ax vSorted (aa (oSl 4) aNil))) aNil))) aNil)))))))))
noncomputable def iN:Fn:=aX 1 7 [0] qo
noncomputable def qp:M Vl:=(af vSub (oSl 0) (oSl 1))
noncomputable def qq:MS:=(ar (aA 2 (av 2 G.cV (aa (oSl 0) (aa (oSl 1) aNil)))) (ar (aA 3 (af vIx (oV (av 2 G.e8 (aa (oSl 2) (aa (oV (av 2 G.ck (aa (oSl 0) (aa (oSl 1) aNil)))) aNil)))) (oV (eC (.int 0))))) (ar (aA 4 (aO 2 [] (iZm (aa (oSl 2) (aa (oV (af vAdd (oV (eSl (oSl 3) (cQ (eC (.int 1))) pNone)) (oV (eSl (oSl 3) pNone (cQ (eC (.int 1))))))) aNil))) (gT 2 (a9 (gN 0) (a9 (gN 1) gNil'))) kYes G.qp)) (aF (pg (aa (oSl 3) (aa (oSl 4) aNil)))))))
noncomputable def fb:Fn:=aX 2 5 [0,1] qq
noncomputable def yt:MS:=(aF (eB (c9 (kB (eR "int" (oSl 0))) (kB (eB (ca (kB (eR "bool" (oSl 0)))))))))
noncomputable def cW:Fn:=aX 1 1 [0] yt
noncomputable def iO (f_is_whole:Addr):M Vl:=(lH 1 f_is_whole 1 G.cW (aa (oSl 0) aNil))
noncomputable def jQ (f_is_whole:Addr):M Vl:=(af vLt (oSl 0) (oSl 1))
noncomputable def qr (f_is_whole:Addr):MS:=(ar (sIf (kOr (ca (bC (oV (eR "tuple" (oSl 0))))) (ca (bC (oV (ax vAll (aa (oV (aO 1 [1] (bt (oSl 0)) (gN 0) kYes (G.iO f_is_whole))) aNil)))))) (aF (eC (.bl false))) sNil) (aF (ax vAll (aa (oV (aO 2 [] (iZ (aa (oSl 0) (aa (oV (eSl (oSl 0) (cQ (eC (.int 1))) pNone)) aNil))) (gT 2 (a9 (gN 0) (a9 (gN 1) gNil'))) kYes (G.jQ f_is_whole))) aNil))))
noncomputable def iP (f_is_whole:Addr):Fn:=aX 2 2 [0,1] (qr f_is_whole)
noncomputable def qt (f_is_whole:Addr):MS:=(ar (sIf (kOr (ca (bC (oV (av 1 G.cW (aa (oSl 0) aNil))))) (kOr (ca (bC (oV (av 2 (G.iP f_is_whole) (aa (oSl 1) (aa (oV (eC (.fn f_is_whole))) aNil)))))) (kB (af vEq (oV (ax vLen (aa (oSl 1) aNil))) (oV (eC (.int 0))))))) (aF (eC (.bl false))) sNil) (aF (eB (c9 (kB (af vLe (oV (eC (.int 0))) (oV (af vIx (oSl 1) (oV (eC (.int 0))))))) (kB (af vLt (oV (af vIx (oSl 1) (oV (dy (eC (.int 1)))))) (oSl 0)))))))
noncomputable def iQ (f_is_whole:Addr):Fn:=aX 2 2 [0,1] (qt f_is_whole)
noncomputable def jR:M Vl:=(av 1 G.cW (aa (oSl 0) aNil))
noncomputable def qu:MS:=(aF (eB (c9 (kB (eR "tuple" (oSl 0))) (kB (ax vAll (aa (oV (aO 1 [] (bt (oSl 0)) (gN 0) kYes G.jR)) aNil))))))
noncomputable def iR:Fn:=aX 1 1 [0] qu
noncomputable def jS:M Vl:=(av 1 G.iR (aa (oSl 0) aNil))
noncomputable def qv:MS:=(aF (eB (c9 (kB (eR "tuple" (oSl 0))) (kB (ax vAll (aa (oV (aO 1 [] (bt (oSl 0)) (gN 0) kYes G.jS)) aNil))))))
noncomputable def iS:Fn:=aX 1 1 [0] qv
noncomputable def qw (f_is_whole:Addr):MS:=(ar (sIf (kOr (ca (bC (oV (av 2 (G.iQ f_is_whole) (aa (oSl 0) (aa (oSl 1) aNil)))))) (kOr (ca (bC (oV (av 1 G.cW (aa (oSl 2) aNil))))) (kOr (kB (af vLt (oSl 2) (oV (eC (.int 0))))) (ca (bC (oV (av 1 G.iS (aa (oSl 3) aNil)))))))) (aF (eC (.bl false))) sNil) (ar (sIf (kB (af vNe (oV (ax vLen (aa (oSl 3) aNil))) (oV (af vAdd (oV (av 2 G.fP (aa (oV (av 2 G.cV (aa (oSl 0) (aa (oSl 1) aNil)))) (aa (oSl 2) aNil)))) (oV (eC (.int 1))))))) (aF (eC (.bl false))) sNil) (aF (af vEq (oSl 3) (oV (av 3 G.dD (aa (oSl 0) (aa (oSl 1) (aa (oSl 2) aNil)))))))))
noncomputable def fc (f_is_whole:Addr):Fn:=aX 4 4 [0,1,2,3] (qw f_is_whole)
noncomputable def gU (f_is_whole:Addr):MS:=(ar (aA 6 (av 3 G.dD (aa (oSl 1) (aa (oSl 2) (aa (oSl 5) aNil))))) (ar (sIf (kB (af vNe (oV (af (oIs false) (oSl 6) (oV (eC .non)))) (oV (af vGe (oSl 5) (oSl 3))))) (aF (eC (.bl false))) sNil) (sIf (c9 (kB (af (oIs true) (oSl 6) (oV (eC .non)))) (kB (af (oIs true) (oV (av 4 (G.fc f_is_whole) (aa (oSl 1) (aa (oSl 2) (aa (oSl 5) (aa (oSl 6) aNil)))))) (oV (eC (.bl true)))))) (aF (eC (.bl false))) sNil)))
noncomputable def qx (f_is_whole:Addr):MS:=(ar (aA 4 (dP (aa (oV (eC (.int 0))) (aa (oV (af vDiv (oSl 3) (oV (eC (.int 2))))) (aa (oV (ax vMax2 (aa (oV (eC (.int 0))) (aa (oV (af vSub (oSl 3) (oV (eC (.int 1))))) aNil)))) (aa (oSl 3) (aa (oV (af vAdd (oSl 3) (oV (eC (.int 1))))) aNil))))))) (ar (aA 4 (af vAdd (oSl 4) (oV (dP (aa (oV (af vAdd (oSl 3) (oV (av 2 G.bR (aa (oSl 0) (aa (oV (eC (.int 9))) aNil)))))) aNil))))) (ar (dR (bt (oSl 4)) (gN 5) (G.gU f_is_whole)) (ar (aA 6 (av 3 G.dD (aa (oSl 1) (aa (oSl 2) (aa (oV (ax vMax2 (aa (oV (eC (.int 0))) (aa (oV (af vSub (oSl 3) (oV (eC (.int 1))))) aNil)))) aNil))))) (aF (eB (kOr (kB (af vEq (oSl 3) (oV (eC (.int 0))))) (kB (af (oIs false) (oV (av 4 (G.fc f_is_whole) (aa (oSl 1) (aa (oSl 2) (aa (oSl 3) (aa (oSl 6) aNil)))))) (oV (eC (.bl false))))))))))))
noncomputable def iT (f_is_whole:Addr):Fn:=aX 4 7 [0,1,2,3] (qx f_is_whole)
noncomputable def lY:M Vl:=(af vMod (oV (af vAdd (oSl 1) (oSl 0))) (oSl 2))
noncomputable def jT:MS:=(eJ (cT eS 2 mExtend (aa (oV (aO 1 [3,0] (iR2 (aa (oV (dy (cu 4))) (aa (oV (af vAdd (oSl 5) (oV (eC (.int 1))))) aNil))) (gN 0) kYes G.lY)) aNil)))
noncomputable def qy:MS:=(ar (aA 2 (dP aNil)) (ar (dR (iZ (aa (oSl 1) (aa (oV (av 2 G.fb (aa (oSl 0) (aa (oSl 1) aNil)))) aNil))) (gT 2 (a9 (gN 3) (a9 (gT 2 (a9 (gN 4) (a9 (gN 5) gNil'))) gNil'))) G.jT) (aF (af vEq (oV (ax vSorted (aa (oSl 2) aNil))) (oV (ly (aa (oSl 0) aNil)))))))
noncomputable def iU:Fn:=aX 2 6 [0,1] qy
noncomputable def lZ (f_is_whole:Addr):M Vl:=(af vMod (oV (af vAdd (oSl 0) (oSl 1))) (oSl 2))
noncomputable def l7 (f_is_whole:Addr):M Vl:=(af vSub (oV (af vSub (oSl 1) (oV (eC (.int 1))))) (oSl 0))
noncomputable def jU (f_is_whole:Addr):MS:=(ar (aA 2 (av 2 G.gQ (aa (oSl 0) (aa (oSl 1) aNil)))) (ar (jn (av 1 G.iN (aa (oSl 2) aNil)) (gT 2 (a9 (gN 3) (a9 (gN 4) gNil')))) (ar (aA 5 (av 2 G.ck (aa (oSl 3) (aa (oSl 4) aNil)))) (ar (sIf (kOr (ca (bC (oV (av 4 (G.iT f_is_whole) (aa (oSl 2) (aa (oSl 3) (aa (oSl 4) (aa (oSl 5) aNil)))))))) (ca (bC (oV (av 2 G.iU (aa (oSl 3) (aa (oSl 4) aNil))))))) (aF (eC (.bl false))) sNil) (ar (aA 6 (av 2 G.bR (aa (oSl 2) (aa (oSl 3) aNil)))) (ar (aA 7 (ax vTuple (aa (oV (ax vSorted (aa (oV (aO 1 [6,3] (bt (oSl 4)) (gN 0) kYes (G.lZ f_is_whole))) aNil))) aNil))) (ar (aA 8 (ax vTuple (aa (oV (ax vSorted (aa (oV (aO 1 [3] (bt (oSl 4)) (gN 0) kYes (G.l7 f_is_whole))) aNil))) aNil))) (ar (sIf (kOr (kB (af vNe (oV (av 2 G.ck (aa (oSl 3) (aa (oSl 7) aNil)))) (oSl 5))) (kB (af vNe (oV (av 2 G.ck (aa (oSl 3) (aa (oSl 8) aNil)))) (oSl 5)))) (aF (eC (.bl false))) sNil) (ar (aA 9 (ax vTuple (aa (oV (jM (aa (oV (af vAdd (oSl 4) (oV (jm (aa (oSl 6) aNil))))) aNil))) aNil))) (sIf (c9 (kB (af vLt (oV (ax vLen (aa (oSl 9) aNil))) (oV (eC (.int 9))))) (kB (af vGt (oV (av 2 G.ck (aa (oSl 3) (aa (oSl 9) aNil)))) (oSl 5)))) (aF (eC (.bl false))) sNil))))))))))
noncomputable def qz (f_is_whole:Addr):MS:=(ar (dR (iR1 (aa (oV (ax vMax2 (aa (oV (eC (.int 1))) (aa (oV (ax vMin2 (aa (oV (eC (.int 6))) (aa (oV (ax vLen (aa (oSl 0) aNil))) aNil)))) aNil)))) aNil)) (gN 1) (G.jU f_is_whole)) (aF (eC (.bl true))))
noncomputable def gW (f_is_whole:Addr):Fn:=aX 1 10 [0] (qz f_is_whole)
end G
namespace K51
open PySem L2 PyProof.Rows
noncomputable def top (i:Nat):Stmt:=PySem.Challenge.pw_mowfloor_k51_whole_times_shown.main.body.getD i (.Pass ⟨0,0,0,0⟩)
structure Txt (mg:Str→Option Value):Prop where
 b_all:mg "all" = none
 b_any:mg "any" = none
 b_bool:mg "bool" = none
 b_int:mg "int" = none
 b_isinstance:mg "isinstance" = none
 b_len:mg "len" = none
 b_list:mg "list" = none
 b_max:mg "max" = none
 b_min:mg "min" = none
 b_range:mg "range" = none
 b_set:mg "set" = none
 b_sorted:mg "sorted" = none
 b_tuple:mg "tuple" = none
 b_zip:mg "zip" = none
theorem jV:bootBuiltins "all" = some (.builtin "all"):=by decide +kernel
theorem yu:bootBuiltins "any" = some (.builtin "any"):=by decide +kernel
theorem yv:bootBuiltins "bool" = some (.type "bool"):=by decide +kernel
theorem qA:bootBuiltins "int" = some (.type "int"):=by decide +kernel
theorem iV:bootBuiltins "isinstance" = some (.builtin "isinstance"):=by decide +kernel
theorem fe:bootBuiltins "len" = some (.builtin "len"):=by decide +kernel
theorem jW:bootBuiltins "max" = some (.builtin "max"):=by decide +kernel
theorem jX:bootBuiltins "min" = some (.builtin "min"):=by decide +kernel
theorem jY:bootBuiltins "sorted" = some (.builtin "sorted"):=by decide +kernel
theorem dE:bootBuiltins "tuple" = some (.type "tuple"):=by decide +kernel
theorem aT {A:Around}{k:Nat} (hr:Room k A):A.units+20<cLine:=by have:=hr.un;omega
noncomputable abbrev cX:Stmt:=top 1
noncomputable abbrev yw:List Str:=["thing"]
noncomputable abbrev dY:Stmt:=top 2
noncomputable abbrev yx:List Str:=["thing","is_kind"]
noncomputable abbrev dj:Stmt:=top 4
noncomputable abbrev yy:List Str:=["many","spots"]
noncomputable abbrev ff:Stmt:=top 5
noncomputable abbrev yz:List Str:=["time","left"]
noncomputable abbrev fg:Stmt:=top 6
noncomputable abbrev yA:List Str:=["spaces","time"]
noncomputable abbrev fQ:Stmt:=top 7
noncomputable abbrev yB:List Str:=["spaces","time","left","row","space","right"]
noncomputable abbrev fh:Stmt:=top 8
noncomputable abbrev yC:List Str:=["spaces","time","row","right"]
noncomputable abbrev dZ:Stmt:=top 9
noncomputable abbrev yD:List Str:=["spaces","time"]
noncomputable abbrev d0:Stmt:=top 10
noncomputable abbrev yE:List Str:=["spaces","time"]
noncomputable abbrev fi:Stmt:=top 11
noncomputable abbrev yF:List Str:=["many","spots","spaces","least","enough","middle"]
noncomputable abbrev fj:Stmt:=top 12
noncomputable abbrev yG:List Str:=["many","spots","spaces","lefts","rights"]
noncomputable abbrev d6:Stmt:=top 14
noncomputable abbrev yH:List Str:=["many","spots","time","spaces","rows"]
noncomputable abbrev fR:Stmt:=top 15
noncomputable abbrev yI:List Str:=["many","spots"]
noncomputable abbrev fk:Stmt:=top 16
noncomputable abbrev yJ:List Str:=["thing"]
noncomputable abbrev fm:Stmt:=top 17
noncomputable abbrev yK:List Str:=["thing"]
noncomputable abbrev fU:Stmt:=top 18
noncomputable abbrev yL:List Str:=["many","spots","time","thing"]
noncomputable abbrev fV:Stmt:=top 20
noncomputable abbrev yM:List Str:=["_law_script","_law_k","_law_cell","_law_bound","_law_digits"]
noncomputable abbrev dF:Stmt:=top 21
noncomputable abbrev yN:List Str:=["_law_hand_here","_law_many","_law_digit","_law_turn","_law_mixed","_law_odd"]
noncomputable abbrev fW:Stmt:=top 22
noncomputable abbrev yO:List Str:=["_law_hand_here","_law_some"]
noncomputable abbrev fX:Stmt:=top 23
noncomputable abbrev yP:List Str:=["_law_hand_here","_law_many","_law_few","_law_left","_law_spots","_law_turn","_law_at"]
noncomputable abbrev fY:Stmt:=top 24
noncomputable abbrev yQ:List Str:=["_law_hand_here","_law_many","_law_spots","_law_time","_law_some","_law_one","_law_paper"]
noncomputable abbrev fo:Stmt:=top 25
noncomputable abbrev yR:List Str:=["_law_many","_law_spots","_law_cells","_law_spot","_law_left","_law_right"]
noncomputable abbrev dk:Stmt:=top 26
noncomputable abbrev yS:List Str:=["_law_script","_law_k","_law_hand_here","_law_many","_law_spots","_law_time","_law_by","_law_turned","_law_mirror","_law_more"]
section
variable {P:Program}{w:World}{K:PySem.W.Frag}{mg:Str→Option Value}{base:Heap}
theorem qB:FnScope yw ["thing"] (ao cX):=⟨rfl,rfl,rfl,by decide +kernel,rfl,by decide +kernel,by decide +kernel⟩
set_option maxHeartbeats 4000000 in
theorem yT {f:Addr}{fd:FuncData} (F:Fun K "is_whole" "is_whole" cX f fd) (T:Txt mg):
  FnOk P w K mg base CX0 1 f fd ["thing"] (spV 1 G.cW):=by
 have nd:=qB.nd
 refine fnV F qB rfl (by decide) (fun cdv A outer s H E hr=>?_)
 exact (aC (aK (iq (cv (iB rfl T.b_isinstance iV rfl T.b_int qA (ad (pv 0)))) (cv (gx (wt (cv (iB rfl T.b_isinstance iV rfl T.b_bool yv (ad (pv 0))))))))))
theorem qC:FnScope yx ["thing","is_kind"] (ao dY):=⟨rfl,rfl,rfl,by decide +kernel,rfl,by decide +kernel,by decide +kernel⟩
set_option maxHeartbeats 4000000 in
theorem yU {f:Addr}{fd:FuncData} (F:Fun K "is_rising" "is_rising" dY f fd) (T:Txt mg)
  {f_is_whole:Addr}{fd_is_whole:FuncData} (U_is_whole:Fun K "is_whole" "is_whole" cX f_is_whole fd_is_whole) (G_is_whole:FnOk P w K mg base CX0 1 f_is_whole fd_is_whole ["thing"] (spV 1 G.cW)) (b_is_whole:az K fd_is_whole ["thing"] []) (m_is_whole:mg "is_whole" = some (.ref f_is_whole)):
  FnOk P w K mg base CX0 2 f fd ["thing","is_kind"] (spV 2 (G.iP f_is_whole)):=by
 have nd:=qC.nd
 refine fnV F qC rfl (by decide) (fun cdv A outer s H E hr=>?_)
 exact (au (bQ (VW.vt (em (dO (cS (ab (iB rfl T.b_isinstance iV rfl T.b_tuple dE (ad (pv 0)))))) (io (dO (cS (ab (bf (jx rfl) (by rfl) T.b_all jV (ae (ab (dg (own:=["part"]) (caps:=[1]) rfl (cF (ao dY) ["thing","is_kind"] (by decide +kernel)) (by decide) (dS (ad (pv 0))) (fun Y=>(bi (i:=0) (show (["part","is_kind"]:List Str).Nodup by decide +kernel) rfl (by first | exact Or.inl rfl | exact Or.inr rfl) (by decide))) (fun Y=>df) (fun Y=>(xC G_is_whole (hr.mono (by omega)) (pv 1) U_is_whole.kp b_is_whole (ae (ad (pv 0)) ag))))) ag)))))))) (aC (aK cH)) bX) (aC (aK (bf (jx rfl) (by rfl) T.b_all jV (ae (ab (dg (own:=["ahead","behind"]) (caps:=[]) rfl (cF (ao dY) ["thing","is_kind"] (by decide +kernel)) (by decide) (lx rfl T.b_zip (ae (ad (pv 0)) (ae (ab (gG (ad (pv 0)) (gF ah) gE)) ag))) (fun Y=>(gz rfl (cK (bi (i:=0) (show (["ahead","behind"]:List Str).Nodup by decide +kernel) rfl (by first | exact Or.inl rfl | exact Or.inr rfl) (by decide)) (cK (bi (i:=1) (show (["ahead","behind"]:List Str).Nodup by decide +kernel) rfl (by first | exact Or.inl rfl | exact Or.inr rfl) (by decide)) gy)))) (fun Y=>df) (fun Y=>(cJ gD (ad (pv 0)) (ad (pv 1)) (aU _))))) ag)))))
theorem qD:FnScope yy ["many","spots"] (ao dj):=⟨rfl,rfl,rfl,by decide +kernel,rfl,by decide +kernel,by decide +kernel⟩
set_option maxHeartbeats 4000000 in
theorem yV {f:Addr}{fd:FuncData} (F:Fun K "between" "between" dj f fd) (T:Txt mg):
  FnOk P w K mg base CX0 1 f fd ["many","spots"] (spV 2 G.cV):=by
 have nd:=qD.nd
 refine fnV F qD rfl (by decide) (fun cdv A outer s H E hr=>?_)
 exact (aC (aK (dg (own:=["ahead","behind"]) (caps:=[0]) rfl (cF (ao dj) ["many","spots"] (by decide +kernel)) (by decide) (lx rfl T.b_zip (ae (ad (pv 1)) (ae (ab (aq bj (ab (gG (ad (pv 1)) (gF ah) gE)) (ab (gG (ad (pv 1)) gE (gF ah))))) ag))) (fun Y=>(gz rfl (cK (bi (i:=0) (show (["ahead","behind","many"]:List Str).Nodup by decide +kernel) rfl (by first | exact Or.inl rfl | exact Or.inr rfl) (by decide)) (cK (bi (i:=1) (show (["ahead","behind","many"]:List Str).Nodup by decide +kernel) rfl (by first | exact Or.inl rfl | exact Or.inr rfl) (by decide)) gy)))) (fun Y=>df) (fun Y=>(aq dw (ab (aq cM (ab (aq cM (ad (pv 1)) (ad (pv 0)))) (ab ah))) (ad (pv 2)))))))
theorem qE:FnScope yz ["time","left"] (ao ff):=⟨rfl,rfl,rfl,by decide +kernel,rfl,by decide +kernel,by decide +kernel⟩
set_option maxHeartbeats 4000000 in
theorem yW {f:Addr}{fd:FuncData} (F:Fun K "room" "room" ff f fd) (T:Txt mg):
  FnOk P w K mg base CX0 1 f fd ["time","left"] (spV 2 G.dX):=by
 have nd:=qE.nd
 refine fnV F qE rfl (by decide) (fun cdv A outer s H E hr=>?_)
 exact (au (bQ (bM jr (ad (pv 1)) (ad (pv 0)) (aU _)) (aC (aK gw)) bX) (au (bQ (bM oP (ab (aq cN (ad (pv 1)) (ab ah))) (ad (pv 0)) (aU _)) (aC (aK (aq cM (ad (pv 0)) (ab (aq cN (ad (pv 1)) (ab ah)))))) bX) (aC (aK (aq gC (ab (aq cM (ad (pv 0)) (ad (pv 1)))) (ab ah))))))
theorem qF:FnScope yA ["spaces","time"] (ao fg):=⟨rfl,rfl,rfl,by decide +kernel,rfl,by decide +kernel,by decide +kernel⟩
set_option maxHeartbeats 4000000 in
theorem yX {f:Addr}{fd:FuncData} (F:Fun K "greatest_left" "greatest_left" fg f fd) (T:Txt mg):
  FnOk P w K mg base CX0 1 f fd ["spaces","time"] (spV 2 G.fP):=by
 have nd:=qF.nd
 refine fnV F qF rfl (by decide) (fun cdv A outer s H E hr=>?_)
 exact (aC (aK (bf (ll rfl) (by rfl) T.b_min jX (ae (ad (pv 1)) (ae (ab (bV (bZ (aT hr)) (ad (pv 0)) (ab (fM ah)) (fun _ _=>rfl))) ag)))))
theorem qG:FnScope yB ["spaces","time","left"] (ao fQ):=⟨rfl,rfl,rfl,by decide +kernel,rfl,by decide +kernel,by decide +kernel⟩
set_option maxHeartbeats 4000000 in
theorem yY {f:Addr}{fd:FuncData} (F:Fun K "row_from" "row_from" fQ f fd) (T:Txt mg)
  {f_room:Addr}{fd_room:FuncData} (U_room:Fun K "room" "room" ff f_room fd_room) (G_room:FnOk P w K mg base CX0 1 f_room fd_room ["time","left"] (spV 2 G.dX)) (b_room:az K fd_room ["time","left"] []) (m_room:mg "room" = some (.ref f_room)):
  FnOk P w K mg base CX0 2 f fd ["spaces","time","left"] (spV 3 G.iM):=by
 have nd:=qG.nd
 refine fnV F qG rfl (by decide) (fun cdv A outer s H E hr=>?_)
 exact (au (aG (i:=3) nd rfl (by first | exact Or.inl rfl | exact Or.inr rfl) (eE (ae (ad (pv 2)) ag)) (by decide)) (au (ix (fx:=[0,1,2]) PassesOwn.never rfl (dS (ab (gG (ad (pv 0)) gE (gF (fM ah))))) (bi (i:=4) nd rfl (by first | exact Or.inl rfl | exact Or.inr rfl) (by decide)) (au (aG (i:=5) nd rfl (by first | exact Or.inl rfl | exact Or.inr rfl) (aD G_room (hr.mono (by omega)) rfl m_room U_room.kp b_room (ae (ad (pv 1)) (ae (ab (bV (bZ (aT hr)) (ad (pv 3)) (ab (fM ah)) (fun _ _=>rfl))) ag))) (by decide)) (au (bQ (bM lg (ad (pv 5)) (ab gw) (aU _)) (aC (aK (eF fN rfl T.b_tuple dE (ae (ad (pv 3)) ag)))) bX) (aC (kY (jz jy PySem.F.plainAttrs_list PySem.F.slot_list_append PySem.F.type_list_append oU (pv 3) (ae (ab (bf (jw rfl) (by rfl) T.b_max jW (ae (ab ah) (ae (ab (aq cM (ad (pv 4)) (ad (pv 5)))) ag)))) ag)))))) (by decide) wE) (aC (aK (eF fN rfl T.b_tuple dE (ae (ad (pv 3)) ag))))))
theorem qH:FnScope yC ["spaces","time","row"] (ao fh):=⟨rfl,rfl,rfl,by decide +kernel,rfl,by decide +kernel,by decide +kernel⟩
set_option maxHeartbeats 4000000 in
theorem yZ {f:Addr}{fd:FuncData} (F:Fun K "goes_through" "goes_through" fh f fd) (T:Txt mg)
  {f_room:Addr}{fd_room:FuncData} (U_room:Fun K "room" "room" ff f_room fd_room) (G_room:FnOk P w K mg base CX0 1 f_room fd_room ["time","left"] (spV 2 G.dX)) (b_room:az K fd_room ["time","left"] []) (m_room:mg "room" = some (.ref f_room)):
  FnOk P w K mg base CX0 2 f fd ["spaces","time","row"] (spV 3 G.eV):=by
 have nd:=qH.nd
 refine fnV F qH rfl (by decide) (fun cdv A outer s H E hr=>?_)
 exact (au (aG (i:=3) nd rfl (by first | exact Or.inl rfl | exact Or.inr rfl) (aD G_room (hr.mono (by omega)) rfl m_room U_room.kp b_room (ae (ad (pv 1)) (ae (ab (bV (bZ (aT hr)) (ad (pv 2)) (ab (fM ah)) (fun _ _=>rfl))) ag))) (by decide)) (aC (aK (iq (cv (cJ lh (ad (pv 3)) (ab gw) (aU _))) (cv (gx (cJ ld (ab (aq bj (ad (pv 3)) (ab (bV (bZ (aT hr)) (ad (pv 2)) (ab ah) (fun _ _=>rfl))))) (ab (bV (bZ (aT hr)) (ad (pv 0)) (ab (fM ah)) (fun _ _=>rfl))) (aU _))))))))
theorem qI:FnScope yD ["spaces","time"] (ao dZ):=⟨rfl,rfl,rfl,by decide +kernel,rfl,by decide +kernel,by decide +kernel⟩
set_option maxHeartbeats 4000000 in
theorem y0 {f:Addr}{fd:FuncData} (F:Fun K "rows_of" "rows_of" dZ f fd) (T:Txt mg)
  {f_greatest_left:Addr}{fd_greatest_left:FuncData} (U_greatest_left:Fun K "greatest_left" "greatest_left" fg f_greatest_left fd_greatest_left) (G_greatest_left:FnOk P w K mg base CX0 1 f_greatest_left fd_greatest_left ["spaces","time"] (spV 2 G.fP)) (b_greatest_left:az K fd_greatest_left ["spaces","time"] []) (m_greatest_left:mg "greatest_left" = some (.ref f_greatest_left))
  {f_row_from:Addr}{fd_row_from:FuncData} (U_row_from:Fun K "row_from" "row_from" fQ f_row_from fd_row_from) (G_row_from:FnOk P w K mg base CX0 2 f_row_from fd_row_from ["spaces","time","left"] (spV 3 G.iM)) (b_row_from:az K fd_row_from ["spaces","time","left"] []) (m_row_from:mg "row_from" = some (.ref f_row_from)):
  FnOk P w K mg base CX0 3 f fd ["spaces","time"] (spV 2 G.eZ):=by
 have nd:=qI.nd
 refine fnV F qI rfl (by decide) (fun cdv A outer s H E hr=>?_)
 exact (aC (aK (dg (own:=["left"]) (caps:=[0,1]) rfl (cF (ao dZ) ["spaces","time"] (by decide +kernel)) (by decide) (k8 rfl T.b_range (ae (ab (aq bj (ab (aD G_greatest_left (hr.mono (by omega)) rfl m_greatest_left U_greatest_left.kp b_greatest_left (ae (ad (pv 0)) (ae (ad (pv 1)) ag)))) (ab ah))) ag)) (fun Y=>(bi (i:=0) (show (["left","spaces","time"]:List Str).Nodup by decide +kernel) rfl (by first | exact Or.inl rfl | exact Or.inr rfl) (by decide))) (fun Y=>df) (fun Y=>(aD G_row_from (hr.mono (by omega)) rfl m_row_from U_row_from.kp b_row_from (ae (ad (pv 1)) (ae (ad (pv 2)) (ae (ad (pv 0)) ag))))))))
theorem qJ:FnScope yE ["spaces","time"] (ao d0):=⟨rfl,rfl,rfl,by decide +kernel,rfl,by decide +kernel,by decide +kernel⟩
set_option maxHeartbeats 4000000 in
theorem y3 {f:Addr}{fd:FuncData} (F:Fun K "rows_through" "rows_through" d0 f fd) (T:Txt mg)
  {f_rows_of:Addr}{fd_rows_of:FuncData} (U_rows_of:Fun K "rows_of" "rows_of" dZ f_rows_of fd_rows_of) (G_rows_of:FnOk P w K mg base CX0 3 f_rows_of fd_rows_of ["spaces","time"] (spV 2 G.eZ)) (b_rows_of:az K fd_rows_of ["spaces","time"] []) (m_rows_of:mg "rows_of" = some (.ref f_rows_of))
  {f_goes_through:Addr}{fd_goes_through:FuncData} (U_goes_through:Fun K "goes_through" "goes_through" fh f_goes_through fd_goes_through) (G_goes_through:FnOk P w K mg base CX0 2 f_goes_through fd_goes_through ["spaces","time","row"] (spV 3 G.eV)) (b_goes_through:az K fd_goes_through ["spaces","time","row"] []) (m_goes_through:mg "goes_through" = some (.ref f_goes_through)):
  FnOk P w K mg base CX0 4 f fd ["spaces","time"] (spV 2 G.e8):=by
 have nd:=qJ.nd
 refine fnV F qJ rfl (by decide) (fun cdv A outer s H E hr=>?_)
 exact (aC (aK (dg (own:=["row"]) (caps:=[0,1]) rfl (cF (ao d0) ["spaces","time"] (by decide +kernel)) (by decide) (dS (ab (aD G_rows_of (hr.mono (by omega)) rfl m_rows_of U_rows_of.kp b_rows_of (ae (ad (pv 0)) (ae (ad (pv 1)) ag))))) (fun Y=>(bi (i:=0) (show (["row","spaces","time"]:List Str).Nodup by decide +kernel) rfl (by first | exact Or.inl rfl | exact Or.inr rfl) (by decide))) (fun Y=>(wH (cS (ab (aD G_goes_through (hr.mono (by omega)) rfl m_goes_through U_goes_through.kp b_goes_through (ae (ad (pv 1)) (ae (ad (pv 2)) (ae (ad (pv 0)) ag)))))))) (fun Y=>(il (pv 0))))))
theorem qK:FnScope yF ["many","spots"] (ao fi):=⟨rfl,rfl,rfl,by decide +kernel,rfl,by decide +kernel,by decide +kernel⟩
set_option maxHeartbeats 4000000 in
theorem y4 {f:Addr}{fd:FuncData} (F:Fun K "least_time" "least_time" fi f fd) (T:Txt mg)
  {f_between:Addr}{fd_between:FuncData} (U_between:Fun K "between" "between" dj f_between fd_between) (G_between:FnOk P w K mg base CX0 1 f_between fd_between ["many","spots"] (spV 2 G.cV)) (b_between:az K fd_between ["many","spots"] []) (m_between:mg "between" = some (.ref f_between))
  {f_rows_through:Addr}{fd_rows_through:FuncData} (U_rows_through:Fun K "rows_through" "rows_through" d0 f_rows_through fd_rows_through) (G_rows_through:FnOk P w K mg base CX0 4 f_rows_through fd_rows_through ["spaces","time"] (spV 2 G.e8)) (b_rows_through:az K fd_rows_through ["spaces","time"] []) (m_rows_through:mg "rows_through" = some (.ref f_rows_through)):
  FnOk P w K mg base CX0 5 f fd ["many","spots"] (spV 2 G.ck):=by
 have nd:=qK.nd
 refine fnV F qK rfl (by decide) (fun cdv A outer s H E hr=>?_)
 exact (au (aG (i:=2) nd rfl (by first | exact Or.inl rfl | exact Or.inr rfl) (aD G_between (hr.mono (by omega)) rfl m_between U_between.kp b_between (ae (ad (pv 0)) (ae (ad (pv 1)) ag))) (by decide)) (au (aG (i:=3) nd rfl (by first | exact Or.inl rfl | exact Or.inr rfl) ah (by decide)) (au (aG (i:=4) nd rfl (by first | exact Or.inl rfl | exact Or.inr rfl) (aq cM (ad (pv 0)) (ab ah)) (by decide)) (au (wy 1000000 PassesOwn.never (bM gD (ad (pv 3)) (ad (pv 4)) (aU _)) (au (aG (i:=5) nd rfl (by first | exact Or.inl rfl | exact Or.inr rfl) (aq gC (ab (aq bj (ad (pv 3)) (ad (pv 4)))) (ab ah)) (by decide)) (aC (bQ (cS (ab (aD G_rows_through (hr.mono (by omega)) rfl m_rows_through U_rows_through.kp b_rows_through (ae (ad (pv 2)) (ae (ad (pv 5)) ag))))) (aC (aG (i:=4) nd rfl (by first | exact Or.inl rfl | exact Or.inr rfl) (il (pv 5)) (by decide))) (aC (aG (i:=3) nd rfl (by first | exact Or.inl rfl | exact Or.inr rfl) (aq bj (ad (pv 5)) (ab ah)) (by decide))))))) (aC (aK (il (pv 3))))))))
theorem qL:FnScope yG ["many","spots"] (ao fj):=⟨rfl,rfl,rfl,by decide +kernel,rfl,by decide +kernel,by decide +kernel⟩
set_option maxHeartbeats 4000000 in
theorem y6 {f:Addr}{fd:FuncData} (F:Fun K "shares" "shares" fj f fd) (T:Txt mg)
  {f_between:Addr}{fd_between:FuncData} (U_between:Fun K "between" "between" dj f_between fd_between) (G_between:FnOk P w K mg base CX0 1 f_between fd_between ["many","spots"] (spV 2 G.cV)) (b_between:az K fd_between ["many","spots"] []) (m_between:mg "between" = some (.ref f_between))
  {f_rows_through:Addr}{fd_rows_through:FuncData} (U_rows_through:Fun K "rows_through" "rows_through" d0 f_rows_through fd_rows_through) (G_rows_through:FnOk P w K mg base CX0 4 f_rows_through fd_rows_through ["spaces","time"] (spV 2 G.e8)) (b_rows_through:az K fd_rows_through ["spaces","time"] []) (m_rows_through:mg "rows_through" = some (.ref f_rows_through))
  {f_least_time:Addr}{fd_least_time:FuncData} (U_least_time:Fun K "least_time" "least_time" fi f_least_time fd_least_time) (G_least_time:FnOk P w K mg base CX0 5 f_least_time fd_least_time ["many","spots"] (spV 2 G.ck)) (b_least_time:az K fd_least_time ["many","spots"] []) (m_least_time:mg "least_time" = some (.ref f_least_time)):
  FnOk P w K mg base CX0 6 f fd ["many","spots"] (spV 2 G.fb):=by
 have nd:=qL.nd
 refine fnV F qL rfl (by decide) (fun cdv A outer s H E hr=>?_)
 exact (au (aG (i:=2) nd rfl (by first | exact Or.inl rfl | exact Or.inr rfl) (aD G_between (hr.mono (by omega)) rfl m_between U_between.kp b_between (ae (ad (pv 0)) (ae (ad (pv 1)) ag))) (by decide)) (au (aG (i:=3) nd rfl (by first | exact Or.inl rfl | exact Or.inr rfl) (bV (bZ (aT hr)) (ab (aD G_rows_through (hr.mono (by omega)) rfl m_rows_through U_rows_through.kp b_rows_through (ae (ad (pv 2)) (ae (ab (aD G_least_time (hr.mono (by omega)) rfl m_least_time U_least_time.kp b_least_time (ae (ad (pv 0)) (ae (ad (pv 1)) ag)))) ag)))) (ab ah) (fun _ _=>rfl)) (by decide)) (au (xA (i:=4) (own:=["space","left"]) (caps:=[]) nd rfl (by first | exact Or.inl rfl | exact Or.inr rfl) rfl (cF (ao fj) ["many","spots","spaces","lefts","rights"] (by decide +kernel)) (by decide) (xl rfl T.b_zip (ae (ad (pv 2)) (ae (ab (aq bj (ab (gG (ad (pv 3)) (gF ah) gE)) (ab (gG (ad (pv 3)) gE (gF ah))))) ag))) (fun Y=>(gz rfl (cK (bi (i:=0) (show (["space","left"]:List Str).Nodup by decide +kernel) rfl (by first | exact Or.inl rfl | exact Or.inr rfl) (by decide)) (cK (bi (i:=1) (show (["space","left"]:List Str).Nodup by decide +kernel) rfl (by first | exact Or.inl rfl | exact Or.inr rfl) (by decide)) gy)))) (fun Y=>df) (fun Y=>(aq cM (ad (pv 0)) (ad (pv 1)))) (by decide)) (aC (aK (xy rfl T.b_tuple rfl T.b_zip (ae (ad (pv 3)) (ae (ad (pv 4)) ag))))))))
theorem qM:FnScope yH ["many","spots","time"] (ao d6):=⟨rfl,rfl,rfl,by decide +kernel,rfl,by decide +kernel,by decide +kernel⟩
set_option maxHeartbeats 4000000 in
theorem y7 {f:Addr}{fd:FuncData} (F:Fun K "too_little" "too_little" d6 f fd) (T:Txt mg)
  {f_between:Addr}{fd_between:FuncData} (U_between:Fun K "between" "between" dj f_between fd_between) (G_between:FnOk P w K mg base CX0 1 f_between fd_between ["many","spots"] (spV 2 G.cV)) (b_between:az K fd_between ["many","spots"] []) (m_between:mg "between" = some (.ref f_between))
  {f_rows_of:Addr}{fd_rows_of:FuncData} (U_rows_of:Fun K "rows_of" "rows_of" dZ f_rows_of fd_rows_of) (G_rows_of:FnOk P w K mg base CX0 3 f_rows_of fd_rows_of ["spaces","time"] (spV 2 G.eZ)) (b_rows_of:az K fd_rows_of ["spaces","time"] []) (m_rows_of:mg "rows_of" = some (.ref f_rows_of))
  {f_goes_through:Addr}{fd_goes_through:FuncData} (U_goes_through:Fun K "goes_through" "goes_through" fh f_goes_through fd_goes_through) (G_goes_through:FnOk P w K mg base CX0 2 f_goes_through fd_goes_through ["spaces","time","row"] (spV 3 G.eV)) (b_goes_through:az K fd_goes_through ["spaces","time","row"] []) (m_goes_through:mg "goes_through" = some (.ref f_goes_through)):
  FnOk P w K mg base CX0 4 f fd ["many","spots","time"] (spV 3 G.dD):=by
 have nd:=qM.nd
 refine fnV F qM rfl (by decide) (fun cdv A outer s H E hr=>?_)
 exact (au (aG (i:=3) nd rfl (by first | exact Or.inl rfl | exact Or.inr rfl) (aD G_between (hr.mono (by omega)) rfl m_between U_between.kp b_between (ae (ad (pv 0)) (ae (ad (pv 1)) ag))) (by decide)) (au (aG (i:=4) nd rfl (by first | exact Or.inl rfl | exact Or.inr rfl) (aD G_rows_of (hr.mono (by omega)) rfl m_rows_of U_rows_of.kp b_rows_of (ae (ad (pv 3)) (ae (ad (pv 2)) ag))) (by decide)) (au (bQ (cS (ab (bf (wV rfl) (by rfl) T.b_any yu (ae (ab (dg (own:=["row"]) (caps:=[3,2]) rfl (cF (ao d6) ["many","spots","time","spaces","rows"] (by decide +kernel)) (by decide) (dS (ad (pv 4))) (fun Y=>(bi (i:=0) (show (["row","spaces","time"]:List Str).Nodup by decide +kernel) rfl (by first | exact Or.inl rfl | exact Or.inr rfl) (by decide))) (fun Y=>df) (fun Y=>(aD G_goes_through (hr.mono (by omega)) rfl m_goes_through U_goes_through.kp b_goes_through (ae (ad (pv 1)) (ae (ad (pv 2)) (ae (ad (pv 0)) ag))))))) ag)))) (aC (aK gw)) bX) (aC (aK (eF fN rfl T.b_tuple dE (ae (ad (pv 4)) ag)))))))
theorem qN:FnScope yI ["many","spots"] (ao fR):=⟨rfl,rfl,rfl,by decide +kernel,rfl,by decide +kernel,by decide +kernel⟩
set_option maxHeartbeats 4000000 in
theorem y8 {f:Addr}{fd:FuncData} (F:Fun K "are_spots" "are_spots" fR f fd) (T:Txt mg)
  {f_is_whole:Addr}{fd_is_whole:FuncData} (U_is_whole:Fun K "is_whole" "is_whole" cX f_is_whole fd_is_whole) (G_is_whole:FnOk P w K mg base CX0 1 f_is_whole fd_is_whole ["thing"] (spV 1 G.cW)) (b_is_whole:az K fd_is_whole ["thing"] []) (m_is_whole:mg "is_whole" = some (.ref f_is_whole))
  {f_is_rising:Addr}{fd_is_rising:FuncData} (U_is_rising:Fun K "is_rising" "is_rising" dY f_is_rising fd_is_rising) (G_is_rising:FnOk P w K mg base CX0 2 f_is_rising fd_is_rising ["thing","is_kind"] (spV 2 (G.iP f_is_whole))) (b_is_rising:az K fd_is_rising ["thing","is_kind"] []) (m_is_rising:mg "is_rising" = some (.ref f_is_rising)):
  FnOk P w K mg base CX0 3 f fd ["many","spots"] (spV 2 (G.iQ f_is_whole)):=by
 have nd:=qN.nd
 refine fnV F qN rfl (by decide) (fun cdv A outer s H E hr=>?_)
 exact (au (bQ (VW.vt (em (dO (cS (ab (aD G_is_whole (hr.mono (by omega)) rfl m_is_whole U_is_whole.kp b_is_whole (ae (ad (pv 0)) ag))))) (em (dO (cS (ab (aD G_is_rising (hr.mono (by omega)) rfl m_is_rising U_is_rising.kp b_is_rising (ae (ad (pv 1)) (ae (ab (wY rfl m_is_whole)) ag)))))) (io (bM (iA (aT hr)) (ab (bf eO (by rfl) T.b_len fe (ae (ad (pv 1)) ag))) (ab ah) (aU _)))))) (aC (aK cH)) bX) (aC (aK (iq (cv (cJ oP (ab ah) (ab (bV (bZ (aT hr)) (ad (pv 1)) (ab ah) (fun _ _=>rfl))) (aU _))) (cv (gx (cJ gD (ab (bV (bZ (aT hr)) (ad (pv 1)) (ab (fM ah)) (fun _ _=>rfl))) (ad (pv 0)) (aU _))))))))
theorem qO:FnScope yJ ["thing"] (ao fk):=⟨rfl,rfl,rfl,by decide +kernel,rfl,by decide +kernel,by decide +kernel⟩
set_option maxHeartbeats 4000000 in
theorem y9 {f:Addr}{fd:FuncData} (F:Fun K "is_row_like" "is_row_like" fk f fd) (T:Txt mg)
  {f_is_whole:Addr}{fd_is_whole:FuncData} (U_is_whole:Fun K "is_whole" "is_whole" cX f_is_whole fd_is_whole) (G_is_whole:FnOk P w K mg base CX0 1 f_is_whole fd_is_whole ["thing"] (spV 1 G.cW)) (b_is_whole:az K fd_is_whole ["thing"] []) (m_is_whole:mg "is_whole" = some (.ref f_is_whole)):
  FnOk P w K mg base CX0 2 f fd ["thing"] (spV 1 G.iR):=by
 have nd:=qO.nd
 refine fnV F qO rfl (by decide) (fun cdv A outer s H E hr=>?_)
 exact (aC (aK (iq (cv (iB rfl T.b_isinstance iV rfl T.b_tuple dE (ad (pv 0)))) (cv (gx (bf (jx rfl) (by rfl) T.b_all jV (ae (ab (dg (own:=["part"]) (caps:=[]) rfl (cF (ao fk) ["thing"] (by decide +kernel)) (by decide) (dS (ad (pv 0))) (fun Y=>(bi (i:=0) (show (["part"]:List Str).Nodup by decide +kernel) rfl (by first | exact Or.inl rfl | exact Or.inr rfl) (by decide))) (fun Y=>df) (fun Y=>(aD G_is_whole (hr.mono (by omega)) rfl m_is_whole U_is_whole.kp b_is_whole (ae (ad (pv 0)) ag))))) ag)))))))
theorem qP:FnScope yK ["thing"] (ao fm):=⟨rfl,rfl,rfl,by decide +kernel,rfl,by decide +kernel,by decide +kernel⟩
set_option maxHeartbeats 4000000 in
theorem zc {f:Addr}{fd:FuncData} (F:Fun K "are_rows_like" "are_rows_like" fm f fd) (T:Txt mg)
  {f_is_row_like:Addr}{fd_is_row_like:FuncData} (U_is_row_like:Fun K "is_row_like" "is_row_like" fk f_is_row_like fd_is_row_like) (G_is_row_like:FnOk P w K mg base CX0 2 f_is_row_like fd_is_row_like ["thing"] (spV 1 G.iR)) (b_is_row_like:az K fd_is_row_like ["thing"] []) (m_is_row_like:mg "is_row_like" = some (.ref f_is_row_like)):
  FnOk P w K mg base CX0 3 f fd ["thing"] (spV 1 G.iS):=by
 have nd:=qP.nd
 refine fnV F qP rfl (by decide) (fun cdv A outer s H E hr=>?_)
 exact (aC (aK (iq (cv (iB rfl T.b_isinstance iV rfl T.b_tuple dE (ad (pv 0)))) (cv (gx (bf (jx rfl) (by rfl) T.b_all jV (ae (ab (dg (own:=["part"]) (caps:=[]) rfl (cF (ao fm) ["thing"] (by decide +kernel)) (by decide) (dS (ad (pv 0))) (fun Y=>(bi (i:=0) (show (["part"]:List Str).Nodup by decide +kernel) rfl (by first | exact Or.inl rfl | exact Or.inr rfl) (by decide))) (fun Y=>df) (fun Y=>(aD G_is_row_like (hr.mono (by omega)) rfl m_is_row_like U_is_row_like.kp b_is_row_like (ae (ad (pv 0)) ag))))) ag)))))))
theorem qQ:FnScope yL ["many","spots","time","thing"] (ao fU):=⟨rfl,rfl,rfl,by decide +kernel,rfl,by decide +kernel,by decide +kernel⟩
set_option maxHeartbeats 4000000 in
theorem zd {f:Addr}{fd:FuncData} (F:Fun K "shows_too_little" "shows_too_little" fU f fd) (T:Txt mg)
  {f_is_whole:Addr}{fd_is_whole:FuncData} (U_is_whole:Fun K "is_whole" "is_whole" cX f_is_whole fd_is_whole) (G_is_whole:FnOk P w K mg base CX0 1 f_is_whole fd_is_whole ["thing"] (spV 1 G.cW)) (b_is_whole:az K fd_is_whole ["thing"] []) (m_is_whole:mg "is_whole" = some (.ref f_is_whole))
  {f_are_spots:Addr}{fd_are_spots:FuncData} (U_are_spots:Fun K "are_spots" "are_spots" fR f_are_spots fd_are_spots) (G_are_spots:FnOk P w K mg base CX0 3 f_are_spots fd_are_spots ["many","spots"] (spV 2 (G.iQ f_is_whole))) (b_are_spots:az K fd_are_spots ["many","spots"] []) (m_are_spots:mg "are_spots" = some (.ref f_are_spots))
  {f_are_rows_like:Addr}{fd_are_rows_like:FuncData} (U_are_rows_like:Fun K "are_rows_like" "are_rows_like" fm f_are_rows_like fd_are_rows_like) (G_are_rows_like:FnOk P w K mg base CX0 3 f_are_rows_like fd_are_rows_like ["thing"] (spV 1 G.iS)) (b_are_rows_like:az K fd_are_rows_like ["thing"] []) (m_are_rows_like:mg "are_rows_like" = some (.ref f_are_rows_like))
  {f_greatest_left:Addr}{fd_greatest_left:FuncData} (U_greatest_left:Fun K "greatest_left" "greatest_left" fg f_greatest_left fd_greatest_left) (G_greatest_left:FnOk P w K mg base CX0 1 f_greatest_left fd_greatest_left ["spaces","time"] (spV 2 G.fP)) (b_greatest_left:az K fd_greatest_left ["spaces","time"] []) (m_greatest_left:mg "greatest_left" = some (.ref f_greatest_left))
  {f_between:Addr}{fd_between:FuncData} (U_between:Fun K "between" "between" dj f_between fd_between) (G_between:FnOk P w K mg base CX0 1 f_between fd_between ["many","spots"] (spV 2 G.cV)) (b_between:az K fd_between ["many","spots"] []) (m_between:mg "between" = some (.ref f_between))
  {f_too_little:Addr}{fd_too_little:FuncData} (U_too_little:Fun K "too_little" "too_little" d6 f_too_little fd_too_little) (G_too_little:FnOk P w K mg base CX0 4 f_too_little fd_too_little ["many","spots","time"] (spV 3 G.dD)) (b_too_little:az K fd_too_little ["many","spots","time"] []) (m_too_little:mg "too_little" = some (.ref f_too_little)):
  FnOk P w K mg base CX0 5 f fd ["many","spots","time","thing"] (spV 4 (G.fc f_is_whole)):=by
 have nd:=qQ.nd
 refine fnV F qQ rfl (by decide) (fun cdv A outer s H E hr=>?_)
 exact (au (bQ (VW.vt (em (dO (cS (ab (aD G_are_spots (hr.mono (by omega)) rfl m_are_spots U_are_spots.kp b_are_spots (ae (ad (pv 0)) (ae (ad (pv 1)) ag)))))) (em (dO (cS (ab (aD G_is_whole (hr.mono (by omega)) rfl m_is_whole U_is_whole.kp b_is_whole (ae (ad (pv 2)) ag))))) (em (bM gD (ad (pv 2)) (ab ah) (aU _)) (io (dO (cS (ab (aD G_are_rows_like (hr.mono (by omega)) rfl m_are_rows_like U_are_rows_like.kp b_are_rows_like (ae (ad (pv 3)) ag)))))))))) (aC (aK cH)) bX) (au (bQ (bM (jt (aT hr)) (ab (bf eO (by rfl) T.b_len fe (ae (ad (pv 3)) ag))) (ab (aq bj (ab (aD G_greatest_left (hr.mono (by omega)) rfl m_greatest_left U_greatest_left.kp b_greatest_left (ae (ab (aD G_between (hr.mono (by omega)) rfl m_between U_between.kp b_between (ae (ad (pv 0)) (ae (ad (pv 1)) ag)))) (ae (ad (pv 2)) ag)))) (ab ah))) (aU _)) (aC (aK cH)) bX) (aC (aK (cJ (iA (aT hr)) (ad (pv 3)) (ab (aD G_too_little (hr.mono (by omega)) rfl m_too_little U_too_little.kp b_too_little (ae (ad (pv 0)) (ae (ad (pv 1)) (ae (ad (pv 2)) ag))))) (aU _))))))
theorem qR:FnScope yM ["_law_script","_law_k"] (ao fV):=⟨rfl,rfl,rfl,by decide +kernel,rfl,by decide +kernel,by decide +kernel⟩
set_option maxHeartbeats 4000000 in
theorem ze {f:Addr}{fd:FuncData} (F:Fun K "_law_hand" "_law_hand" fV f fd) (T:Txt mg):
  FnOk P w K mg base CX0 1 f fd ["_law_script","_law_k"] (spV 2 G.gQ):=by
 have nd:=qR.nd
 refine fnV F qR rfl (by decide) (fun cdv A outer s H E hr=>?_)
 exact (au (aG (i:=2) nd rfl (by first | exact Or.inl rfl | exact Or.inr rfl) ah (by decide)) (au (bQ (bM gD (ad (pv 1)) (ab (bf eO (by rfl) T.b_len fe (ae (ad (pv 0)) ag))) (aU _)) (aC (aG (i:=2) nd rfl (by first | exact Or.inl rfl | exact Or.inr rfl) (bV (bZ (aT hr)) (ad (pv 0)) (ad (pv 1)) (fun _ _=>rfl)) (by decide))) bX) (au (aG (i:=3) nd rfl (by first | exact Or.inl rfl | exact Or.inr rfl) (aq cN (ab (aq cN (ab (aq jq (ab ah) (ab ah))) (ab (aq jq (ab ah) (ab ah))))) (ab (aq jq (ab ah) (ab ah)))) (by decide)) (au (aG (i:=4) nd rfl (by first | exact Or.inl rfl | exact Or.inr rfl) (aq cN (ab (aq dw (ad (pv 2)) (ad (pv 3)))) (ab (eF wT rfl T.b_int qA (ae (ab (cJ ld (ad (pv 2)) (ab (aq jq (ab ah) (ab ah))) (aU _))) ag)))) (by decide)) (aC (aK (eE (ae (ad (pv 4)) (ae (ab (aq bj (ab (aq bj (ab (aq dw (ad (pv 2)) (ab ah))) (ab (aq cN (ab ah) (ad (pv 1)))))) (ab ah))) (ae (ab ah) ag))))))))))
theorem qS:FnScope yN ["_law_hand_here","_law_many"] (ao dF):=⟨rfl,rfl,rfl,by decide +kernel,rfl,by decide +kernel,by decide +kernel⟩
set_option maxHeartbeats 4000000 in
theorem zf {f:Addr}{fd:FuncData} (F:Fun K "_law_take" "_law_take" dF f fd) (T:Txt mg):
  FnOk P w K mg base CX0 1 f fd ["_law_hand_here","_law_many"] (spV 2 G.bR):=by
 have nd:=qS.nd
 refine fnV F qS rfl (by decide) (fun cdv A outer s H E hr=>?_)
 exact (au (bQ (bM jr (ab (bV (bZ (aT hr)) (ad (pv 0)) (ab ah) (fun _ _=>rfl))) (ab ah) (aU _)) (au (aG (i:=2) nd rfl (by first | exact Or.inl rfl | exact Or.inr rfl) (aq dw (ab (bV (bZ (aT hr)) (ad (pv 0)) (ab ah) (fun _ _=>rfl))) (ad (pv 1))) (by decide)) (au (k0 (aq gC (ab (bV (bZ (aT hr)) (ad (pv 0)) (ab ah) (fun _ _=>rfl))) (ad (pv 1))) (oW (pv 0) ah (pc (aT hr)))) (aC (aK (il (pv 2)))))) bX) (au (k0 (aq bj (ab (bV (bZ (aT hr)) (ad (pv 0)) (ab ah) (fun _ _=>rfl))) (ab ah)) (oW (pv 0) ah (pc (aT hr)))) (au (aG (i:=3) nd rfl (by first | exact Or.inl rfl | exact Or.inr rfl) (bV (bZ (aT hr)) (ad (pv 0)) (ab ah) (fun _ _=>rfl)) (by decide)) (au (aG (i:=4) nd rfl (by first | exact Or.inl rfl | exact Or.inr rfl) (aq dw (ab (aq cN (ab (bV (bZ (aT hr)) (ad (pv 0)) (ab ah) (fun _ _=>rfl))) (ab (aq bj (ab (aq bj (ab ah) (ab (aq cN (ab (aq cN (ab ah) (ad (pv 3)))) (ad (pv 3)))))) (ab (aq cN (ab ah) (ad (pv 3)))))))) (ab ah)) (by decide)) (au (aG (i:=5) nd rfl (by first | exact Or.inl rfl | exact Or.inr rfl) (aq bj (ab (aq bj (ab (aq dw (ad (pv 4)) (ab ah))) (ab (aq cN (ad (pv 3)) (ab ah))))) (ab ah)) (by decide)) (au (aG (i:=4) nd rfl (by first | exact Or.inl rfl | exact Or.inr rfl) (aq dw (ab (aq cN (ad (pv 4)) (ad (pv 5)))) (ab ah)) (by decide)) (aC (aK (aq dw (ab (aq bj (ab (aq gC (ad (pv 4)) (ab ah))) (ab (aq gC (ad (pv 4)) (ab ah))))) (ad (pv 1)))))))))))
theorem qT:FnScope yO ["_law_hand_here","_law_some"] (ao fW):=⟨rfl,rfl,rfl,by decide +kernel,rfl,by decide +kernel,by decide +kernel⟩
set_option maxHeartbeats 4000000 in
theorem zg {f:Addr}{fd:FuncData} (F:Fun K "_law_of" "_law_of" fW f fd) (T:Txt mg)
  {f_l_take:Addr}{fd_l_take:FuncData} (U_l_take:Fun K "_law_take" "_law_take" dF f_l_take fd_l_take) (G_l_take:FnOk P w K mg base CX0 1 f_l_take fd_l_take ["_law_hand_here","_law_many"] (spV 2 G.bR)) (b_l_take:az K fd_l_take ["_law_hand_here","_law_many"] []) (m_l_take:mg "_law_take" = some (.ref f_l_take)):
  FnOk P w K mg base CX0 2 f fd ["_law_hand_here","_law_some"] (spV 2 G.gR):=by
 have nd:=qT.nd
 refine fnV F qT rfl (by decide) (fun cdv A outer s H E hr=>?_)
 exact (aC (aK (bV (bZ (aT hr)) (ad (pv 1)) (ab (aD G_l_take (hr.mono (by omega)) rfl m_l_take U_l_take.kp b_l_take (ae (ad (pv 0)) (ae (ab (bf eO (by rfl) T.b_len fe (ae (ad (pv 1)) ag))) ag)))) (fun _ _=>rfl))))
theorem qU:FnScope yP ["_law_hand_here"] (ao fX):=⟨rfl,rfl,rfl,by decide +kernel,rfl,by decide +kernel,by decide +kernel⟩
set_option maxHeartbeats 4000000 in
theorem zh {f:Addr}{fd:FuncData} (F:Fun K "_law_ring_of" "_law_ring_of" fX f fd) (T:Txt mg)
  {f_l_take:Addr}{fd_l_take:FuncData} (U_l_take:Fun K "_law_take" "_law_take" dF f_l_take fd_l_take) (G_l_take:FnOk P w K mg base CX0 1 f_l_take fd_l_take ["_law_hand_here","_law_many"] (spV 2 G.bR)) (b_l_take:az K fd_l_take ["_law_hand_here","_law_many"] []) (m_l_take:mg "_law_take" = some (.ref f_l_take))
  {f_l_of:Addr}{fd_l_of:FuncData} (U_l_of:Fun K "_law_of" "_law_of" fW f_l_of fd_l_of) (G_l_of:FnOk P w K mg base CX0 2 f_l_of fd_l_of ["_law_hand_here","_law_some"] (spV 2 G.gR)) (b_l_of:az K fd_l_of ["_law_hand_here","_law_some"] []) (m_l_of:mg "_law_of" = some (.ref f_l_of)):
  FnOk P w K mg base CX0 3 f fd ["_law_hand_here"] (spV 1 G.iN):=by
 have nd:=qU.nd
 refine fnV F qU rfl (by decide) (fun cdv A outer s H E hr=>?_)
 exact (au (aG (i:=1) nd rfl (by first | exact Or.inl rfl | exact Or.inr rfl) (aq bj (ab ah) (ab (aD G_l_take (hr.mono (by omega)) rfl m_l_take U_l_take.kp b_l_take (ae (ad (pv 0)) (ae (ab (aD G_l_of (hr.mono (by omega)) rfl m_l_of U_l_of.kp b_l_of (ae (ad (pv 0)) (ae (ab (eE (ae (ab ah) (ae (ab ah) (ae (ab ah) (ae (ab ah) (ae (ab ah) (ae (ab ah) (ae (ab ah) (ae (ab ah) ag)))))))))) ag)))) ag))))) (by decide)) (au (aG (i:=2) nd rfl (by first | exact Or.inl rfl | exact Or.inr rfl) (aq bj (ab ah) (ab (aD G_l_take (hr.mono (by omega)) rfl m_l_take U_l_take.kp b_l_take (ae (ad (pv 0)) (ae (ab (bf (ll rfl) (by rfl) T.b_min jX (ae (ad (pv 1)) (ae (ab (aD G_l_of (hr.mono (by omega)) rfl m_l_of U_l_of.kp b_l_of (ae (ad (pv 0)) (ae (ab (eE (ae (ab ah) (ae (ab ah) (ae (ab ah) (ae (ab ah) ag)))))) ag)))) ag)))) ag))))) (by decide)) (au (aG (i:=3) nd rfl (by first | exact Or.inl rfl | exact Or.inr rfl) (oX rfl T.b_list rfl T.b_range (ae (ad (pv 1)) ag)) (by decide)) (au (aG (i:=4) nd rfl (by first | exact Or.inl rfl | exact Or.inr rfl) (eE ag) (by decide)) (au (ix (fx:=[0]) PassesOwn.never rfl (k8 rfl T.b_range (ae (ad (pv 2)) ag)) (bi (i:=5) nd rfl (by first | exact Or.inl rfl | exact Or.inr rfl) (by decide)) (au (aG (i:=6) nd rfl (by first | exact Or.inl rfl | exact Or.inr rfl) (aD G_l_take (hr.mono (by omega)) rfl m_l_take U_l_take.kp b_l_take (ae (ad (pv 0)) (ae (ab (bf eO (by rfl) T.b_len fe (ae (ad (pv 3)) ag))) ag))) (by decide)) (au (bQ (VW.vt (kU (bM jr (ad (pv 5)) (ab ah) (aU _)) (kT (bM (iA (aT hr)) (ab (aD G_l_take (hr.mono (by omega)) rfl m_l_take U_l_take.kp b_l_take (ae (ad (pv 0)) (ae (ab ah) ag)))) (ab ah) (aU _))))) (aC (aG (i:=6) nd rfl (by first | exact Or.inl rfl | exact Or.inr rfl) (bf (xi rfl) (by rfl) T.b_min jX (ae (ad (pv 6)) (ae (ab (aq cM (ab (bf eO (by rfl) T.b_len fe (ae (ad (pv 3)) ag))) (ab ah))) (ae (ab ah) ag)))) (by decide))) bX) (aC (kY (jz jy PySem.F.plainAttrs_list PySem.F.slot_list_append PySem.F.type_list_append oU (pv 4) (ae (ab (jz jy PySem.F.plainAttrs_list PySem.F.slot_list_pop PySem.F.type_list_pop xa (pv 3) (ae (ad (pv 6)) ag))) ag)))))) (by decide) oH) (aC (aK (ox (ae (ad (pv 1)) (ae (ab (eF fN rfl T.b_tuple dE (ae (ab (bf (jC rfl (aT hr)) (by rfl) T.b_sorted jY (ae (ad (pv 4)) ag))) ag))) ag))))))))))
theorem qV:FnScope yQ ["_law_hand_here","_law_many","_law_spots","_law_time"] (ao fY):=⟨rfl,rfl,rfl,by decide +kernel,rfl,by decide +kernel,by decide +kernel⟩
set_option maxHeartbeats 4000000 in
theorem zi {f:Addr}{fd:FuncData} (F:Fun K "_law_papers_right" "_law_papers_right" fY f fd) (T:Txt mg)
  {f_is_whole:Addr}{fd_is_whole:FuncData} (U_is_whole:Fun K "is_whole" "is_whole" cX f_is_whole fd_is_whole) (G_is_whole:FnOk P w K mg base CX0 1 f_is_whole fd_is_whole ["thing"] (spV 1 G.cW)) (b_is_whole:az K fd_is_whole ["thing"] []) (m_is_whole:mg "is_whole" = some (.ref f_is_whole))
  {f_l_take:Addr}{fd_l_take:FuncData} (U_l_take:Fun K "_law_take" "_law_take" dF f_l_take fd_l_take) (G_l_take:FnOk P w K mg base CX0 1 f_l_take fd_l_take ["_law_hand_here","_law_many"] (spV 2 G.bR)) (b_l_take:az K fd_l_take ["_law_hand_here","_law_many"] []) (m_l_take:mg "_law_take" = some (.ref f_l_take))
  {f_too_little:Addr}{fd_too_little:FuncData} (U_too_little:Fun K "too_little" "too_little" d6 f_too_little fd_too_little) (G_too_little:FnOk P w K mg base CX0 4 f_too_little fd_too_little ["many","spots","time"] (spV 3 G.dD)) (b_too_little:az K fd_too_little ["many","spots","time"] []) (m_too_little:mg "too_little" = some (.ref f_too_little))
  {f_shows_too_little:Addr}{fd_shows_too_little:FuncData} (U_shows_too_little:Fun K "shows_too_little" "shows_too_little" fU f_shows_too_little fd_shows_too_little) (G_shows_too_little:FnOk P w K mg base CX0 5 f_shows_too_little fd_shows_too_little ["many","spots","time","thing"] (spV 4 (G.fc f_is_whole))) (b_shows_too_little:az K fd_shows_too_little ["many","spots","time","thing"] []) (m_shows_too_little:mg "shows_too_little" = some (.ref f_shows_too_little)):
  FnOk P w K mg base CX0 6 f fd ["_law_hand_here","_law_many","_law_spots","_law_time"] (spV 4 (G.iT f_is_whole)):=by
 have nd:=qV.nd
 refine fnV F qV rfl (by decide) (fun cdv A outer s H E hr=>?_)
 exact (au (aG (i:=4) nd rfl (by first | exact Or.inl rfl | exact Or.inr rfl) (eE (ae (ab ah) (ae (ab (aq gC (ad (pv 3)) (ab ah))) (ae (ab (bf (jw rfl) (by rfl) T.b_max jW (ae (ab ah) (ae (ab (aq cM (ad (pv 3)) (ab ah))) ag)))) (ae (ad (pv 3)) (ae (ab (aq bj (ad (pv 3)) (ab ah))) ag)))))) (by decide)) (au (aG (i:=4) nd rfl (by first | exact Or.inl rfl | exact Or.inr rfl) (aq bj (ad (pv 4)) (ab (eE (ae (ab (aq bj (ad (pv 3)) (ab (aD G_l_take (hr.mono (by omega)) rfl m_l_take U_l_take.kp b_l_take (ae (ad (pv 0)) (ae (ab ah) ag)))))) ag)))) (by decide)) (au (ix (fx:=[4,0,1,2,3]) PassesOwn.never rfl (dS (ad (pv 4))) (bi (i:=5) nd rfl (by first | exact Or.inl rfl | exact Or.inr rfl) (by decide)) (au (aG (i:=6) nd rfl (by first | exact Or.inl rfl | exact Or.inr rfl) (aD G_too_little (hr.mono (by omega)) rfl m_too_little U_too_little.kp b_too_little (ae (ad (pv 1)) (ae (ad (pv 2)) (ae (ad (pv 5)) ag)))) (by decide)) (au (bQ (bM (jt (aT hr)) (ab (cJ lg (ad (pv 6)) (ab gw) (aU _))) (ab (cJ ld (ad (pv 5)) (ad (pv 3)) (aU _))) (aU _)) (aC (aK cH)) bX) (aC (bQ (VW.vt (kU (bM lh (ad (pv 6)) (ab gw) (aU _)) (kT (bM lh (ab (aD G_shows_too_little (hr.mono (by omega)) rfl m_shows_too_little U_shows_too_little.kp b_shows_too_little (ae (ad (pv 1)) (ae (ad (pv 2)) (ae (ad (pv 5)) (ae (ad (pv 6)) ag)))))) (ab cH) (aU _))))) (aC (aK cH)) bX)))) (by decide) (wF (by decide))) (au (aG (i:=6) nd rfl (by first | exact Or.inl rfl | exact Or.inr rfl) (aD G_too_little (hr.mono (by omega)) rfl m_too_little U_too_little.kp b_too_little (ae (ad (pv 1)) (ae (ad (pv 2)) (ae (ab (bf (jw rfl) (by rfl) T.b_max jW (ae (ab ah) (ae (ab (aq cM (ad (pv 3)) (ab ah))) ag)))) ag)))) (by decide)) (aC (aK (wu (cv (cJ (iA (aT hr)) (ad (pv 3)) (ab ah) (aU _))) (cv (gx (cJ lg (ab (aD G_shows_too_little (hr.mono (by omega)) rfl m_shows_too_little U_shows_too_little.kp b_shows_too_little (ae (ad (pv 1)) (ae (ad (pv 2)) (ae (ad (pv 3)) (ae (ad (pv 6)) ag)))))) (ab cH) (aU _)))))))))))
theorem qW:FnScope yR ["_law_many","_law_spots"] (ao fo):=⟨rfl,rfl,rfl,by decide +kernel,rfl,by decide +kernel,by decide +kernel⟩
set_option maxHeartbeats 4000000 in
theorem zj {f:Addr}{fd:FuncData} (F:Fun K "_law_taken" "_law_taken" fo f fd) (T:Txt mg)
  {f_shares:Addr}{fd_shares:FuncData} (U_shares:Fun K "shares" "shares" fj f_shares fd_shares) (G_shares:FnOk P w K mg base CX0 6 f_shares fd_shares ["many","spots"] (spV 2 G.fb)) (b_shares:az K fd_shares ["many","spots"] []) (m_shares:mg "shares" = some (.ref f_shares)):
  FnOk P w K mg base CX0 7 f fd ["_law_many","_law_spots"] (spV 2 G.iU):=by
 have nd:=qW.nd
 refine fnV F qW rfl (by decide) (fun cdv A outer s H E hr=>?_)
 exact (au (aG (i:=2) nd rfl (by first | exact Or.inl rfl | exact Or.inr rfl) (eE ag) (by decide)) (au (ix (fx:=[0,1]) PassesOwn.never rfl (lx rfl T.b_zip (ae (ad (pv 1)) (ae (ab (aD G_shares (hr.mono (by omega)) rfl m_shares U_shares.kp b_shares (ae (ad (pv 0)) (ae (ad (pv 1)) ag)))) ag))) (gz rfl (cK (bi (i:=3) nd rfl (by first | exact Or.inl rfl | exact Or.inr rfl) (by decide)) (cK (gz rfl (cK (bi (i:=4) nd rfl (by first | exact Or.inl rfl | exact Or.inr rfl) (by decide)) (cK (bi (i:=5) nd rfl (by first | exact Or.inl rfl | exact Or.inr rfl) (by decide)) gy))) gy))) (aC (kY (jz jy PySem.F.plainAttrs_list PySem.F.slot_list_extend PySem.F.type_list_extend xb (pv 2) (ae (ab (dg (own:=["_law_k"]) (caps:=[3,0]) rfl (cF (ao fo) ["_law_many","_law_spots","_law_cells","_law_spot","_law_left","_law_right"] (by decide +kernel)) (by decide) (wG rfl T.b_range (ae (ab (fM (il (pv 4)))) (ae (ab (aq bj (ad (pv 5)) (ab ah))) ag))) (fun Y=>(bi (i:=0) (show (["_law_k","_law_spot","_law_many"]:List Str).Nodup by decide +kernel) rfl (by first | exact Or.inl rfl | exact Or.inr rfl) (by decide))) (fun Y=>df) (fun Y=>(aq dw (ab (aq bj (ad (pv 1)) (ad (pv 0)))) (ad (pv 2)))))) ag)))) (by decide) xg) (aC (aK (cJ (iA (aT hr)) (ab (bf (jC rfl (aT hr)) (by rfl) T.b_sorted jY (ae (ad (pv 2)) ag))) (ab (oX rfl T.b_list rfl T.b_range (ae (ad (pv 0)) ag))) (aU _))))))
theorem qX:FnScope yS ["_law_script"] (ao dk):=⟨rfl,rfl,rfl,by decide +kernel,rfl,by decide +kernel,by decide +kernel⟩
set_option maxHeartbeats 4000000 in
theorem zk {f:Addr}{fd:FuncData} (F:Fun K "law" "law" dk f fd) (T:Txt mg)
  {f_is_whole:Addr}{fd_is_whole:FuncData} (U_is_whole:Fun K "is_whole" "is_whole" cX f_is_whole fd_is_whole) (G_is_whole:FnOk P w K mg base CX0 1 f_is_whole fd_is_whole ["thing"] (spV 1 G.cW)) (b_is_whole:az K fd_is_whole ["thing"] []) (m_is_whole:mg "is_whole" = some (.ref f_is_whole))
  {f_l_hand:Addr}{fd_l_hand:FuncData} (U_l_hand:Fun K "_law_hand" "_law_hand" fV f_l_hand fd_l_hand) (G_l_hand:FnOk P w K mg base CX0 1 f_l_hand fd_l_hand ["_law_script","_law_k"] (spV 2 G.gQ)) (b_l_hand:az K fd_l_hand ["_law_script","_law_k"] []) (m_l_hand:mg "_law_hand" = some (.ref f_l_hand))
  {f_l_ring_of:Addr}{fd_l_ring_of:FuncData} (U_l_ring_of:Fun K "_law_ring_of" "_law_ring_of" fX f_l_ring_of fd_l_ring_of) (G_l_ring_of:FnOk P w K mg base CX0 3 f_l_ring_of fd_l_ring_of ["_law_hand_here"] (spV 1 G.iN)) (b_l_ring_of:az K fd_l_ring_of ["_law_hand_here"] []) (m_l_ring_of:mg "_law_ring_of" = some (.ref f_l_ring_of))
  {f_least_time:Addr}{fd_least_time:FuncData} (U_least_time:Fun K "least_time" "least_time" fi f_least_time fd_least_time) (G_least_time:FnOk P w K mg base CX0 5 f_least_time fd_least_time ["many","spots"] (spV 2 G.ck)) (b_least_time:az K fd_least_time ["many","spots"] []) (m_least_time:mg "least_time" = some (.ref f_least_time))
  {f_l_papers_right:Addr}{fd_l_papers_right:FuncData} (U_l_papers_right:Fun K "_law_papers_right" "_law_papers_right" fY f_l_papers_right fd_l_papers_right) (G_l_papers_right:FnOk P w K mg base CX0 6 f_l_papers_right fd_l_papers_right ["_law_hand_here","_law_many","_law_spots","_law_time"] (spV 4 (G.iT f_is_whole))) (b_l_papers_right:az K fd_l_papers_right ["_law_hand_here","_law_many","_law_spots","_law_time"] []) (m_l_papers_right:mg "_law_papers_right" = some (.ref f_l_papers_right))
  {f_l_taken:Addr}{fd_l_taken:FuncData} (U_l_taken:Fun K "_law_taken" "_law_taken" fo f_l_taken fd_l_taken) (G_l_taken:FnOk P w K mg base CX0 7 f_l_taken fd_l_taken ["_law_many","_law_spots"] (spV 2 G.iU)) (b_l_taken:az K fd_l_taken ["_law_many","_law_spots"] []) (m_l_taken:mg "_law_taken" = some (.ref f_l_taken))
  {f_l_take:Addr}{fd_l_take:FuncData} (U_l_take:Fun K "_law_take" "_law_take" dF f_l_take fd_l_take) (G_l_take:FnOk P w K mg base CX0 1 f_l_take fd_l_take ["_law_hand_here","_law_many"] (spV 2 G.bR)) (b_l_take:az K fd_l_take ["_law_hand_here","_law_many"] []) (m_l_take:mg "_law_take" = some (.ref f_l_take)):
  FnOk P w K mg base CX0 8 f fd ["_law_script"] (spV 1 (G.gW f_is_whole)):=by
 have nd:=qX.nd
 refine fnV F qX rfl (by decide) (fun cdv A outer s H E hr=>?_)
 exact (au (ix (fx:=[0]) PassesOwn.never rfl (k8 rfl T.b_range (ae (ab (bf (jw rfl) (by rfl) T.b_max jW (ae (ab ah) (ae (ab (bf (ll rfl) (by rfl) T.b_min jX (ae (ab ah) (ae (ab (bf eO (by rfl) T.b_len fe (ae (ad (pv 0)) ag))) ag)))) ag)))) ag)) (bi (i:=1) nd rfl (by first | exact Or.inl rfl | exact Or.inr rfl) (by decide)) (au (aG (i:=2) nd rfl (by first | exact Or.inl rfl | exact Or.inr rfl) (aD G_l_hand (hr.mono (by omega)) rfl m_l_hand U_l_hand.kp b_l_hand (ae (ad (pv 0)) (ae (ad (pv 1)) ag))) (by decide)) (au (k0 (aD G_l_ring_of (hr.mono (by omega)) rfl m_l_ring_of U_l_ring_of.kp b_l_ring_of (ae (ad (pv 2)) ag)) (gz rfl (cK (bi (i:=3) nd rfl (by first | exact Or.inl rfl | exact Or.inr rfl) (by decide)) (cK (bi (i:=4) nd rfl (by first | exact Or.inl rfl | exact Or.inr rfl) (by decide)) gy)))) (au (aG (i:=5) nd rfl (by first | exact Or.inl rfl | exact Or.inr rfl) (aD G_least_time (hr.mono (by omega)) rfl m_least_time U_least_time.kp b_least_time (ae (ad (pv 3)) (ae (ad (pv 4)) ag))) (by decide)) (au (bQ (VW.vt (em (dO (cS (ab (aD G_l_papers_right (hr.mono (by omega)) rfl m_l_papers_right U_l_papers_right.kp b_l_papers_right (ae (ad (pv 2)) (ae (ad (pv 3)) (ae (ad (pv 4)) (ae (ad (pv 5)) ag)))))))) (io (dO (cS (ab (aD G_l_taken (hr.mono (by omega)) rfl m_l_taken U_l_taken.kp b_l_taken (ae (ad (pv 3)) (ae (ad (pv 4)) ag))))))))) (aC (aK cH)) bX) (au (aG (i:=6) nd rfl (by first | exact Or.inl rfl | exact Or.inr rfl) (aD G_l_take (hr.mono (by omega)) rfl m_l_take U_l_take.kp b_l_take (ae (ad (pv 2)) (ae (ad (pv 3)) ag))) (by decide)) (au (aG (i:=7) nd rfl (by first | exact Or.inl rfl | exact Or.inr rfl) (eF fN rfl T.b_tuple dE (ae (ab (bf (jC rfl (aT hr)) (by rfl) T.b_sorted jY (ae (ab (dg (own:=["_law_spot"]) (caps:=[6,3]) rfl (cF (ao dk) ["_law_script","_law_k","_law_hand_here","_law_many","_law_spots","_law_time","_law_by","_law_turned","_law_mirror","_law_more"] (by decide +kernel)) (by decide) (dS (ad (pv 4))) (fun Y=>(bi (i:=0) (show (["_law_spot","_law_by","_law_many"]:List Str).Nodup by decide +kernel) rfl (by first | exact Or.inl rfl | exact Or.inr rfl) (by decide))) (fun Y=>df) (fun Y=>(aq dw (ab (aq bj (ad (pv 0)) (ad (pv 1)))) (ad (pv 2)))))) ag))) ag)) (by decide)) (au (aG (i:=8) nd rfl (by first | exact Or.inl rfl | exact Or.inr rfl) (eF fN rfl T.b_tuple dE (ae (ab (bf (jC rfl (aT hr)) (by rfl) T.b_sorted jY (ae (ab (dg (own:=["_law_spot"]) (caps:=[3]) rfl (cF (ao dk) ["_law_script","_law_k","_law_hand_here","_law_many","_law_spots","_law_time","_law_by","_law_turned","_law_mirror","_law_more"] (by decide +kernel)) (by decide) (dS (ad (pv 4))) (fun Y=>(bi (i:=0) (show (["_law_spot","_law_many"]:List Str).Nodup by decide +kernel) rfl (by first | exact Or.inl rfl | exact Or.inr rfl) (by decide))) (fun Y=>df) (fun Y=>(aq cM (ab (aq cM (ad (pv 1)) (ab ah))) (ad (pv 0)))))) ag))) ag)) (by decide)) (au (bQ (VW.vt (em (bM (jt (aT hr)) (ab (aD G_least_time (hr.mono (by omega)) rfl m_least_time U_least_time.kp b_least_time (ae (ad (pv 3)) (ae (ad (pv 7)) ag)))) (ad (pv 5)) (aU _)) (io (bM (jt (aT hr)) (ab (aD G_least_time (hr.mono (by omega)) rfl m_least_time U_least_time.kp b_least_time (ae (ad (pv 3)) (ae (ad (pv 8)) ag)))) (ad (pv 5)) (aU _))))) (aC (aK cH)) bX) (au (aG (i:=9) nd rfl (by first | exact Or.inl rfl | exact Or.inr rfl) (eF fN rfl T.b_tuple dE (ae (ab (yj rfl T.b_sorted rfl T.b_set (ae (ab (aq bj (ad (pv 4)) (ab (ox (ae (ad (pv 6)) ag))))) ag))) ag)) (by decide)) (aC (bQ (VW.vt (kU (bM gD (ab (bf eO (by rfl) T.b_len fe (ae (ad (pv 9)) ag))) (ab ah) (aU _)) (kT (bM jr (ab (aD G_least_time (hr.mono (by omega)) rfl m_least_time U_least_time.kp b_least_time (ae (ad (pv 3)) (ae (ad (pv 9)) ag)))) (ad (pv 5)) (aU _))))) (aC (aK cH)) bX))))))))))) (by decide) oH) (aC (aK cH)))
end
end K51
namespace G
open PySem L2
noncomputable def cE (t l:Int):Option Int:=if l > t then none else if l * 3≤t then some (t - l * 2) else some ((t - l) / 2)
noncomputable def fq:Option Int→Im
 | none=>.non
 | some i=>.int i
theorem l8 (t l:Int):dX [.im (.int t),.im (.int l)]=some (.im (fq (cE t l)),[.im (.int t),.im (.int l)]):=by
 have m3:bN l 3=true:=iG (by decide) (by decide)
 have m2:bN l 2=true:=iG (by decide) (by decide)
 by_cases h1:l > t
 ·simp -implicitDefEqProofs [dX,lT,cE,h1,fq]
 ·by_cases h2:l * 3≤t<;>simp -implicitDefEqProofs [dX,lT,cE,h1,h2,fq,m3,m2]
noncomputable def iW (s u:Int):Int:=s * (48271+2 * u * u+65537 * u) % 2305843009213693921
noncomputable def qY (s u:Int):Int:=iW s u * (iW s u % 1000003+u * 99991+11) % 2305843009213693907 / 97+iW s u * (iW s u % 1000003+u * 99991+11) % 2305843009213693907 / 1000033
noncomputable abbrev hd (d s t:Int):Vl:=.lst [.int d,.int s,.int t]
theorem zl {d s t m:Int} (hd0:0≤d) (hs0:0≤s) (hs1:s<2 ^ 63) (ht0:0≤t) (ht1:t<2 ^ 60) (hm0:0<m) (hm1:m<1073741824):
  ∃ v d' t',bR [hd d s t,.im (.int m)]=some (.im (.int v),[hd d' s t',.im (.int m)])∧0≤v∧v<m∧0≤d'∧t≤t'∧t'≤t+1:=by
 by_cases h:0<d
 ·refine⟨d % m,d / m,t,?_,Int.emod_nonneg _ (by omega),Int.emod_lt_of_pos _ hm0,Int.ediv_nonneg hd0 (by omega),by omega,by omega⟩
  simp -implicitDefEqProofs [bR,lX,atI,ixN,h,hm0,hm1]
 ·have e1:bN 2 (t+1)=true:=iH (by decide) (by decide)
  have e2:bN (2 * (t+1)) (t+1)=true:=iG (by omega) (by omega)
  have e3:bN 65537 (t+1)=true:=iH (by decide) (by decide)
  have e4:∀ x,bN s x=true:=fun x=>iH (by omega) (by omega)
  have e5:bN (t+1) 99991=true:=iG (by decide) (by decide)
  have e6:∀ x y,bN (x % 2305843009213693921) y=true:=fun x y=>iH (by have:=Int.emod_nonneg x (show (2305843009213693921:Int)≠0 by decide);omega) (by have:=Int.emod_lt_of_pos x (show (0:Int)<2305843009213693921 by decide);omega)
  refine⟨qY s (t+1) % m,d,t+1,?_,Int.emod_nonneg _ (by omega),Int.emod_lt_of_pos _ hm0,hd0,by omega,by omega⟩
  simp -implicitDefEqProofs [bR,lX,atI,ixN,h,hm0,hm1,e1,e2,e3,e4,e5,e6,qY,iW]
noncomputable def b7 (n:Nat) (h:Vl):Prop:=∃ d s t,h=hd d s t∧0≤d∧0≤s∧s<2 ^ 63∧0≤t∧t+n<2 ^ 60
theorem b7.mono {n m:Nat}{h:Vl} (x:b7 n h) (e:m≤n):b7 m h:=by
 obtain⟨d,s,t,rfl,h1,h2,h3,h4,h5⟩:=x
 exact⟨d,s,t,rfl,h1,h2,h3,h4,by omega⟩
theorem fZ {n:Nat}{h:Vl}{m:Int} (x:b7 (n+1) h) (hm0:0<m) (hm1:m<1073741824):∃ v h',bR [h,.im (.int m)]=some (.im (.int v),[h',.im (.int m)])∧0≤v∧v<m∧b7 n h':=by
 obtain⟨d,s,t,rfl,h1,h2,h3,h4,h5⟩:=x
 obtain⟨v,d',t',e,e1,e2,e3,e4,e5⟩:=zl (m:=m) h1 h2 h3 h4 (by omega) hm0 hm1
 exact⟨v,hd d' s t',e,e1,e2,d',s,t',rfl,e3,h2,h3,by omega,by omega⟩
theorem b8 {n:Nat}{h:Vl} (x:b7 n h):∃ ds,h=.lst ds:=by
 obtain⟨d,s,t,rfl,_⟩:=x
 exact⟨_,rfl⟩
theorem zm {ns:List Int}{k:Int} (hk:0≤k) (hk2:k<1000):∃ h,gQ [.fz (ns.map .int),.im (.int k)]=some (h,[.fz (ns.map .int),.im (.int k)])∧b7 1000000 h:=by
 have key:∀ c:Int,b7 1000000 (hd (c % (10 ^ 60 * 10 ^ 60 * 10 ^ 60) * (if 10 ^ 18≤c then 1 else 0)) (c % 2305843009213693951+7919 * k+3) 0):=fun c=>by
  have h1:=Int.emod_nonneg c (show (10 ^ 60 * 10 ^ 60 * 10 ^ 60:Int)≠0 by decide)
  have h2:=Int.emod_nonneg c (show (2305843009213693951:Int)≠0 by decide)
  have h3:=Int.emod_lt_of_pos c (show (0:Int)<2305843009213693951 by decide)
  refine⟨_,_,_,rfl,?_,by omega,by omega,Int.le_refl 0,by decide⟩
  split
  ·rw[Int.mul_one];exact h1
  ·rw[Int.mul_zero];exact Int.le_refl 0
 have p1:bN (10 ^ 60) (10 ^ 60)=true:=by decide +kernel
 have p2:bN (10 ^ 60 * 10 ^ 60) (10 ^ 60)=true:=by decide +kernel
 have p3:∀ x c:Int,bN x (if 10 ^ 18≤c then 1 else 0)=true:=fun x c=>iG (by split<;>decide) (by split<;>decide)
 have p4:bN 7919 k=true:=iH (by decide) (by decide)
 have q0:(10:Nat)<2 ^ 64:=by decide
 have q1:(0:Int)<10 ^ 60 * 10 ^ 60 * 10 ^ 60:=by decide
 by_cases hl:k<(ns.length:Int)
 ·obtain⟨c,hc⟩:∃ c,ns[k.toNat]?=some c:=⟨ns[k.toNat]'(by omega),by simp⟩
  have hat:atI (ns.map Im.int) k=some (.int c):=jN hk (by rw[List.getElem?_map,hc];rfl)
  refine⟨_,?_,key c⟩
  simp -implicitDefEqProofs [gQ,lW,hl,hat,p1,p2,p3,p4,q0,q1,-Int.reducePow,-Nat.reducePow]
 ·refine⟨_,?_,key 0⟩
  simp -implicitDefEqProofs [gQ,lW,hl,p1,p2,p3,p4,q0,q1,-Int.reducePow,-Nat.reducePow]
theorem qZ {n:Nat}{h:Vl}{xs:List Im} (x:b7 (n+1) h) (h0:xs≠[]) (h1:xs.length<1073741824):∃ d h',gR [h,.lst xs]=some (.im d,[h',.lst xs])∧d∈xs∧b7 n h':=by
 have hl:0<xs.length:=List.length_pos_iff.mpr h0
 obtain⟨v,h',e,e1,e2,e3⟩:=fZ (m:=xs.length) x (by omega) (by omega)
 obtain⟨d,hd⟩:∃ d,xs[v.toNat]?=some d:=⟨xs[v.toNat]'(by omega),by simp⟩
 have hat:atI xs v=some d:=jN e1 hd
 obtain⟨q,rfl⟩:=b8 x
 obtain⟨q',rfl⟩:=b8 e3
 refine⟨d,.lst q',?_,List.mem_of_getElem? hd,e3⟩
 simp -implicitDefEqProofs [gR,qm,e,hat]
structure RingOk (many:Int) (spots:List Int):Prop where
 m0:1≤many
 m1:many≤200
 ne:spots≠[]
 up:spots.Pairwise (· < ·)
 inn:∀ s∈spots,0≤s∧s<many
 few:spots.length≤8
noncomputable def jZ (many few:Int) (i:Nat) (D:SD):Prop:=∃ (h:Vl) (L S:List Int) (o5 o6:Option Vl),D=[some h,some (.im (.int many)),some (.im (.int few)),some (.lst (L.map .int)),some (.lst (S.map .int)),o5,o6]∧b7 (900000 - 2 * i) h∧(L++S).Nodup∧(∀ x∈L++S,0≤x∧x<many)∧(L.length:Int)+S.length=many∧S.length=i
theorem zn {L:List Int}{k:Nat}{x:Int} (h:L[k]?=some x):L.Perm (x::L.eraseIdx k):=by
 induction L generalizing k with
 | nil=>simp at h
 | cons y r ih=>
  cases k with
  | zero=>simp at h;subst h;exact List.Perm.refl _
  | succ k=>
   have:=ih (k:=k) (by simpa using h)
   exact (this.cons y).trans (List.Perm.swap x y _)
theorem zo (L:List Int):∀ k,(L.map Im.int).eraseIdx k=(L.eraseIdx k).map Im.int:=by
 induction L with
 | nil=>intro k;rfl
 | cons y r ih=>intro k;cases k with
  | zero=>rfl
  | succ k=>simp[ih k]
theorem l9 {n:Nat}{many few v:Int}{i:Nat}{h:Vl}{L S:List Int}{o5:Option Vl} (hh:b7 n h) (hn:900000 - 2 * (i+1)≤n) (nd:(L++S).Nodup) (inn:∀ x∈L++S,0≤x∧x<many) (ln:(L.length:Int)+S.length=many) (sl:S.length=i) (hm:many≤200) (v0:0≤v) (v1:v<L.length):
  ∃ D2,eJ (cT eS 4 mAppend (aa (oV (cT eS 3 mPopAt (aa (oSl 6) aNil))) aNil)) [some h,some (.im (.int many)),some (.im (.int few)),some (.lst (L.map .int)),some (.lst (S.map .int)),o5,some (.im (.int v))]=some (.nx,D2)∧jZ many few (i+1) D2:=by
 obtain⟨x,hx⟩:∃ x,L[v.toNat]?=some x:=⟨L[v.toNat]'(by omega),by simp⟩
 have pm:=zn hx
 have hS:S.length<100000:=by omega
 refine⟨[some h,some (.im (.int many)),some (.im (.int few)),some (.lst ((L.eraseIdx v.toNat).map .int)),some (.lst ((S++[x]).map .int)),o5,some (.im (.int v))],?_,h,L.eraseIdx v.toNat,S++[x],o5,_,rfl,hh.mono hn,?_,?_,?_,?_⟩
 ·obtain⟨hlt,hx'⟩:=List.getElem?_eq_some_iff.mp hx
  simp -implicitDefEqProofs [v0,v1,hx,hx',hS,zo]
 ·refine (List.Perm.nodup_iff ?_).mp nd
  refine (List.Perm.append_right S pm).trans ?_
  rw[← List.append_assoc]
  exact List.perm_append_comm (l₁:=[x])
 ·intro y hy
  refine inn y ?_
  refine (List.Perm.mem_iff ((List.Perm.append_right S pm).trans ?_)).mpr hy
  rw[← List.append_assoc]
  exact List.perm_append_comm (l₁:=[x])
 ·have:=pm.length_eq
  rw[List.length_cons] at this
  rw[List.length_append,List.length_singleton]
  omega
 ·rw[List.length_append,List.length_singleton,sl]
theorem zp {many few:Int}{i:Nat}{D:SD} (hm:many≤200) (hi:(i:Int)<many) (hI:jZ many few i D):∃ D1 D2,gN 5 (.im (.int (0+(i:Int)))) D=some D1∧gS D1=some (.nx,D2)∧jZ many few (i+1) D2:=by
 obtain⟨h,L,S,o5,o6,rfl,hh,nd,inn,ln,sl⟩:=hI
 have hL:0<L.length:=by omega
 obtain⟨v,h',e,e1,e2,e3⟩:=fZ (n:=900000 - 2 * i - 1) (m:=L.length) (hh.mono (by omega)) (by omega) (by omega)
 obtain⟨q,rfl⟩:=b8 hh
 obtain⟨q',rfl⟩:=b8 e3
 refine⟨[some (.lst q),some (.im (.int many)),some (.im (.int few)),some (.lst (L.map .int)),some (.lst (S.map .int)),some (.im (.int (0+(i:Int)))),o6],?_⟩
 have st1:aA 6 (av 2 G.bR (aa (oSl 0) (aa (oV (ax vLen (aa (oSl 3) aNil))) aNil))) [some (.lst q),some (.im (.int many)),some (.im (.int few)),some (.lst (L.map .int)),some (.lst (S.map .int)),some (.im (.int (0+(i:Int)))),o6]=some (.nx,[some (.lst q'),some (.im (.int many)),some (.im (.int few)),some (.lst (L.map .int)),some (.lst (S.map .int)),some (.im (.int (0+(i:Int)))),some (.im (.int v))]):=by
  simp -implicitDefEqProofs [e]
 by_cases hi0:i=0
 ·subst hi0
  obtain⟨D2,g1,g2⟩:=l9 (few:=few) (i:=0) (o5:=some (.im (.int (0+((0:Nat):Int))))) e3 (by omega) nd inn ln sl hm e1 e2
  refine⟨D2,by simp -implicitDefEqProofs,?_,g2⟩
  rw[gS,aE st1,aE (D1:=[some (.lst q'),some (.im (.int many)),some (.im (.int few)),some (.lst (L.map .int)),some (.lst (S.map .int)),some (.im (.int (0+((0:Nat):Int)))),some (.im (.int v))])]
  ·exact g1
  ·simp -implicitDefEqProofs
 ·obtain⟨v2,h'',e',e1',e2',e3'⟩:=fZ (n:=900000 - 2 * i - 2) (m:=4) (e3.mono (by omega)) (by omega) (by omega)
  obtain⟨q'',rfl⟩:=b8 e3'
  have hpos:0<i:=by omega
  by_cases hv:v2=0
  ·subst hv
   obtain⟨D2,g1,g2⟩:=l9 (few:=few) (i:=i) (v:=min (min v (L.length - 1)) 1) (o5:=some (.im (.int (0+(i:Int))))) e3' (by omega) nd inn ln sl hm (by omega) (by omega)
   refine⟨D2,by simp -implicitDefEqProofs,?_,g2⟩
   rw[gS,aE st1,aE (D1:=[some (.lst q''),some (.im (.int many)),some (.im (.int few)),some (.lst (L.map .int)),some (.lst (S.map .int)),some (.im (.int (0+(i:Int)))),some (.im (.int (min (min v (L.length - 1)) 1)))])]
   ·exact g1
   ·simp -implicitDefEqProofs [e',hpos,Im.pl,aB]
  ·obtain⟨D2,g1,g2⟩:=l9 (few:=few) (i:=i) (v:=v) (o5:=some (.im (.int (0+(i:Int))))) e3' (by omega) nd inn ln sl hm e1 e2
   refine⟨D2,by simp -implicitDefEqProofs,?_,g2⟩
   rw[gS,aE st1,aE (D1:=[some (.lst q''),some (.im (.int many)),some (.im (.int few)),some (.lst (L.map .int)),some (.lst (S.map .int)),some (.im (.int (0+(i:Int)))),some (.im (.int v))])]
   ·exact g1
   ·simp -implicitDefEqProofs [e',hpos,Im.pl,aB,hv]
theorem q8 {n i:Nat}{x:Im} (h:(ba 0 n)[i]?=some x):i<n∧x=.int (0+(i:Int)):=by
 have hi:i<n:=by
  have:=(List.getElem?_eq_some_iff.mp h).1
  rwa [ba,List.length_map,List.length_range] at this
 rw[ba,List.getElem?_map,List.getElem?_range hi] at h
 exact⟨hi,(Option.some.inj h).symm⟩
theorem zq (lo:Int) (n:Nat):(ba lo n).length=n:=by rw[ba,List.length_map,List.length_range]
theorem q9 (n:Nat):ba 0 n=((List.range n).map fun (k:Nat)=>(k:Int)).map Im.int:=by
 rw[ba,List.map_map]
 refine List.map_congr_left fun k _=>?_
 show Im.int (0+(k:Int))=Im.int (k:Int)
 rw[Int.zero_add]
theorem zr {h:Vl} (hh:b7 1000000 h):∃ many spots h',iN [h]=some (.im (.tup [.int many,.tup (spots.map .int)]),[h'])∧RingOk many spots∧b7 800000 h':=by
 obtain⟨d1,h1,a1,a2,a3⟩:=qZ (n:=999999) (xs:=[.int 4,.int 10,.int 20,.int 20,.int 40,.int 40,.int 40,.int 200]) hh (by simp) (by decide)
 obtain⟨m1,rfl,b1,b2⟩:∃ m:Int,d1=.int m∧4≤m∧m≤200:=by
  simp at a2
  rcases a2 with rfl | rfl | rfl | rfl | rfl | rfl | rfl | rfl<;>exact⟨_,rfl,by decide,by decide⟩
 obtain⟨v1,h2,c1,c2,c3,c4⟩:=fZ (n:=999998) (m:=m1) a3 (by omega) (by omega)
 obtain⟨d2,h3,a1',a2',a3'⟩:=qZ (n:=999997) (xs:=[.int 2,.int 3,.int 4,.int 8]) c4 (by simp) (by decide)
 obtain⟨m2,rfl,b1',b2'⟩:∃ m:Int,d2=.int m∧2≤m∧m≤8:=by
  simp at a2'
  rcases a2' with rfl | rfl | rfl | rfl<;>exact⟨_,rfl,by decide,by decide⟩
 obtain⟨v2,h4,e1,e2,e3,e4⟩:=fZ (n:=999996) (m:=if m2<1+v1 then m2 else 1+v1) a3' (by split<;>omega) (by split<;>omega)
 obtain⟨q,rfl⟩:=b8 hh
 obtain⟨q1,rfl⟩:=b8 a3
 obtain⟨q2,rfl⟩:=b8 c4
 obtain⟨q3,rfl⟩:=b8 a3'
 obtain⟨q4,rfl⟩:=b8 e4
 have few1:1+v2≤8:=by
  have:v2<m2:=by revert e3;split<;>omega
  omega
 have few2:1+v2≤1+v1:=by revert e3;split<;>omega
 have sm:small (1+v1):=⟨by omega,by omega⟩
 have sm2:small (1+v2):=⟨by omega,by omega⟩
 obtain⟨D',l1,h',L,S,o5,o6,rfl,l2,l3,l4,l5,l6⟩:=pU (tg:=gN 5) (b:=gS) (xs:=ba 0 (1+v2).toNat) (jZ (1+v1) (1+v2)) (D:=[some (.lst q4),some (.im (.int (1+v1))),some (.im (.int (1+v2))),some (.lst (ba 0 (1+v1).toNat)),some (.lst []),none,none])
  ⟨.lst q4,(List.range (1+v1).toNat).map (fun (k:Nat)=>(k:Int)),[],none,none,by rw[q9];rfl,e4.mono (by omega),by
   rw[List.append_nil]
   refine List.Pairwise.map _ (fun a b h=>?_) List.nodup_range
   intro e
   have e':(a:Int)=(b:Int):=e
   exact h (by omega),by
   intro x hx
   rw[List.append_nil] at hx
   obtain⟨k,hk,rfl⟩:=List.mem_map.mp hx
   have:=List.mem_range.mp hk
   omega,by rw[List.length_map,List.length_range,List.length_nil];omega,rfl⟩
  (fun i x D hx hI=>by
   obtain⟨hi,rfl⟩:=q8 hx
   obtain⟨D1,D2,g1,g2,g3⟩:=zp (by omega) (by omega) hI
   exact⟨D1,_,D2,g1,g2,.inl rfl,g3⟩)
 rw[zq] at l2 l6
 have ndS:S.Nodup:=(List.nodup_append.mp l3).2.1
 have lenS:S.length≤8:=by omega
 have lenS':S.length≤1000:=by omega
 obtain⟨q5,rfl⟩:=b8 l2
 refine⟨1+v1,aM S,.lst q5,?_,⟨by omega,by omega,fun z=>?_,iE ndS,fun s hs=>l4 s (List.mem_append_right _ ((b6 S).mem_iff.mp hs)),by rw[(b6 S).length_eq];exact lenS⟩,l2.mono (by omega)⟩
 ·unfold iN qo
  refine cc [some (.lst q5),some (.im (.int (1+v1))),some (.im (.int (1+v2))),some (.lst (L.map .int)),some (.lst (S.map .int)),o5,o6] rfl ?_ ?_
  ·rw[aE (D1:=[some (.lst q2),some (.im (.int (1+v1))),none,none,none,none,none]),aE (D1:=[some (.lst q4),some (.im (.int (1+v1))),some (.im (.int (1+v2))),none,none,none,none]),aE (D1:=[some (.lst q4),some (.im (.int (1+v1))),some (.im (.int (1+v2))),some (.lst (ba 0 (1+v1).toNat)),none,none,none]),aE (D1:=[some (.lst q4),some (.im (.int (1+v1))),some (.im (.int (1+v2))),some (.lst (ba 0 (1+v1).toNat)),some (.lst []),none,none]),aE (gP (o:=none) (xs:=ba 0 (1+v2).toNat) ?_ l1)]
   ·simp -implicitDefEqProofs [jB,ndS,lenS',iD]
   ·simp -implicitDefEqProofs [sm2]
   ·simp -implicitDefEqProofs
   ·simp -implicitDefEqProofs [sm]
   ·simp -implicitDefEqProofs [a1',e1]
   ·simp -implicitDefEqProofs [a1,c1]
  ·simp -implicitDefEqProofs
 ·have:=(b6 S).length_eq
  rw[z,List.length_nil] at this
  omega
noncomputable def btw (many:Int) (s:List Int):List Int:=(s.zip (s.drop 1++s.take 1)).map fun p=>(p.2 - p.1 - 1) % many
noncomputable abbrev tI (s:List Int):Vl:=.im (.tup (s.map .int))
noncomputable abbrev lI (s:List Int):Vl:=.lst (s.map .int)
theorem j6 {many:Int}{s:List Int} (hm:0<many) (hl:s.length≤1000):cV [.im (.int many),tI s]=some (lI (btw many s),[.im (.int many),tI s]):=by
 have hl1:(s.drop 1).length+(s.take 1).length≤100000:=by rw[List.length_drop,List.length_take];omega
 have hl2:(s.length - 1)+min 1 s.length≤100000:=by omega
 unfold cV pZ
 refine cc [some (.im (.int many)),some (tI s)] rfl ?_ (by simp -implicitDefEqProofs)
 refine eU ((dC (xs:=(s.zip (s.drop 1++s.take 1)).map fun p=>.tup [.int p.1,.int p.2]) (o:=none) (D1:=[some (.im (.int many)),some (tI s)]) ?_ (di _ (fun p=>.int ((p.2 - p.1 - 1) % many)) _ (fun p hp=>?_) ?_)).trans ?_)
 ·have e1:bv (s.map Im.int) (some 1) none=(s.drop 1).map .int:=by rw[iK];congr 1;exact lP s 1
  have e2:bv (s.map Im.int) none (some 1)=(s.take 1).map .int:=by rw[iK];congr 1;exact pS s 1
  have e3:aY (s.map Im.int) ((s.drop 1).map Im.int++(s.take 1).map Im.int)=(s.zip (s.drop 1++s.take 1)).map fun p=>.tup [.int p.1,.int p.2]:=by rw[← List.map_append,iJ]
  simp -implicitDefEqProofs only[iZ,aa,oSl,oV,af,eSl,cQ,yl,yk,gO,gM,ym,gL,vSl,vAdd,e1,e2,e3,List.length_map,List.length_drop,List.length_take,hl2,if_true,gK,Option.bind_some,Option.map_some,List.map_cons,List.map_nil,List.cons_append,List.nil_append,List.getElem?_cons_succ,List.getElem?_cons_zero,Option.getD_some,List.replicate,Nat.sub_self,List.append_nil]
 ·exact⟨[some (.im (.int p.1)),some (.im (.int p.2)),some (.im (.int many))],_,[some (.im (.int p.1)),some (.im (.int p.2)),some (.im (.int many))],by simp -implicitDefEqProofs,by simp -implicitDefEqProofs;rfl,by simp -implicitDefEqProofs [pY,hm],by simp⟩
 ·rw[List.length_zip,List.length_append,List.length_drop,List.length_take];omega
 ·simp -implicitDefEqProofs [btw]
noncomputable def aw (t:Int):Int→List Int→List Int
 | l,[]=>[l]
 | l,g::gs=>match cE t l with
  | none=>[l]
  | some r=>l::aw t (max 0 (g - r)) gs
theorem zt (a b:Int):(if b > a then b else a)=max a b:=by
 by_cases h:b > a
 ·rw[if_pos h];omega
 ·rw[if_neg h];omega
theorem zu (a b:Int):(if b<a then b else a)=min a b:=by
 by_cases h:b<a
 ·rw[if_pos h];omega
 ·rw[if_neg h];omega
theorem zv {α:Type} (xs:List α) (x:α):atI (xs++[x]) (-1)=some x:=pT (by simp)
theorem ra {t:Int}{S T Lf:Vl}:∀ (gs:List Int) (acc:List Int) (l:Int) (o4 o5:Option Vl),T=.im (.int t)→acc.length+gs.length<1000→
  (∃ o4' o5',bu (gN 4) iL (gs.map .int) [some S,some T,some Lf,some (lI (acc++[l])),o4,o5]=some (.nx,[some S,some T,some Lf,some (lI (acc++aw t l gs)),o4',o5']))∨
  ∃ o4' o5' r,bu (gN 4) iL (gs.map .int) [some S,some T,some Lf,some (lI (acc++[l])),o4,o5]=some (.rt (tI (acc++aw t l gs)),[some S,some T,some Lf,some r,o4',o5'])
 | [],acc,l,o4,o5,_,_=>.inl ⟨o4,o5,rfl⟩
 | g::gs,acc,l,o4,o5,hT,hl=>by
  subst hT
  rw[List.length_cons] at hl
  have hat:atI ((acc++[l]).map Im.int) (-1)=some (.int l):=by rw[List.map_append];exact zv _ _
  rw[List.map_cons,bu]
  dsimp only
  rw[show gN 4 (.im (.int g)) [some S,some (.im (.int t)),some Lf,some (lI (acc++[l])),o4,o5]=some [some S,some (.im (.int t)),some Lf,some (lI (acc++[l])),some (.im (.int g)),o5] by simp -implicitDefEqProofs]
  have st1:aA 5 (av 2 G.dX (aa (oSl 1) (aa (oV (af vIx (oSl 3) (oV (dy (eC (.int 1)))))) aNil))) [some S,some (.im (.int t)),some Lf,some (lI (acc++[l])),some (.im (.int g)),o5]=some (.nx,[some S,some (.im (.int t)),some Lf,some (lI (acc++[l])),some (.im (.int g)),some (.im (fq (cE t l)))]):=by
   simp -implicitDefEqProofs [hat,l8,-List.map_append]
  show (∃ o4' o5',(iL _).bind _=_)∨_
  rw[Option.bind_some]
  unfold iL
  rw[aE st1]
  cases hr:cE t l with
  | none=>
   refine .inr ⟨some (.im (.int g)),some (.im .non),lI (acc++[l]),?_⟩
   rw[lQ (d:=tI (acc++[l])) (D1:=[some S,some (.im (.int t)),some Lf,some (lI (acc++[l])),some (.im (.int g)),some (.im .non)]) (by simp -implicitDefEqProofs [fq]),aw,hr]
   rfl
  | some r=>
   have hl2:(acc++[l]).length<100000:=by rw[List.length_append,List.length_singleton];omega
   have hl3:acc.length+1<100000:=by omega
   rw[aE (D1:=[some S,some (.im (.int t)),some Lf,some (lI (acc++[l])),some (.im (.int g)),some (.im (.int r))]) (by simp -implicitDefEqProofs [fq])]
   rw[show eJ (cT eS 3 mAppend (aa (oV (ax vMax2 (aa (oV (eC (.int 0))) (aa (oV (af vSub (oSl 4) (oSl 5))) aNil)))) aNil)) [some S,some (.im (.int t)),some Lf,some (lI (acc++[l])),some (.im (.int g)),some (.im (.int r))]=some (.nx,[some S,some (.im (.int t)),some Lf,some (lI ((acc++[l])++[max 0 (g - r)])),some (.im (.int g)),some (.im (.int r))]) by
    simp -implicitDefEqProofs [hl3,← zt]]
   have ih:=ra (t:=t) (S:=S) (T:=.im (.int t)) (Lf:=Lf) gs (acc++[l]) (max 0 (g - r)) (some (.im (.int g))) (some (.im (.int r))) rfl (by rw[List.length_append,List.length_singleton];omega)
   rw[aw,hr]
   dsimp only
   rw[show acc++l::aw t (max 0 (g - r)) gs=(acc++[l])++aw t (max 0 (g - r)) gs by simp]
   rcases ih with ⟨a,b,h⟩ | ⟨a,b,c,h⟩
   ·exact .inl ⟨a,b,h⟩
   ·exact .inr ⟨a,b,c,h⟩
theorem zw {t l:Int}{sp:List Int} (hl:sp.length<900):iM [lI sp,.im (.int t),.im (.int l)]=some (tI (aw t l sp.dropLast),[lI sp,.im (.int t),.im (.int l)]):=by
 have e1:bv (sp.map Im.int) none (some (-1))=sp.dropLast.map .int:=by rw[iK,yn]
 have hl':([]:List Int).length+sp.dropLast.length<1000:=by rw[List.length_dropLast,List.length_nil];omega
 unfold iM qd
 rcases ra (t:=t) (S:=lI sp) (T:=.im (.int t)) (Lf:=.im (.int l)) sp.dropLast [] l none none rfl hl' with ⟨a,b,h⟩ | ⟨a,b,c,h⟩
 ·refine cc [some (lI sp),some (.im (.int t)),some (.im (.int l)),some (lI ([]++aw t l sp.dropLast)),a,b] rfl ?_ (by simp -implicitDefEqProofs)
  rw[aE (D1:=[some (lI sp),some (.im (.int t)),some (.im (.int l)),some (lI ([]++[l])),none,none]) (by simp -implicitDefEqProofs),aE (gP (o:=none) (xs:=sp.dropLast.map .int) (by simp -implicitDefEqProofs [e1]) h)]
  simp -implicitDefEqProofs
 ·refine cc [some (lI sp),some (.im (.int t)),some (.im (.int l)),some c,a,b] rfl ?_ (by simp -implicitDefEqProofs)
  rw[aE (D1:=[some (lI sp),some (.im (.int t)),some (.im (.int l)),some (lI ([]++[l])),none,none]) (by simp -implicitDefEqProofs),lQ (gP (o:=none) (xs:=sp.dropLast.map .int) (by simp -implicitDefEqProofs [e1]) h)]
  simp -implicitDefEqProofs
noncomputable abbrev iI (i:Int):Vl:=.im (.int i)
noncomputable abbrev ttI (r:List (List Int)):Vl:=.im (.tup (r.map fun s=>.tup (s.map .int)))
noncomputable abbrev d7 (r:List (List Int)):Vl:=.lst (r.map fun s=>.tup (s.map .int))
noncomputable def aj (s:List Int):Int:=s.getLast?.getD 0
theorem j9 {s:List Int} (h:s≠[]):atI (s.map Im.int) (-1)=some (.int (aj s)):=by
 refine pT ?_
 rw[List.getLast?_map,aj]
 cases hs:s.getLast? with
 | none=>exact absurd (List.getLast?_eq_none_iff.mp hs) h
 | some x=>rfl
theorem rb {s:List Int} (h:s≠[]):atI (s.map Im.int) 0=some (.int (s.head?.getD 0)):=by
 cases s with
 | nil=>exact absurd rfl h
 | cons a r=>exact jN (by omega) rfl
theorem rc {sp:List Int}{t:Int} (h:sp≠[]):fP [lI sp,iI t]=some (iI (min t (aj sp)),[lI sp,iI t]):=by
 have:=j9 h
 simp -implicitDefEqProofs [fP,qc,this,← zu]
noncomputable def bg (t last:Int) (row:List Int):Bool:=match cE t (aj row) with
 | none=>false
 | some r=>decide (r+row.head?.getD 0 ≥ last)
theorem re {sp row:List Int}{t:Int} (h:sp≠[]) (hr:row≠[]):eV [lI sp,iI t,tI row]=some (.im (.bl (bg t (aj sp) row)),[lI sp,iI t,tI row]):=by
 have e1:=j9 h
 have e2:=j9 hr
 have e3:=rb hr
 cases hm:cE t (aj row) with
 | none=>simp -implicitDefEqProofs [eV,lU,e1,e2,e3,l8,hm,fq,bg]
 | some r=>
  simp -implicitDefEqProofs [eV,lU,e1,e2,e3,l8,hm,fq,bg]
noncomputable def aH (t:Int) (sp:List Int):List (List Int):=(List.range (min t (aj sp)+1).toNat).map fun (k:Nat)=>aw t (k:Int) sp.dropLast
theorem ft (t l:Int) (gs:List Int):aw t l gs≠[]:=by
 cases gs with
 | nil=>simp[aw]
 | cons g gs=>
  rw[aw]
  cases cE t l<;>simp
theorem ka (t:Int) (sp:List Int):(aH t sp).length=(min t (aj sp)+1).toNat:=by rw[aH,List.length_map,List.length_range]
theorem rf {t:Int}{sp row:List Int} (h:row∈aH t sp):row≠[]:=by
 obtain⟨k,_,rfl⟩:=List.mem_map.mp h
 exact ft _ _ _
theorem rg {sp:List Int}{t:Int} (h:sp≠[]) (hl:sp.length<900) (h0:0≤aj sp) (h1:aj sp<1000) (ht:0≤t):eZ [lI sp,iI t]=some (d7 (aH t sp),[lI sp,iI t]):=by
 have sm:small (min t (aj sp)+1):=⟨by omega,by omega⟩
 unfold eZ qf
 refine cc [some (lI sp),some (iI t)] rfl ?_ (by simp -implicitDefEqProofs)
 refine eU ((dC (xs:=(List.range (min t (aj sp)+1).toNat).map fun (k:Nat)=>.int (k:Int)) (o:=none) (D1:=[some (lI sp),some (iI t)]) ?_ (di (fun (k:Nat)=>.int (k:Int)) (fun (k:Nat)=>.tup ((aw t (k:Int) sp.dropLast).map .int)) _ (fun k hk=>?_) ?_)).trans ?_)
 ·have e:ba 0 (min t (aj sp)+1).toNat=(List.range (min t (aj sp)+1).toNat).map fun (k:Nat)=>.int (k:Int):=by rw[q9,List.map_map];rfl
  simp -implicitDefEqProofs [rc h,sm,e]
 ·exact⟨[some (iI (k:Int)),some (lI sp),some (iI t)],_,[some (iI (k:Int)),some (lI sp),some (iI t)],by simp -implicitDefEqProofs,by simp -implicitDefEqProofs;rfl,by simp -implicitDefEqProofs [qe,zw hl],by simp⟩
 ·rw[List.length_range];omega
 ·simp -implicitDefEqProofs [aH]
theorem rh {sp:List Int}{t:Int} (h:sp≠[]) (hl:sp.length<900) (h0:0≤aj sp) (h1:aj sp<1000) (ht:0≤t):e8 [lI sp,iI t]=some (d7 ((aH t sp).filter (bg t (aj sp))),[lI sp,iI t]):=by
 unfold e8 qi
 refine cc [some (lI sp),some (iI t)] rfl ?_ (by simp -implicitDefEqProofs)
 refine eU ((dC (xs:=(aH t sp).map fun s=>.tup (s.map .int)) (o:=none) (D1:=[some (lI sp),some (iI t)]) ?_ (jO _ (bg t (aj sp)) (fun s=>.tup (s.map .int)) _ _ (fun r hr=>?_) ?_)).trans ?_)
 ·simp -implicitDefEqProofs [rg h hl h0 h1 ht]
 ·have e:=re (t:=t) h (rf hr)
  refine⟨[some (tI r),some (lI sp),some (iI t)],[some (tI r),some (lI sp),some (iI t)],by simp -implicitDefEqProofs,by simp -implicitDefEqProofs [qh,e],fun _=>by simp,fun _=>⟨[some (tI r),some (lI sp),some (iI t)],by simp -implicitDefEqProofs [qg],by simp⟩⟩
 ·rw[ka,List.length_nil];omega
 ·simp -implicitDefEqProofs
theorem gX {α:Type} (f:α→Bool):∀ xs:List α,bls (xs.map fun r=>.bl (f r))=some (xs.map f)
 | []=>rfl
 | x::r=>by rw[List.map_cons,bls,gX f r];rfl
theorem zx {α:Type} (f:α→Bool) (xs:List α):(xs.map f).any id=xs.any f:=by rw[List.any_map];rfl
theorem zy {many t:Int}{s:List Int} (hm:0<many) (hm1:many<1000) (hs:s≠[]) (hl:s.length<900) (hb:btw many s≠[]) (hbl:(btw many s).length<900) (h0:0≤aj (btw many s)) (h1:aj (btw many s)<1000) (ht:0≤t):
  dD [iI many,tI s,iI t]=some ((if (aH t (btw many s)).any (bg t (aj (btw many s))) then .im .non else ttI (aH t (btw many s))),[iI many,tI s,iI t]):=by
 have c1:aO 1 [3,2] (bt (oSl 4)) (gN 0) kYes G.jP [some (iI many),some (tI s),some (iI t),some (lI (btw many s)),some (d7 (aH t (btw many s)))]=some (.lst ((aH t (btw many s)).map fun r=>.bl (bg t (aj (btw many s)) r)),[some (iI many),some (tI s),some (iI t),some (lI (btw many s)),some (d7 (aH t (btw many s)))]):=by
  refine (dC (xs:=(aH t (btw many s)).map fun s=>.tup (s.map .int)) (o:=some (4,d7 (aH t (btw many s)))) (D1:=[some (iI many),some (tI s),some (iI t),some (lI (btw many s)),some .jk]) ?_ (di _ (fun r=>.bl (bg t (aj (btw many s)) r)) _ (fun r hr=>?_) ?_)).trans ?_
  ·simp -implicitDefEqProofs
  ·have e:=re (t:=t) hb (rf hr)
   exact⟨[some (tI r),some (lI (btw many s)),some (iI t)],_,[some (tI r),some (lI (btw many s)),some (iI t)],by simp -implicitDefEqProofs,by simp -implicitDefEqProofs;rfl,by simp -implicitDefEqProofs [jP,e],by simp⟩
  ·rw[ka];omega
  ·simp -implicitDefEqProofs
 have hn:(aH t (btw many s)).length≤100000:=by rw[ka];omega
 have st1:aA 3 (av 2 G.cV (aa (oSl 0) (aa (oSl 1) aNil))) [some (iI many),some (tI s),some (iI t),none,none]=some (.nx,[some (iI many),some (tI s),some (iI t),some (lI (btw many s)),none]):=by
  simp -implicitDefEqProofs [j6 hm (Nat.le_of_lt (Nat.lt_trans hl (by decide)))]
 have st2:aA 4 (av 2 G.eZ (aa (oSl 3) (aa (oSl 2) aNil))) [some (iI many),some (tI s),some (iI t),some (lI (btw many s)),none]=some (.nx,[some (iI many),some (tI s),some (iI t),some (lI (btw many s)),some (d7 (aH t (btw many s)))]):=by
  simp -implicitDefEqProofs [rg hb hbl h0 h1 ht]
 have st3:bC (oV (ax vAny (aa (oV (aO 1 [3,2] (bt (oSl 4)) (gN 0) kYes G.jP)) aNil))) [some (iI many),some (tI s),some (iI t),some (lI (btw many s)),some (d7 (aH t (btw many s)))]=some ((aH t (btw many s)).any (bg t (aj (btw many s))),[some (iI many),some (tI s),some (iI t),some (lI (btw many s)),some (d7 (aH t (btw many s)))]):=by
  simp -implicitDefEqProofs only[bC,oV,ax,aa,c1,gK,Option.bind_some,Option.map_some,gO,gL,gM,vAny,gX,zx,iC]
 unfold dD ql
 refine cc [some (iI many),some (tI s),some (iI t),some (lI (btw many s)),some (d7 (aH t (btw many s)))] rfl ?_ (by simp -implicitDefEqProofs)
 refine (aE st1).trans ((aE st2).trans ?_)
 cases hv:(aH t (btw many s)).any (bg t (aj (btw many s))) with
 | true=>
  rw[hv] at st3
  rw[if_pos rfl]
  exact lQ ((pW st3).trans (by simp -implicitDefEqProofs))
 | false=>
  rw[hv] at st3
  rw[if_neg Bool.false_ne_true]
  exact (aE ((lR st3).trans (by simp -implicitDefEqProofs;rfl))).trans (by simp -implicitDefEqProofs)
theorem d8 (many:Int) (s:List Int):(btw many s).length=s.length:=by
 rw[btw,List.length_map,List.length_zip,List.length_append,List.length_drop,List.length_take]
 omega
theorem fu {many g:Int}{s:List Int} (hm:0<many) (h:g∈btw many s):0≤g∧g<many:=by
 obtain⟨p,_,rfl⟩:=List.mem_map.mp h
 exact⟨Int.emod_nonneg _ (by omega),Int.emod_lt_of_pos _ hm⟩
theorem gY {s:List Int} (h:s≠[]):aj s∈s:=by
 rw[aj]
 cases hs:s.getLast? with
 | none=>exact absurd (List.getLast?_eq_none_iff.mp hs) h
 | some x=>exact List.mem_of_getLast? hs
theorem rj {many:Int}{s:List Int}{i:Nat}{x y:Int} (hx:s[i]?=some x) (hy:s[(i+1) % s.length]?=some y):(btw many s)[i]?=some ((y - x - 1) % many):=by
 have hi:i<s.length:=(List.getElem?_eq_some_iff.mp hx).1
 have h2:(s.drop 1++s.take 1)[i]?=some y:=by
  by_cases h:i+1<s.length
  ·rw[Nat.mod_eq_of_lt h] at hy
   rw[List.getElem?_append_left (by rw[List.length_drop];omega),List.getElem?_drop,Nat.add_comm]
   exact hy
  ·have e:i+1=s.length:=by omega
   rw[e,Nat.mod_self] at hy
   rw[List.getElem?_append_right (by rw[List.length_drop];omega),List.length_drop,show i - (s.length - 1)=0 by omega,List.getElem?_take,if_pos (by omega)]
   exact hy
 rw[btw,List.getElem?_map,show (s.zip (s.drop 1++s.take 1))[i]?=some (x,y) by rw[List.getElem?_zip_eq_some];exact⟨hx,h2⟩]
 rfl
noncomputable def rmI (t l:Int):Int:=if l * 3≤t then t - l * 2 else (t - l) / 2
theorem gZ (t l:Int):cE t l=if l > t then none else some (rmI t l):=by
 unfold cE rmI
 split
 ·rfl
 ·split<;>rfl
noncomputable def stp (l r:Int):Int:=l+r+(if r<l then r else l)
theorem g6 {t l:Int} (h0:0≤l) (h1:l≤t):stp l (rmI t l)≤t∧0≤rmI t l∧rmI t l≤t:=by
 unfold stp rmI
 split
 ·split<;>omega
 ·split<;>omega
theorem ma {t l r:Int} (h0:0≤l) (h1:l≤t) (hr:0≤r) (h:stp l r≤t):r≤rmI t l:=by
 revert h
 unfold stp rmI
 split
 ·split<;>omega
 ·split<;>omega
@[simp] theorem AM (x:List Im) (ds:List Vl):ims (.lst x::ds)=none:=rfl
theorem rk {t:Int}:∀ {gs:List Int}{l:Int},0≤l→0≤aj (aw t l gs)
 | [],l,h=>by simpa [aw,aj] using h
 | g::gs,l,h=>by
  rw[aw]
  cases cE t l with
  | none=>simpa [aj] using h
  | some r=>
   have:=rk (t:=t) (gs:=gs) (l:=max 0 (g - r)) (by omega)
   dsimp only
   rw[aj,List.getLast?_cons_of_ne_nil (ft _ _ _)]
   exact this
theorem rm {t:Int}:∀ {gs:List Int}{l:Int},aj (aw t l gs)≤t→(aw t l gs).length=gs.length+1
 | [],l,h=>by simp[aw]
 | g::gs,l,h=>by
  rw[aw,gZ] at h ⊢
  by_cases h1:l > t
  ·rw[if_pos h1] at h
   simp[aj] at h
   omega
  ·rw[if_neg h1] at h ⊢
   dsimp only at h ⊢
   rw[aj,List.getLast?_cons_of_ne_nil (ft _ _ _)] at h
   rw[List.length_cons,rm h,List.length_cons]
theorem md (t:Int):∀ (gs:List Int) (l:Int),(aw t l gs).length≤gs.length+1
 | [],l=>by simp[aw]
 | g::gs,l=>by
  rw[aw]
  cases cE t l with
  | none=>simp
  | some r=>have:=md t gs (max 0 (g - r));simp;omega
theorem g7 {many:Int}{s:List Int} (h:s≠[]):btw many s≠[]:=by
 have h1:=d8 many s
 have h2:=List.length_pos_iff.mpr h
 exact List.length_pos_iff.mp (by omega)
noncomputable def Rch:List Int→Int→Int→Int→Int→Prop
 | [],a,m,r,m'=>r=a∧m'=m
 | g::gs,a,m,r,m'=>∃ b,0≤b∧b≤g∧Rch gs (g - b) (max m (stp a b)) r m'
theorem Rch.le:∀ {gs:List Int}{a m r m':Int},Rch gs a m r m'→m≤m'
 | [],a,m,r,m',h=>by have:=h.2;omega
 | g::gs,a,m,r,m',⟨b,_,_,h⟩=>by have:=h.le;omega
theorem f6 {l a r b:Int} (h0:0≤l) (h1:l≤a) (h2:0≤r) (h3:r≤b):stp l r≤stp a b:=by
 unfold stp
 split<;>split<;>omega
theorem rn {t l a:Int} (h0:0≤l) (h1:l≤a) (h2:a≤t):rmI t a≤rmI t l:=by
 obtain⟨e1,e2,e3⟩:=g6 (t:=t) (l:=a) (by omega) h2
 refine ma h0 (by omega) e2 ?_
 exact Int.le_trans (f6 h0 h1 e2 (Int.le_refl _)) e1
theorem zz (t l:Int):aj (aw t l [])=l:=rfl
theorem kb {t l g:Int}{gs:List Int} (h:l > t):aw t l (g::gs)=[l]:=by rw[aw,gZ,if_pos h]
theorem fv {t l g:Int}{gs:List Int} (h:¬ l > t):aw t l (g::gs)=l::aw t (max 0 (g - rmI t l)) gs:=by rw[aw,gZ,if_neg h]
theorem iX {x:Int}{s:List Int} (h:s≠[]):aj (x::s)=aj s:=by rw[aj,List.getLast?_cons_of_ne_nil h];rfl
theorem me (t l:Int) (gs:List Int):(aw t l gs).head?.getD 0=l:=by
 cases gs with
 | nil=>rfl
 | cons g gs=>
  by_cases h:l > t
  ·rw[kb h];rfl
  ·rw[fv h];rfl
theorem rp {t:Int}:∀ {gs:List Int}{l m:Int},(∀ g∈gs,0≤g)→m≤t→0≤l→aj (aw t l gs)≤t→∃ m',Rch gs l m (aj (aw t l gs)) m'∧m'≤t
 | [],l,m,_,hm,_,_=>⟨m,⟨rfl,rfl⟩,hm⟩
 | g::gs,l,m,hg,hm,h0,hl=>by
  by_cases h:l > t
  ·rw[kb h] at hl
   have:aj [l]=l:=rfl
   omega
  ·rw[fv h,iX (ft _ _ _)] at hl ⊢
   have g0:=hg g (.head _)
   obtain⟨e1,e2,e3⟩:=g6 (t:=t) h0 (by omega)
   have hs:stp l (g - max 0 (g - rmI t l))≤t:=Int.le_trans (f6 h0 (Int.le_refl _) (by omega) (by omega)) e1
   obtain⟨m',k1,k2⟩:=rp (m:=max m (stp l (g - max 0 (g - rmI t l)))) (fun x hx=>hg x (.tail _ hx)) (by omega) (show 0≤max 0 (g - rmI t l) by omega) hl
   refine⟨m',⟨g - max 0 (g - rmI t l),by omega,by omega,?_⟩,k2⟩
   rw[show g - (g - max 0 (g - rmI t l))=max 0 (g - rmI t l) by omega]
   exact k1
theorem rq {t:Int}:∀ {gs:List Int}{l a m r m':Int},Rch gs a m r m'→m'≤t→0≤l→l≤a→r≤t→0≤aj (aw t l gs)∧aj (aw t l gs)≤r∧a≤t
 | [],l,a,m,r,m',⟨e1,_⟩,_,h0,h1,hr=>by rw[zz];omega
 | g::gs,l,a,m,r,m',⟨b,b0,b1,k⟩,hm,h0,h1,hr=>by
  have hs:stp a b≤t:=by have:=k.le;omega
  have ha:a≤t:=by
   have:a≤stp a b:=by unfold stp;split<;>omega
   omega
  have hb:=ma (t:=t) (l:=a) (r:=b) (by omega) ha b0 hs
  have hc:=rn (t:=t) h0 h1 ha
  rw[fv (by omega),iX (ft _ _ _)]
  obtain⟨x1,x2,_⟩:=rq (l:=max 0 (g - rmI t l)) k hm (by omega) (by omega) hr
  exact⟨x1,x2,ha⟩
noncomputable def fw (t last:Int) (gs:List Int):Prop:=∃ f r m,0≤f∧f≤last∧Rch gs f 0 r m∧m≤t∧stp r (last - f)≤t
theorem Rch.pos:∀ {gs:List Int}{a m r m':Int},(∀ g∈gs,0≤g)→0≤a→Rch gs a m r m'→0≤r
 | [],a,m,r,m',_,h,⟨e,_⟩=>by omega
 | g::gs,a,m,r,m',hg,h,⟨b,b0,b1,k⟩=>Rch.pos (fun x hx=>hg x (.tail _ hx)) (by omega) k
theorem mf {t:Int}{sp:List Int} (hsp:∀ g∈sp,0≤g) (hl:0≤aj sp) (ht:0≤t):(aH t sp).any (bg t (aj sp))=true↔fw t (aj sp) sp.dropLast:=by
 have hgs:∀ g∈sp.dropLast,0≤g:=fun g hg=>hsp g (List.dropLast_subset _ hg)
 constructor
 ·intro h
  obtain⟨row,hr,hg⟩:=List.any_eq_true.mp h
  obtain⟨k,hk,rfl⟩:=List.mem_map.mp hr
  have hk':=List.mem_range.mp hk
  rw[bg,gZ,me] at hg
  by_cases h1:aj (aw t (k:Int) sp.dropLast) > t
  ·rw[if_pos h1] at hg;cases hg
  ·rw[if_neg h1] at hg
   have hg:=of_decide_eq_true hg
   obtain⟨m,k1,k2⟩:=rp (t:=t) (gs:=sp.dropLast) (l:=(k:Int)) (m:=0) hgs ht (by omega) (by omega)
   have hp:=rk (t:=t) (gs:=sp.dropLast) (l:=(k:Int)) (by omega)
   obtain⟨e1,e2,e3⟩:=g6 (t:=t) hp (by omega)
   exact⟨k,_,m,by omega,by omega,k1,k2,Int.le_trans (f6 hp (Int.le_refl _) (by omega) (by omega)) e1⟩
 ·rintro⟨f,r,m,f0,f1,k,hm,hs⟩
  have r0:=Rch.pos hgs f0 k
  have hr:r≤t:=by
   have:r≤stp r (aj sp - f):=by unfold stp;split<;>omega
   omega
  obtain⟨x1,x2,x3⟩:=rq (t:=t) (l:=f) k hm f0 (Int.le_refl _) hr
  refine List.any_eq_true.mpr ⟨aw t f sp.dropLast,List.mem_map.mpr ⟨f.toNat,List.mem_range.mpr (by omega),by rw[Int.toNat_of_nonneg f0]⟩,?_⟩
  rw[bg,gZ,if_neg (by omega),me]
  have h1:=ma (t:=t) (l:=r) (r:=aj sp - f) r0 hr (by omega) hs
  have h2:=rn (t:=t) x1 x2 hr
  exact decide_eq_true (by omega)
theorem zA {many last:Int}{gs:List Int} (hg:∀ g∈gs,0≤g∧g<many) (hl:0≤last) (hl1:last<many):fw (many - 1) last gs:=by
 have key:∀ (gs:List Int) (m:Int),(∀ g∈gs,0≤g∧g<many)→m≤many - 1→∃ m',Rch gs 0 m 0 m'∧m'≤many - 1:=by
  intro gs
  induction gs with
  | nil=>intro m _ h;exact⟨m,⟨rfl,rfl⟩,h⟩
  | cons g gs ih=>
   intro m hg hm
   obtain⟨g0,g1⟩:=hg g (.head _)
   have e:stp 0 g=g:=by unfold stp;split<;>omega
   obtain⟨m',k1,k2⟩:=ih (max m (stp 0 g)) (fun x hx=>hg x (.tail _ hx)) (by omega)
   exact⟨m',⟨g,g0,Int.le_refl _,by rw[Int.sub_self];exact k1⟩,k2⟩
 obtain⟨m,k1,k2⟩:=key gs 0 hg (by omega)
 exact⟨0,0,m,Int.le_refl _,hl,k1,k2,by have e:stp 0 (last - 0)=last:=by { unfold stp;split<;>omega };omega⟩
noncomputable def AN (g:Int):List Int:=(List.range (g+1).toNat).map fun (k:Nat)=>(k:Int)
theorem mh {α:Type} (p:α→Bool):∀ l:List α,(!(l.filter p).isEmpty)=l.any p
 | []=>rfl
 | x::r=>by
  rw[List.filter_cons,List.any_cons]
  cases h:p x with
  | true=>rw[if_pos rfl];rfl
  | false=>rw[if_neg Bool.false_ne_true,mh p r];rfl
noncomputable abbrev bx (many:Int) (s:List Int) (t:Int):Bool:=(aH t (btw many s)).any (bg t (aj (btw many s)))
theorem rz {many:Int}{s:List Int} (R:RingOk many s):∃ l:Int,ck [iI many,tI s]=some (iI l,[iI many,tI s])∧0≤l∧l<many∧bx many s l=true∧(l=0∨bx many s (l - 1)=false):=by
 have hm:=R.m0
 have hm1:=R.m1
 have hf:=R.few
 have hb:=g7 (many:=many) R.ne
 have hbl:(btw many s).length<900:=by rw[d8];omega
 obtain⟨b0,b1⟩:=fu (by omega) (gY hb)
 have hin:∀ g∈btw many s,0≤g∧g<many:=fun g hg=>fu (by omega) hg
 have hmost:bx many s (many - 1)=true:=(mf (fun g hg=>(hin g hg).1) b0 (by omega)).mpr (zA (fun g hg=>hin g (List.dropLast_subset _ hg)) b0 b1)
 obtain⟨D',h,l,o4,o5,rfl,h0,h1,h2,h3⟩:=yp (c:=lV) (b:=qj) (fun n D=>∃ (l e:Int) (o5:Option Vl),D=[some (iI many),some (tI s),some (lI (btw many s)),some (iI l),some (iI e),o5]∧0≤l∧l≤e∧e<many∧bx many s e=true∧(l=0∨bx many s (l - 1)=false)∧n=(e - l).toNat) (fun D=>∃ (l:Int) (o4 o5:Option Vl),D=[some (iI many),some (tI s),some (lI (btw many s)),some (iI l),o4,o5]∧0≤l∧l<many∧bx many s l=true∧(l=0∨bx many s (l - 1)=false))
  (fun n D ⟨l,e,o5,hD,a1,a2,a3,f1,f2,a4⟩=>by
   subst hD
   refine⟨decide (l<e),[some (iI many),some (tI s),some (lI (btw many s)),some (iI l),some (iI e),o5],by simp -implicitDefEqProofs [lV],fun hh=>?_,fun hh=>⟨l,some (iI e),o5,rfl,a1,by omega,by have:=of_decide_eq_false hh;rw[show l=e by omega];exact f1,f2⟩⟩
   have hh:=of_decide_eq_true hh
   have m0:0≤(l+e) / 2:=by omega
   have m1:(l+e) / 2<e:=by omega
   have m2:l≤(l+e) / 2:=by omega
   have er:=rh (t:=(l+e) / 2) hb hbl b0 (by omega) m0
   have s1:aA 5 (af vDiv (oV (af vAdd (oSl 3) (oSl 4))) (oV (eC (.int 2)))) [some (iI many),some (tI s),some (lI (btw many s)),some (iI l),some (iI e),o5]=some (.nx,[some (iI many),some (tI s),some (lI (btw many s)),some (iI l),some (iI e),some (iI ((l+e) / 2))]):=by
    simp -implicitDefEqProofs
   have s2:bC (oV (av 2 G.e8 (aa (oSl 2) (aa (oSl 5) aNil)))) [some (iI many),some (tI s),some (lI (btw many s)),some (iI l),some (iI e),some (iI ((l+e) / 2))]=some (!((aH ((l+e) / 2) (btw many s)).filter (bg ((l+e) / 2) (aj (btw many s)))).isEmpty,[some (iI many),some (tI s),some (lI (btw many s)),some (iI l),some (iI e),some (iI ((l+e) / 2))]):=by
    simp -implicitDefEqProofs [er]
   rw[mh] at s2
   cases hv:bx many s ((l+e) / 2) with
   | true=>
    rw[show (aH ((l+e) / 2) (btw many s)).any (bg ((l+e) / 2) (aj (btw many s)))=true from hv] at s2
    exact⟨.nx,[some (iI many),some (tI s),some (lI (btw many s)),some (iI l),some (iI ((l+e) / 2)),some (iI ((l+e) / 2))],(aE s1).trans ((pW s2).trans rfl),.inl rfl,((l+e) / 2 - l).toNat,by omega,l,(l+e) / 2,_,rfl,a1,m2,by omega,hv,f2,rfl⟩
   | false=>
    rw[show (aH ((l+e) / 2) (btw many s)).any (bg ((l+e) / 2) (aj (btw many s)))=false from hv] at s2
    exact⟨.nx,[some (iI many),some (tI s),some (lI (btw many s)),some (iI ((l+e) / 2+1)),some (iI e),some (iI ((l+e) / 2))],(aE s1).trans ((lR s2).trans rfl),.inl rfl,(e - ((l+e) / 2+1)).toNat,by omega,(l+e) / 2+1,e,_,rfl,by omega,by omega,a3,f1,.inr (by rw[show (l+e) / 2+1 - 1=(l+e) / 2 by omega];exact hv),rfl⟩)
  1000000 (many - 1 - 0).toNat [some (iI many),some (tI s),some (lI (btw many s)),some (iI 0),some (iI (many - 1)),none] ⟨0,many - 1,none,rfl,by omega,by omega,by omega,hmost,.inl rfl,rfl⟩ (by omega)
 refine⟨l,?_,h0,h1,h2,h3⟩
 unfold ck qk
 refine cc [some (iI many),some (tI s),some (lI (btw many s)),some (iI l),o4,o5] rfl ?_ rfl
 exact (aE (D1:=[some (iI many),some (tI s),some (lI (btw many s)),none,none,none]) (by simp -implicitDefEqProofs [j6 (many:=many) (s:=s) (by omega) (by omega)])).trans ((aE (D1:=[some (iI many),some (tI s),some (lI (btw many s)),some (iI 0),none,none]) rfl).trans ((aE (D1:=[some (iI many),some (tI s),some (lI (btw many s)),some (iI 0),some (iI (many - 1)),none]) (by simp -implicitDefEqProofs)).trans ((aE h).trans rfl)))
noncomputable def rot (row:List Int):List Int:=row.drop 1++row.take 1
noncomputable def rgt (sp row:List Int):List Int:=(sp.zip (rot row)).map fun p=>p.1 - p.2
noncomputable def shr (sp row:List Int):List (Int×Int):=row.zip (rgt sp row)
noncomputable abbrev pI (ps:List (Int×Int)):Vl:=.im (.tup (ps.map fun p=>.tup [.int p.1,.int p.2]))
theorem zB {many:Int}{s:List Int} (R:RingOk many s):∃ (l:Int) (row:List Int),ck [iI many,tI s]=some (iI l,[iI many,tI s])∧0≤l∧l<many∧(l=0∨bx many s (l - 1)=false)∧row∈aH l (btw many s)∧bg l (aj (btw many s)) row=true∧
  fb [iI many,tI s]=some (pI (shr (btw many s) row),[iI many,tI s]):=by
 obtain⟨l,e1,l0,l1,f1,f2⟩:=rz R
 have hm:=R.m0
 have hm1:=R.m1
 have hf:=R.few
 have hb:=g7 (many:=many) R.ne
 have hbl:(btw many s).length<900:=by rw[d8];omega
 obtain⟨b0,b1⟩:=fu (by omega) (gY hb)
 have er:=rh (t:=l) hb hbl b0 (by omega) l0
 have hne:(aH l (btw many s)).filter (bg l (aj (btw many s)))≠[]:=fun e=>by
  have:=mh (bg l (aj (btw many s))) (aH l (btw many s))
  rw[e] at this
  rw[show (aH l (btw many s)).any (bg l (aj (btw many s)))=true from f1] at this
  cases this
 obtain⟨row,rest,hrow⟩:=List.exists_cons_of_ne_nil hne
 have hmem:row∈(aH l (btw many s)).filter (bg l (aj (btw many s))):=by rw[hrow];exact .head _
 obtain⟨hm2,hg⟩:=List.mem_filter.mp hmem
 refine⟨l,row,e1,l0,l1,f2,hm2,hg,?_⟩
 rw[hrow] at er
 have hat:atI ((row::rest).map fun s=>Im.tup (s.map .int)) 0=some (.tup (row.map .int)):=jN (by omega) rfl
 have hrl:row.length≤900:=by
  obtain⟨k,_,rfl⟩:=List.mem_map.mp hm2
  have:=md l (btw many s).dropLast (k:Int)
  rw[List.length_dropLast] at this
  omega
 have hl2:(row.length - 1)+min 1 row.length≤100000:=by omega
 have c1:bv (row.map Im.int) (some 1) none=(row.drop 1).map .int:=by rw[iK];congr 1;exact lP row 1
 have c2:bv (row.map Im.int) none (some 1)=(row.take 1).map .int:=by rw[iK];congr 1;exact pS row 1
 have c3:aY ((btw many s).map Im.int) ((row.drop 1).map Im.int++(row.take 1).map Im.int)=((btw many s).zip (rot row)).map fun p=>.tup [.int p.1,.int p.2]:=by rw[← List.map_append,iJ];rfl
 have s3:aO 2 [] (iZm (aa (oSl 2) (aa (oV (af vAdd (oV (eSl (oSl 3) (cQ (eC (.int 1))) pNone)) (oV (eSl (oSl 3) pNone (cQ (eC (.int 1))))))) aNil))) (gT 2 (a9 (gN 0) (a9 (gN 1) gNil'))) kYes G.qp [some (iI many),some (tI s),some (lI (btw many s)),some (tI row),none]=some (lI (rgt (btw many s) row),[some (iI many),some (tI s),some (lI (btw many s)),some (tI row),none]):=by
  refine (dC (xs:=((btw many s).zip (rot row)).map fun p=>.tup [.int p.1,.int p.2]) (o:=some (2,lI (btw many s))) (D1:=[some (iI many),some (tI s),some .jk,some (tI row),none]) ?_ (di _ (fun p=>.int (p.1 - p.2)) _ (fun p hp=>?_) ?_)).trans ?_
  ·simp -implicitDefEqProofs [c1,c2,hl2]
   rw[← c3,List.map_drop,List.map_take,List.drop_one]
  ·exact⟨[some (iI p.1),some (iI p.2)],_,[some (iI p.1),some (iI p.2)],rfl,rfl,rfl,rfl⟩
  ·rw[List.length_zip,d8];omega
  ·simp -implicitDefEqProofs [rgt]
 have c4:aY (row.map Im.int) ((rgt (btw many s) row).map Im.int)=(shr (btw many s) row).map fun p=>.tup [.int p.1,.int p.2]:=iJ ..
 unfold fb qq
 refine cc [some (iI many),some (tI s),some (lI (btw many s)),some (tI row),some (lI (rgt (btw many s) row))] rfl ?_ rfl
 refine (aE (D1:=[some (iI many),some (tI s),some (lI (btw many s)),none,none]) (by simp -implicitDefEqProofs [j6 (many:=many) (s:=s) (by omega) (by omega)])).trans ((aE (D1:=[some (iI many),some (tI s),some (lI (btw many s)),some (tI row),none]) ?_).trans ((aE (pV s3 (show 4<5 by decide))).trans ?_))
 ·simp -implicitDefEqProofs only[List.map_cons] at hat
  simp -implicitDefEqProofs [e1,er,hat]
 ·simp -implicitDefEqProofs [c4]
noncomputable def shG (t f last:Int):Int→List Int→List (Int×Int)
 | l,[]=>[(l,last - f)]
 | l,g::gs=>(l,g - max 0 (g - rmI t l))::shG t f last (max 0 (g - rmI t l)) gs
theorem rA (t f last:Int):∀ (gs:List Int) (l:Int),(shG t f last l gs).length=gs.length+1
 | [],l=>rfl
 | g::gs,l=>by rw[shG,List.length_cons,rA t f last gs,List.length_cons]
theorem mi {t l g:Int}{gs:List Int} (h:aj (aw t l (g::gs))≤t):¬ l > t:=fun h1=>by
 rw[kb h1] at h
 have:aj [l]=l:=rfl
 omega
theorem rB (t l:Int) (gs:List Int):∃ r,aw t l gs=l::r:=by
 cases gs with
 | nil=>exact⟨[],rfl⟩
 | cons g gs=>
  by_cases h:l > t
  ·exact⟨[],kb h⟩
  ·exact⟨_,fv h⟩
theorem rC {t f last:Int}:∀ (gs:List Int) (l:Int),aj (aw t l gs)≤t→
  (aw t l gs).zip (((gs++[last]).zip ((aw t l gs).drop 1++[f])).map fun p=>p.1 - p.2)=shG t f last l gs
 | [],l,_=>rfl
 | g::gs,l,h=>by
  have hn:=mi h
  rw[fv hn,iX (ft _ _ _)] at h
  have ih:=rC (f:=f) (last:=last) gs (max 0 (g - rmI t l)) h
  obtain⟨r,hr⟩:=rB t (max 0 (g - rmI t l)) gs
  rw[fv hn,shG,← ih,hr]
  rfl
theorem zC {t l:Int}{sp:List Int} (hs:sp≠[]) (h:aj (aw t l sp.dropLast)≤t):shr sp (aw t l sp.dropLast)=shG t l (aj sp) l sp.dropLast:=by
 rw[← rC sp.dropLast l h]
 unfold shr rgt rot
 have e:sp=sp.dropLast++[aj sp]:=by
  have h1:=List.dropLast_concat_getLast hs
  have h2:aj sp=sp.getLast hs:=by
   rw[aj,List.getLast?_eq_some_getLast hs];rfl
  rw[h2,h1]
 obtain⟨r,hr⟩:=rB t l sp.dropLast
 rw[hr]
 show (l::r).zip ((sp.zip (r++[l])).map _)=(l::r).zip (((sp.dropLast++[aj sp]).zip (r++[l])).map _)
 rw[← e]
theorem rD {t f last:Int} (hf:0≤last - f):∀ (gs:List Int) (l:Int),(∀ g∈gs,0≤g)→0≤l→aj (aw t l gs)≤t→last - f≤rmI t (aj (aw t l gs))→∀ p∈shG t f last l gs,0≤p.1∧0≤p.2∧stp p.1 p.2≤t
 | [],l,_,h0,h1,h2,p,hp=>by
  cases List.mem_singleton.mp hp
  have h1:l≤t:=h1
  have h2:last - f≤rmI t l:=h2
  exact⟨h0,hf,Int.le_trans (f6 h0 (Int.le_refl _) hf h2) (g6 h0 h1).1⟩
 | g::gs,l,hg,h0,h1,h2,p,hp=>by
  have hn:=mi h1
  rw[fv hn,iX (ft _ _ _)] at h1 h2
  have g0:=hg g (.head _)
  obtain⟨e1,e2,e3⟩:=g6 (t:=t) h0 (by omega)
  rcases List.mem_cons.mp hp with rfl | hp
  ·exact⟨h0,by show 0≤g - max 0 (g - rmI t l);omega,Int.le_trans (f6 h0 (Int.le_refl _) (by show 0≤g - max 0 (g - rmI t l);omega) (by show g - max 0 (g - rmI t l)≤rmI t l;omega)) e1⟩
  ·exact rD hf gs _ (fun x hx=>hg x (.tail _ hx)) (by omega) h1 h2 p hp
theorem rE {t f last T:Int}:∀ (gs:List Int) (l m:Int),(∀ g∈gs,0≤g)→0≤l→aj (aw t l gs)≤t→m≤T→(∀ p∈shG t f last l gs,stp p.1 p.2≤T)→∃ m',m'≤T∧Rch gs l m (aj (aw t l gs)) m'∧stp (aj (aw t l gs)) (last - f)≤T
 | [],l,m,_,_,_,hm,hp=>⟨m,hm,⟨rfl,rfl⟩,hp _ (.head _)⟩
 | g::gs,l,m,hg,h0,h1,hm,hp=>by
  have hn:=mi h1
  rw[fv hn,iX (ft _ _ _)] at h1 ⊢
  have g0:=hg g (.head _)
  obtain⟨e1,e2,e3⟩:=g6 (t:=t) h0 (by omega)
  have hs:=hp _ (.head _)
  obtain⟨m',k1,k2,k3⟩:=rE (f:=f) (last:=last) gs (max 0 (g - rmI t l)) (max m (stp l (g - max 0 (g - rmI t l)))) (fun x hx=>hg x (.tail _ hx)) (by omega) h1 (by have hs:stp l (g - max 0 (g - rmI t l))≤T:=hs;omega) fun p hq=>hp p (.tail _ hq)
  refine⟨m',k1,⟨g - max 0 (g - rmI t l),by omega,by omega,?_⟩,k3⟩
  rw[show g - (g - max 0 (g - rmI t l))=max 0 (g - rmI t l) by omega]
  exact k2
theorem zD {s:List Int}{i:Nat}{y:Int} (hi:i<s.length) (hy:s[(i+1) % s.length]?=some y):(rot s)[i]?=some y:=by
 unfold rot
 by_cases h:i+1<s.length
 ·rw[Nat.mod_eq_of_lt h] at hy
  rw[List.getElem?_append_left (by rw[List.length_drop];omega),List.getElem?_drop,Nat.add_comm]
  exact hy
 ·have e:i+1=s.length:=by omega
  rw[e,Nat.mod_self] at hy
  rw[List.getElem?_append_right (by rw[List.length_drop];omega),List.length_drop,show i - (s.length - 1)=0 by omega,List.getElem?_take,if_pos (by omega)]
  exact hy
theorem zE {sp row:List Int} (hl:row.length=sp.length) {j:Nat}{p q:Int×Int} (hp:(shr sp row)[j]?=some p) (hq:(shr sp row)[(j+1) % row.length]?=some q):sp[j]?=some (p.2+q.1):=by
 unfold shr at hp hq
 obtain⟨p1,p2⟩:=List.getElem?_zip_eq_some.mp hp
 obtain⟨q1,q2⟩:=List.getElem?_zip_eq_some.mp hq
 have hj:j<row.length:=(List.getElem?_eq_some_iff.mp p1).1
 have hr:=zD hj q1
 unfold rgt at p2
 rw[List.getElem?_map] at p2
 obtain⟨w,w1,w2⟩:=Option.map_eq_some_iff.mp p2
 obtain⟨w3,w4⟩:=List.getElem?_zip_eq_some.mp w1
 rw[hr] at w4
 have w4:=Option.some.inj w4
 rw[w3]
 congr 1
 omega
structure Told (many:Int) (s:List Int) (l:Int) (ps:List (Int×Int)):Prop where
 len:ps.length=s.length
 pos:∀ p∈ps,0≤p.1∧0≤p.2
 gap:∀ (j:Nat) (p q:Int×Int),ps[j]?=some p→ps[(j+1) % s.length]?=some q→(btw many s)[j]?=some (p.2+q.1)
 most:∀ p∈ps,stp p.1 p.2≤l
 some:∃ p∈ps,stp p.1 p.2=l
theorem zF {many:Int}{s:List Int} (R:RingOk many s):∃ (l:Int) (ps:List (Int×Int)),ck [iI many,tI s]=some (iI l,[iI many,tI s])∧fb [iI many,tI s]=some (pI ps,[iI many,tI s])∧Told many s l ps:=by
 obtain⟨l,row,e1,l0,l1,f2,hm2,hg,e2⟩:=zB R
 have hm:=R.m0
 have hb:=g7 (many:=many) R.ne
 obtain⟨b0,b1⟩:=fu (by omega) (gY hb)
 have hsp:∀ g∈btw many s,0≤g:=fun g hg=>(fu (by omega) hg).1
 have hgs:∀ g∈(btw many s).dropLast,0≤g:=fun g hg=>hsp g (List.dropLast_subset _ hg)
 obtain⟨k,hk,hrow⟩:=List.mem_map.mp hm2
 have hk':=List.mem_range.mp hk
 subst hrow
 rw[bg,gZ,me] at hg
 have h1:aj (aw l (k:Int) (btw many s).dropLast)≤l:=Int.not_lt.mp fun h=>by rw[if_pos h] at hg;cases hg
 rw[if_neg (by omega)] at hg
 have hg:=of_decide_eq_true hg
 have hsh:=zC hb h1
 have hfull:=rm h1
 have hspos:=List.length_pos_iff.mpr R.ne
 have hlen:(aw l (k:Int) (btw many s).dropLast).length=(btw many s).length:=by rw[hfull,List.length_dropLast,d8];omega
 have hall:=rD (t:=l) (f:=(k:Int)) (last:=aj (btw many s)) (by omega) (btw many s).dropLast (k:Int) hgs (by omega) h1 (by omega)
 rw[← hsh] at hall
 have hL:(shr (btw many s) (aw l (k:Int) (btw many s).dropLast)).length=s.length:=by rw[hsh,rA,List.length_dropLast,d8];omega
 refine⟨l,_,e1,e2,hL,fun p hp=>⟨(hall p hp).1,(hall p hp).2.1⟩,fun j p q hp hq=>zE hlen hp (by rw[hlen,d8];exact hq),fun p hp=>(hall p hp).2.2,?_⟩
 refine Classical.byContradiction fun hno=>?_
 have hlt:∀ p∈shr (btw many s) (aw l (k:Int) (btw many s).dropLast),stp p.1 p.2≤l - 1:=fun p hp=>by
  have h1:=(hall p hp).2.2
  have h2:stp p.1 p.2≠l:=fun e=>hno ⟨p,hp,e⟩
  omega
 obtain⟨p,hp⟩:∃ p,p∈shr (btw many s) (aw l (k:Int) (btw many s).dropLast):=List.exists_mem_of_length_pos (by omega)
 have hl1:1≤l:=by
  have h1:=hlt p hp
  have h2:=hall p hp
  have:0≤stp p.1 p.2:=by unfold stp;split<;>omega
  omega
 rw[hsh] at hlt
 obtain⟨m',k1,k2,k3⟩:=rE (t:=l) (f:=(k:Int)) (last:=aj (btw many s)) (T:=l - 1) (btw many s).dropLast (k:Int) 0 hgs (by omega) h1 (by omega) hlt
 have hf:bx many s (l - 1)=true:=(mf hsp b0 (by omega)).mpr ⟨(k:Int),_,m',by omega,by omega,k2,k1,k3⟩
 rcases f2 with f2 | f2
 ·omega
 ·rw[f2] at hf;cases hf
noncomputable def Ok0 (d:Im):Prop:=∀ a,d≠.fn a
noncomputable def Ok1 (d:Im):Prop:=Ok0 d∧∀ ds,d=.tup ds→ds.length≤2000∧∀ x∈ds,Ok0 x
noncomputable def Ok2 (d:Im):Prop:=Ok0 d∧∀ ds,d=.tup ds→ds.length≤2000∧∀ x∈ds,Ok1 x
noncomputable def isW:Im→Bool
 | .int _=>true
 | _=>false
noncomputable def isR:Im→Bool
 | .tup ds=>ds.all isW
 | _=>false
noncomputable def dG:Im→Bool
 | .tup ds=>ds.all isR
 | _=>false
theorem kc {d:Im} (h:Ok0 d):cW [.im d]=some (.im (.bl (isW d)),[.im d]):=by
 cases d with
 | fn a=>exact absurd rfl (h a)
 | _=>rfl
theorem mj {α:Type} (f:α→Bool) (xs:List α):(xs.map f).all id=xs.all f:=by rw[List.all_map];rfl
theorem zG {d:Im} (h:Ok1 d):iR [.im d]=some (.im (.bl (isR d)),[.im d]):=by
 cases d with
 | fn a=>exact absurd rfl (h.1 a)
 | tup ds=>
  obtain⟨hl,hd⟩:=h.2 ds rfl
  have c1:aO 1 [] (bt (oSl 0)) (gN 0) kYes G.jR [some (.im (.tup ds))]=some (.lst (ds.map fun d=>.bl (isW d)),[some (.im (.tup ds))]):=by
   refine (dC (xs:=ds.map id) (o:=none) (D1:=[some (.im (.tup ds))]) (by simp -implicitDefEqProofs) (di id (fun d=>.bl (isW d)) _ (fun d h=>?_) (by omega))).trans rfl
   exact⟨[some (.im d)],_,[some (.im d)],rfl,rfl,by simp -implicitDefEqProofs [jR,kc (hd d h)],rfl⟩
  have c2:ax vAll (aa (oV (aO 1 [] (bt (oSl 0)) (gN 0) kYes G.jR)) aNil) [some (.im (.tup ds))]=some (.im (.bl (ds.all isW)),[some (.im (.tup ds))]):=by
   simp -implicitDefEqProofs only[oV,ax,aa,c1,gK,Option.bind_some,Option.map_some,gO,gL,gM,vAll,gX isW,mj]
  unfold iR qu
  refine cc [some (.im (.tup ds))] rfl (eU ?_) (by simp -implicitDefEqProofs)
  simp -implicitDefEqProofs [c2,isR,-ax,-aO]
 | _=>rfl
theorem zH {d:Im} (h:Ok2 d):iS [.im d]=some (.im (.bl (dG d)),[.im d]):=by
 cases d with
 | fn a=>exact absurd rfl (h.1 a)
 | tup ds=>
  obtain⟨hl,hd⟩:=h.2 ds rfl
  have c1:aO 1 [] (bt (oSl 0)) (gN 0) kYes G.jS [some (.im (.tup ds))]=some (.lst (ds.map fun d=>.bl (isR d)),[some (.im (.tup ds))]):=by
   refine (dC (xs:=ds.map id) (o:=none) (D1:=[some (.im (.tup ds))]) (by simp -implicitDefEqProofs) (di id (fun d=>.bl (isR d)) _ (fun d h=>?_) (by omega))).trans rfl
   exact⟨[some (.im d)],_,[some (.im d)],rfl,rfl,by simp -implicitDefEqProofs [jS,zG (hd d h)],rfl⟩
  have c2:ax vAll (aa (oV (aO 1 [] (bt (oSl 0)) (gN 0) kYes G.jS)) aNil) [some (.im (.tup ds))]=some (.im (.bl (ds.all isR)),[some (.im (.tup ds))]):=by
   simp -implicitDefEqProofs only[oV,ax,aa,c1,gK,Option.bind_some,Option.map_some,gO,gL,gM,vAll,gX isR,mj]
  unfold iS qv
  refine cc [some (.im (.tup ds))] rfl (eU ?_) (by simp -implicitDefEqProofs)
  simp -implicitDefEqProofs [c2,dG,-ax,-aO]
 | _=>rfl
theorem mk (n:Nat):∀ (ds:List Im),ds.all isW=true→Im.pls n ds=true
 | [],_=>by cases n<;>rfl
 | d::ds,h=>by
  rw[List.all_cons,Bool.and_eq_true] at h
  cases d with
  | int i=>rw[Im.pls,mk n ds h.2];cases n<;>rfl
  | _=>simp[isW] at h
theorem rF (n:Nat):∀ (ds:List Im),ds.all isR=true→Im.pls (n+1) ds=true
 | [],_=>rfl
 | d::ds,h=>by
  rw[List.all_cons,Bool.and_eq_true] at h
  cases d with
  | tup es=>
   rw[Im.pls,rF n ds h.2,Bool.and_true]
   exact mk n es h.1
  | _=>simp[isR] at h
theorem rG {d:Im} (h:dG d=true):Im.pl 8 d=true:=by
 cases d with
 | tup ds=>exact rF 6 ds h
 | _=>simp[dG] at h
theorem mo (n:Nat) (i:Int):Im.pl n (.int i)=true:=by cases n<;>rfl
theorem mq (i j:Int):aB (.int i) (.int j)=(i == j):=by rw[aB]
theorem rH:∀ {s:List Int},s.Pairwise (· < ·)→((s.zip (s.drop 1)).all fun p=>decide (p.1<p.2))=true
 | [],_=>rfl
 | [a],_=>rfl
 | a::b::r,h=>by
  have h2:=List.pairwise_cons.mp h
  have ih:=rH h2.2
  show (decide (a<b) && ((b::r).zip r).all fun p=>decide (p.1<p.2))=true
  rw[decide_eq_true (h2.1 b (.head _)),Bool.true_and]
  exact ih
theorem zI {f:Addr}{s:List Int} (hl:s.length≤2000) (h:s.Pairwise (· < ·)):iP f [tI s,.im (.fn f)]=some (.im (.bl true),[tI s,.im (.fn f)]):=by
 have c1:aO 1 [1] (bt (oSl 0)) (gN 0) kYes (G.iO f) [some (tI s),some (.im (.fn f))]=some (.lst (s.map fun _=>.bl true),[some (tI s),some (.im (.fn f))]):=by
  refine (dC (xs:=s.map .int) (o:=none) (D1:=[some (tI s),some (.im (.fn f))]) (by simp -implicitDefEqProofs) (di _ (fun _=>.bl true) _ (fun i hi=>?_) (by omega))).trans rfl
  have e:=kc (d:=.int i) (fun a z=>by cases z)
  exact⟨[some (iI i),some (.im (.fn f))],_,[some (iI i),some (.im (.fn f))],rfl,rfl,by simp -implicitDefEqProofs [iO,e,isW],rfl⟩
 have c2:bC (oV (ax vAll (aa (oV (aO 1 [1] (bt (oSl 0)) (gN 0) kYes (G.iO f))) aNil))) [some (tI s),some (.im (.fn f))]=some (true,[some (tI s),some (.im (.fn f))]):=by
  simp -implicitDefEqProofs only[bC,oV,ax,aa,c1,gK,Option.bind_some,Option.map_some,gO,gL,gM,vAll,gX (fun _=>true),iC]
  rw[show (s.map fun _=>true).all id=true by rw[List.all_map];exact List.all_eq_true.mpr fun _ _=>rfl]
 have c3:aO 2 [] (iZ (aa (oSl 0) (aa (oV (eSl (oSl 0) (cQ (eC (.int 1))) pNone)) aNil))) (gT 2 (a9 (gN 0) (a9 (gN 1) gNil'))) kYes (G.jQ f) [some (tI s),some (.im (.fn f))]=some (.lst ((s.zip (s.drop 1)).map fun p=>.bl (decide (p.1<p.2))),[some (tI s),some (.im (.fn f))]):=by
  refine (dC (xs:=(s.zip (s.drop 1)).map fun p=>.tup [.int p.1,.int p.2]) (o:=none) (D1:=[some (tI s),some (.im (.fn f))]) ?_ (di _ (fun p=>.bl (decide (p.1<p.2))) _ (fun p hp=>?_) ?_)).trans ?_
  ·have e1:bv (s.map Im.int) (some 1) none=(s.drop 1).map Im.int:=by rw[show (1:Int)=((1:Nat):Int) from rfl,lP,List.map_drop]
   have:=iJ Im.int Im.int s (s.drop 1)
   simp -implicitDefEqProofs [e1,this,-List.map_drop,-List.drop_one]
  ·exact⟨[some (iI p.1),some (iI p.2)],_,[some (iI p.1),some (iI p.2)],rfl,rfl,by simp -implicitDefEqProofs [jQ],by simp⟩
  ·rw[List.length_zip];omega
  ·rfl
 have c4:ax vAll (aa (oV (aO 2 [] (iZ (aa (oSl 0) (aa (oV (eSl (oSl 0) (cQ (eC (.int 1))) pNone)) aNil))) (gT 2 (a9 (gN 0) (a9 (gN 1) gNil'))) kYes (G.jQ f))) aNil) [some (tI s),some (.im (.fn f))]=some (.im (.bl true),[some (tI s),some (.im (.fn f))]):=by
  simp -implicitDefEqProofs only[oV,ax,aa,c3,gK,Option.bind_some,Option.map_some,gO,gL,gM,vAll,gX (fun p:Int×Int=>decide (p.1<p.2)),mj,rH h]
 have hk:kOr (ca (bC (oV (eR "tuple" (oSl 0))))) (ca (bC (oV (ax vAll (aa (oV (aO 1 [1] (bt (oSl 0)) (gN 0) kYes (G.iO f))) aNil))))) [some (tI s),some (.im (.fn f))]=some (false,[some (tI s),some (.im (.fn f))]):=by
  have t1:bC (oV (eR "tuple" (oSl 0))) [some (tI s),some (.im (.fn f))]=some (true,[some (tI s),some (.im (.fn f))]):=by simp -implicitDefEqProofs
  simp -implicitDefEqProofs only[kOr,ca,t1,c2,Option.map_some,Option.bind_some]
  rfl
 unfold iP qr
 refine cc [some (tI s),some (.im (.fn f))] rfl ?_ (by simp -implicitDefEqProofs)
 exact (aE ((lR hk).trans rfl)).trans (eU c4)
theorem zJ {f:Addr}{many:Int}{s:List Int} (R:RingOk many s):iQ f [iI many,tI s]=some (.im (.bl true),[iI many,tI s]):=by
 have hf:=R.few
 have e1:=kc (d:=.int many) (fun a z=>by cases z)
 have e2:=zI (f:=f) (s:=s) (by omega) R.up
 have e3:=rb R.ne
 have e4:=j9 R.ne
 have h0:0≤s.head?.getD 0:=by
  cases s with
  | nil=>exact absurd rfl R.ne
  | cons a r=>exact (R.inn a (.head _)).1
 have h1:aj s<many:=(R.inn _ (gY R.ne)).2
 have h2:¬ ((s.length:Int)=0):=by have:=List.length_pos_iff.mpr R.ne;omega
 unfold iQ qt
 simp -implicitDefEqProofs [e1,e2,e3,e4,h0,h1,h2,isW,mo,mq,R.ne]
noncomputable def iY:Im→Int→Bool
 | .tup ds,n=>decide ((ds.length:Int)=n)
 | _,_=>false
theorem rJ {f:Addr}{many t:Int}{s:List Int}{d th:Im} (R:RingOk many s) (ht:0≤t) (h:Ok2 th) (hd:dD [iI many,tI s,iI t]=some (.im d,[iI many,tI s,iI t])) (hp:Im.pl 8 d=true):
  fc f [iI many,tI s,iI t,.im th]=some (.im (.bl (dG th && iY th (min t (aj (btw many s))+1) && aB th d)),[iI many,tI s,iI t,.im th]):=by
 have hf:=R.few
 have hm:=R.m0
 have e1:=zJ (f:=f) R
 have e2:=kc (d:=.int t) (fun a z=>by cases z)
 have e3:=zH h
 have e4:=j6 (many:=many) (s:=s) (by omega) (by omega)
 have e5:=rc (sp:=btw many s) (t:=t) (g7 R.ne)
 have ht':¬ (t<0):=by omega
 unfold fc qw
 cases hr:dG th with
 | false=>
  rw[hr] at e3
  simp -implicitDefEqProofs [e1,e2,e3,ht',isW]
 | true=>
  rw[hr] at e3
  have hq:=rG hr
  cases th with
  | tup ds=>
   by_cases hl:(ds.length:Int)=min t (aj (btw many s))+1
   ·simp -implicitDefEqProofs [e1,e2,e3,e4,e5,ht',isW,hl,hd,hp,hq,mo,mq,iY]
   ·simp -implicitDefEqProofs [e1,e2,e3,e4,e5,ht',isW,hl,mo,mq,iY]
  | _=>simp[dG] at hr
noncomputable def gp (m p q:Int):Int:=if p<q then q - p - 1 else q - p - 1+m
noncomputable def aZ (t m:Int) (s:List Int):Prop:=∃ f:Int→Int×Int,(∀ p∈s,0≤(f p).1∧0≤(f p).2∧stp (f p).1 (f p).2≤t)∧
 ∀ p∈s,∀ q∈s,(∀ r∈s,gp m p q≤gp m p r)→gp m p q≤(f p).2+(f q).1
theorem g8 {m p q:Int} (hp:0≤p∧p<m) (hq:0≤q∧q<m):(q - p - 1) % m=gp m p q:=by
 unfold gp
 split
 ·exact Int.emod_eq_of_lt (by lia) (by lia)
 ·rw[← Int.add_emod_right]
  exact Int.emod_eq_of_lt (by lia) (by lia)
theorem zK (l r:Int):stp l r=stp r l:=by
 unfold stp
 split<;>split<;>lia
theorem aZ.iso {t m:Int}{s s':List Int}{φ ψ:Int→Int} (h1:∀ y∈s',ψ y∈s) (h2:∀ x∈s,φ x∈s') (h3:∀ y∈s',φ (ψ y)=y) (h4:∀ x∈s,∀ z∈s,gp m (φ x) (φ z)=gp m x z) (h:aZ t m s):aZ t m s':=by
 obtain⟨f,c,g⟩:=h
 refine⟨fun y=>f (ψ y),fun p hp=>c _ (h1 p hp),fun p hp q hq n=>?_⟩
 have e:gp m p q=gp m (ψ p) (ψ q):=by rw[← h4 _ (h1 p hp) _ (h1 q hq),h3 p hp,h3 q hq]
 rw[e]
 refine g _ (h1 p hp) _ (h1 q hq) fun r hr=>?_
 rw[← e,← h4 _ (h1 p hp) _ hr,h3 p hp]
 exact n _ (h2 r hr)
theorem rK {m b x z:Int} (hb:0≤b∧b<m) (hx:0≤x∧x<m) (hz:0≤z∧z<m):gp m ((x+b) % m) ((z+b) % m)=gp m x z:=by
 rw[← g8 ⟨Int.emod_nonneg _ (by lia),Int.emod_lt_of_pos _ (by lia)⟩ ⟨Int.emod_nonneg _ (by lia),Int.emod_lt_of_pos _ (by lia)⟩,← g8 hx hz]
 have e1:((z+b) % m - (x+b) % m - 1) % m=((z+b) - (x+b) - 1) % m:=by
  have e2:(z+b) % m - (x+b) % m - 1=((z+b) - (x+b) - 1)+m * ((x+b) / m - (z+b) / m):=by
   rw[Int.emod_def,Int.emod_def,Int.mul_sub]
   generalize m * ((x+b) / m)=u
   generalize m * ((z+b) / m)=v
   lia
  rw[e2,Int.add_mul_emod_self_left]
 rw[e1]
 congr 1
 lia
theorem zL {m b y:Int} (hb:0≤b∧b<m) (hy:0≤y∧y<m):((y - b) % m+b) % m=y:=by
 rw[Int.emod_add_emod,Int.sub_add_cancel]
 exact Int.emod_eq_of_lt hy.1 hy.2
theorem f7 {m b y:Int} (hb:0≤b∧b<m) (hy:0≤y∧y<m):((y+b) % m - b) % m=y:=by
 rw[Int.emod_sub_emod,Int.add_sub_cancel]
 exact Int.emod_eq_of_lt hy.1 hy.2
theorem aZ.turn {t m b:Int}{s s':List Int} (hb:0≤b∧b<m) (hs:∀ x∈s,0≤x∧x<m) (he:∀ y,y∈s'↔∃ x∈s,y=(x+b) % m):aZ t m s↔aZ t m s':=by
 constructor
 ·refine aZ.iso (φ:=fun x=>(x+b) % m) (ψ:=fun y=>(y - b) % m) (fun y hy=>?_) (fun x hx=>(he _).mpr ⟨x,hx,rfl⟩) (fun y hy=>?_) fun x hx z hz=>rK hb (hs x hx) (hs z hz)
  ·obtain⟨x,hx,rfl⟩:=(he y).mp hy
   show ((x+b) % m - b) % m∈s
   rw[f7 hb (hs x hx)]
   exact hx
  ·obtain⟨x,hx,rfl⟩:=(he y).mp hy
   exact zL hb ⟨Int.emod_nonneg _ (by lia),Int.emod_lt_of_pos _ (by lia)⟩
 ·refine aZ.iso (ψ:=fun x=>(x+b) % m) (φ:=fun y=>(y - b) % m) (fun x hx=>(he _).mpr ⟨x,hx,rfl⟩) (fun y hy=>?_) (fun x hx=>f7 hb (hs x hx)) fun x hx' z hz'=>?_
  ·obtain⟨x,hx,rfl⟩:=(he y).mp hy
   show ((x+b) % m - b) % m∈s
   rw[f7 hb (hs x hx)]
   exact hx
  ·obtain⟨x,hx,rfl⟩:=(he _).mp (by assumption:x∈s')
   obtain⟨z,hz,rfl⟩:=(he _).mp (by assumption:z∈s')
   show gp m (((x+b) % m - b) % m) (((z+b) % m - b) % m)=_
   rw[f7 hb (hs x hx),f7 hb (hs z hz)]
   exact (rK hb (hs x hx) (hs z hz)).symm
theorem aZ.mir1 {t m:Int}{s s':List Int} (hs:∀ x∈s,0≤x∧x<m) (h1:∀ y∈s',m - 1 - y∈s) (h2:∀ x∈s,m - 1 - x∈s') (h:aZ t m s):aZ t m s':=by
 obtain⟨f,c,g⟩:=h
 refine⟨fun y=>((f (m - 1 - y)).2,(f (m - 1 - y)).1),fun p hp=>?_,fun p hp q hq n=>?_⟩
 ·obtain⟨c1,c2,c3⟩:=c _ (h1 p hp)
  exact⟨c2,c1,by rw[zK];exact c3⟩
 ·have hx:=hs _ (h1 p hp)
  have hz:=hs _ (h1 q hq)
  have e:gp m p q=gp m (m - 1 - q) (m - 1 - p):=by
   unfold gp
   split<;>split<;>lia
  rw[e]
  have:=g _ (h1 q hq) _ (h1 p hp) fun r hr=>?_
  ·show _≤(f (m - 1 - p)).1+(f (m - 1 - q)).2
   lia
  ·have hr':=hs r hr
   have n1:=n _ (h2 r hr)
   rw[e] at n1
   unfold gp at n1 ⊢
   split at n1<;>split at n1<;>split<;>split<;>lia
theorem aZ.mirror {t m:Int}{s s':List Int} (hs:∀ x∈s,0≤x∧x<m) (he:∀ y,y∈s'↔∃ x∈s,y=m - 1 - x):aZ t m s↔aZ t m s':=by
 have a1:∀ y∈s',m - 1 - y∈s:=fun y hy=>by
  obtain⟨x,hx,rfl⟩:=(he y).mp hy
  rw[show m - 1 - (m - 1 - x)=x by lia]
  exact hx
 have a2:∀ x∈s,m - 1 - x∈s':=fun x hx=>(he _).mpr ⟨x,hx,rfl⟩
 have hs':∀ y∈s',0≤y∧y<m:=fun y hy=>by have:=hs _ (a1 y hy);lia
 exact⟨aZ.mir1 hs a1 a2,aZ.mir1 hs' a2 a1⟩
theorem zM {m p:Int}:gp m p p=m - 1:=by unfold gp;rw[if_neg (by lia)];lia
theorem mr {g:Int→Int}:∀ {s:List Int},s≠[]→∃ q∈s,∀ r∈s,g q≤g r
 | [],h=>absurd rfl h
 | [x],_=>⟨x,.head _,fun r hr=>by rw[List.mem_singleton.mp hr];exact Int.le_refl _⟩
 | x::y::s,_=>by
  obtain⟨q,hq,hl⟩:=mr (g:=g) (s:=y::s) (by simp)
  by_cases h:g x≤g q
  ·exact⟨x,.head _,fun r hr=>by
    rcases List.mem_cons.mp hr with rfl | hr
    ·exact Int.le_refl _
    ·exact Int.le_trans h (hl r hr)⟩
  ·exact⟨q,.tail _ hq,fun r hr=>by
    rcases List.mem_cons.mp hr with rfl | hr
    ·exact Int.le_of_lt (Int.not_le.mp h)
    ·exact hl r hr⟩
theorem rL {m p q r:Int} (hq:0≤q∧q<m) (hr:0≤r∧r<m) (h:gp m p q=gp m p r) (hp:0≤p∧p<m):q=r:=by
 unfold gp at h
 split at h<;>split at h<;>lia
theorem zN {m p q r:Int} (hq:0≤q∧q<m) (hr:0≤r∧r<m) (h:gp m q p=gp m r p) (hp:0≤p∧p<m):q=r:=by
 unfold gp at h
 split at h<;>split at h<;>lia
theorem zO {u:Int} (h:0≤u):stp u 0=u:=by unfold stp;split<;>lia
theorem zP {u:Int} (h:0≤u):stp 0 u=u:=by unfold stp;split<;>lia
theorem i3 {l r:Int} (h0:0≤l) (h1:0≤r):l≤stp l r∧r≤stp l r:=by unfold stp;split<;>lia
theorem aZ.more {t m b:Int}{s s':List Int} (hne:s≠[]) (hb:0≤b∧b<m) (hs:∀ x∈s,0≤x∧x<m) (he:∀ y,y∈s'↔y∈s∨y=b) (h:aZ t m s):aZ t m s':=by
 obtain⟨f,c,g⟩:=h
 by_cases hbs:b∈s
 ·have e:∀ y,y∈s'↔y∈s:=fun y=>(he y).trans ⟨fun h=>h.elim id fun e=>e ▸ hbs,.inl⟩
  exact⟨f,fun p hp=>c p ((e p).mp hp),fun p hp q hq n=>g p ((e p).mp hp) q ((e q).mp hq) fun r hr=>n r ((e r).mpr hr)⟩
 ·obtain⟨p0,hp0,lp⟩:=mr (g:=fun x=>gp m x b) hne
  obtain⟨q0,hq0,lq⟩:=mr (g:=fun x=>gp m b x) hne
  have P:=hs p0 hp0
  have Q:=hs q0 hq0
  have np:p0≠b:=fun e=>hbs (e ▸ hp0)
  have nq:q0≠b:=fun e=>hbs (e ▸ hq0)
  have eG:gp m p0 q0=gp m p0 b+gp m b q0+1:=by
   have h1:=lp q0 hq0
   have h2:=lq p0 hp0
   unfold gp at h1 h2 ⊢
   split at h1<;>split at h1<;>split at h2<;>split at h2<;>split<;>(try split)<;>(try split)<;>lia
  have hG:=g p0 hp0 q0 hq0 fun r hr=>by
   have h1:=lp r hr
   have h2:=lq r hr
   have R:=hs r hr
   have nr:r≠b:=fun e=>hbs (e ▸ hr)
   rw[eG]
   unfold gp at h1 h2 ⊢
   split at h1<;>split at h1<;>split at h2<;>split at h2<;>split<;>(try split)<;>(try split)<;>lia
  obtain⟨c1,c2,c3⟩:=c p0 hp0
  obtain⟨d1,d2,d3⟩:=c q0 hq0
  have hcp:=(i3 c1 c2).2
  have hcq:=(i3 d1 d2).1
  have ga:0≤gp m p0 b:=by unfold gp;split<;>lia
  have gc:0≤gp m b q0:=by unfold gp;split<;>lia
  refine⟨fun y=>if y=b then (max 0 (gp m p0 b - (f p0).2),max 0 (gp m b q0 - (f q0).1)) else f y,fun p hp=>?_,fun p hp q hq n=>?_⟩
  ·by_cases e:p=b
   ·simp only[if_pos e]
    refine⟨by lia,by lia,?_⟩
    rcases Int.le_total (gp m p0 b) (f p0).2 with h1 | h1
    ·rw[show max 0 (gp m p0 b - (f p0).2)=0 by lia,zP (by lia)]
     lia
    ·rw[show max 0 (gp m b q0 - (f q0).1)=0 by lia,zO (by lia)]
     lia
   ·simp only[if_neg e]
    exact c p (((he p).mp hp).resolve_right e)
  ·by_cases ep:p=b
   ·by_cases eq:q=b
    ·have:=n q0 ((he q0).mpr (.inl hq0))
     subst ep
     subst eq
     rw[zM] at this
     unfold gp at this
     split at this<;>lia
    ·have hq':=((he q).mp hq).resolve_right eq
     subst ep
     have e2:q=q0:=rL (hs q hq') Q (Int.le_antisymm (n q0 ((he q0).mpr (.inl hq0))) (lq q hq')) hb
     subst e2
     simp only[if_true,if_neg eq]
     lia
   ·have hp':=((he p).mp hp).resolve_right ep
    by_cases eq:q=b
    ·subst eq
     have hk:∀ r∈s,gp m p q≤gp m r q:=fun r hr=>by
      have h1:=n r ((he r).mpr (.inl hr))
      have R:=hs r hr
      have R2:=hs p hp'
      have nr:r≠q:=fun e=>hbs (e ▸ hr)
      unfold gp at h1 ⊢
      split at h1<;>split at h1<;>split<;>lia
     have e2:p=p0:=zN (hs p hp') P (Int.le_antisymm (hk p0 hp0) (lp p hp')) hb
     subst e2
     simp only[if_true,if_neg ep]
     lia
    ·simp only[if_neg ep,if_neg eq]
     exact g p hp' q (((he q).mp hq).resolve_right eq) fun r hr=>n r ((he r).mpr (.inl hr))
noncomputable def cg (m:Int):Int→List Int→List Int
 | _,[]=>[]
 | x,y::r=>(y - x - 1) % m::cg m y r
noncomputable def bz:Int→List Int→Int
 | x,[]=>x
 | _,y::r=>bz y r
theorem rM (m:Int):∀ (r:List Int) (x e:Int),(((x::r).zip (r++[e])).map fun p=>(p.2 - p.1 - 1) % m)=cg m x r++[(e - bz x r - 1) % m]
 | [],x,e=>rfl
 | y::r,x,e=>by
  rw[List.cons_append,List.zip_cons_cons,List.map_cons,rM m r y e]
  rfl
theorem zQ (m x:Int) (r:List Int):btw m (x::r)=cg m x r++[(x - bz x r - 1) % m]:=rM m r x x
theorem rN:∀ (r:List Int) (x:Int),bz x r∈x::r
 | [],x=>.head _
 | y::r,x=>.tail _ (rN r y)
theorem mv:∀ {r:List Int}{x:Int},(x::r).Pairwise (· < ·)→∀ z∈x::r,z≤bz x r
 | [],x,_,z,hz=>by rw[List.mem_singleton.mp hz];exact Int.le_refl _
 | y::r,x,h,z,hz=>by
  have ih:=mv (List.pairwise_cons.mp h).2
  rcases List.mem_cons.mp hz with rfl | hz
  ·exact Int.le_trans (Int.le_of_lt ((List.pairwise_cons.mp h).1 y (.head _))) (ih y (.head _))
  ·exact ih z hz
theorem zR {m x y:Int}{pre r:List Int} (up:(pre++x::y::r).Pairwise (· < ·)) (inn:∀ z∈pre++x::y::r,0≤z∧z<m):∀ z∈pre++x::y::r,gp m x y≤gp m x z:=by
 intro z hz
 obtain⟨u1,u2,u3⟩:=List.pairwise_append.mp up
 have hxy:x<y:=(List.pairwise_cons.mp u2).1 y (.head _)
 have Z:=inn z hz
 have Y:=inn y (by simp)
 have h:z≤x∨y≤z:=by
  rcases List.mem_append.mp hz with h1 | h1
  ·exact .inl (Int.le_of_lt (u3 z h1 x (.head _)))
  ·rcases List.mem_cons.mp h1 with rfl | h1
   ·exact .inl (Int.le_refl _)
   ·rcases List.mem_cons.mp h1 with rfl | h1
    ·exact .inr (Int.le_refl _)
    ·exact .inr (Int.le_of_lt ((List.pairwise_cons.mp (List.pairwise_cons.mp u2).2).1 z h1))
 unfold gp
 split<;>split<;>lia
theorem zS {m x:Int}{r:List Int} (up:(x::r).Pairwise (· < ·)) (inn:∀ z∈x::r,0≤z∧z<m):∀ z∈x::r,gp m (bz x r) x≤gp m (bz x r) z:=by
 intro z hz
 have h1:=mv up z hz
 have h2:=mv up x (.head _)
 have h3:x≤z:=by
  rcases List.mem_cons.mp hz with rfl | hz
  ·exact Int.le_refl _
  ·exact Int.le_of_lt ((List.pairwise_cons.mp up).1 z hz)
 unfold gp
 split<;>split<;>lia
theorem rO {t m:Int}{f:Int→Int×Int}{s:List Int} (up:s.Pairwise (· < ·)) (inn:∀ z∈s,0≤z∧z<m) (c:∀ p∈s,0≤(f p).1∧0≤(f p).2∧stp (f p).1 (f p).2≤t)
  (g:∀ p∈s,∀ q∈s,(∀ r∈s,gp m p q≤gp m p r)→gp m p q≤(f p).2+(f q).1):∀ (r pre:List Int) (x a m0:Int),s=pre++x::r→0≤a→a≤(f x).1→m0≤t→
  ∃ e m',Rch (cg m x r) a m0 e m'∧0≤e∧e≤(f (bz x r)).1∧m'≤t
 | [],pre,x,a,m0,_,a0,a1,hm=>⟨a,m0,⟨rfl,rfl⟩,a0,a1,hm⟩
 | y::r,pre,x,a,m0,hs,a0,a1,hm=>by
  have hx:x∈s:=by rw[hs];simp
  have hy:y∈s:=by rw[hs];simp
  obtain⟨c1,c2,c3⟩:=c x hx
  obtain⟨d1,d2,d3⟩:=c y hy
  have hg:=g x hx y hy (by rw[hs] at up inn ⊢;exact zR up inn)
  have e1:=g8 (inn x hx) (inn y hy)
  have g0:0≤gp m x y:=by rw[← e1];exact Int.emod_nonneg _ (by have:=inn x hx;lia)
  obtain⟨e,m',h1,h2,h3,h4⟩:=rO up inn c g r (pre++[x]) y (gp m x y - min (f x).2 (gp m x y)) (max m0 (stp a (min (f x).2 (gp m x y)))) (by rw[hs];simp) (by lia) (by lia)
   (by have:=f6 (l:=a) (a:=(f x).1) (r:=min (f x).2 (gp m x y)) (b:=(f x).2) a0 a1 (by lia) (by lia);lia)
  refine⟨e,m',⟨min (f x).2 (gp m x y),by lia,?_,?_⟩,h2,h3,h4⟩
  ·rw[e1];lia
  ·rw[e1];exact h1
theorem zU (l:List Int) (x:Int):aj (l++[x])=x:=by rw[aj,List.getLast?_concat];rfl
theorem zV {t m:Int}{s:List Int} (hne:s≠[]) (up:s.Pairwise (· < ·)) (inn:∀ z∈s,0≤z∧z<m) (h:aZ t m s):fw t (aj (btw m s)) (btw m s).dropLast:=by
 obtain⟨f,c,g⟩:=h
 cases s with
 | nil=>exact absurd rfl hne
 | cons x r=>
  rw[zQ,zU,List.dropLast_concat]
  have hx:=inn x (.head _)
  have he:=rN r x
  have e1:=g8 (inn _ he) hx
  rw[e1]
  have hg:=g _ he x (.head _) (zS up inn)
  have g0:0≤gp m (bz x r) x:=by rw[← e1];exact Int.emod_nonneg _ (by lia)
  obtain⟨c1,c2,c3⟩:=c _ he
  obtain⟨d1,d2,d3⟩:=c x (.head _)
  have t0:0≤t:=Int.le_trans d1 (Int.le_trans (i3 d1 d2).1 d3)
  obtain⟨e,m',h1,h2,h3,h4⟩:=rO up inn c g r [] x (gp m (bz x r) x - min (f (bz x r)).2 (gp m (bz x r) x)) 0 rfl (by lia) (by lia) t0
  refine⟨_,e,m',?_,?_,h1,h4,?_⟩
  ·lia
  ·lia
  ·have:=f6 (l:=e) (a:=(f (bz x r)).1) (r:=min (f (bz x r)).2 (gp m (bz x r) x)) (b:=(f (bz x r)).2) h2 h3 (by lia) (by lia)
   rw[show gp m (bz x r) x - (gp m (bz x r) x - min (f (bz x r)).2 (gp m (bz x r) x))=min (f (bz x r)).2 (gp m (bz x r) x) by lia]
   lia
theorem zW {m:Int}{s:List Int} (up:s.Pairwise (· < ·)) (inn:∀ z∈s,0≤z∧z<m) {j:Nat} (hj:j<s.length) {y:Int} (hy:s[(j+1) % s.length]?=some y):∀ z∈s,gp m s[j] y≤gp m s[j] z:=by
 intro z hz
 obtain⟨i,hi,rfl⟩:=List.mem_iff_getElem.mp hz
 have up':=List.pairwise_iff_getElem.mp up
 have X:=inn _ (List.getElem_mem hj)
 have Z:=inn _ (List.getElem_mem hi)
 have hk:(j+1) % s.length<s.length:=Nat.mod_lt _ (by lia)
 rw[List.getElem?_eq_getElem hk] at hy
 have hy:=Option.some.inj hy
 have Y:=inn _ (List.getElem_mem hk)
 rw[hy] at Y
 by_cases h:j+1<s.length
 ·have e:(j+1) % s.length=j+1:=Nat.mod_eq_of_lt h
  simp only[e] at hy
  have hxy:s[j]<y:=by rw[← hy];exact up' j (j+1) hj h (Nat.lt_succ_self j)
  have hd:s[i]≤s[j]∨y≤s[i]:=by
   rcases Nat.lt_trichotomy i j with h1 | h1 | h1
   ·exact .inl (Int.le_of_lt (up' i j hi hj h1))
   ·subst h1;exact .inl (Int.le_refl _)
   ·rcases Nat.lt_or_ge (j+1) i with h2 | h2
    ·exact .inr (by rw[← hy];exact Int.le_of_lt (up' (j+1) i h hi h2))
    ·have h3:i=j+1:=by lia
     subst h3
     exact .inr (by rw[hy];exact Int.le_refl _)
  unfold gp
  split<;>split<;>lia
 ·have e0:j+1=s.length:=by lia
  have e:(j+1) % s.length=0:=by rw[e0];exact Nat.mod_self _
  simp only[e] at hy
  have h1:s[i]≤s[j]:=by
   rcases Nat.lt_or_ge i j with h1 | h1
   ·exact Int.le_of_lt (up' i j hi hj h1)
   ·have:i=j:=by lia
    subst this;exact Int.le_refl _
  have h2:y≤s[i]:=by
   rw[← hy]
   rcases Nat.eq_zero_or_pos i with h2 | h2
   ·subst h2;exact Int.le_refl _
   ·exact Int.le_of_lt (up' 0 i (by lia) hi h2)
  unfold gp
  split<;>split<;>lia
theorem zX {m l:Int}{s:List Int}{ps:List (Int×Int)} (up:s.Pairwise (· < ·)) (inn:∀ z∈s,0≤z∧z<m) (T:Told m s l ps):aZ l m s:=by
 have at_:∀ p∈s,∃ j,∃ hj:j<s.length,s[j]=p∧ps[j]?=some (ps.getD (s.idxOf p) (0,0)):=fun p hp=>by
  have hj:=List.idxOf_lt_length_iff.mpr hp
  refine⟨s.idxOf p,hj,List.getElem_idxOf hj,?_⟩
  have:s.idxOf p<ps.length:=by rw[T.len];exact hj
  rw[List.getD_eq_getElem?_getD,List.getElem?_eq_getElem this]
  rfl
 refine⟨fun p=>ps.getD (s.idxOf p) (0,0),fun p hp=>?_,fun p hp q hq n=>?_⟩
 ·obtain⟨j,hj,_,h2⟩:=at_ p hp
  have hm:=List.mem_of_getElem? h2
  exact⟨(T.pos _ hm).1,(T.pos _ hm).2,T.most _ hm⟩
 ·obtain⟨j,hj,h1,h2⟩:=at_ p hp
  obtain⟨i,hi,g1,g2⟩:=at_ q hq
  have hk:(j+1) % s.length<s.length:=Nat.mod_lt _ (by lia)
  have hy:s[(j+1) % s.length]?=some s[(j+1) % s.length]:=List.getElem?_eq_getElem hk
  have nx:=zW up inn hj hy
  rw[h1] at nx
  have e:q=s[(j+1) % s.length]:=rL (inn q hq) (inn _ (List.getElem_mem hk)) (Int.le_antisymm (n _ (List.getElem_mem hk)) (nx q hq)) (inn p hp)
  have ei:i=(j+1) % s.length:=by
   have nd:=List.pairwise_iff_getElem.mp up
   have e3:s[i]=s[(j+1) % s.length]:=g1.trans e
   rcases Nat.lt_trichotomy i ((j+1) % s.length) with h | h | h
   ·exact absurd e3 (Int.ne_of_lt (nd _ _ hi hk h))
   ·exact h
   ·exact absurd e3.symm (Int.ne_of_lt (nd _ _ hk hi h))
  subst ei
  have b1:=T.gap j _ _ h2 g2
  have b2:=rj (many:=m) (x:=p) (y:=q) (by rw[List.getElem?_eq_getElem hj,h1]) (by rw[List.getElem?_eq_getElem hi,g1])
  rw[b1] at b2
  have b3:=Option.some.inj b2
  rw[g8 (inn p hp) (inn q hq)] at b3
  exact Int.le_of_eq b3.symm
theorem fw.mono {t t' last:Int}{gs:List Int} (h:t≤t') (x:fw t last gs):fw t' last gs:=by
 obtain⟨f,r,m,h1,h2,h3,h4,h5⟩:=x
 exact⟨f,r,m,h1,h2,h3,Int.le_trans h4 h,Int.le_trans h5 h⟩
theorem ke {many t:Int}{s:List Int} (R:RingOk many s) (ht:0≤t):bx many s t=true↔fw t (aj (btw many s)) (btw many s).dropLast:=by
 have hm:=R.m0
 exact mf (fun g hg=>(fu (by lia) hg).1) (fu (by lia) (gY (g7 R.ne))).1 ht
structure Lst (many:Int) (s:List Int) (l:Int):Prop where
 cov:aZ l many s
 low:∀ t,aZ t many s→l≤t
theorem kf {many:Int}{s:List Int} (R:RingOk many s):∃ (l:Int) (ps:List (Int×Int)),ck [iI many,tI s]=some (iI l,[iI many,tI s])∧fb [iI many,tI s]=some (pI ps,[iI many,tI s])∧Told many s l ps∧Lst many s l∧0≤l∧l<many∧(∀ t,0≤t→(bx many s t=true↔l≤t)):=by
 obtain⟨l,ps,e1,e2,T⟩:=zF R
 obtain⟨l',e3,l0,l1,f1,f2⟩:=rz R
 have el:l=l':=by
  rw[e1] at e3
  cases e3
  rfl
 subst el
 have c:=zX R.up R.inn T
 have low:∀ t,0≤t→fw t (aj (btw many s)) (btw many s).dropLast→l≤t:=fun t t0 F=>by
  rcases f2 with h | h
  ·lia
  ·refine Int.not_lt.mp fun hlt=>?_
   have:=(ke R (by lia:0≤l - 1)).mpr (F.mono (by lia))
   rw[h] at this
   cases this
 refine⟨l,ps,e1,e2,T,⟨c,fun t ht=>?_⟩,l0,l1,fun t t0=>⟨fun h=>low t t0 ((ke R t0).mp h),fun h=>(ke R t0).mpr (((ke R l0).mp f1).mono h)⟩⟩
 have F:=zV R.ne R.up R.inn ht
 refine low t ?_ F
 obtain⟨f,c1,_⟩:=ht
 cases hs:s with
 | nil=>exact absurd hs R.ne
 | cons x r=>
  have hx:x∈s:=by rw[hs];exact .head _
  obtain⟨a,b,d⟩:=c1 x hx
  exact Int.le_trans a (Int.le_trans (i3 a b).1 d)
theorem rP:∀ {l:List Int}{b c:Int},l.Pairwise (· < ·)→(∀ x∈l,b≤x∧x<c)→b≤c→(l.length:Int)≤c - b
 | [],b,c,_,_,h=>by rw[List.length_nil];lia
 | x::r,b,c,up,inn,h=>by
  have hx:=inn x (.head _)
  have:=rP (l:=r) (b:=x+1) (c:=c) (List.pairwise_cons.mp up).2 (fun y hy=>⟨(List.pairwise_cons.mp up).1 y hy,(inn y (.tail _ hy)).2⟩) (by lia)
  rw[List.length_cons]
  lia
theorem rQ:∀ {l:List Int}{a:Int},l.Pairwise (· < ·)→(∀ x∈l,a≤x∧x<a+l.length)→l=(List.range l.length).map fun (k:Nat)=>a+(k:Int)
 | [],a,_,_=>rfl
 | x::r,a,up,inn=>by
  have u:=List.pairwise_cons.mp up
  have hx:=inn x (.head _)
  rw[List.length_cons] at hx inn
  have hl:=rP (l:=r) (b:=x+1) (c:=a+(r.length+1:Nat)) u.2 (fun y hy=>⟨u.1 y hy,(inn y (.tail _ hy)).2⟩) (by lia)
  have ex:x=a:=by lia
  subst ex
  have ih:=rQ (l:=r) (a:=x+1) u.2 fun y hy=>⟨u.1 y hy,by have:=(inn y (.tail _ hy)).2;lia⟩
  rw[List.length_cons,List.range_succ_eq_map,List.map_cons,List.map_map]
  refine List.cons_eq_cons.mpr ⟨by simp,?_⟩
  refine ih.trans (List.map_congr_left fun k _=>?_)
  show x+1+(k:Int)=x+((k+1:Nat):Int)
  lia
noncomputable def blk (m:Int) (x:Int) (p:Int×Int):List Int:=(List.range (p.1+p.2+1).toNat).map fun (k:Nat)=>(x+(-p.1+(k:Int))) % m
noncomputable def bh (m c:Int) (n:Nat):List Int:=(List.range n).map fun (k:Nat)=>(c+(k:Int)) % m
theorem kg (m x:Int) (p:Int×Int):blk m x p=bh m (x - p.1) (p.1+p.2+1).toNat:=by
 unfold blk bh
 refine List.map_congr_left fun k _=>?_
 congr 1
 lia
theorem zY (m c:Int) (a b:Nat):bh m c a++bh m (c+a) b=bh m c (a+b):=by
 unfold bh
 rw[List.range_add,List.map_append,List.map_map]
 congr 1
 refine List.map_congr_left fun k _=>?_
 show (c+a+(k:Int)) % m=(c+((a+k:Nat):Int)) % m
 congr 1
 lia
theorem zZ {m c:Int} (hm:0<m) {n:Nat}:∀ x∈bh m c n,0≤x∧x<m:=fun x hx=>by
 obtain⟨k,_,rfl⟩:=List.mem_map.mp hx
 exact⟨Int.emod_nonneg _ (by lia),Int.emod_lt_of_pos _ hm⟩
theorem rR {m c:Int} (hm:0<m):(bh m c m.toNat).Nodup:=by
 unfold bh List.Nodup
 rw[List.pairwise_map]
 refine List.Pairwise.imp_of_mem (R:=(· < ·)) (fun {a b} ha hb h e=>?_) List.pairwise_lt_range
 have hb':=List.mem_range.mp hb
 have h0:(c+(b:Int) - (c+(a:Int))) % m=0:=Int.emod_eq_emod_iff_emod_sub_eq_zero.mp e.symm
 have h1:c+(b:Int) - (c+(a:Int))=(b:Int) - a:=by lia
 rw[h1,Int.emod_eq_of_lt (by lia) (by lia)] at h0
 lia
theorem kh (m c:Int) (n:Nat):(bh m c n).length=n:=by rw[bh,List.length_map,List.length_range]
theorem z0 {m c:Int} (hm:0<m):aM (bh m c m.toNat)=(List.range m.toNat).map fun (k:Nat)=>(0:Int)+(k:Int):=by
 have pm:=b6 (bh m c m.toNat)
 have hl:(aM (bh m c m.toNat)).length=m.toNat:=by rw[pm.length_eq,kh]
 have:=rQ (a:=0) (iE (rR (c:=c) hm)) fun x hx=>by
  have:=zZ (c:=c) hm x (pm.mem_iff.mp hx)
  rw[hl]
  lia
 rw[hl] at this
 exact this
noncomputable abbrev SP:=Int×(Int×Int)
noncomputable def f8 (m:Int) (L:List SP):List Int:=L.flatMap fun q=>blk m q.1 q.2
noncomputable def f9:SP→List SP→SP
 | a,[]=>a
 | _,b::r=>f9 b r
theorem rS:∀ (r:List SP) (a:SP),(a::r)[r.length]?=some (f9 a r)
 | [],a=>rfl
 | b::r,a=>by
  rw[List.length_cons,List.getElem?_cons_succ]
  exact rS r b
theorem rT {m:Int}:∀ (r:List SP) (a:SP),(∀ q∈a::r,0≤q.2.1∧0≤q.2.2)→(∀ (i:Nat) (x y:SP),(a::r)[i]?=some x→(a::r)[i+1]?=some y→y.1 - x.1 - 1=x.2.2+y.2.1)→
  ∃ N:Nat,f8 m (a::r)=bh m (a.1 - a.2.1) N∧(N:Int)=(f9 a r).1+(f9 a r).2.2+1 - (a.1 - a.2.1)
 | [],a,pos,_=>by
  have h:=pos a (.head _)
  refine⟨(a.2.1+a.2.2+1).toNat,?_,?_⟩
  ·show blk m a.1 a.2++[]=_
   rw[List.append_nil]
   exact kg m a.1 a.2
  ·show _=a.1+a.2.2+1 - (a.1 - a.2.1)
   lia
 | b::r,a,pos,g=>by
  have h:=pos a (.head _)
  obtain⟨N,e1,e2⟩:=rT (m:=m) r b (fun q hq=>pos q (.tail _ hq)) fun i x y hx hy=>g (i+1) x y (by rw[List.getElem?_cons_succ];exact hx) (by rw[List.getElem?_cons_succ];exact hy)
  have g0:=g 0 a b rfl rfl
  refine⟨(a.2.1+a.2.2+1).toNat+N,?_,?_⟩
  ·show blk m a.1 a.2++f8 m (b::r)=_
   rw[e1,kg,← zY]
   congr 2
   lia
  ·show _=(f9 b r).1+(f9 b r).2.2+1 - (a.1 - a.2.1)
   lia
theorem g9 {s:List Int}{ps:List (Int×Int)}{i:Nat}{q:SP} (h:(s.zip ps)[i]?=some q):s[i]?=some q.1∧ps[i]?=some q.2:=by
 rw[List.getElem?_zip_eq_some] at h
 exact h
theorem z9 {m l:Int}{s:List Int}{ps:List (Int×Int)} (R:RingOk m s) (T:Told m s l ps):∃ c,f8 m (s.zip ps)=bh m c m.toNat:=by
 have hm:=R.m0
 have hl:(s.zip ps).length=s.length:=by rw[List.length_zip,T.len];lia
 cases hz:s.zip ps with
 | nil=>
  rw[hz] at hl
  exact absurd (List.length_eq_zero_iff.mp hl.symm) R.ne
 | cons a r=>
  rw[hz,List.length_cons] at hl
  have pos:∀ q∈a::r,0≤q.2.1∧0≤q.2.2:=fun q hq=>by
   rw[← hz] at hq
   exact T.pos _ (List.of_mem_zip hq).2
  have gap:∀ (i:Nat) (x y:SP),(a::r)[i]?=some x→(a::r)[(i+1) % s.length]?=some y→gp m x.1 y.1=x.2.2+y.2.1:=fun i x y hx hy=>by
   rw[← hz] at hx hy
   obtain⟨x1,x2⟩:=g9 hx
   obtain⟨y1,y2⟩:=g9 hy
   have b1:=T.gap i _ _ x2 y2
   have b2:=rj (many:=m) x1 y1
   rw[b1] at b2
   rw[← g8 (R.inn _ (List.mem_of_getElem? x1)) (R.inn _ (List.mem_of_getElem? y1))]
   exact (Option.some.inj b2).symm
  have up:=List.pairwise_iff_getElem.mp R.up
  obtain⟨N,e1,e2⟩:=rT (m:=m) r a pos fun i x y hx hy=>by
   have hi:i+1<s.length:=by
    have:=(List.getElem?_eq_some_iff.mp hy).1
    rw[List.length_cons] at this
    lia
   have g:=gap i x y hx (by rw[Nat.mod_eq_of_lt hi];exact hy)
   rw[← hz] at hx hy
   obtain⟨h1,k1⟩:=List.getElem?_eq_some_iff.mp (g9 hx).1
   obtain⟨h2,k2⟩:=List.getElem?_eq_some_iff.mp (g9 hy).1
   have:=up i (i+1) h1 h2 (Nat.lt_succ_self i)
   rw[k1,k2] at this
   unfold gp at g
   rw[if_pos this] at g
   exact g
  refine⟨a.1 - a.2.1,?_⟩
  rw[e1]
  have hend:=rS r a
  have g:=gap r.length _ a hend (by rw[hl,Nat.mod_self];rfl)
  have hle:a.1≤(f9 a r).1:=by
   have ha:(s.zip ps)[0]?=some a:=by rw[hz];rfl
   rw[← hz] at hend
   obtain⟨h1,k1⟩:=List.getElem?_eq_some_iff.mp (g9 ha).1
   obtain⟨h2,k2⟩:=List.getElem?_eq_some_iff.mp (g9 hend).1
   rw[← k1,← k2]
   rcases Nat.eq_zero_or_pos r.length with h | h
   ·simp only[h]
    exact Int.le_refl _
   ·exact Int.le_of_lt (up 0 r.length h1 h2 h)
  unfold gp at g
  rw[if_neg (by lia)] at g
  congr 1
  lia
theorem mw:∀ r:List Int,bm (r.map .int) (r.map .int)=true
 | []=>by rw[List.map_nil,bm]
 | x::r=>by rw[List.map_cons,bm,aB,mw r];simp
theorem rV:∀ rs:List (List Int),bm (rs.map fun s=>.tup (s.map .int)) (rs.map fun s=>.tup (s.map .int))=true
 | []=>by rw[List.map_nil,bm]
 | x::r=>by rw[List.map_cons,bm,aB,rV r,mw x];rfl
theorem rW (rs:List (List Int)):dG (.tup (rs.map fun s=>.tup (s.map .int)))=true:=by
 simp[dG,isR,isW]
theorem mx {f:Addr}{many t:Int}{s:List Int} (R:RingOk many s) (ht:0≤t) (ht1:t<1000):∃ d:Im,dD [iI many,tI s,iI t]=some (.im d,[iI many,tI s,iI t])∧Ok2 d∧
  (bx many s t=true→d=.non)∧(bx many s t=false→(∃ ds,d=.tup ds)∧fc f [iI many,tI s,iI t,.im d]=some (.im (.bl true),[iI many,tI s,iI t,.im d])):=by
 have hf:=R.few
 have hm:=R.m0
 have hm1:=R.m1
 have hb:=g7 (many:=many) R.ne
 have hbl:(btw many s).length<900:=by rw[d8];lia
 obtain⟨b0,b1⟩:=fu (by lia) (gY hb)
 have f1:=zy (many:=many) (t:=t) (by lia) (by lia) R.ne (by lia) hb hbl b0 (by lia) ht
 have rl:=ka t (btw many s)
 cases hv:bx many s t with
 | true=>
  rw[show (aH t (btw many s)).any (bg t (aj (btw many s)))=true from hv,if_pos rfl] at f1
  exact⟨.non,f1,⟨(fun a e=>by cases e),(fun ds e=>by cases e)⟩,(fun _=>rfl),(fun h=>by cases h)⟩
 | false=>
  rw[show (aH t (btw many s)).any (bg t (aj (btw many s)))=false from hv,if_neg Bool.false_ne_true] at f1
  have hr:∀ r∈aH t (btw many s),r.length≤2000:=fun r hr=>by
   obtain⟨k,_,rfl⟩:=List.mem_map.mp hr
   have:=md t (btw many s).dropLast (k:Int)
   rw[List.length_dropLast,d8] at this
   lia
  have ok:Ok2 (.tup ((aH t (btw many s)).map fun s=>.tup (s.map .int))):=by
   refine⟨(fun a e=>by cases e),fun ds e=>?_⟩
   cases e
   refine⟨by rw[List.length_map];lia,fun x hx=>?_⟩
   obtain⟨r,hr',rfl⟩:=List.mem_map.mp hx
   refine⟨(fun a e=>by cases e),fun ds e=>?_⟩
   cases e
   refine⟨by rw[List.length_map];exact hr r hr',fun y hy=>?_⟩
   obtain⟨z,_,rfl⟩:=List.mem_map.mp hy
   exact fun a e=>by cases e
  refine⟨_,f1,ok,(fun h=>by cases h),fun _=>⟨⟨_,rfl⟩,?_⟩⟩
  have e1:=rJ (f:=f) R ht ok f1 (rG (rW _))
  have e2:(dG (.tup ((aH t (btw many s)).map fun s=>.tup (s.map .int))) && iY (.tup ((aH t (btw many s)).map fun s=>.tup (s.map .int))) (min t (aj (btw many s))+1) && aB (.tup ((aH t (btw many s)).map fun s=>.tup (s.map .int))) (.tup ((aH t (btw many s)).map fun s=>.tup (s.map .int))))=true:=by
   rw[rW,aB,rV,Bool.and_true,Bool.true_and]
   unfold iY
   simp only[List.length_map,decide_eq_true_eq]
   rw[rl]
   lia
  rw[e2] at e1
  exact e1
theorem Aa {f:Addr}{many t:Int}{s:List Int}{th:Im} (R:RingOk many s) (ht:0≤t) (ht1:t<1000) (h:Ok2 th) (hv:bx many s t=true) (hth:∃ ds,th=.tup ds):
  fc f [iI many,tI s,iI t,.im th]=some (.im (.bl false),[iI many,tI s,iI t,.im th]):=by
 obtain⟨d,e,_,h1,_⟩:=mx (f:=f) R ht ht1
 cases h1 hv
 have e1:=rJ (f:=f) R ht h e rfl
 obtain⟨ds,rfl⟩:=hth
 rw[show aB (.tup ds) .non=false by simp[aB],Bool.and_false] at e1
 exact e1
theorem Ab {f:Addr}{hh o4 o6:Option Vl}{many t l:Int}{s:List Int} (R:RingOk many s) (ht:0≤t) (ht1:t<1000) (hl:bx many s t=true↔l≤t):
  ∃ p6,gU f [hh,some (iI many),some (tI s),some (iI l),o4,some (iI t),o6]=some (.nx,[hh,some (iI many),some (tI s),some (iI l),o4,some (iI t),p6]):=by
 obtain⟨d,e1,ok,h1,h2⟩:=mx (f:=f) R ht ht1
 refine⟨some (.im d),?_⟩
 cases hv:bx many s t with
 | true=>
  cases h1 hv
  have hle:l≤t:=hl.mp hv
  simp -implicitDefEqProofs [gU,e1,hle,aB,Im.pl]
 | false=>
  obtain⟨⟨ds,rfl⟩,e2⟩:=h2 hv
  have hle:¬ l≤t:=fun h=>by rw[hl.mpr h] at hv;cases hv
  have hle2:t<l:=by lia
  simp -implicitDefEqProofs [gU,e1,e2,hle,hle2,aB,Im.pl]
theorem rX {f:Addr}{hh o4:Option Vl}{many l:Int}{s:List Int} (R:RingOk many s) (hl:∀ t,0≤t→(bx many s t=true↔l≤t)):∀ (ts:List Int) (o5 o6:Option Vl),(∀ t∈ts,0≤t∧t<1000)→
  ∃ p5 p6,bu (gN 5) (gU f) (ts.map .int) [hh,some (iI many),some (tI s),some (iI l),o4,o5,o6]=some (.nx,[hh,some (iI many),some (tI s),some (iI l),o4,p5,p6])
 | [],o5,o6,_=>⟨o5,o6,rfl⟩
 | t::ts,o5,o6,h=>by
  have ht:=h t (.head _)
  obtain⟨p6,e⟩:=Ab (f:=f) (hh:=hh) (o4:=o4) (o6:=o6) R ht.1 ht.2 (hl t ht.1)
  obtain⟨q5,q6,ih⟩:=rX (f:=f) (hh:=hh) (o4:=o4) R hl ts (some (iI t)) p6 fun x hx=>h x (.tail _ hx)
  refine⟨q5,q6,?_⟩
  rw[List.map_cons,bu]
  dsimp only
  rw[show gN 5 (.im (.int t)) [hh,some (iI many),some (tI s),some (iI l),o4,o5,o6]=some [hh,some (iI many),some (tI s),some (iI l),o4,some (iI t),o6] by first | rfl | simp -implicitDefEqProofs]
  show (gU f _).bind _=_
  rw[e]
  exact ih
theorem Ac {f:Addr}{n:Nat}{h:Vl}{many l:Int}{s:List Int} (R:RingOk many s) (H:b7 (n+1) h) (l0:0≤l) (l1:l<many) (hl:∀ t,0≤t→(bx many s t=true↔l≤t)):
  ∃ q,iT f [h,iI many,tI s,iI l]=some (.im (.bl true),[.lst q,iI many,tI s,iI l])∧b7 n (.lst q):=by
 have hm1:=R.m1
 obtain⟨v,h2,e1,v0,v1,H2⟩:=fZ (m:=9) H (by decide) (by decide)
 obtain⟨q0,rfl⟩:=b8 H
 obtain⟨q,rfl⟩:=b8 H2
 obtain⟨u,hu⟩:∃ u:Int,u=if 1<l then l - 1 else 0:=⟨_,rfl⟩
 have u0:0≤u:=by rw[hu];split<;>lia
 have u1:u<1000:=by rw[hu];split<;>lia
 obtain⟨d,e2,ok,h3,h4⟩:=mx (f:=f) R u0 u1
 have hts:∀ t∈[0,l / 2,u,l,l+1,l+v],0≤t∧t<1000:=by
  intro t ht
  simp only[List.mem_cons,List.not_mem_nil,or_false] at ht
  rcases ht with rfl | rfl | rfl | rfl | rfl | rfl<;>constructor<;>lia
 obtain⟨p5,p6,lp⟩:=rX (f:=f) (hh:=some (.lst q)) (o4:=some .jk) R hl [0,l / 2,u,l,l+1,l+v] none none hts
 refine⟨q,?_,H2⟩
 unfold iT qx
 refine cc [some (.lst q),some (iI many),some (tI s),some (iI l),some (lI [0,l / 2,u,l,l+1,l+v]),p5,some (.im d)] rfl ?_ (by first | rfl | simp -implicitDefEqProofs)
 refine (aE (D1:=[some (.lst q0),some (iI many),some (tI s),some (iI l),some (lI [0,l / 2,u,l,l+1]),none,none]) (by simp -implicitDefEqProofs [hu])).trans
  ((aE (D1:=[some (.lst q),some (iI many),some (tI s),some (iI l),some (lI [0,l / 2,u,l,l+1,l+v]),none,none]) (by simp -implicitDefEqProofs [e1])).trans
  ((aE (gP (o:=some (4,lI [0,l / 2,u,l,l+1,l+v])) (xs:=[0,l / 2,u,l,l+1,l+v].map .int) (D1:=[some (.lst q),some (iI many),some (tI s),some (iI l),some .jk,none,none]) (by simp -implicitDefEqProofs) lp)).trans
  ((aE (D1:=[some (.lst q),some (iI many),some (tI s),some (iI l),some (lI [0,l / 2,u,l,l+1,l+v]),p5,some (.im d)]) (by simp -implicitDefEqProofs [rst,← hu,e2])).trans (eU ?_))))
 by_cases hz:l=0
 ·subst hz
  simp -implicitDefEqProofs [aB,Im.pl]
 ·have e3:u=l - 1:=by
   rw[hu]
   split<;>lia
  have hv:bx many s u=false:=by
   cases hx:bx many s u with
   | false=>rfl
   | true=>have:=(hl u u0).mp hx;lia
  obtain⟨⟨ds,rfl⟩,_⟩:=h4 hv
  have e4:=Aa (f:=f) R l0 (by lia) ok ((hl l l0).mpr (Int.le_refl _)) ⟨ds,rfl⟩
  simp -implicitDefEqProofs [aB,Im.pl,hz,e4]
theorem Ad {x y:List Im} (h:x.length+y.length≤100000):mExtend (.lst x) [.lst y]=some (.im .non,.lst (x++y)):=by
 first | exact if_pos h | simp[h]
theorem Ae {s1 s2:Option Vl}{many x:Int}{p:Int×Int} (hm:0<many) (p0:0≤p.1∧p.1<1000) (p1:0≤p.2∧p.2<1000):
  aO 1 [3,0] (iR2 (aa (oV (dy (cu 4))) (aa (oV (af vAdd (oSl 5) (oV (eC (.int 1))))) aNil))) (gN 0) kYes G.lY [some (iI many),s1,s2,some (iI x),some (iI p.1),some (iI p.2)]=
   some (.lst ((blk many x p).map .int),[some (iI many),s1,s2,some (iI x),some (iI p.1),some (iI p.2)]):=by
 have hn:(p.2+1 - -p.1).toNat=(p.1+p.2+1).toNat:=by lia
 have h:=di (own:=1) (tg:=gN 0) (c:=kYes) (e:=G.lY) (C:=[some (iI x),some (iI many)]) (fun (k:Nat)=>Im.int (-p.1+(k:Int))) (fun (k:Nat)=>Im.int ((x+(-p.1+(k:Int))) % many)) (List.range (p.1+p.2+1).toNat) (fun k hk=>⟨[some (iI (-p.1+(k:Int))),some (iI x),some (iI many)],_,[some (iI (-p.1+(k:Int))),some (iI x),some (iI many)],rfl,rfl,b_ (D1:=[some (iI (-p.1+(k:Int))),some (iI x),some (iI many)]) (D2:=[some (iI (-p.1+(k:Int))),some (iI x),some (iI many)]) (v_ (b_ rfl rfl rfl rfl rfl)) rfl rfl rfl (pX hm),rfl⟩) (by rw[List.length_range];lia)
 have e:(blk many x p).map Im.int=(List.range (p.1+p.2+1).toNat).map fun (k:Nat)=>Im.int ((x+(-p.1+(k:Int))) % many):=by
  rw[blk,List.map_map];rfl
 rw[e]
 refine cp_ (D1:=[some (iI many),s1,s2,some (iI x),some (iI p.1),some (iI p.2)]) (o:=none) ?_ h rfl
 have hs:small (-p.1)∧small (p.2+1):=by unfold small;lia
 simp -implicitDefEqProofs [hs,ba]
 rw[show (p.2+1+p.1).toNat=(p.1+p.2+1).toNat by lia]
theorem Af {s1:Option Vl}{many x:Int}{p:Int×Int}{cs:List Int} (hm:0<many) (p0:0≤p.1∧p.1<1000) (p1:0≤p.2∧p.2<1000) (hc:cs.length≤50000):
  jT [some (iI many),s1,some (lI cs),some (iI x),some (iI p.1),some (iI p.2)]=some (.nx,[some (iI many),s1,some (lI (cs++blk many x p)),some (iI x),some (iI p.1),some (iI p.2)]):=by
 have hl:(blk many x p).length≤5000:=by rw[kg,kh];lia
 refine ex_ (mu_ (D1:=[some (iI many),s1,some (lI cs),some (iI x),some (iI p.1),some (iI p.2)]) rfl rfl (a_ (v_ (Ae hm p0 p1)) rfl) rfl rfl (Ad (by rw[List.length_map,List.length_map];lia)) ?_)
 rw[← List.map_append]
 rfl
theorem rY:∀ (s:List Int) (ps:List (Int×Int)),aY (s.map .int) (ps.map fun p=>.tup [.int p.1,.int p.2])=(s.zip ps).map fun q=>.tup [.int q.1,.tup [.int q.2.1,.int q.2.2]]
 | [],ps=>by cases ps<;>rfl
 | x::s,[]=>rfl
 | x::s,p::ps=>by
  rw[List.map_cons,List.map_cons,aY,rY s ps]
  rfl
theorem rZ {s1:Option Vl}{many:Int} (hm:0<many):∀ (L:List SP) (cs:List Int) (o3 o4 o5:Option Vl),(∀ q∈L,(0≤q.2.1∧q.2.1<1000)∧(0≤q.2.2∧q.2.2<1000))→cs.length+3000 * L.length≤50000→
  ∃ p3 p4 p5,bu (gT 2 (a9 (gN 3) (a9 (gT 2 (a9 (gN 4) (a9 (gN 5) gNil'))) gNil'))) jT (L.map fun q=>.tup [.int q.1,.tup [.int q.2.1,.int q.2.2]]) [some (iI many),s1,some (lI cs),o3,o4,o5]=
   some (.nx,[some (iI many),s1,some (lI (cs++f8 many L)),p3,p4,p5])
 | [],cs,o3,o4,o5,_,_=>⟨o3,o4,o5,by rw[show f8 many []=[] from rfl,List.append_nil];rfl⟩
 | q::L,cs,o3,o4,o5,h,hc=>by
  have hq:=h q (.head _)
  rw[List.length_cons] at hc
  have hb:(blk many q.1 q.2).length≤3000:=by rw[kg,kh];lia
  have e:=Af (s1:=s1) (many:=many) (x:=q.1) (p:=q.2) (cs:=cs) hm hq.1 hq.2 (by lia)
  obtain⟨p3,p4,p5,ih⟩:=rZ (s1:=s1) hm L (cs++blk many q.1 q.2) (some (iI q.1)) (some (iI q.2.1)) (some (iI q.2.2)) (fun x hx=>h x (.tail _ hx)) (by rw[List.length_append];lia)
  refine⟨p3,p4,p5,?_⟩
  rw[List.map_cons,bu]
  dsimp only
  rw[show gT 2 (a9 (gN 3) (a9 (gT 2 (a9 (gN 4) (a9 (gN 5) gNil'))) gNil')) (.im (.tup [.int q.1,.tup [.int q.2.1,.int q.2.2]])) [some (iI many),s1,some (lI cs),o3,o4,o5]=some [some (iI many),s1,some (lI cs),some (iI q.1),some (iI q.2.1),some (iI q.2.2)] by first | rfl | simp -implicitDefEqProofs]
  show (jT _).bind _=_
  rw[e,show f8 many (q::L)=blk many q.1 q.2++f8 many L from rfl,← List.append_assoc]
  exact ih
theorem Ag {many l:Int}{s:List Int}{ps:List (Int×Int)} (R:RingOk many s) (T:Told many s l ps) (l1:l<many) (e1:fb [iI many,tI s]=some (pI ps,[iI many,tI s])):
  iU [iI many,tI s]=some (.im (.bl true),[iI many,tI s]):=by
 have hm:=R.m0
 have hm1:=R.m1
 have hf:=R.few
 have hps:∀ q∈s.zip ps,(0≤q.2.1∧q.2.1<1000)∧(0≤q.2.2∧q.2.2<1000):=fun q hq=>by
  have h1:=(List.of_mem_zip hq).2
  have h2:=T.pos _ h1
  have h3:=T.most _ h1
  have h4:=i3 h2.1 h2.2
  exact⟨⟨h2.1,by lia⟩,⟨h2.2,by lia⟩⟩
 have hzl:(s.zip ps).length≤8:=by rw[List.length_zip];lia
 obtain⟨p3,p4,p5,lp⟩:=rZ (s1:=some (tI s)) (by lia:0<many) (s.zip ps) [] none none none hps (by rw[List.length_nil];lia)
 obtain⟨c,hc⟩:=z9 R T
 rw[hc,List.nil_append] at lp
 have nd:=rR (m:=many) (c:=c) (by lia)
 have ln:(bh many c many.toNat).length≤1000:=by rw[kh];lia
 have e2:vSorted [lI (bh many c many.toNat)]=some (.lst ((List.range many.toNat).map fun (k:Nat)=>Im.int (0+(k:Int)))):=by
  show (ints? ((bh many c many.toNat).map .int)).bind _=_
  rw[jB]
  show (if (bh many c many.toNat).Nodup∧(bh many c many.toNat).length≤1000 then some (Vl.lst (gH ltI ((bh many c many.toNat).map .int))) else none)=_
  rw[if_pos ⟨nd,ln⟩,iD,z0 (by lia),List.map_map]
  rfl
 have hsm:small many:=by unfold small;lia
 unfold iU qy
 refine cc [some (iI many),some (tI s),some (lI (bh many c many.toNat)),p3,p4,p5] rfl ?_ (by first | rfl | simp -implicitDefEqProofs)
 refine (aE (D1:=[some (iI many),some (tI s),some (.lst []),none,none,none]) (by simp -implicitDefEqProofs)).trans
  ((aE (gP (o:=none) (xs:=(s.zip ps).map fun q=>.tup [.int q.1,.tup [.int q.2.1,.int q.2.2]]) (D1:=[some (iI many),some (tI s),some (.lst []),none,none,none]) (by simp -implicitDefEqProofs [e1,rY]) lp)).trans (eU ?_))
 refine b_ (D1:=[some (iI many),some (tI s),some (lI (bh many c many.toNat)),p3,p4,p5]) (D2:=[some (iI many),some (tI s),some (lI (bh many c many.toNat)),p3,p4,p5]) (v_ (cb_ rfl rfl e2)) (v_ (d:=.lst (ba 0 many.toNat)) ?_) rfl rfl ?_
 ·simp -implicitDefEqProofs [hsm]
 ·simp -implicitDefEqProofs [ba]
  refine⟨mk 8 _ (by simp[isW]),?_⟩
  have:=mw ((List.range many.toNat).map fun (k:Nat)=>(k:Int))
  rw[List.map_map] at this
  exact this
theorem Lst.eq {many l l':Int}{s s':List Int} (a:Lst many s l) (b:Lst many s' l') (h:∀ t,aZ t many s↔aZ t many s'):l'=l:=
 Int.le_antisymm (b.low _ ((h l).mp a.cov)) (a.low _ ((h l').mpr b.cov))
theorem Ah (l:List Int):∀ (acc:List Int) (y:Int),y∈l.foldl cb acc↔y∈acc∨y∈l:=by
 induction l with
 | nil=>intro acc y;exact⟨.inl,fun h=>h.elim id fun h=>(List.not_mem_nil h).elim⟩
 | cons n r ih=>
  intro acc y
  rw[List.foldl_cons,ih]
  unfold cb
  split
  ·next hn=>
   have hn:n∈acc:=by simpa using hn
   constructor
   ·rintro (h | h)
    ·exact .inl h
    ·exact .inr (.tail _ h)
   ·rintro (h | h)
    ·exact .inl h
    ·rcases List.mem_cons.mp h with rfl | h
     ·exact .inl hn
     ·exact .inr h
  ·rw[List.mem_append,List.mem_singleton,List.mem_cons,or_assoc]
theorem my {ns:List Int}{y:Int}:y∈bG ns↔y∈ns:=by
 rw[bG,Ah]
 exact⟨fun h=>h.elim (fun h=>(List.not_mem_nil h).elim) id,.inr⟩
theorem mz {many:Int}{s l:List Int} (R:RingOk many s) (nd:l.Nodup) (inn:∀ y∈l,0≤y∧y<many) (hl:l≠[]) (few:l.length≤8):RingOk many (aM l):=
 ⟨R.m0,R.m1,fun e=>hl (by have:=(b6 l).length_eq;rw[e] at this;exact List.length_eq_zero_iff.mp this.symm),iE nd,fun y hy=>inn y ((b6 l).mem_iff.mp hy),by rw[(b6 l).length_eq];exact few⟩
theorem r6 {s:List Int}{g:Int→Int} (up:s.Pairwise (· < ·)) (h:∀ a∈s,∀ b∈s,g a=g b→a=b):(s.map g).Nodup:=by
 unfold List.Nodup
 rw[List.pairwise_map]
 exact List.Pairwise.imp_of_mem (fun {a b} ha hb hab e=>absurd (h a ha b hb e) (Int.ne_of_lt hab)) up
theorem r9 {l:List Int} (nd:l.Nodup) (ln:l.length≤1000):vSorted [lI l]=some (lI (aM l)):=by
 show (ints? (l.map .int)).bind _=_
 rw[jB]
 show (if l.Nodup∧l.length≤1000 then some (Vl.lst (gH ltI (l.map .int))) else none)=_
 rw[if_pos ⟨nd,ln⟩,iD]
theorem Ai {f:Addr}{s1 s2 s3 s5 s7 s8 s9:Option Vl}{many b:Int}{s:List Int} (hm:0<many) (hl:s.length≤8):
  aO 1 [6,3] (bt (oSl 4)) (gN 0) kYes (G.lZ f) [s1,s2,s3,some (iI many),some (tI s),s5,some (iI b),s7,s8,s9]=some (lI (s.map fun x=>(x+b) % many),[s1,s2,s3,some (iI many),some (tI s),s5,some (iI b),s7,s8,s9]):=by
 have h:=di (own:=1) (tg:=gN 0) (c:=kYes) (e:=G.lZ f) (C:=[some (iI b),some (iI many)]) (fun (x:Int)=>Im.int x) (fun (x:Int)=>Im.int ((x+b) % many)) s (fun x hx=>⟨[some (iI x),some (iI b),some (iI many)],_,[some (iI x),some (iI b),some (iI many)],rfl,rfl,b_ (D1:=[some (iI x),some (iI b),some (iI many)]) (D2:=[some (iI x),some (iI b),some (iI many)]) (v_ (b_ rfl rfl rfl rfl rfl)) rfl rfl rfl (pX hm),rfl⟩) (by lia)
 have e:(s.map fun x=>(x+b) % many).map Im.int=s.map fun (x:Int)=>Im.int ((x+b) % many):=by rw[List.map_map];rfl
 show _=some (Vl.lst ((s.map fun x=>(x+b) % many).map Im.int),_)
 rw[e]
 exact cp_ (D1:=[s1,s2,s3,some (iI many),some (tI s),s5,some (iI b),s7,s8,s9]) (o:=none) rfl h rfl
theorem Aj {f:Addr}{s1 s2 s3 s5 s6 s7 s8 s9:Option Vl}{many:Int}{s:List Int} (hl:s.length≤8):
  aO 1 [3] (bt (oSl 4)) (gN 0) kYes (G.l7 f) [s1,s2,s3,some (iI many),some (tI s),s5,s6,s7,s8,s9]=some (lI (s.map fun x=>many - 1 - x),[s1,s2,s3,some (iI many),some (tI s),s5,s6,s7,s8,s9]):=by
 have h:=di (own:=1) (tg:=gN 0) (c:=kYes) (e:=G.l7 f) (C:=[some (iI many)]) (fun (x:Int)=>Im.int x) (fun (x:Int)=>Im.int (many - 1 - x)) s (fun x hx=>⟨[some (iI x),some (iI many)],_,[some (iI x),some (iI many)],rfl,rfl,b_ (D1:=[some (iI x),some (iI many)]) (D2:=[some (iI x),some (iI many)]) (v_ (b_ rfl rfl rfl rfl rfl)) rfl rfl rfl rfl,rfl⟩) (by lia)
 have e:(s.map fun x=>many - 1 - x).map Im.int=s.map fun (x:Int)=>Im.int (many - 1 - x):=by rw[List.map_map];rfl
 show _=some (Vl.lst ((s.map fun x=>many - 1 - x).map Im.int),_)
 rw[e]
 exact cp_ (D1:=[s1,s2,s3,some (iI many),some (tI s),s5,s6,s7,s8,s9]) (o:=none) rfl h rfl
theorem ss_ {D D1:SD}{g:M (List Opd)}{os:List Opd}{l:List Int} (e1:g D=some (os,D1)) (e2:bW D1 os=some [tI l]) (hl:l.length≤1000):jM g D=some (lI (aM (bG l)),D1):=by
 unfold jM
 rw[e1]
 show (bW D1 os).bind _=_
 rw[e2]
 show (ints? (l.map .int)).bind _=_
 rw[jB]
 exact if_pos hl
theorem Ak {x y:List Im} (h:x.length+y.length≤100000):vAdd (.im (.tup x)) (.im (.tup y))=some (.im (.tup (x++y))):=by simp[h]
theorem Al {f:Addr}{ns:List Int}{k:Int}{o2 o3 o4 o5 o6 o7 o8 o9:Option Vl} (hk:0≤k) (hk2:k<1000):∃ p2 p3 p4 p5 p6 p7 p8 p9,jU f [some (.fz (ns.map .int)),some (iI k),o2,o3,o4,o5,o6,o7,o8,o9]=some (.nx,[some (.fz (ns.map .int)),some (iI k),p2,p3,p4,p5,p6,p7,p8,p9]):=by
 obtain⟨h1,e1,H1⟩:=zm (ns:=ns) hk hk2
 obtain⟨many,s,h2,e2,R,H2⟩:=zr H1
 obtain⟨l,ps,e3,e4,T,L,l0,l1,hl⟩:=kf R
 have hm:=R.m0
 have hm1:=R.m1
 have hf:=R.few
 obtain⟨q1,rfl⟩:=b8 H1
 obtain⟨q2,rfl⟩:=b8 H2
 obtain⟨q3,e5,H3⟩:=Ac (f:=f) (n:=799999) R H2 l0 l1 hl
 have e6:=Ag R T l1 e4
 obtain⟨b,h4,e7,b0,b1,H4⟩:=fZ (n:=799998) (m:=many) H3 (by lia) (by lia)
 obtain⟨q4,rfl⟩:=b8 H4
 -- turned
 have nd1:(s.map fun x=>(x+b) % many).Nodup:=r6 R.up fun x hx y hy e=>by
  have:=f7 ⟨b0,b1⟩ (R.inn x hx)
  rw[e,f7 ⟨b0,b1⟩ (R.inn y hy)] at this
  exact this.symm
 have R1:=mz R nd1 (fun y hy=>by obtain⟨x,_,rfl⟩:=List.mem_map.mp hy;exact⟨Int.emod_nonneg _ (by lia),Int.emod_lt_of_pos _ (by lia)⟩) (fun e=>R.ne (List.map_eq_nil_iff.mp e)) (by rw[List.length_map];exact hf)
 obtain⟨l',_,g1,_,_,L1,_⟩:=kf R1
 have el1:l'=l:=L.eq L1 fun t=>aZ.turn ⟨b0,b1⟩ R.inn fun y=>by
  rw[(b6 _).mem_iff,List.mem_map]
  exact⟨fun ⟨x,hx,e⟩=>⟨x,hx,e.symm⟩,fun ⟨x,hx,e⟩=>⟨x,hx,e.symm⟩⟩
 rw[el1] at g1
 -- mirrored
 have nd2:(s.map fun x=>many - 1 - x).Nodup:=r6 R.up fun x hx y hy e=>by lia
 have R2:=mz R nd2 (fun y hy=>by obtain⟨x,hx,rfl⟩:=List.mem_map.mp hy;have:=R.inn x hx;lia) (fun e=>R.ne (List.map_eq_nil_iff.mp e)) (by rw[List.length_map];exact hf)
 obtain⟨l'',_,g2,_,_,L2,_⟩:=kf R2
 have el2:l''=l:=L.eq L2 fun t=>aZ.mirror R.inn fun y=>by
  rw[(b6 _).mem_iff,List.mem_map]
  exact⟨fun ⟨x,hx,e⟩=>⟨x,hx,e.symm⟩,fun ⟨x,hx,e⟩=>⟨x,hx,e.symm⟩⟩
 rw[el2] at g2
 have c1:=Ai (f:=f) (s1:=some (.fz (ns.map .int))) (s2:=some (iI k)) (s3:=some (.lst q4)) (s5:=some (iI l)) (s7:=o7) (s8:=o8) (s9:=o9) (many:=many) (b:=b) (s:=s) (by lia) hf
 have c2:=Aj (f:=f) (s1:=some (.fz (ns.map .int))) (s2:=some (iI k)) (s3:=some (.lst q4)) (s5:=some (iI l)) (s6:=some (iI b)) (s7:=some (tI (aM (s.map fun x=>(x+b) % many)))) (s8:=o8) (s9:=o9) (many:=many) (s:=s) hf
 have v1:=r9 nd1 (by rw[List.length_map];lia)
 have v2:=r9 nd2 (by rw[List.length_map];lia)
 -- one more
 have hml:(aM (bG (s++[b]))).length≤9:=by
  rw[(b6 _).length_eq]
  have:=pN (s++[b])
  rw[List.length_append,List.length_singleton] at this
  lia
 have g3:(aM (bG (s++[b]))).length<9→∃ l3,ck [iI many,tI (aM (bG (s++[b])))]=some (iI l3,[iI many,tI (aM (bG (s++[b])))])∧l3≤l:=fun h=>by
  have R3:=mz R (pQ (s++[b])) (fun y hy=>by
    rcases List.mem_append.mp (my.mp hy) with h | h
    ·exact R.inn y h
    ·rw[List.mem_singleton.mp h];exact⟨b0,b1⟩) (fun e=>by
    have:b∈bG (s++[b]):=my.mpr (by simp)
    rw[e] at this
    exact List.not_mem_nil this) (by rw[(b6 _).length_eq] at h;lia)
  obtain⟨l3,_,g,_,_,L3,_⟩:=kf R3
  refine⟨l3,g,L3.low _ (aZ.more R.ne ⟨b0,b1⟩ R.inn (fun y=>?_) L.cov)⟩
  rw[(b6 _).mem_iff,my,List.mem_append,List.mem_singleton]
 refine⟨some (.lst q4),some (iI many),some (tI s),some (iI l),some (iI b),some (tI (aM (s.map fun x=>(x+b) % many))),some (tI (aM (s.map fun x=>many - 1 - x))),some (tI (aM (bG (s++[b])))),?_⟩
 unfold jU
 refine (aE (D1:=[some (.fz (ns.map .int)),some (iI k),some (.lst q1),o3,o4,o5,o6,o7,o8,o9]) (by simp -implicitDefEqProofs [e1])).trans
  ((aE (D1:=[some (.fz (ns.map .int)),some (iI k),some (.lst q2),some (iI many),some (tI s),o5,o6,o7,o8,o9]) (by simp -implicitDefEqProofs [e2])).trans
  ((aE (D1:=[some (.fz (ns.map .int)),some (iI k),some (.lst q2),some (iI many),some (tI s),some (iI l),o6,o7,o8,o9]) (by simp -implicitDefEqProofs [e3])).trans
  ((aE (D1:=[some (.fz (ns.map .int)),some (iI k),some (.lst q3),some (iI many),some (tI s),some (iI l),o6,o7,o8,o9]) (by simp -implicitDefEqProofs [e5,e6])).trans
  ((aE (D1:=[some (.fz (ns.map .int)),some (iI k),some (.lst q4),some (iI many),some (tI s),some (iI l),some (iI b),o7,o8,o9]) (by simp -implicitDefEqProofs [e7])).trans
  ((aE (D1:=[some (.fz (ns.map .int)),some (iI k),some (.lst q4),some (iI many),some (tI s),some (iI l),some (iI b),some (tI (aM (s.map fun x=>(x+b) % many))),o8,o9]) (lS (cb_ (a_ (v_ (cb_ (a_ (v_ c1) rfl) rfl v1)) rfl) rfl rfl) (show 7<10 by decide) rfl)).trans
  ((aE (D1:=[some (.fz (ns.map .int)),some (iI k),some (.lst q4),some (iI many),some (tI s),some (iI l),some (iI b),some (tI (aM (s.map fun x=>(x+b) % many))),some (tI (aM (s.map fun x=>many - 1 - x))),o9]) (lS (cb_ (a_ (v_ (cb_ (a_ (v_ c2) rfl) rfl v2)) rfl) rfl rfl) (show 8<10 by decide) rfl)).trans
  ((aE (D1:=[some (.fz (ns.map .int)),some (iI k),some (.lst q4),some (iI many),some (tI s),some (iI l),some (iI b),some (tI (aM (s.map fun x=>(x+b) % many))),some (tI (aM (s.map fun x=>many - 1 - x))),o9]) (by simp -implicitDefEqProofs [g1,g2,aB,Im.pl])).trans
  ((aE (D1:=[some (.fz (ns.map .int)),some (iI k),some (.lst q4),some (iI many),some (tI s),some (iI l),some (iI b),some (tI (aM (s.map fun x=>(x+b) % many))),some (tI (aM (s.map fun x=>many - 1 - x))),some (tI (aM (bG (s++[b])))) ]) ?_).trans ?_))))))))
 ·have hadd:vAdd (tI s) (.im (.tup [.int b]))=some (tI (s++[b])):=by
   rw[Ak (by rw[List.length_map,List.length_singleton];lia),show tI (s++[b])=.im (.tup ((s++[b]).map .int)) from rfl,List.map_append]
   rfl
  have ht:jm (aa (oSl 6) aNil) [some (.fz (ns.map .int)),some (iI k),some (.lst q4),some (iI many),some (tI s),some (iI l),some (iI b),some (tI (aM (s.map fun x=>(x+b) % many))),some (tI (aM (s.map fun x=>many - 1 - x))),o9]=some (.im (.tup [.int b]),[some (.fz (ns.map .int)),some (iI k),some (.lst q4),some (iI many),some (tI s),some (iI l),some (iI b),some (tI (aM (s.map fun x=>(x+b) % many))),some (tI (aM (s.map fun x=>many - 1 - x))),o9]):=by simp -implicitDefEqProofs
  exact lS (cb_ (a_ (v_ (ss_ (l:=s++[b]) (a_ (v_ (b_ rfl (v_ ht) rfl rfl hadd)) rfl) rfl (by rw[List.length_append,List.length_singleton];lia))) rfl) rfl rfl) (show 9<10 by decide) rfl
 ·by_cases h9:(aM (bG (s++[b]))).length<9
  ·obtain⟨l3,g,hle⟩:=g3 h9
   have h9':((aM (bG (s++[b]))).length:Int)<9:=by lia
   have hgt:¬ l<l3:=by lia
   simp -implicitDefEqProofs [h9',g,hgt,hle]
  ·have h9':¬ ((aM (bG (s++[b]))).length:Int)<9:=by lia
   simp -implicitDefEqProofs [h9']
theorem Am (f:Addr) (ns:List Int) (hl:ns.length<100000):∃ outs,gW f [.fz (ns.map .int)]=some (.im (.bl true),outs):=by
 obtain⟨n,hn⟩:∃ n:Int,n=max 1 (min 6 (ns.length:Int)):=⟨_,rfl⟩
 have sm:small n:=⟨by lia,by lia⟩
 obtain⟨D',lp,o1,o2,o3,o4,o5,o6,o7,o8,o9,rfl⟩:=pU (tg:=gN 1) (b:=jU f) (xs:=ba 0 n.toNat) (fun i D=>∃ o1 o2 o3 o4 o5 o6 o7 o8 o9,D=[some (.fz (ns.map .int)),o1,o2,o3,o4,o5,o6,o7,o8,o9]) (D:=[some (.fz (ns.map .int)),none,none,none,none,none,none,none,none,none]) ⟨_,_,_,_,_,_,_,_,_,rfl⟩
  (fun i x D hx hI=>by
   obtain⟨o1,o2,o3,o4,o5,o6,o7,o8,o9,rfl⟩:=hI
   obtain⟨hi,rfl⟩:=q8 hx
   obtain⟨p2,p3,p4,p5,p6,p7,p8,p9,e⟩:=Al (f:=f) (ns:=ns) (k:=0+(i:Int)) (o2:=o2) (o3:=o3) (o4:=o4) (o5:=o5) (o6:=o6) (o7:=o7) (o8:=o8) (o9:=o9) (by lia) (by lia)
   exact⟨[some (.fz (ns.map .int)),some (iI (0+(i:Int))),o2,o3,o4,o5,o6,o7,o8,o9],.nx,_,rfl,e,.inl rfl,_,_,_,_,_,_,_,_,_,rfl⟩)
 refine⟨[.fz (ns.map .int)],?_⟩
 unfold gW qz
 refine cc [some (.fz (ns.map .int)),o1,o2,o3,o4,o5,o6,o7,o8,o9] rfl ?_ rfl
 refine (aE (gP (o:=none) (xs:=ba 0 n.toNat) ?_ lp)).trans rfl
 have hn':(if 1<(if (ns.length:Int)<6 then (ns.length:Int) else 6) then (if (ns.length:Int)<6 then (ns.length:Int) else 6) else 1)=n:=by rw[hn];split<;>split<;>lia
 simp -implicitDefEqProofs [sm,hn']
end G
namespace L2
open PySem PySem.Spec PyProof.Rows
noncomputable def i4:List (Addr×Obj)→Bool
 | []=>true
 | (_,o)::r=>(match o.data with
  | .seq _ _=>(match o.cls with | .type n=>n != "list" | _=>true)
  | _=>true) && i4 r
theorem An {K:List (Addr×Obj)}{a:Addr}{o:Obj}{its:Array Value}{n:Nat} (h:i4 K=true) (e:K.lookup a=some o) (hc:o.cls=.type "list") (hd:o.data=.seq its n):False:=by
 induction K with
 | nil=>cases e
 | cons p r ih=>
  obtain⟨b,x⟩:=p
  rw[i4,Bool.and_eq_true] at h
  simp only[List.lookup] at e
  split at e
  ·cases e
   have h1:=h.1
   rw[hd] at h1
   dsimp only at h1
   rw[hc] at h1
   exact absurd h1 (by decide)
  ·exact ih h.2 e
theorem sd {H:Hp}:∀ ns:List Int,ak H (ns.map .int) (ns.map V.int)
 | []=>rfl
 | n::r=>⟨.int n,_,rfl,rfl,sd r⟩
theorem Ao {G:Fn}{K:PySem.W.Frag} (hK:i4 K=true) (H:Hp) (a:Addr) (ns:List Int) (hO:i9 H) (hS:SqL K H a (ns.map V.int)) (ht:∃ outs,G [.fz (ns.map .int)]=some (.im (.bl true),outs)) {E:XK}:spV 1 G [.ref a] H (fun v _=>v=.bl true) E:=by
 obtain⟨outs,ht⟩:=ht
 have hf:∃ o,H a=some (.frz o (.lst (ns.map V.int))):=by
  rcases hS with (h | h) | ⟨o,its,n,h1,h2,h3,h4,_⟩
  ·rcases hO a with e | ⟨o,xs,e⟩
   ·rw[e] at h;cases h
   ·rw[e] at h;cases h
  ·exact h
  ·exact (An hK h1 h2 h4).elim
 obtain⟨o,ho⟩:=hf
 refine⟨rfl,[.fz (ns.map .int)],[],.im (.bl true),outs,⟨_,_,[],[],rfl,⟨a,_,o,rfl,ho,sd ns,rfl⟩,⟨rfl,rfl⟩,rfl⟩,List.nodup_nil,ht,fun v H' R R' h _ _=>?_⟩
 exact h.1
theorem dH {us:List Value}{n:Nat} (h:us.length=n+1):∃ a r,us=a::r∧r.length=n:=by
 cases us with
 | nil=>cases h
 | cons a r=>exact⟨a,r,rfl,Nat.succ.inj h⟩
theorem Fun.binds1 {K:PySem.W.Frag}{x qual:Str}{st:Stmt}{f:Addr}{fd:FuncData}{ps:List Str} (F:Fun K x qual st f fd)
  (h:∀ (kV doc pm:Value) (an:Option Addr) (cdv ct:Value) (a:Value),bindArgs (PySem.W.fnOf x qual (aR st) (aP st) (ao st) .none kV doc pm an cdv ct) ⟨[a],[]⟩=pure (ps.zip [a])) (hp:ps.length=1:=by rfl):az K fd ps []:=
 F.binds fun kV doc pm an cdv ct us hl=>by
  replace hl:=hl.trans hp
  obtain⟨a,u1,rfl,h1⟩:=dH hl
  obtain rfl:=List.eq_nil_of_length_eq_zero h1
  exact h kV doc pm an cdv ct a
theorem Fun.binds2 {K:PySem.W.Frag}{x qual:Str}{st:Stmt}{f:Addr}{fd:FuncData}{ps:List Str} (F:Fun K x qual st f fd)
  (h:∀ (kV doc pm:Value) (an:Option Addr) (cdv ct:Value) (a b:Value),bindArgs (PySem.W.fnOf x qual (aR st) (aP st) (ao st) .none kV doc pm an cdv ct) ⟨[a,b],[]⟩=pure (ps.zip [a,b])) (hp:ps.length=2:=by rfl):az K fd ps []:=
 F.binds fun kV doc pm an cdv ct us hl=>by
  replace hl:=hl.trans hp
  obtain⟨a,u1,rfl,h1⟩:=dH hl
  obtain⟨b,u2,rfl,h2⟩:=dH h1
  obtain rfl:=List.eq_nil_of_length_eq_zero h2
  exact h kV doc pm an cdv ct a b
theorem Fun.binds3 {K:PySem.W.Frag}{x qual:Str}{st:Stmt}{f:Addr}{fd:FuncData}{ps:List Str} (F:Fun K x qual st f fd)
  (h:∀ (kV doc pm:Value) (an:Option Addr) (cdv ct:Value) (a b c:Value),bindArgs (PySem.W.fnOf x qual (aR st) (aP st) (ao st) .none kV doc pm an cdv ct) ⟨[a,b,c],[]⟩=pure (ps.zip [a,b,c])) (hp:ps.length=3:=by rfl):az K fd ps []:=
 F.binds fun kV doc pm an cdv ct us hl=>by
  replace hl:=hl.trans hp
  obtain⟨a,u1,rfl,h1⟩:=dH hl
  obtain⟨b,u2,rfl,h2⟩:=dH h1
  obtain⟨c,u3,rfl,h3⟩:=dH h2
  obtain rfl:=List.eq_nil_of_length_eq_zero h3
  exact h kV doc pm an cdv ct a b c
theorem Fun.binds4 {K:PySem.W.Frag}{x qual:Str}{st:Stmt}{f:Addr}{fd:FuncData}{ps:List Str} (F:Fun K x qual st f fd)
  (h:∀ (kV doc pm:Value) (an:Option Addr) (cdv ct:Value) (a b c d:Value),bindArgs (PySem.W.fnOf x qual (aR st) (aP st) (ao st) .none kV doc pm an cdv ct) ⟨[a,b,c,d],[]⟩=pure (ps.zip [a,b,c,d])) (hp:ps.length=4:=by rfl):az K fd ps []:=
 F.binds fun kV doc pm an cdv ct us hl=>by
  replace hl:=hl.trans hp
  obtain⟨a,u1,rfl,h1⟩:=dH hl
  obtain⟨b,u2,rfl,h2⟩:=dH h1
  obtain⟨c,u3,rfl,h3⟩:=dH h2
  obtain⟨d,u4,rfl,h4⟩:=dH h3
  obtain rfl:=List.eq_nil_of_length_eq_zero h4
  exact h kV doc pm an cdv ct a b c d
end L2
namespace K51
open PySem L2 PyProof.Rows
set_option maxHeartbeats 4000000 in
theorem all_mk {l:PySem.W.OpenLaw}{w:World}{K:PySem.W.Frag}{h:Heap}{mg:Str→Option Value}{fa f_w0 f_w1 f_w2 f_w3 f_w4 f_w5 f_w6 f_w7 f_w8 f_w9 f_w10 f_w11 f_w12 f_w13 f_w14 f_w15 f_w16 f_w17 f_w18 f_w19 f_w20 f_w21 f_law:Addr} (X:K.In h) (Gg:h.Ns mainGlobals mg) (hfa:mg "law" = some (.ref fa))
  {odw0 anw0 odw1 anw1 odw2 anw2 odw3 anw3 odw4 anw4 odw5 anw5 odw6 anw6 odw7 anw7 odw8 anw8 odw9 anw9 odw10 anw10 odw11 anw11 odw12 anw12 odw13 anw13 odw14 anw14 odw15 anw15 odw16 anw16 odw17 anw17 odw18 anw18 odw19 anw19 odw20 anw20 odw21 anw21 odlaw anlaw:Option Addr}{slw0 slw1 slw2 slw3 slw4 slw5 slw6 slw7 slw8 slw9 slw10 slw11 slw12 slw13 slw14 slw15 slw16 slw17 slw18 slw19 slw20 slw21 sllaw:Array (Option Value)}{ocw0 kVw0 dcw0 pmw0 cdw0 ctw0 ocw1 kVw1 dcw1 pmw1 cdw1 ctw1 ocw2 kVw2 dcw2 pmw2 cdw2 ctw2 ocw3 kVw3 dcw3 pmw3 cdw3 ctw3 ocw4 kVw4 dcw4 pmw4 cdw4 ctw4 ocw5 kVw5 dcw5 pmw5 cdw5 ctw5 ocw6 kVw6 dcw6 pmw6 cdw6 ctw6 ocw7 kVw7 dcw7 pmw7 cdw7 ctw7 ocw8 kVw8 dcw8 pmw8 cdw8 ctw8 ocw9 kVw9 dcw9 pmw9 cdw9 ctw9 ocw10 kVw10 dcw10 pmw10 cdw10 ctw10 ocw11 kVw11 dcw11 pmw11 cdw11 ctw11 ocw12 kVw12 dcw12 pmw12 cdw12 ctw12 ocw13 kVw13 dcw13 pmw13 cdw13 ctw13 ocw14 kVw14 dcw14 pmw14 cdw14 ctw14 ocw15 kVw15 dcw15 pmw15 cdw15 ctw15 ocw16 kVw16 dcw16 pmw16 cdw16 ctw16 ocw17 kVw17 dcw17 pmw17 cdw17 ctw17 ocw18 kVw18 dcw18 pmw18 cdw18 ctw18 ocw19 kVw19 dcw19 pmw19 cdw19 ctw19 ocw20 kVw20 dcw20 pmw20 cdw20 ctw20 ocw21 kVw21 dcw21 pmw21 cdw21 ctw21 oclaw kVlaw dclaw pmlaw cdlaw ctlaw:Value}
  (aw0:PySem.W.nsIn K mainGlobals "is_whole" = some (some (.ref f_w0))) (lw0:K.lookup f_w0=some ⟨ocw0,odw0,.func (PySem.W.fnOf "is_whole" "is_whole" (aR cX) (aP cX) (ao cX) .none kVw0 dcw0 pmw0 anw0 cdw0 ctw0),slw0⟩) (cw0:PySem.W.codeIn K cdw0 "is_whole" = true) (kw0:PySem.W.keepIn K (.ref f_w0)=true)
  (aw1:PySem.W.nsIn K mainGlobals "is_rising" = some (some (.ref f_w1))) (lw1:K.lookup f_w1=some ⟨ocw1,odw1,.func (PySem.W.fnOf "is_rising" "is_rising" (aR dY) (aP dY) (ao dY) .none kVw1 dcw1 pmw1 anw1 cdw1 ctw1),slw1⟩) (cw1:PySem.W.codeIn K cdw1 "is_rising" = true) (kw1:PySem.W.keepIn K (.ref f_w1)=true)
  (aw2:PySem.W.nsIn K mainGlobals "between" = some (some (.ref f_w2))) (lw2:K.lookup f_w2=some ⟨ocw2,odw2,.func (PySem.W.fnOf "between" "between" (aR dj) (aP dj) (ao dj) .none kVw2 dcw2 pmw2 anw2 cdw2 ctw2),slw2⟩) (cw2:PySem.W.codeIn K cdw2 "between" = true) (kw2:PySem.W.keepIn K (.ref f_w2)=true)
  (aw3:PySem.W.nsIn K mainGlobals "room" = some (some (.ref f_w3))) (lw3:K.lookup f_w3=some ⟨ocw3,odw3,.func (PySem.W.fnOf "room" "room" (aR ff) (aP ff) (ao ff) .none kVw3 dcw3 pmw3 anw3 cdw3 ctw3),slw3⟩) (cw3:PySem.W.codeIn K cdw3 "room" = true) (kw3:PySem.W.keepIn K (.ref f_w3)=true)
  (aw4:PySem.W.nsIn K mainGlobals "greatest_left" = some (some (.ref f_w4))) (lw4:K.lookup f_w4=some ⟨ocw4,odw4,.func (PySem.W.fnOf "greatest_left" "greatest_left" (aR fg) (aP fg) (ao fg) .none kVw4 dcw4 pmw4 anw4 cdw4 ctw4),slw4⟩) (cw4:PySem.W.codeIn K cdw4 "greatest_left" = true) (kw4:PySem.W.keepIn K (.ref f_w4)=true)
  (aw5:PySem.W.nsIn K mainGlobals "row_from" = some (some (.ref f_w5))) (lw5:K.lookup f_w5=some ⟨ocw5,odw5,.func (PySem.W.fnOf "row_from" "row_from" (aR fQ) (aP fQ) (ao fQ) .none kVw5 dcw5 pmw5 anw5 cdw5 ctw5),slw5⟩) (cw5:PySem.W.codeIn K cdw5 "row_from" = true) (kw5:PySem.W.keepIn K (.ref f_w5)=true)
  (aw6:PySem.W.nsIn K mainGlobals "goes_through" = some (some (.ref f_w6))) (lw6:K.lookup f_w6=some ⟨ocw6,odw6,.func (PySem.W.fnOf "goes_through" "goes_through" (aR fh) (aP fh) (ao fh) .none kVw6 dcw6 pmw6 anw6 cdw6 ctw6),slw6⟩) (cw6:PySem.W.codeIn K cdw6 "goes_through" = true) (kw6:PySem.W.keepIn K (.ref f_w6)=true)
  (aw7:PySem.W.nsIn K mainGlobals "rows_of" = some (some (.ref f_w7))) (lw7:K.lookup f_w7=some ⟨ocw7,odw7,.func (PySem.W.fnOf "rows_of" "rows_of" (aR dZ) (aP dZ) (ao dZ) .none kVw7 dcw7 pmw7 anw7 cdw7 ctw7),slw7⟩) (cw7:PySem.W.codeIn K cdw7 "rows_of" = true) (kw7:PySem.W.keepIn K (.ref f_w7)=true)
  (aw8:PySem.W.nsIn K mainGlobals "rows_through" = some (some (.ref f_w8))) (lw8:K.lookup f_w8=some ⟨ocw8,odw8,.func (PySem.W.fnOf "rows_through" "rows_through" (aR d0) (aP d0) (ao d0) .none kVw8 dcw8 pmw8 anw8 cdw8 ctw8),slw8⟩) (cw8:PySem.W.codeIn K cdw8 "rows_through" = true) (kw8:PySem.W.keepIn K (.ref f_w8)=true)
  (aw9:PySem.W.nsIn K mainGlobals "least_time" = some (some (.ref f_w9))) (lw9:K.lookup f_w9=some ⟨ocw9,odw9,.func (PySem.W.fnOf "least_time" "least_time" (aR fi) (aP fi) (ao fi) .none kVw9 dcw9 pmw9 anw9 cdw9 ctw9),slw9⟩) (cw9:PySem.W.codeIn K cdw9 "least_time" = true) (kw9:PySem.W.keepIn K (.ref f_w9)=true)
  (aw10:PySem.W.nsIn K mainGlobals "shares" = some (some (.ref f_w10))) (lw10:K.lookup f_w10=some ⟨ocw10,odw10,.func (PySem.W.fnOf "shares" "shares" (aR fj) (aP fj) (ao fj) .none kVw10 dcw10 pmw10 anw10 cdw10 ctw10),slw10⟩) (cw10:PySem.W.codeIn K cdw10 "shares" = true) (kw10:PySem.W.keepIn K (.ref f_w10)=true)
  (aw11:PySem.W.nsIn K mainGlobals "too_little" = some (some (.ref f_w11))) (lw11:K.lookup f_w11=some ⟨ocw11,odw11,.func (PySem.W.fnOf "too_little" "too_little" (aR d6) (aP d6) (ao d6) .none kVw11 dcw11 pmw11 anw11 cdw11 ctw11),slw11⟩) (cw11:PySem.W.codeIn K cdw11 "too_little" = true) (kw11:PySem.W.keepIn K (.ref f_w11)=true)
  (aw12:PySem.W.nsIn K mainGlobals "are_spots" = some (some (.ref f_w12))) (lw12:K.lookup f_w12=some ⟨ocw12,odw12,.func (PySem.W.fnOf "are_spots" "are_spots" (aR fR) (aP fR) (ao fR) .none kVw12 dcw12 pmw12 anw12 cdw12 ctw12),slw12⟩) (cw12:PySem.W.codeIn K cdw12 "are_spots" = true) (kw12:PySem.W.keepIn K (.ref f_w12)=true)
  (aw13:PySem.W.nsIn K mainGlobals "is_row_like" = some (some (.ref f_w13))) (lw13:K.lookup f_w13=some ⟨ocw13,odw13,.func (PySem.W.fnOf "is_row_like" "is_row_like" (aR fk) (aP fk) (ao fk) .none kVw13 dcw13 pmw13 anw13 cdw13 ctw13),slw13⟩) (cw13:PySem.W.codeIn K cdw13 "is_row_like" = true) (kw13:PySem.W.keepIn K (.ref f_w13)=true)
  (aw14:PySem.W.nsIn K mainGlobals "are_rows_like" = some (some (.ref f_w14))) (lw14:K.lookup f_w14=some ⟨ocw14,odw14,.func (PySem.W.fnOf "are_rows_like" "are_rows_like" (aR fm) (aP fm) (ao fm) .none kVw14 dcw14 pmw14 anw14 cdw14 ctw14),slw14⟩) (cw14:PySem.W.codeIn K cdw14 "are_rows_like" = true) (kw14:PySem.W.keepIn K (.ref f_w14)=true)
  (aw15:PySem.W.nsIn K mainGlobals "shows_too_little" = some (some (.ref f_w15))) (lw15:K.lookup f_w15=some ⟨ocw15,odw15,.func (PySem.W.fnOf "shows_too_little" "shows_too_little" (aR fU) (aP fU) (ao fU) .none kVw15 dcw15 pmw15 anw15 cdw15 ctw15),slw15⟩) (cw15:PySem.W.codeIn K cdw15 "shows_too_little" = true) (kw15:PySem.W.keepIn K (.ref f_w15)=true)
  (aw16:PySem.W.nsIn K mainGlobals "_law_hand" = some (some (.ref f_w16))) (lw16:K.lookup f_w16=some ⟨ocw16,odw16,.func (PySem.W.fnOf "_law_hand" "_law_hand" (aR fV) (aP fV) (ao fV) .none kVw16 dcw16 pmw16 anw16 cdw16 ctw16),slw16⟩) (cw16:PySem.W.codeIn K cdw16 "_law_hand" = true) (kw16:PySem.W.keepIn K (.ref f_w16)=true)
  (aw17:PySem.W.nsIn K mainGlobals "_law_take" = some (some (.ref f_w17))) (lw17:K.lookup f_w17=some ⟨ocw17,odw17,.func (PySem.W.fnOf "_law_take" "_law_take" (aR dF) (aP dF) (ao dF) .none kVw17 dcw17 pmw17 anw17 cdw17 ctw17),slw17⟩) (cw17:PySem.W.codeIn K cdw17 "_law_take" = true) (kw17:PySem.W.keepIn K (.ref f_w17)=true)
  (aw18:PySem.W.nsIn K mainGlobals "_law_of" = some (some (.ref f_w18))) (lw18:K.lookup f_w18=some ⟨ocw18,odw18,.func (PySem.W.fnOf "_law_of" "_law_of" (aR fW) (aP fW) (ao fW) .none kVw18 dcw18 pmw18 anw18 cdw18 ctw18),slw18⟩) (cw18:PySem.W.codeIn K cdw18 "_law_of" = true) (kw18:PySem.W.keepIn K (.ref f_w18)=true)
  (aw19:PySem.W.nsIn K mainGlobals "_law_ring_of" = some (some (.ref f_w19))) (lw19:K.lookup f_w19=some ⟨ocw19,odw19,.func (PySem.W.fnOf "_law_ring_of" "_law_ring_of" (aR fX) (aP fX) (ao fX) .none kVw19 dcw19 pmw19 anw19 cdw19 ctw19),slw19⟩) (cw19:PySem.W.codeIn K cdw19 "_law_ring_of" = true) (kw19:PySem.W.keepIn K (.ref f_w19)=true)
  (aw20:PySem.W.nsIn K mainGlobals "_law_papers_right" = some (some (.ref f_w20))) (lw20:K.lookup f_w20=some ⟨ocw20,odw20,.func (PySem.W.fnOf "_law_papers_right" "_law_papers_right" (aR fY) (aP fY) (ao fY) .none kVw20 dcw20 pmw20 anw20 cdw20 ctw20),slw20⟩) (cw20:PySem.W.codeIn K cdw20 "_law_papers_right" = true) (kw20:PySem.W.keepIn K (.ref f_w20)=true)
  (aw21:PySem.W.nsIn K mainGlobals "_law_taken" = some (some (.ref f_w21))) (lw21:K.lookup f_w21=some ⟨ocw21,odw21,.func (PySem.W.fnOf "_law_taken" "_law_taken" (aR fo) (aP fo) (ao fo) .none kVw21 dcw21 pmw21 anw21 cdw21 ctw21),slw21⟩) (cw21:PySem.W.codeIn K cdw21 "_law_taken" = true) (kw21:PySem.W.keepIn K (.ref f_w21)=true)
  (alaw:PySem.W.nsIn K mainGlobals "law" = some (some (.ref f_law))) (llaw:K.lookup f_law=some ⟨oclaw,odlaw,.func (PySem.W.fnOf "law" "law" (aR dk) (aP dk) (ao dk) .none kVlaw dclaw pmlaw anlaw cdlaw ctlaw),sllaw⟩) (claw:PySem.W.codeIn K cdlaw "law" = true) (klaw:PySem.W.keepIn K (.ref f_law)=true)
  (z_all:PySem.W.nsIn K mainGlobals "all" = some none) (z_any:PySem.W.nsIn K mainGlobals "any" = some none) (z_bool:PySem.W.nsIn K mainGlobals "bool" = some none) (z_int:PySem.W.nsIn K mainGlobals "int" = some none) (z_isinstance:PySem.W.nsIn K mainGlobals "isinstance" = some none) (z_len:PySem.W.nsIn K mainGlobals "len" = some none) (z_list:PySem.W.nsIn K mainGlobals "list" = some none) (z_max:PySem.W.nsIn K mainGlobals "max" = some none) (z_min:PySem.W.nsIn K mainGlobals "min" = some none) (z_range:PySem.W.nsIn K mainGlobals "range" = some none) (z_set:PySem.W.nsIn K mainGlobals "set" = some none) (z_sorted:PySem.W.nsIn K mainGlobals "sorted" = some none) (z_tuple:PySem.W.nsIn K mainGlobals "tuple" = some none) (z_zip:PySem.W.nsIn K mainGlobals "zip" = some none):
  ∃ fd:FuncData,(∀ (s:Shared) (v:Value),BindsTo s fd ⟨[v],[]⟩ [("_law_script",v)])∧∀ base:Heap,K.In base→base.Ns mainGlobals mg→FnOk l.prog w K mg base CX0 8 fa fd ["_law_script"] (spV 1 (G.gW f_w0)):=by
 have e:=hfa.symm.trans (PySem.W.mg_of X Gg alaw)
 cases e
 have T:Txt mg:=⟨PySem.W.mg_none_of X Gg z_all,PySem.W.mg_none_of X Gg z_any,PySem.W.mg_none_of X Gg z_bool,PySem.W.mg_none_of X Gg z_int,PySem.W.mg_none_of X Gg z_isinstance,PySem.W.mg_none_of X Gg z_len,PySem.W.mg_none_of X Gg z_list,PySem.W.mg_none_of X Gg z_max,PySem.W.mg_none_of X Gg z_min,PySem.W.mg_none_of X Gg z_range,PySem.W.mg_none_of X Gg z_set,PySem.W.mg_none_of X Gg z_sorted,PySem.W.mg_none_of X Gg z_tuple,PySem.W.mg_none_of X Gg z_zip⟩
 have U_w0:=bo (st:=cX) lw0 cw0 kw0
 have U_w1:=bo (st:=dY) lw1 cw1 kw1
 have U_w2:=bo (st:=dj) lw2 cw2 kw2
 have U_w3:=bo (st:=ff) lw3 cw3 kw3
 have U_w4:=bo (st:=fg) lw4 cw4 kw4
 have U_w5:=bo (st:=fQ) lw5 cw5 kw5
 have U_w6:=bo (st:=fh) lw6 cw6 kw6
 have U_w7:=bo (st:=dZ) lw7 cw7 kw7
 have U_w8:=bo (st:=d0) lw8 cw8 kw8
 have U_w9:=bo (st:=fi) lw9 cw9 kw9
 have U_w10:=bo (st:=fj) lw10 cw10 kw10
 have U_w11:=bo (st:=d6) lw11 cw11 kw11
 have U_w12:=bo (st:=fR) lw12 cw12 kw12
 have U_w13:=bo (st:=fk) lw13 cw13 kw13
 have U_w14:=bo (st:=fm) lw14 cw14 kw14
 have U_w15:=bo (st:=fU) lw15 cw15 kw15
 have U_w16:=bo (st:=fV) lw16 cw16 kw16
 have U_w17:=bo (st:=dF) lw17 cw17 kw17
 have U_w18:=bo (st:=fW) lw18 cw18 kw18
 have U_w19:=bo (st:=fX) lw19 cw19 kw19
 have U_w20:=bo (st:=fY) lw20 cw20 kw20
 have U_w21:=bo (st:=fo) lw21 cw21 kw21
 have U_law:=bo (st:=dk) llaw claw klaw
 have b_w0:=U_w0.binds1 (ps:=["thing"]) fun _ _ _ _ _ _ _=>rfl
 have m_w0:=PySem.W.mg_of X Gg aw0
 have b_w1:=U_w1.binds2 (ps:=["thing","is_kind"]) fun _ _ _ _ _ _ _ _=>rfl
 have m_w1:=PySem.W.mg_of X Gg aw1
 have b_w2:=U_w2.binds2 (ps:=["many","spots"]) fun _ _ _ _ _ _ _ _=>rfl
 have m_w2:=PySem.W.mg_of X Gg aw2
 have b_w3:=U_w3.binds2 (ps:=["time","left"]) fun _ _ _ _ _ _ _ _=>rfl
 have m_w3:=PySem.W.mg_of X Gg aw3
 have b_w4:=U_w4.binds2 (ps:=["spaces","time"]) fun _ _ _ _ _ _ _ _=>rfl
 have m_w4:=PySem.W.mg_of X Gg aw4
 have b_w5:=U_w5.binds3 (ps:=["spaces","time","left"]) fun _ _ _ _ _ _ _ _ _=>rfl
 have m_w5:=PySem.W.mg_of X Gg aw5
 have b_w6:=U_w6.binds3 (ps:=["spaces","time","row"]) fun _ _ _ _ _ _ _ _ _=>rfl
 have m_w6:=PySem.W.mg_of X Gg aw6
 have b_w7:=U_w7.binds2 (ps:=["spaces","time"]) fun _ _ _ _ _ _ _ _=>rfl
 have m_w7:=PySem.W.mg_of X Gg aw7
 have b_w8:=U_w8.binds2 (ps:=["spaces","time"]) fun _ _ _ _ _ _ _ _=>rfl
 have m_w8:=PySem.W.mg_of X Gg aw8
 have b_w9:=U_w9.binds2 (ps:=["many","spots"]) fun _ _ _ _ _ _ _ _=>rfl
 have m_w9:=PySem.W.mg_of X Gg aw9
 have b_w10:=U_w10.binds2 (ps:=["many","spots"]) fun _ _ _ _ _ _ _ _=>rfl
 have m_w10:=PySem.W.mg_of X Gg aw10
 have b_w11:=U_w11.binds3 (ps:=["many","spots","time"]) fun _ _ _ _ _ _ _ _ _=>rfl
 have m_w11:=PySem.W.mg_of X Gg aw11
 have b_w12:=U_w12.binds2 (ps:=["many","spots"]) fun _ _ _ _ _ _ _ _=>rfl
 have m_w12:=PySem.W.mg_of X Gg aw12
 have b_w13:=U_w13.binds1 (ps:=["thing"]) fun _ _ _ _ _ _ _=>rfl
 have m_w13:=PySem.W.mg_of X Gg aw13
 have b_w14:=U_w14.binds1 (ps:=["thing"]) fun _ _ _ _ _ _ _=>rfl
 have m_w14:=PySem.W.mg_of X Gg aw14
 have b_w15:=U_w15.binds4 (ps:=["many","spots","time","thing"]) fun _ _ _ _ _ _ _ _ _ _=>rfl
 have m_w15:=PySem.W.mg_of X Gg aw15
 have b_w16:=U_w16.binds2 (ps:=["_law_script","_law_k"]) fun _ _ _ _ _ _ _ _=>rfl
 have m_w16:=PySem.W.mg_of X Gg aw16
 have b_w17:=U_w17.binds2 (ps:=["_law_hand_here","_law_many"]) fun _ _ _ _ _ _ _ _=>rfl
 have m_w17:=PySem.W.mg_of X Gg aw17
 have b_w18:=U_w18.binds2 (ps:=["_law_hand_here","_law_some"]) fun _ _ _ _ _ _ _ _=>rfl
 have m_w18:=PySem.W.mg_of X Gg aw18
 have b_w19:=U_w19.binds1 (ps:=["_law_hand_here"]) fun _ _ _ _ _ _ _=>rfl
 have m_w19:=PySem.W.mg_of X Gg aw19
 have b_w20:=U_w20.binds4 (ps:=["_law_hand_here","_law_many","_law_spots","_law_time"]) fun _ _ _ _ _ _ _ _ _ _=>rfl
 have m_w20:=PySem.W.mg_of X Gg aw20
 have b_w21:=U_w21.binds2 (ps:=["_law_many","_law_spots"]) fun _ _ _ _ _ _ _ _=>rfl
 have m_w21:=PySem.W.mg_of X Gg aw21
 refine⟨PySem.W.fnOf "law" "law" (aR dk) (aP dk) (ao dk) .none kVlaw dclaw pmlaw anlaw cdlaw ctlaw,fun s v=>.of_eq rfl,fun base _ _=>?_⟩
 have G_w0:=yT (P:=l.prog) (w:=w) (base:=base) U_w0 T 
 have G_w1:=yU (P:=l.prog) (w:=w) (base:=base) U_w1 T U_w0 G_w0 b_w0 m_w0
 have G_w2:=yV (P:=l.prog) (w:=w) (base:=base) U_w2 T 
 have G_w3:=yW (P:=l.prog) (w:=w) (base:=base) U_w3 T 
 have G_w4:=yX (P:=l.prog) (w:=w) (base:=base) U_w4 T 
 have G_w5:=yY (P:=l.prog) (w:=w) (base:=base) U_w5 T U_w3 G_w3 b_w3 m_w3
 have G_w6:=yZ (P:=l.prog) (w:=w) (base:=base) U_w6 T U_w3 G_w3 b_w3 m_w3
 have G_w7:=y0 (P:=l.prog) (w:=w) (base:=base) U_w7 T U_w4 G_w4 b_w4 m_w4 U_w5 G_w5 b_w5 m_w5
 have G_w8:=y3 (P:=l.prog) (w:=w) (base:=base) U_w8 T U_w7 G_w7 b_w7 m_w7 U_w6 G_w6 b_w6 m_w6
 have G_w9:=y4 (P:=l.prog) (w:=w) (base:=base) U_w9 T U_w2 G_w2 b_w2 m_w2 U_w8 G_w8 b_w8 m_w8
 have G_w10:=y6 (P:=l.prog) (w:=w) (base:=base) U_w10 T U_w2 G_w2 b_w2 m_w2 U_w8 G_w8 b_w8 m_w8 U_w9 G_w9 b_w9 m_w9
 have G_w11:=y7 (P:=l.prog) (w:=w) (base:=base) U_w11 T U_w2 G_w2 b_w2 m_w2 U_w7 G_w7 b_w7 m_w7 U_w6 G_w6 b_w6 m_w6
 have G_w12:=y8 (P:=l.prog) (w:=w) (base:=base) U_w12 T U_w0 G_w0 b_w0 m_w0 U_w1 G_w1 b_w1 m_w1
 have G_w13:=y9 (P:=l.prog) (w:=w) (base:=base) U_w13 T U_w0 G_w0 b_w0 m_w0
 have G_w14:=zc (P:=l.prog) (w:=w) (base:=base) U_w14 T U_w13 G_w13 b_w13 m_w13
 have G_w15:=zd (P:=l.prog) (w:=w) (base:=base) U_w15 T U_w0 G_w0 b_w0 m_w0 U_w12 G_w12 b_w12 m_w12 U_w14 G_w14 b_w14 m_w14 U_w4 G_w4 b_w4 m_w4 U_w2 G_w2 b_w2 m_w2 U_w11 G_w11 b_w11 m_w11
 have G_w16:=ze (P:=l.prog) (w:=w) (base:=base) U_w16 T 
 have G_w17:=zf (P:=l.prog) (w:=w) (base:=base) U_w17 T 
 have G_w18:=zg (P:=l.prog) (w:=w) (base:=base) U_w18 T U_w17 G_w17 b_w17 m_w17
 have G_w19:=zh (P:=l.prog) (w:=w) (base:=base) U_w19 T U_w17 G_w17 b_w17 m_w17 U_w18 G_w18 b_w18 m_w18
 have G_w20:=zi (P:=l.prog) (w:=w) (base:=base) U_w20 T U_w0 G_w0 b_w0 m_w0 U_w17 G_w17 b_w17 m_w17 U_w11 G_w11 b_w11 m_w11 U_w15 G_w15 b_w15 m_w15
 have G_w21:=zj (P:=l.prog) (w:=w) (base:=base) U_w21 T U_w10 G_w10 b_w10 m_w10
 exact zk U_law T U_w0 G_w0 b_w0 m_w0 U_w16 G_w16 b_w16 m_w16 U_w19 G_w19 b_w19 m_w19 U_w9 G_w9 b_w9 m_w9 U_w20 G_w20 b_w20 m_w20 U_w21 G_w21 b_w21 m_w21 U_w17 G_w17 b_w17 m_w17
theorem walk {f_w0:Addr}{l:PySem.W.OpenLaw}{q:Program}{loose:List Str}{XP:(Str→Option Value)→Heap→Prop}{YP:World→Heap→Prop}{d:DefRec}{K:Params→PySem.W.Frag} (hn:l.most=some 63) (hdf:d.params.defaults=[])
  (hY:∀ (w:World) (h:Heap),YP w h→(K w.params).In h) (hK:∀ p,i4 (K p)=true)
  (F:∀ (w:World) (mg:Str→Option Value) (fa:Addr) (h:Heap),(K w.params).In h→h.Ns mainGlobals mg→mg d.name=some (.ref fa)→
   ∃ fd:FuncData,(∀ (s:Shared) (u:Value),BindsTo s fd ⟨[u],[]⟩ [("_law_script",u)])∧∀ base:Heap,(K w.params).In base→base.Ns mainGlobals mg→FnOk l.prog w (K w.params) mg base CX0 8 fa fd ["_law_script"] (spV 1 (G.gW f_w0))):
  PySem.W.WalkO q loose XP YP l.row.toRowW d [] (fun f vs=>PySem.call f vs):=
 L2.vz (n:=63) (k:=8) (x := "_law_script") (CX:=fun _=>CX0) (sp:=fun w=>spV 1 (G.gW f_w0)) hn (by decide) hdf ⟨rfl,by decide,by decide,rfl⟩ hY F (fun w H a ns hl hO hS=>Ao (hK w.params) H a ns hO hS (G.Am f_w0 ns (Nat.lt_of_le_of_lt hl (by decide)))) fun _ _ _ _ _ z=>z
end K51
noncomputable def PySem.W.Fast.tw2471569496642416459:=0
noncomputable def PySem.W.Fast.tw1813126880877674017:=0
noncomputable def PySem.W.Fast.tw9074233310664624033:=0
noncomputable def PySem.W.Fast.tw10205077328302705858:=0
noncomputable def PySem.W.Fast.tw7199963508057368898:=0
noncomputable def PySem.W.Fast.tw18315639303172450403:=0
noncomputable def PySem.W.Fast.tw14238194653015908580:=0
noncomputable def PySem.W.Fast.tw2364284471547654692:=0
noncomputable def PySem.W.Fast.tw7047989832830309670:=0
noncomputable def PySem.W.Fast.tw1866849435542268262:=0
noncomputable def PySem.W.Fast.tw9837843342775429063:=0
noncomputable def PySem.W.Fast.tw13228028912518334794:=0
noncomputable def PySem.W.Fast.tw15571086017604669772:=0
noncomputable def PySem.W.Fast.tw16254998239377619340:=0
noncomputable def PySem.W.Fast.tw8300346300165162668:=0
noncomputable def PySem.W.Fast.tw3959050406623800718:=0
noncomputable def PySem.W.Fast.tw10902791988177896783:=0
noncomputable def PySem.W.Fast.tw14313070696386550032:=0
noncomputable def PySem.W.Fast.tw12879405678616617139:=0
noncomputable def PySem.W.Fast.tw3111186519721470547:=0
noncomputable def PySem.W.Fast.tw16944915499431989172:=0
noncomputable def PySem.W.Fast.tw13470385589868741973:=0
noncomputable def PySem.W.Fast.tw9222994261173500373:=0
noncomputable def PySem.W.Fast.tw13356008327255459894:=0
noncomputable def PySem.W.Fast.tw9703328719984794902:=0
noncomputable def PySem.W.Fast.tw7007491325938800759:=0
noncomputable def PySem.W.Fast.tw13777493794033813271:=0
noncomputable def PySem.W.Fast.tw17684993514242802392:=0
noncomputable def PySem.W.Fast.tw2720349281076821113:=0
noncomputable def PySem.W.Fast.tw2244010617057128921:=0
noncomputable def PySem.W.Fast.tw13379457271241230105:=0
noncomputable def PySem.W.Fast.tw18174253416050798970:=0
noncomputable def PySem.W.Fast.tw16303648838922254334:=0
noncomputable def PySem.W.Fast.tw2667909296958045535:=0
open PySem PySem.W PyProof.Rows
set_option maxRecDepth 100000 in
set_option maxHeartbeats 0 in
theorem PySem.Challenge.cw_mowfloor_k51_whole_times_shown_holds : PySem.Challenge.rw_mowfloor_k51_whole_times_shown.Holds := by
  w_on; o_law; k_head; (case hw => w_witness2)
  k_fill
  refine' K51.walk (l := PySem.Challenge.rw_mowfloor_k51_whole_times_shown) rfl rfl (fun w h Y => PySem.W.kIn_of Y) ?hK ?F
  case hK => intro p; rfl
  case F =>
    intro w mg fa h KX G hmg
    refine' K51.all_mk KX G hmg ?aw0 ?lw0 ?cw0 ?kw0 ?aw1 ?lw1 ?cw1 ?kw1 ?aw2 ?lw2 ?cw2 ?kw2 ?aw3 ?lw3 ?cw3 ?kw3 ?aw4 ?lw4 ?cw4 ?kw4 ?aw5 ?lw5 ?cw5 ?kw5 ?aw6 ?lw6 ?cw6 ?kw6 ?aw7 ?lw7 ?cw7 ?kw7 ?aw8 ?lw8 ?cw8 ?kw8 ?aw9 ?lw9 ?cw9 ?kw9 ?aw10 ?lw10 ?cw10 ?kw10 ?aw11 ?lw11 ?cw11 ?kw11 ?aw12 ?lw12 ?cw12 ?kw12 ?aw13 ?lw13 ?cw13 ?kw13 ?aw14 ?lw14 ?cw14 ?kw14 ?aw15 ?lw15 ?cw15 ?kw15 ?aw16 ?lw16 ?cw16 ?kw16 ?aw17 ?lw17 ?cw17 ?kw17 ?aw18 ?lw18 ?cw18 ?kw18 ?aw19 ?lw19 ?cw19 ?kw19 ?aw20 ?lw20 ?cw20 ?kw20 ?aw21 ?lw21 ?cw21 ?kw21 ?alaw ?llaw ?claw ?klaw ?z_all ?z_any ?z_bool ?z_int ?z_isinstance ?z_len ?z_list ?z_max ?z_min ?z_range ?z_set ?z_sorted ?z_tuple ?z_zip
    (case aw0 => k_is)
    (case lw0 => k_is)
    (case cw0 => k_is)
    (case kw0 => k_is)
    (case aw1 => k_is)
    (case lw1 => k_is)
    (case cw1 => k_is)
    (case kw1 => k_is)
    (case aw2 => k_is)
    (case lw2 => k_is)
    (case cw2 => k_is)
    (case kw2 => k_is)
    (case aw3 => k_is)
    (case lw3 => k_is)
    (case cw3 => k_is)
    (case kw3 => k_is)
    (case aw4 => k_is)
    (case lw4 => k_is)
    (case cw4 => k_is)
    (case kw4 => k_is)
    (case aw5 => k_is)
    (case lw5 => k_is)
    (case cw5 => k_is)
    (case kw5 => k_is)
    (case aw6 => k_is)
    (case lw6 => k_is)
    (case cw6 => k_is)
    (case kw6 => k_is)
    (case aw7 => k_is)
    (case lw7 => k_is)
    (case cw7 => k_is)
    (case kw7 => k_is)
    (case aw8 => k_is)
    (case lw8 => k_is)
    (case cw8 => k_is)
    (case kw8 => k_is)
    (case aw9 => k_is)
    (case lw9 => k_is)
    (case cw9 => k_is)
    (case kw9 => k_is)
    (case aw10 => k_is)
    (case lw10 => k_is)
    (case cw10 => k_is)
    (case kw10 => k_is)
    (case aw11 => k_is)
    (case lw11 => k_is)
    (case cw11 => k_is)
    (case kw11 => k_is)
    (case aw12 => k_is)
    (case lw12 => k_is)
    (case cw12 => k_is)
    (case kw12 => k_is)
    (case aw13 => k_is)
    (case lw13 => k_is)
    (case cw13 => k_is)
    (case kw13 => k_is)
    (case aw14 => k_is)
    (case lw14 => k_is)
    (case cw14 => k_is)
    (case kw14 => k_is)
    (case aw15 => k_is)
    (case lw15 => k_is)
    (case cw15 => k_is)
    (case kw15 => k_is)
    (case aw16 => k_is)
    (case lw16 => k_is)
    (case cw16 => k_is)
    (case kw16 => k_is)
    (case aw17 => k_is)
    (case lw17 => k_is)
    (case cw17 => k_is)
    (case kw17 => k_is)
    (case aw18 => k_is)
    (case lw18 => k_is)
    (case cw18 => k_is)
    (case kw18 => k_is)
    (case aw19 => k_is)
    (case lw19 => k_is)
    (case cw19 => k_is)
    (case kw19 => k_is)
    (case aw20 => k_is)
    (case lw20 => k_is)
    (case cw20 => k_is)
    (case kw20 => k_is)
    (case aw21 => k_is)
    (case lw21 => k_is)
    (case cw21 => k_is)
    (case kw21 => k_is)
    (case alaw => k_is)
    (case llaw => k_is)
    (case claw => k_is)
    (case klaw => k_is)
    (case z_all => k_is)
    (case z_any => k_is)
    (case z_bool => k_is)
    (case z_int => k_is)
    (case z_isinstance => k_is)
    (case z_len => k_is)
    (case z_list => k_is)
    (case z_max => k_is)
    (case z_min => k_is)
    (case z_range => k_is)
    (case z_set => k_is)
    (case z_sorted => k_is)
    (case z_tuple => k_is)
    (case z_zip => k_is)
